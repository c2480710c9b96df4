/-
  How names are written: Text, and the reference's TextID. Conditions: numbers of 64 bits; of Text: what it reads is there.
-/
import Derived.Test.YtdgialhigibnlaaDoorI4
import Derived.Test.YtdgialhigibnlaaDoorDec
namespace Go.Proofs.YtdgialhigibnlaaDoor
open Go.RowKit
attribute [local go_sem ↓] Go.wp_at_zero Go.wp_at_succ
theorem cat5 {a b c t : List UInt8} (h : t = a ++ 46 :: (b ++ 46 :: c)) : bs a ++ ⟨#[46]⟩ ++ bs b ++ ⟨#[46]⟩ ++ bs c = bs t := by
  rw [h, show (⟨#[46]⟩ : ByteArray) = bs [46] from rfl, bs_app, bs_app, bs_app, bs_app]
  congr 1
  simp
set_option maxHeartbeats 2000000 in
set_option maxRecDepth 100000 in
theorem text_any (a : PID) (w : World) (hr : RgD a) (he : Env w) : Calls Tryd.prog 15 #[dV a] w fun e w' => e = .returned (.string (bs (tid a))) ∧ Below w.heap.size w w' := by
  obtain ⟨hf, hn, hc⟩ := hr
  have HR1 : Hid (Rg a.f) := hf
  have HR2 : Hid (Rg a.n) := hn
  have HR3 : Hid (Rg a.c) := hc
  have y1 : (bs (Lib.itoa a.f)).size ≤ 21 := by rw [bs_size]; exact Lib.itoa_length_le _ hf.1 hf.2
  have y2 : (bs (Lib.itoa a.n)).size ≤ 21 := by rw [bs_size]; exact Lib.itoa_length_le _ hn.1 hn.2
  have y3 : (bs (Lib.itoa a.c)).size ≤ 21 := by rw [bs_size]; exact Lib.itoa_length_le _ hc.1 hc.2
  have z1 : ¬ 9223372036854775807 < (bs (Lib.itoa a.f)).size + 1 := by omega
  have z2 : ¬ 9223372036854775807 < (bs (Lib.itoa a.f)).size + 1 + (bs (Lib.itoa a.n)).size := by omega
  have z3 : ¬ 9223372036854775807 < (bs (Lib.itoa a.f)).size + 1 + (bs (Lib.itoa a.n)).size + 1 := by omega
  have z4 : ¬ 9223372036854775807 < (bs (Lib.itoa a.f)).size + 1 + (bs (Lib.itoa a.n)).size + 1 + (bs (Lib.itoa a.c)).size := by omega
  clear hf hn hc y1 y2 y3
  go_enter Tryd.func15, Tryd.ntmps15
  go_wp2_with fail
  have hA : (w.alloc (.cells #[.int .i64 a.f, .int .i64 a.n, .int .i64 a.c] 23)).heap[w.heap.size]? = some (.cells #[.int .i64 a.f, .int .i64 a.n, .int .i64 a.c] 23) := heap_new _ _
  have HL : Hid (Below w.heap.size w (w.alloc (.cells #[.int .i64 a.f, .int .i64 a.n, .int .i64 a.c] 23))) := bAlloc (bRefl _) _
  have hs0 : w.heap.size < (w.alloc (.cells #[.int .i64 a.f, .int .i64 a.n, .int .i64 a.c] 23)).heap.size := by simp
  have he1 : Env (w.alloc (.cells #[.int .i64 a.f, .int .i64 a.n, .int .i64 a.c] 23)) := he.below (bAlloc (bRefl _) _)
  generalize (w.alloc (.cells #[.int .i64 a.f, .int .i64 a.n, .int .i64 a.c] 23)) = w1 at hA HL hs0 he1 ⊢
  obtain ⟨p0, p1, p2⟩ := blk3 hA
  have hbb : Below w1.heap.size w1 w1 := bRefl w1
  have hed : Env w1.drew := he1.below (bRefl w1).drew
  clear he
  clear hA
  go_region_held3 (fun w' => w'.cell? ⟨w.heap.size, 0, none⟩ = some (.int .i64 a.f) ∧ w'.cell? ⟨w.heap.size, 1, none⟩ = some (.int .i64 a.n) ∧ w'.cell? ⟨w.heap.size, 2, none⟩ = some (.int .i64 a.c)) (go_keep)
    (first
      | (go_at_call 30; refine (itoaB _ _ (by first | exact HR1.out | exact HR2.out | exact HR3.out) (by first | exact hed | exact he1)).mono ?_; rintro e w2 ⟨rfl, hb2⟩; have hc2 := (by first | exact bcell (undrew hb2) | exact bcell hb2); replace he1 := (by first | exact hed.below hb2 | exact he1.below hb2); replace hbb := (by first | exact bTrans hbb (undrew hb2) | exact bTrans hbb hb2); have hz2 := Nat.lt_of_lt_of_le hs0 hbb.size))
  all_goals
    go_wp2_with fail
    go_ret
    exact ⟨ret_str (cat5 rfl), bTrans HL.out hbb⟩
set_option maxHeartbeats 2000000 in
set_option maxRecDepth 100000 in
theorem rtext_any (a : PID) (w : World) (hr : RgD a) : Calls Tryd.prog 16 #[dV a] w fun e w' => e = .returned (.string (bs (tid a))) ∧ Below w.heap.size w w' := by
  obtain ⟨hf, hn, hc⟩ := hr
  have HR1 : Hid (Rg a.f) := hf
  have HR2 : Hid (Rg a.n) := hn
  have HR3 : Hid (Rg a.c) := hc
  have y1 : (bs (Lib.itoa a.f)).size ≤ 21 := by rw [bs_size]; exact Lib.itoa_length_le _ hf.1 hf.2
  have y2 : (bs (Lib.itoa a.n)).size ≤ 21 := by rw [bs_size]; exact Lib.itoa_length_le _ hn.1 hn.2
  have y3 : (bs (Lib.itoa a.c)).size ≤ 21 := by rw [bs_size]; exact Lib.itoa_length_le _ hc.1 hc.2
  have z1 : ¬ 9223372036854775807 < (bs (Lib.itoa a.f)).size + 1 := by omega
  have z2 : ¬ 9223372036854775807 < (bs (Lib.itoa a.f)).size + 1 + (bs (Lib.itoa a.n)).size := by omega
  have z3 : ¬ 9223372036854775807 < (bs (Lib.itoa a.f)).size + 1 + (bs (Lib.itoa a.n)).size + 1 := by omega
  have z4 : ¬ 9223372036854775807 < (bs (Lib.itoa a.f)).size + 1 + (bs (Lib.itoa a.n)).size + 1 + (bs (Lib.itoa a.c)).size := by omega
  clear hf hn hc y1 y2 y3
  go_enter Tryd.func16, Tryd.ntmps16
  go_wp2_with fail
  have hA : (w.alloc (.cells #[.int .i64 a.f, .int .i64 a.n, .int .i64 a.c] 23)).heap[w.heap.size]? = some (.cells #[.int .i64 a.f, .int .i64 a.n, .int .i64 a.c] 23) := heap_new _ _
  have HL : Hid (Below w.heap.size w (w.alloc (.cells #[.int .i64 a.f, .int .i64 a.n, .int .i64 a.c] 23))) := bAlloc (bRefl _) _
  have hs0 : w.heap.size < (w.alloc (.cells #[.int .i64 a.f, .int .i64 a.n, .int .i64 a.c] 23)).heap.size := by simp
  generalize (w.alloc (.cells #[.int .i64 a.f, .int .i64 a.n, .int .i64 a.c] 23)) = w1 at hA HL hs0 ⊢
  obtain ⟨p0, p1, p2⟩ := blk3 hA
  have hbb : Below w1.heap.size w1 w1 := bRefl w1
  clear hA
  go_region_held3 (fun w' => w'.cell? ⟨w.heap.size, 0, none⟩ = some (.int .i64 a.f) ∧ w'.cell? ⟨w.heap.size, 1, none⟩ = some (.int .i64 a.n) ∧ w'.cell? ⟨w.heap.size, 2, none⟩ = some (.int .i64 a.c)) (go_keep)
    (first
      | (go_at_call 31; refine (decimal_any _ _ (by first | exact HR1.out | exact HR2.out | exact HR3.out)).mono ?_; rintro e w2 ⟨rfl, hb2⟩; have hc2 := (by first | exact bcell (undrew hb2) | exact bcell hb2); replace hbb := (by first | exact bTrans hbb (undrew hb2) | exact bTrans hbb hb2); have hz2 := Nat.lt_of_lt_of_le hs0 hbb.size))
  all_goals
    go_wp2_with fail
    go_ret
    exact ⟨ret_str (cat5 rfl), bTrans HL.out hbb⟩
end Go.Proofs.YtdgialhigibnlaaDoor
