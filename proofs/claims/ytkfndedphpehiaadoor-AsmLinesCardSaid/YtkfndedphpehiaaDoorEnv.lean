/-
  What the library and the instructions read of the world; and what asm.Line answers. Condition: that it is there; of Line: its number is one of 64 bits.
-/
import Derived.Test.YtkfndedphpehiaaDoorBld
import Derived.Test.YtkfndedphpehiaaDoorAsm1
import Derived.Test.YtkfndedphpehiaaDoorCell
import Derived.Deep.RegionHeld3
import Derived.Deep.DrawnRows
import Derived.Lib.AppendIntMem
namespace Go.Proofs.YtkfndedphpehiaaDoor
open Go.RowKit
attribute [local go_sem ↓] Go.wp_at_zero Go.wp_at_succ

/-- The variables that the functions read. -/
structure Env (w : World) : Prop where
  tab : Tab w
  pow : Lib.TabIs Tryd.prog w powName .u64 Lib.pow10Tab
  ml : ∃ m, w.cell? ⟨1, 0, none⟩ = some (.int .i64 m)
  es : ∃ te pe, w.cell? ⟨2, 0, none⟩ = some (.iface te pe)
  er : ∃ te pe, w.cell? ⟨3, 0, none⟩ = some (.iface te pe)
  big : 7 ≤ w.heap.size
/-- A text as a value. -/
def bs (l : List UInt8) : ByteArray := ⟨l.toArray⟩
theorem bs_of (s : ByteArray) : s = bs s.data.toList := rfl
theorem bs_app (a b : List UInt8) : bs a ++ bs b = bs (a ++ b) := by
  unfold bs
  apply ByteArray.ext
  simp [ByteArray.data_append]
theorem bs_size (l : List UInt8) : (bs l).size = l.length := by simp [bs, ByteArray.size]
theorem bs_data (l : List UInt8) : (bs l).data.toList = l := by simp [bs]
theorem bs_inj {a b : List UInt8} (h : bs a = bs b) : a = b := by rw [← bs_data a, h, bs_data]
theorem ret_str {a b : ByteArray} (h : a = b) : Ending.returned (.string a) = .returned (.string b) := by rw [h]
theorem Env.below {w w' : World} (h : Env w) (hb : Below w.heap.size w w') : Env w' := by
  have hz := h.big
  refine ⟨h.tab.below hb, Lib.tabBelow_of_tabIs h.pow w' hb, ?_, ?_, ?_, Nat.le_trans hz hb.size⟩
  · obtain ⟨m, hm⟩ := h.ml; exact ⟨m, (hb.cell (p := ⟨1, 0, none⟩) (show 1 < w.heap.size by omega)).trans hm⟩
  · obtain ⟨a, b, hm⟩ := h.es; exact ⟨a, b, (hb.cell (p := ⟨2, 0, none⟩) (show 2 < w.heap.size by omega)).trans hm⟩
  · obtain ⟨a, b, hm⟩ := h.er; exact ⟨a, b, (hb.cell (p := ⟨3, 0, none⟩) (show 3 < w.heap.size by omega)).trans hm⟩
theorem itoaB (n : Int) (w : World) (hn : Rg n) (he : Env w) : Calls Tryd.prog 29 #[.int .i64 n] w fun e w' => e = .returned (.string (bs (Lib.itoa n))) ∧ Below w.heap.size w w' :=
  (Tryd.itoa_any n hn.1 hn.2 w he.pow).mono fun e w' ⟨h1, k, os, h2⟩ => ⟨h1, by rw [h2]; exact grow_below _ _ _⟩
theorem nameB (op : Int) (w : World) (he : Env w) : Calls Tryd.prog 28 #[.int .i64 op] w fun e w' => e = .returned (.string (bs (nmO op))) ∧ Below w.heap.size w w' := name_any op w he.tab
theorem nm_len : ∀ k : Nat, k < 26 → (nmL.getD k []).length ≤ 5 := by decide
theorem nmO_len (op : Int) : (nmO op).length ≤ 5 := by
  unfold nmO at_
  split
  · exact nm_len _ (by omega)
  · exact nm_len 0 (by omega)
theorem line_no {i : PIns} (h : vl i.op = false) : line i = [] := by unfold line; rw [h]; rfl
theorem line_num {i : PIns} (h : vl i.op = true) (ho : opd i.op ≠ 0) : line i = nmO i.op ++ 32 :: Lib.itoa i.a := by unfold line; rw [if_pos h, if_neg ho]
theorem line_bare {i : PIns} (h : vl i.op = true) (ho : opd i.op = 0) (ha : i.a = 0) : line i = nmO i.op := by unfold line; rw [if_pos h, if_pos ho, if_pos ha]
theorem line_odd {i : PIns} (h : vl i.op = true) (ho : opd i.op = 0) (ha : i.a ≠ 0) : line i = [] := by unfold line; rw [if_pos h, if_pos ho, if_neg ha]

theorem line_b {l a b : List UInt8} (h : l = a ++ 32 :: b) : bs a ++ ⟨#[32]⟩ ++ bs b = bs l := by
  rw [h, show (⟨#[32]⟩ : ByteArray) = bs [32] from rfl, bs_app, bs_app, List.append_assoc]; rfl

set_option maxHeartbeats 2000000 in
theorem line_any (w : World) (i : PIns) (hr : Rg i.a) (he : Env w) :
    Calls Tryd.prog 13 #[.agg #[.int .i64 i.op, .int .i64 i.a]] w fun e w' => e = .returned (.string (bs (line i))) ∧ Below w.heap.size w w' := by
  have HB : ∀ (x : Obj), Below w.heap.size w (w.alloc x) := fun x => bAlloc (bRefl w) x
  have HE : Hid (Env w) := he
  have HR : Hid (Rg i.a) := hr
  clear he hr
  cases hv : vl i.op with
  | false =>
    go_enter Tryd.func13, Tryd.ntmps13
    go_wp2_with (go_at_call 26; refine (valid_any _ _).mono ?_; rintro e w' ⟨rfl, rfl⟩)
    go_ret
    exact ⟨ret_str (by rw [line_no hv]; rfl), HB _⟩
  | true =>
    by_cases ho : opd i.op = 0
    · have ho' := ne_no ho
      have HO : Hid (opd i.op = 0) := ho
      clear ho
      by_cases ha : i.a = 0
      · have ha' := ne_no ha
        have HA : Hid (i.a = 0) := ha
        clear ha
        go_enter Tryd.func13, Tryd.ntmps13
        go_wp2_with (first
          | (go_at_call 26; refine (valid_any _ _).mono ?_; rintro e w' ⟨rfl, rfl⟩)
          | (go_at_call 27; refine (oper_any _ _ (HE.out.tab.below (by exact HB _))).mono ?_; rintro e w1 ⟨rfl, hb1⟩; have hc1 := bcell hb1)
          | (go_at_call 28; refine (nameB _ _ (HE.out.below (by exact bTrans (HB _) hb1))).mono ?_; rintro e w2 ⟨rfl, hb2⟩))
        go_ret
        exact ⟨ret_str (by rw [line_bare hv HO.out HA.out]), bTrans (bTrans (HB _) hb1) hb2⟩
      · have ha' := ne_yes ha
        have HA : Hid (i.a ≠ 0) := ha
        clear ha
        go_enter Tryd.func13, Tryd.ntmps13
        go_wp2_with (first
          | (go_at_call 26; refine (valid_any _ _).mono ?_; rintro e w' ⟨rfl, rfl⟩)
          | (go_at_call 27; refine (oper_any _ _ (HE.out.tab.below (by exact HB _))).mono ?_; rintro e w1 ⟨rfl, hb1⟩; have hc1 := bcell hb1))
        go_ret
        exact ⟨ret_str (by rw [line_odd hv HO.out HA.out]; rfl), bTrans (HB _) hb1⟩
    · have ho' := ne_yes ho
      have HO : Hid (opd i.op ≠ 0) := ho
      clear ho
      go_enter Tryd.func13, Tryd.ntmps13
      go_wp2_with (first
        | (go_at_call 26; refine (valid_any _ _).mono ?_; rintro e w' ⟨rfl, rfl⟩)
        | (go_at_call 27; refine (oper_any _ _ (HE.out.tab.below (by exact HB _))).mono ?_; rintro e w1 ⟨rfl, hb1⟩; have hc1 := bcell hb1))
      have hz1 : w.heap.size < w1.heap.size := by have := hb1.size; simp at this; omega
      have hlow : Below w.heap.size w w1 := bTrans (HB _) hb1
      have he1 : Env w1 := HE.out.below hlow
      have hed : Env w1.drew := he1.below (bRefl w1).drew
      have hbb : Below w1.heap.size w1 w1 := bRefl w1
      have HL1 : Hid (Below w.heap.size w w1) := hlow
      clear hlow
      have z1 : (bs (nmO i.op)).size ≤ 5 := by rw [bs_size]; exact nmO_len _
      have z2 : (bs (Lib.itoa i.a)).size ≤ 21 := by rw [bs_size]; exact Lib.itoa_length_le _ HR.out.1 HR.out.2
      have z3 : ¬ 9223372036854775807 < (bs (nmO i.op)).size + 1 := by omega
      have z4 : ¬ 9223372036854775807 < (bs (nmO i.op)).size + 1 + (bs (Lib.itoa i.a)).size := by omega
      go_region_held3 (fun w' => w'.cell? ⟨w.heap.size, 0, none⟩ = some (.int .i64 i.op) ∧ w'.cell? ⟨w.heap.size, 1, none⟩ = some (.int .i64 i.a)) (go_keep)
        (first
          | (go_at_call 28; refine (nameB _ _ (by first | exact hed | exact he1)).mono ?_; rintro e w2 ⟨rfl, hb2⟩; have hc2 := (by first | exact bcell (undrew hb2) | exact bcell hb2); replace he1 := (by first | exact hed.below hb2 | exact he1.below hb2); replace hbb := (by first | exact bTrans hbb (undrew hb2) | exact bTrans hbb hb2); have hz2 := Nat.lt_of_lt_of_le hz1 hbb.size)
          | (go_at_call 29; refine (itoaB _ _ HR.out (by first | exact hed | exact he1)).mono ?_; rintro e w2 ⟨rfl, hb2⟩; have hc2 := (by first | exact bcell (undrew hb2) | exact bcell hb2); replace he1 := (by first | exact hed.below hb2 | exact he1.below hb2); replace hbb := (by first | exact bTrans hbb (undrew hb2) | exact bTrans hbb hb2); have hz2 := Nat.lt_of_lt_of_le hz1 hbb.size))
      all_goals
        go_wp2_with fail
        go_ret
        exact ⟨ret_str (line_b (line_num hv HO.out)), bTrans HL1.out hbb⟩
end Go.Proofs.YtkfndedphpehiaaDoor
