/-
  The document's own lines: Line, TextCode. Conditions: numbers of 64 bits.
-/
import Derived.Test.YtkfndedphpehiaaDoorInt
import Derived.Test.YtkfndedphpehiaaDoorROps
namespace Go.Proofs.YtkfndedphpehiaaDoor
open Go.RowKit
attribute [local go_sem ↓] Go.wp_at_zero Go.wp_at_succ

theorem rnameB (op : Int) (w : World) : Calls Tryd.prog 16 #[.int .i64 op] w fun e w' => e = .returned (.string (bs (nmO op))) ∧ Below w.heap.size w w' := by
  cases h : vl op with
  | true =>
    obtain ⟨h1, h2⟩ := vl_iff.1 h
    obtain ⟨k, rfl⟩ : ∃ k : Nat, op = (k : Int) := ⟨op.toNat, by omega⟩
    refine (rname_yes k w (by omega) (by omega)).mono ?_
    rintro e w' ⟨rfl, hb⟩
    exact ⟨ret_str (by unfold nmO; rw [at_yes h1 h2]; rfl), hb⟩
  | false =>
    have h0 : op < 1 ∨ 25 < op := by
      by_cases e : 1 ≤ op ∧ op ≤ 25
      · rw [vl_iff.2 e] at h; cases h
      · omega
    refine (rname_no op w h0).mono ?_
    rintro e w' ⟨rfl, hb⟩
    exact ⟨ret_str (by unfold nmO; rw [show at_ op = 0 by unfold at_; rw [if_neg (by omega)]]; rfl), hb⟩

theorem eq_yes0 {a : Int} (h : a = 0) : (a == 0) = true := by simp [h]
theorem eq_no0 {a : Int} (h : a ≠ 0) : (a == 0) = false := by simp [h]
set_option maxHeartbeats 2000000 in
theorem rline_any (w : World) (i : PIns) (hr : Rg i.a) :
    Calls Tryd.prog 14 #[.agg #[.int .i64 i.op, .int .i64 i.a]] w fun e w' => e = .returned (.string (bs (line i))) ∧ Below w.heap.size w w' := by
  have HB : ∀ (x : Obj), Below w.heap.size w (w.alloc x) := fun x => bAlloc (bRefl w) x
  have HR : Hid (Rg i.a) := hr
  clear hr
  cases hv : vl i.op with
  | false =>
    go_enter Tryd.func14, Tryd.ntmps14
    go_wp2_with (go_at_call 30; refine (rvalid_any _ _).mono ?_; rintro e w' ⟨rfl, rfl⟩)
    go_ret
    exact ⟨ret_str (by rw [line_no hv]; rfl), HB _⟩
  | true =>
    by_cases ho : opd i.op = 0
    · have ho' := eq_yes0 ho
      have HO : Hid (opd i.op = 0) := ho
      clear ho
      by_cases ha : i.a = 0
      · have ha' := ne_no ha
        have HA : Hid (i.a = 0) := ha
        clear ha
        go_enter Tryd.func14, Tryd.ntmps14
        go_wp2_with (first
          | (go_at_call 30; refine (rvalid_any _ _).mono ?_; rintro e w' ⟨rfl, rfl⟩)
          | (go_at_call 18; refine (roper_any _ _).mono ?_; rintro e w' ⟨rfl, rfl⟩)
          | (go_at_call 16; refine (rnameB _ _).mono ?_; rintro e w2 ⟨rfl, hb2⟩))
        go_ret
        exact ⟨ret_str (by rw [line_bare hv HO.out HA.out]), bTrans (HB _) hb2⟩
      · have ha' := ne_yes ha
        have HA : Hid (i.a ≠ 0) := ha
        clear ha
        go_enter Tryd.func14, Tryd.ntmps14
        go_wp2_with (first
          | (go_at_call 30; refine (rvalid_any _ _).mono ?_; rintro e w' ⟨rfl, rfl⟩)
          | (go_at_call 18; refine (roper_any _ _).mono ?_; rintro e w' ⟨rfl, rfl⟩))
        go_ret
        exact ⟨ret_str (by rw [line_odd hv HO.out HA.out]; rfl), HB _⟩
    · have ho' := eq_no0 ho
      have HO : Hid (opd i.op ≠ 0) := ho
      clear ho
      go_enter Tryd.func14, Tryd.ntmps14
      go_wp2_with (first
        | (go_at_call 30; refine (rvalid_any _ _).mono ?_; rintro e w' ⟨rfl, rfl⟩)
        | (go_at_call 18; refine (roper_any _ _).mono ?_; rintro e w' ⟨rfl, rfl⟩))
      have q0 : (w.alloc (.cells #[.int .i64 i.op, .int .i64 i.a] 24)).cell? ⟨w.heap.size, 0, none⟩ = some (.int .i64 i.op) := (blk_facts (heap_new w _)).1
      have q1 : (w.alloc (.cells #[.int .i64 i.op, .int .i64 i.a] 24)).cell? ⟨w.heap.size, 1, none⟩ = some (.int .i64 i.a) := (blk_facts (heap_new w _)).2.1
      have hlow := HB (.cells #[.int .i64 i.op, .int .i64 i.a] 24)
      have hz1 : w.heap.size < (w.alloc (.cells #[.int .i64 i.op, .int .i64 i.a] 24)).heap.size := by simp
      generalize w.alloc (.cells #[.int .i64 i.op, .int .i64 i.a] 24) = w1 at q0 q1 hlow hz1 ⊢
      have hbb : Below w1.heap.size w1 w1 := bRefl w1
      have HL1 : Hid (Below w.heap.size w w1) := hlow
      clear hlow
      have z1 : (bs (nmO i.op)).size ≤ 5 := by rw [bs_size]; exact nmO_len _
      have z2 : (bs (Lib.itoa i.a)).size ≤ 21 := by rw [bs_size]; exact Lib.itoa_length_le _ HR.out.1 HR.out.2
      have z3 : ¬ 9223372036854775807 < (bs (nmO i.op)).size + 1 := by omega
      have z4 : ¬ 9223372036854775807 < (bs (nmO i.op)).size + 1 + (bs (Lib.itoa i.a)).size := by omega
      go_region_held3 (fun w' => w'.cell? ⟨w.heap.size, 0, none⟩ = some (.int .i64 i.op) ∧ w'.cell? ⟨w.heap.size, 1, none⟩ = some (.int .i64 i.a)) (go_keep)
        (first
          | (go_at_call 16; refine (rnameB _ _).mono ?_; rintro e w2 ⟨rfl, hb2⟩; have hc2 := (by first | exact bcell (undrew hb2) | exact bcell hb2); replace hbb := (by first | exact bTrans hbb (undrew hb2) | exact bTrans hbb hb2); have hz2 := Nat.lt_of_lt_of_le hz1 hbb.size)
          | (go_at_call 17; refine (decimal_any _ _ HR.out).mono ?_; rintro e w2 ⟨rfl, hb2⟩; have hc2 := (by first | exact bcell (undrew hb2) | exact bcell hb2); replace hbb := (by first | exact bTrans hbb (undrew hb2) | exact bTrans hbb hb2); have hz2 := Nat.lt_of_lt_of_le hz1 hbb.size))
      all_goals
        go_wp2_with fail
        go_ret
        exact ⟨ret_str (line_b (line_num hv HO.out)), bTrans HL1.out hbb⟩

/-- The text, as far as it is written. -/
structure RT (w wr : World) (c : List PIns) (k : Nat) (t : List UInt8) : Prop where
  tx : txtO (c.take k) = some t
  len : t.length ≤ 28 * k
  low : Below w.heap.size w wr
theorem cat_nl (t l : List UInt8) : bs t ++ bs l ++ ⟨#[10]⟩ = bs (t ++ (l ++ [10])) := by
  rw [show (⟨#[10]⟩ : ByteArray) = bs [10] from rfl, bs_app, bs_app, List.append_assoc]
set_option maxHeartbeats 2000000 in
theorem rtext_any (ok : Nat → Prop) (w : World) (v : Value) (c : List PIns) (hl : c.length ≤ 10000) (hr : ∀ i ∈ c, RgI i) (h1 : Code ok w v c) :
    Calls Tryd.prog 11 #[v] w fun e w' => e = .returned (.string (bs (txt c))) ∧ Below w.heap.size w w' := by
  obtain ⟨A1, c1, rfl, hl1⟩ := h1.form
  have HR : Hid (∀ i ∈ c, RgI i) := hr
  clear hr
  go_enter Tryd.func11, Tryd.ntmps11
  go_wp2
  go_loopg [3, 4] c.length (fun g i3 i4 wr => ∃ (k : Nat) (t : List UInt8), g = c.length - k ∧ k ≤ c.length ∧ i3 = .string (bs t) ∧ i4 = .int .i64 (k : Nat) ∧ Hid (RT w wr c k t))
  case atStart => exact ⟨0, [], rfl, by omega, rfl, rfl, ⟨rfl, by simp, bRefl w⟩⟩
  case round =>
    obtain ⟨k, t, rfl, hk, rfl, rfl, hI⟩ := hrel
    by_cases hlt : k < c.length
    · obtain ⟨b1, o1, x, rfl, hx, q1, q2⟩ := h1.cell hI.out.low hlt
      have HX : Hid (c[k]? = some x) := hx
      have hxr : Hid (RgI x) := HR.out x (List.mem_of_getElem? hx)
      clear hx
      by_cases hL : line x = []
      · have h3 := emp_yes hL
        have HN : Hid (line x = []) := hL
        clear hL
        go_wp2_with (go_at_call 14; refine (rline_any _ x hxr.out.2).mono ?_; rintro e w2 ⟨rfl, hb2⟩)
        go_ret
        exact ⟨ret_str (by unfold txt; rw [txtO_bad c k x HX.out HN.out]; rfl), bTrans hI.out.low hb2⟩
      · have h3 := emp_no hL
        have HN : Hid (line x ≠ []) := hL
        clear hL
        have hn1 : (bs t).size ≤ 280000 := by rw [bs_size]; have := hI.out.len; omega
        have hn2 : (bs (line x)).size ≤ 27 := by rw [bs_size]; exact line_len hxr.out
        have z1 : ¬ 9223372036854775807 < (bs t).size + (bs (line x)).size := by omega
        have z2 : ¬ 9223372036854775807 < (bs t).size + (bs (line x)).size + 1 := by omega
        go_wp2_with (go_at_call 14; refine (rline_any _ x hxr.out.2).mono ?_; rintro e w2 ⟨rfl, hb2⟩)
        go_roundg (c.length - (k + 1))
        case measure => omega
        case rel => exact ⟨k + 1, _, rfl, by omega, by rw [cat_nl], by go_num, ⟨by rw [take_snoc HX.out]; exact txtO_snoc _ _ _ hI.out.tx HN.out, by have := hI.out.len; have := line_len hxr.out; rw [List.length_append, List.length_append, List.length_singleton]; omega, bTrans hI.out.low hb2⟩⟩
    · have he : c.take k = c := List.take_of_length_le (by omega)
      have HT : Hid (txtO c = some t) := by have := hI.out.tx; rw [he] at this; exact this
      clear he
      go_wp2
      go_ret
      exact ⟨ret_str (by unfold txt; rw [HT.out]; rfl), hI.out.low⟩
end Go.Proofs.YtkfndedphpehiaaDoor
