/-
  What asm.Text answers. Conditions: the numbers are of 64 bits; the code is not of a giant's length.
-/
import Derived.Test.YtkfndedphpehiaaDoorRead
namespace Go.Proofs.YtkfndedphpehiaaDoor
open Go.RowKit
attribute [local go_sem ↓] Go.wp_at_zero Go.wp_at_succ

theorem emp_yes {l : List UInt8} (h : l = []) : (bs l).toList.isEmpty = true := by rw [Lib.toList_data, bs_data, h]; rfl
theorem emp_no {l : List UInt8} (h : l ≠ []) : (bs l).toList.isEmpty = false := by
  rw [Lib.toList_data, bs_data]
  cases l with
  | nil => exact absurd rfl h
  | cons a r => rfl
theorem txtO_snoc : ∀ (l : List PIns) (x : PIns) (t : List UInt8), txtO l = some t → line x ≠ [] → txtO (l ++ [x]) = some (t ++ (line x ++ [10]))
  | [], x, t, h, hx => by cases h; show (if line x = [] then none else (some []).map (fun t => line x ++ 10 :: t)) = _; rw [if_neg hx]; rfl
  | i :: r, x, t, h, hx => by
    unfold txtO at h
    show (if line i = [] then none else (txtO (r ++ [x])).map (fun t => line i ++ 10 :: t)) = _
    by_cases e : line i = []
    · rw [if_pos e] at h; cases h
    · rw [if_neg e] at h ⊢
      cases hr : txtO r with
      | none => rw [hr] at h; cases h
      | some u =>
        rw [hr] at h
        cases h
        rw [txtO_snoc r x u hr hx]
        simp
theorem txtO_bad : ∀ (l : List PIns) (k : Nat) (x : PIns), l[k]? = some x → line x = [] → txtO l = none
  | [], k, x, h, _ => by cases h
  | i :: r, 0, x, h, hx => by cases h; unfold txtO; rw [if_pos hx]
  | i :: r, k + 1, x, h, hx => by
    unfold txtO
    rw [txtO_bad r k x (by simpa using h) hx]
    split <;> rfl
theorem take_snoc {α : Type} {l : List α} {k : Nat} {x : α} (h : l[k]? = some x) : l.take (k + 1) = l.take k ++ [x] := by
  rw [List.take_add_one, h]; rfl
theorem line_len {i : PIns} (hr : RgI i) : (line i).length ≤ 27 := by
  have h1 := nmO_len i.op
  have h2 := Lib.itoa_length_le _ hr.2.1 hr.2.2
  unfold line
  split
  · split
    · split
      · omega
      · simp
    · simp; omega
  · simp
theorem builder_new (w : World) : Lib.IsBuilder 49 5 w.heap.size w.heap.size (Lib.byteCells []) (w.alloc (Obj.cells #[Value.pointer none, Value.slice none 0 0] 49)) :=
  Or.inl ⟨Nat.le_refl _, _, heap_new w _, ⟨by simp [Lib.byteCells], Or.inl ⟨rfl, rfl⟩⟩, by simp [Value.ownBlock]⟩
theorem cells_len (t : List UInt8) : (Lib.byteCells t).length = t.length := by simp [Lib.byteCells]
theorem cells_app (a b : List UInt8) : Lib.byteCells (a ++ b) = Lib.byteCells a ++ Lib.byteCells b := by simp [Lib.byteCells]
theorem wsB {B b : Nat} {t : List UInt8} (s : List UInt8) {w : World} (h : Lib.IsBuilder 49 5 B b (Lib.byteCells t) w) (hlen : t.length + s.length ≤ 1000000) (hBw : B ≤ w.heap.size) :
    Calls Tryd.prog 23 #[.pointer (some ⟨b, 0, none⟩), .string (bs s)] w fun e w' => e = .returned (.tuple #[.int .i64 (bs s).size, .nilIface]) ∧ Lib.IsBuilder 49 5 B b (Lib.byteCells (t ++ s)) w' ∧ Below B w w' := by
  refine (writeString_any B b _ (bs s) w h (by rw [cells_len, bs_size]; omega) hBw).mono ?_
  rintro e w' ⟨rfl, h1, h2⟩
  exact ⟨rfl, Or.inr (by rw [cells_app]; exact h1), h2⟩
theorem wbB {B b : Nat} {t : List UInt8} {w : World} (h : Lib.IsBuilder 49 5 B b (Lib.byteCells t) w) (hlen : t.length + 1 ≤ 1000000) (hBw : B ≤ w.heap.size) :
    Calls Tryd.prog 24 #[.pointer (some ⟨b, 0, none⟩), .int .u8 10] w fun e w' => e = .returned .nilIface ∧ Lib.IsBuilder 49 5 B b (Lib.byteCells (t ++ [10])) w' ∧ Below B w w' := by
  refine (writeByte_any B b _ 10 w h (by rw [cells_len]; omega) hBw).mono ?_
  rintro e w' ⟨rfl, h1, h2⟩
  exact ⟨rfl, Or.inr (by rw [cells_app]; exact h1), h2⟩
/-- The builder, as far as the code is written. -/
structure TInv (w wr : World) (c : List PIns) (k : Nat) (t : List UInt8) : Prop where
  tx : txtO (c.take k) = some t
  len : t.length ≤ 28 * k
  bld : Lib.IsBuilder 49 5 w.heap.size w.heap.size (Lib.byteCells t) wr
  low : Below w.heap.size w wr

set_option maxHeartbeats 2000000 in
theorem text_any (ok : Nat → Prop) (w : World) (v : Value) (c : List PIns) (hl : c.length ≤ 10000) (hr : ∀ i ∈ c, RgI i) (h1 : Code ok w v c) (he : Env w) :
    Calls Tryd.prog 10 #[v] w fun e w' => e = .returned (.string (bs (txt c))) ∧ Below w.heap.size w w' := by
  obtain ⟨A1, c1, rfl, hl1⟩ := h1.form
  have HB : ∀ (x : Obj), Below w.heap.size w (w.alloc x) := fun x => bAlloc (bRefl w) x
  have HE : Hid (Env w) := he
  have HR : Hid (∀ i ∈ c, RgI i) := hr
  clear he hr
  go_enter Tryd.func10, Tryd.ntmps10
  go_wp2
  go_loopg [9] c.length (fun g i9 wr => ∃ k t, g = c.length - k ∧ k ≤ c.length ∧ i9 = .int .i64 (k : Nat) ∧ Hid (TInv w wr c k t))
  case atStart => exact ⟨0, [], rfl, by omega, rfl, ⟨rfl, by simp, builder_new w, HB _⟩⟩
  case round =>
    obtain ⟨k, t, rfl, hk, rfl, hI⟩ := hrel
    by_cases hlt : k < c.length
    · obtain ⟨b1, o1, x, rfl, hx, q1, q2⟩ := h1.cell hI.out.low hlt
      have HX : Hid (c[k]? = some x) := hx
      have hxr : Hid (RgI x) := HR.out x (List.mem_of_getElem? hx)
      clear hx
      by_cases hL : line x = []
      · have h3 := emp_yes hL
        have HN : Hid (line x = []) := hL
        clear hL
        go_wp2_with (go_at_call 13; refine (line_any _ x hxr.out.2 (HE.out.below (by exact bAlloc hI.out.low _))).mono ?_; rintro e w2 ⟨rfl, hb2⟩)
        go_ret
        exact ⟨ret_str (by unfold txt; rw [txtO_bad c k x HX.out HN.out]; rfl), bTrans (bAlloc hI.out.low _) hb2⟩
      · have h3 := emp_no hL
        have HN : Hid (line x ≠ []) := hL
        clear hL
        have hn1 : t.length ≤ 280000 := by have := hI.out.len; omega
        have hn2 := line_len hxr.out
        go_wp2_with (first
          | (go_at_call 13; refine (line_any _ x hxr.out.2 (HE.out.below (by exact bAlloc hI.out.low _))).mono ?_; rintro e w2 ⟨rfl, hb2⟩; have hB2 := bTrans (bAlloc hI.out.low _) hb2; have hi2 := builder_below (builder_below hI.out.bld (bAlloc (bRefl wr) _)) hb2)
          | (go_at_call 23; refine (wsB _ hi2 (by omega) hB2.size).mono ?_; rintro e w3 ⟨rfl, hi3, hb3⟩; have hB3 := hB2.trans hb3)
          | (go_at_call 24; refine (wbB hi3 (by rw [List.length_append]; omega) hB3.size).mono ?_; rintro e w4 ⟨rfl, hi4, hb4⟩))
        go_roundg (c.length - (k + 1))
        case measure => omega
        case rel => exact ⟨k + 1, _, rfl, by omega, by go_num, ⟨by rw [take_snoc HX.out]; exact txtO_snoc _ _ _ hI.out.tx HN.out, by have := hI.out.len; rw [List.length_append, List.length_append, List.length_singleton]; omega, by rw [← List.append_assoc]; exact hi4, hB3.trans hb4⟩⟩
    · have he : c.take k = c := List.take_of_length_le (by omega)
      have HT : Hid (txtO c = some t) := by have := hI.out.tx; rw [he] at this; exact this
      clear he
      go_wp2_with (go_at_call 25; refine (Tryd.Builder_String_any _ _ _ _ hI.out.bld hI.out.low.size).mono ?_; rintro e w2 ⟨rfl, hb2⟩)
      go_ret
      exact ⟨ret_str (by unfold txt; rw [HT.out]; rfl), hI.out.low.trans hb2⟩
end Go.Proofs.YtkfndedphpehiaaDoor
