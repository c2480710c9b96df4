/-
  What Same and Size answer of programs. No further conditions (Size: of programs that are looked at).
-/
import Derived.Test.YtlpeiiejkpkpjaaDoorSame
namespace Go.Proofs.YtlpeiiejkpkpjaaDoor
open Go.RowKit

set_option maxHeartbeats 400000 in
theorem same_any (w : World) (v1 v2 : Value) (n m : PPrg) (h1 : PrgV w v1 n) (h2 : PrgV w v2 m) :
    Calls Tryd.prog 13 #[v1, v2] w fun e w' => e = .returned (.bool (eqB n m)) ∧ Below w.heap.size w w' := by
  obtain ⟨c1, c2, c3, rfl, h1, h1', h1''⟩ := h1
  obtain ⟨d1, d2, d3, rfl, h2, h2', h2''⟩ := h2
  have HE : Hid (eqB n m = (decide (n.fuel = m.fuel) && eqB n.hs m.hs && eqB n.acs m.acs && eqB n.bs m.bs)) := eqB_prg _ _
  have HB : ∀ (x y : Obj), Below w.heap.size w ((w.alloc x).alloc y) := fun x y => bAlloc (bAlloc (bRefl w) x) y
  by_cases e0 : n.fuel = m.fuel
  · have e0' : (n.fuel == m.fuel) = true := by simp [e0]
    have HF : Hid (n.fuel = m.fuel) := e0
    clear e0
    cases e1 : eqB n.hs m.hs with
    | false =>
      go_enter Tryd.func13, Tryd.ntmps13
      go_wp2_with (go_at_call 27; refine (equalH _ _ _ _ _ (h1.below (by exact HB _ _)) (h2.below (by exact HB _ _))).mono ?_; rintro e w1 ⟨rfl, hb1⟩)
      go_ret
      exact ⟨ret_b (by rw [HE.out]; simp [e1]), bTrans (HB _ _) hb1⟩
    | true =>
      cases e2 : eqB n.acs m.acs with
      | false =>
        go_enter Tryd.func13, Tryd.ntmps13
        go_wp2_with (first
          | (go_at_call 27; refine (equalH _ _ _ _ _ (h1.below (by exact HB _ _)) (h2.below (by exact HB _ _))).mono ?_; rintro e w1 ⟨rfl, hb1⟩; have hc1 := bcell hb1)
          | (go_at_call 29; refine (equalA _ _ _ _ _ (h1'.below (by exact bTrans (HB _ _) hb1)) (h2'.below (by exact bTrans (HB _ _) hb1))).mono ?_; rintro e w2 ⟨rfl, hb2⟩))
        go_ret
        exact ⟨ret_b (by rw [HE.out]; simp [e2]), bTrans (bTrans (HB _ _) hb1) hb2⟩
      | true =>
        go_enter Tryd.func13, Tryd.ntmps13
        go_wp2_with (first
          | (go_at_call 27; refine (equalH _ _ _ _ _ (h1.below (by exact HB _ _)) (h2.below (by exact HB _ _))).mono ?_; rintro e w1 ⟨rfl, hb1⟩; have hc1 := bcell hb1)
          | (go_at_call 29; refine (equalA _ _ _ _ _ (h1'.below (by exact bTrans (HB _ _) hb1)) (h2'.below (by exact bTrans (HB _ _) hb1))).mono ?_; rintro e w2 ⟨rfl, hb2⟩; have hc2 := bcell hb2; have hz : w.heap.size < w1.heap.size := (by have := hb1.size; simp at this; omega); have hz' : w.heap.size + 1 < w1.heap.size := (by have := hb1.size; simp at this; omega))
          | (go_at_call 31; refine (equalN _ _ _ _ _ (h1''.below (by exact bTrans (bTrans (HB _ _) hb1) hb2)) (h2''.below (by exact bTrans (bTrans (HB _ _) hb1) hb2))).mono ?_; rintro e w3 ⟨rfl, hb3⟩))
        go_ret
        exact ⟨ret_b (by rw [HE.out]; simp [e1, e2, HF.out]), bTrans (bTrans (bTrans (HB _ _) hb1) hb2) hb3⟩
  · have e0' : (n.fuel == m.fuel) = false := by simp [e0]
    go_enter Tryd.func13, Tryd.ntmps13
    go_wp2
    go_ret
    exact ⟨ret_b (by rw [HE.out]; simp [e0]), HB _ _⟩

set_option maxHeartbeats 400000 in
theorem size_any (w : World) (v : Value) (n : PPrg) (h : PrgV w v n) (hs : ∀ x ∈ n.hs, x.code.length ≤ 70) (hl : n.hs.length ≤ 18) :
    Calls Tryd.prog 15 #[v] w fun e w' => e = .returned (.int .i64 (sizes n.hs)) ∧ Below w.heap.size w w' := by
  obtain ⟨c1, c2, c3, rfl, h1, h1', h1''⟩ := h
  obtain ⟨A1, c, rfl, hl1⟩ := h1.form
  go_enter Tryd.func15, Tryd.ntmps15
  go_wp2
  go_loopg [3, 5, 9] n.hs.length (fun g i3 i5 i9 wr => ∃ k : Nat, g = n.hs.length - k ∧ k ≤ n.hs.length ∧ i9 = .int .i64 k ∧ i3 = .int .i64 (sizes (n.hs.take k)) ∧ Below w.heap.size w wr)
  case atStart => exact ⟨0, rfl, by omega, rfl, rfl, by exact bAlloc (bRefl w) _⟩
  case round =>
    obtain ⟨k, rfl, hk, rfl, rfl, hb⟩ := hrel
    by_cases hlt : k < n.hs.length
    · obtain ⟨b1, o1, x, v1, rfl, hx, hz1, q1, q2, hv1⟩ := h1.cell hb hlt
      obtain ⟨A2, c', rfl, hl2⟩ := hv1.form
      have HX : Hid (n.hs[k]? = some x) := hx
      have b0 := sizes_nonneg (n.hs.take k)
      have b1 : sizes (n.hs.take k) ≤ 70 * 18 := by
        have := sizes_le (l := n.hs.take k) (fun y hy => hs y (List.mem_of_mem_take hy))
        have h2 : (n.hs.take k).length ≤ 18 := by rw [List.length_take]; omega
        omega
      have b2 : x.code.length ≤ 70 := hs x (List.mem_of_getElem? hx)
      clear hx hs
      go_wp2
      go_roundg (n.hs.length - (k + 1))
      case measure => omega
      case rel => exact ⟨k + 1, rfl, by omega, by go_num, by rw [sizes_take HX.out], by exact bAlloc hb _⟩
    · go_wp2
      go_ret
      exact ⟨by rw [List.take_of_length_le (by omega)]; rfl, hb⟩
end Go.Proofs.YtlpeiiejkpkpjaaDoor
