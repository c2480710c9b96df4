/-
  Two lists of messages alike: Same, and the reference's SameMail; the reference's Sorted. No conditions.
-/
import Derived.Test.YtjdnedmhffakjaaDoorM4
namespace Go.Proofs.YtjdnedmhffakjaaDoor
open Go.RowKit
attribute [local go_sem ↓] Go.wp_at_zero Go.wp_at_succ eq6
theorem eqB_msg (a b : PMsg) : eqB a b = (sameD a.id b.id && eqB a.nt b.nt) := by
  obtain ⟨d, n⟩ := a
  obtain ⟨d', n'⟩ := b
  unfold eqB sameD
  rw [Bool.eq_iff_iff]; simp
set_option maxHeartbeats 1000000 in
theorem sameMsg_any (w : World) (v1 v2 : Value) (a b : PMsg) (h1 : MsgV anyB w v1 a) (h2 : MsgV anyB w v2 b) :
    Calls Tryd.prog 45 #[v1, v2] w fun e w' => e = .returned (.bool (eqB a b)) ∧ Below w.heap.size w w' := by
  obtain ⟨c1, rfl, h1⟩ := h1
  obtain ⟨c2, rfl, h2⟩ := h2
  obtain ⟨A1, d1, rfl, _⟩ := h1.form
  obtain ⟨A2, d2, rfl, _⟩ := h2.form
  have hgD := gD
  have HE : Hid (eqB a b = (sameD a.id b.id && eqB a.nt b.nt)) := eqB_msg _ _
  by_cases e : a.id = b.id
  · have e2 := sameD_yes e
    have E2 : Hid (sameD a.id b.id = true) := e2
    clear e
    go_enter Tryd.func45, Tryd.ntmps45
    go_wp2_with (go_at_call 60; refine (sameNote _ _ _ a.nt b.nt ⟨_, rfl, h1.below (by exact bAlloc (bAlloc (bRefl _) _) _)⟩ ⟨_, rfl, h2.below (by exact bAlloc (bAlloc (bRefl _) _) _)⟩).mono ?_; rintro e w' ⟨rfl, hb1⟩)
    go_ret
    exact ⟨ret_b (by rw [HE.out, E2.out]; simp), bTrans (bAlloc (bAlloc (bRefl _) _) _) hb1⟩
  · have e2 := sameD_no e
    have E2 : Hid (sameD a.id b.id = false) := e2
    clear e
    go_enter Tryd.func45, Tryd.ntmps45
    go_wp2
    go_ret
    exact ⟨ret_b (by rw [HE.out, E2.out]; rfl), bAlloc (bAlloc (bRefl _) _) _⟩
set_option maxHeartbeats 4000000 in
theorem equal_any (w : World) (v1 v2 : Value) (a b : List PMsg) (h1 : Msgs anyB anyB w v1 a) (h2 : Msgs anyB anyB w v2 b) :
    Calls Tryd.prog 44 #[v1, v2, .func (.func 45) #[] #[]] w fun e w' => e = .returned (.bool (eqB a b)) ∧ Below w.heap.size w w' := by
  obtain ⟨A1, c1, rfl, hl1⟩ := h1.form
  obtain ⟨A2, c2, rfl, hl2⟩ := h2.form
  by_cases hlen : a.length = b.length
  · have HL : Hid (a.length = b.length) := hlen
    have e1 := lt_eq hlen
    clear hlen
    go_enter Tryd.func44, Tryd.ntmps44
    go_wp2
    go_loopg [7, 8, 9, 17] a.length (fun g i7 i8 i9 i17 wr => ∃ k : Nat, g = a.length - k ∧ k ≤ a.length ∧ i17 = .int .i64 k ∧ Hid (a.take k = b.take k) ∧ Below w.heap.size w wr)
    case atStart => exact ⟨0, rfl, by omega, rfl, rfl, bRefl w⟩
    case round =>
      obtain ⟨k, rfl, hk, rfl, ht, hb⟩ := hrel
      by_cases hlt : k < a.length
      · obtain ⟨b1, o1, x, v1, rfl, hx, hz1, q1, q2, q3, q4, q5, q6, hv1⟩ := h1.cell hb hlt
        obtain ⟨b2, o2, y, v2, rfl, hy, hz2, s1, s2, s3, s4, s5, s6, hv2⟩ := h2.cell hb (k := k) (by have := HL.out; omega)
        obtain ⟨V1, n1, rfl, _⟩ := hv1.form
        obtain ⟨V2, n2, rfl, _⟩ := hv2.form
        have hlt2 : (k : Int) < b.length := by have := HL.out; omega
        have HX : Hid (a[k]? = some x) := hx
        have HY : Hid (b[k]? = some y) := hy
        have HB : Hid (Below w.heap.size w wr) := hb
        clear hx hy hb
        by_cases hxy : x = y
        · have e2 := eqB_yes hxy
          have HE : Hid (x = y) := hxy
          clear hxy
          go_wp2_with (go_at_call 45; refine (sameMsg_any _ _ _ x y ⟨_, rfl, hv1.below (by exact bAlloc (bAlloc (bRefl _) _) _)⟩ ⟨_, rfl, hv2.below (by exact bAlloc (bAlloc (bRefl _) _) _)⟩).mono ?_; rintro e w' ⟨rfl, hb1⟩)
          go_roundg (a.length - (k + 1))
          case measure => omega
          case rel => exact ⟨k + 1, rfl, by omega, by go_num, take_eq ht.out HX.out HY.out HE.out, bTrans HB.out (bTrans (bAlloc (bAlloc (bRefl _) _) _) hb1)⟩
        · have e2 := eqB_no hxy
          have HE : Hid (x ≠ y) := hxy
          clear hxy
          go_wp2_with (go_at_call 45; refine (sameMsg_any _ _ _ x y ⟨_, rfl, hv1.below (by exact bAlloc (bAlloc (bRefl _) _) _)⟩ ⟨_, rfl, hv2.below (by exact bAlloc (bAlloc (bRefl _) _) _)⟩).mono ?_; rintro e w' ⟨rfl, hb1⟩)
          go_ret
          exact ⟨ret_b (eqB_no (take_ne HX.out HY.out HE.out)).symm, bTrans HB.out (bTrans (bAlloc (bAlloc (bRefl _) _) _) hb1)⟩
      · go_wp2
        go_ret
        exact ⟨ret_b (eqB_yes (take_all HL.out hlt ht.out)).symm, hb⟩
  · have e1 := lt_ne hlen
    go_enter Tryd.func44, Tryd.ntmps44
    go_wp2
    go_ret
    exact ⟨ret_b (eqB_no (len_ne hlen)).symm, bRefl _⟩
theorem same_any (w : World) (v1 v2 : Value) (a b : List PMsg) (h1 : Msgs anyB anyB w v1 a) (h2 : Msgs anyB anyB w v2 b) :
    Calls Tryd.prog 26 #[v1, v2] w fun e w' => e = .returned (.bool (eqB a b)) ∧ Below w.heap.size w w' := by
  go_enter Tryd.func26, Tryd.ntmps26
  go_wp2_with (go_at_call 44; refine (equal_any _ _ _ a b h1 h2).mono ?_; rintro e w' ⟨rfl, hb1⟩)
  go_ret
  exact ⟨rfl, hb1⟩
end Go.Proofs.YtjdnedmhffakjaaDoor
