/-
  What the reference's Ints, SameNote and SameNotes answer: whether they are one. No conditions.
-/
import Derived.Test.YtpcffhhednplaaaDoorCo
namespace Go.Proofs.YtpcffhhednplaaaDoor
open Go.RowKit
attribute [local go_sem ↓] Go.wp_at_zero Go.wp_at_succ
set_option maxHeartbeats 400000 in
theorem refI (ok ok' : Nat → Prop) (w : World) (v1 v2 : Value) (a b : List Int) (h1 : Ints ok w v1 a) (h2 : Ints ok' w v2 b) :
    Calls Tryd.prog 31 #[v1, v2] w fun e w' => e = .returned (.bool (eqB a b)) ∧ ∃ n, w' = w.drewN n := by
  obtain ⟨A1, c1, rfl, hl1⟩ := h1.form
  obtain ⟨A2, c2, rfl, hl2⟩ := h2.form
  by_cases hlen : a.length = b.length
  · have HL : Hid (a.length = b.length) := hlen
    have e1 := lt_eq hlen
    clear hlen
    go_enter Tryd.func31, Tryd.ntmps31
    go_wp2
    go_loopg [5] a.length (fun g i5 wr => ∃ k : Nat, g = a.length - k ∧ k ≤ a.length ∧ i5 = .int .i64 k ∧ Hid (a.take k = b.take k) ∧ ∃ n, wr = w.drewN n)
    case atStart => exact ⟨0, rfl, by omega, rfl, rfl, quiet_refl w⟩
    case round =>
      obtain ⟨k, rfl, hk, rfl, ht, hq0⟩ := hrel
      have hb := quiet_below hq0
      have hq : Hid (∃ n, wr = w.drewN n) := hq0
      clear hq0
      by_cases hlt : k < a.length
      · obtain ⟨b1, o1, x, rfl, hx, q1⟩ := h1.cell hb hlt
        obtain ⟨b2, o2, y, rfl, hy, q2⟩ := h2.cell hb (k := k) (by have := HL.out; omega)
        have hlt2 : (k : Int) < b.length := by have := HL.out; omega
        have HX : Hid (a[k]? = some x) := hx
        have HY : Hid (b[k]? = some y) := hy
        clear hx hy
        by_cases hxy : x = y
        · have e2 := ne_no hxy
          have HE : Hid (x = y) := hxy
          clear hxy
          go_wp2
          go_quiet (fail)
          go_wp2
          go_roundg (a.length - (k + 1))
          case measure => omega
          case rel => exact ⟨k + 1, rfl, by omega, by go_num, take_eq ht.out HX.out HY.out HE.out, quiet_next hq _⟩
        · have e2 := ne_yes hxy
          go_wp2
          go_quiet (fail)
          go_wp2
          go_ret
          exact ⟨ret_b (eqB_no (take_ne HX.out HY.out hxy)).symm, quiet_next hq _⟩
      · go_wp2
        go_ret
        exact ⟨ret_b (eqB_yes (take_all HL.out hlt ht.out)).symm, hq.out⟩
  · have e1 := lt_ne hlen
    go_enter Tryd.func31, Tryd.ntmps31
    go_wp2
    go_ret
    exact ⟨ret_b (eqB_no (len_ne hlen)).symm, quiet_refl _⟩
theorem eqB_nte (a b : PNte) : eqB a b = (decide (a.to = b.to) && decide (a.hd = b.hd) && eqB a.args b.args) := by
  obtain ⟨t, d, l⟩ := a
  obtain ⟨t', d', l'⟩ := b
  simp [eqB]
  rw [Bool.eq_iff_iff]; simp [and_assoc]
set_option maxHeartbeats 400000 in
theorem rSameNote (w : World) (v1 v2 : Value) (n m : PNte) (h1 : NteV w v1 n) (h2 : NteV w v2 m) :
    Calls Tryd.prog 21 #[v1, v2] w fun e w' => e = .returned (.bool (eqB n m)) ∧ Below w.heap.size w w' := by
  obtain ⟨c1, rfl, h1⟩ := h1
  obtain ⟨c2, rfl, h2⟩ := h2
  obtain ⟨t1, d1, l1⟩ := n
  obtain ⟨t2, d2, l2⟩ := m
  have HE : Hid (eqB (PNte.mk t1 d1 l1) ⟨t2, d2, l2⟩ = (decide (t1 = t2) && decide (d1 = d2) && eqB l1 l2)) := eqB_nte _ _
  dsimp only at h1 h2
  by_cases e1 : t1 = t2
  · by_cases e2 : d1 = d2
    · subst e1 e2
      go_enter Tryd.func21, Tryd.ntmps21
      go_wp2_with (go_at_call 31; refine (refI anyB anyB _ _ _ _ _ (h1.below (by exact bAlloc (bAlloc (bRefl _) _) _)) (h2.below (by exact bAlloc (bAlloc (bRefl _) _) _))).mono ?_; rintro e w' ⟨rfl, hq⟩)
      go_ret
      exact ⟨ret_b (by rw [HE.out]; simp), bTrans (bAlloc (bAlloc (bRefl _) _) _) (quiet_below hq)⟩
    · have b2 : (d1 == d2) = false := by simp [e2]
      subst e1
      go_enter Tryd.func21, Tryd.ntmps21
      go_wp2
      go_ret
      exact ⟨ret_b (by rw [HE.out]; simp [e2]), bAlloc (bAlloc (bRefl _) _) _⟩
  · have b1 : (t1 == t2) = false := by simp [e1]
    go_enter Tryd.func21, Tryd.ntmps21
    go_wp2
    go_ret
    exact ⟨ret_b (by rw [HE.out]; simp [e1]), bAlloc (bAlloc (bRefl _) _) _⟩

set_option maxHeartbeats 4000000 in
theorem rSameNotes (w : World) (v1 v2 : Value) (a b : List PNte) (h1 : Ntes anyB anyB w v1 a) (h2 : Ntes anyB anyB w v2 b) :
    Calls Tryd.prog 26 #[v1, v2] w fun e w' => e = .returned (.bool (eqB a b)) ∧ Below w.heap.size w w' := by
  obtain ⟨A1, c1, rfl, hl1⟩ := h1.form
  obtain ⟨A2, c2, rfl, hl2⟩ := h2.form
  by_cases hlen : a.length = b.length
  · have HL : Hid (a.length = b.length) := hlen
    have e1 := lt_eq hlen
    clear hlen
    go_enter Tryd.func26, Tryd.ntmps26
    go_wp2
    go_loopg [5] a.length (fun g i5 wr => ∃ k : Nat, g = a.length - k ∧ k ≤ a.length ∧ i5 = .int .i64 k ∧ Hid (a.take k = b.take k) ∧ Below w.heap.size w wr)
    case atStart => exact ⟨0, rfl, by omega, rfl, rfl, bRefl w⟩
    case round =>
      obtain ⟨k, rfl, hk, rfl, ht, hb⟩ := hrel
      by_cases hlt : k < a.length
      · obtain ⟨b1, o1, x, v1, rfl, hx, hz1, q1, q2, q3, hv1⟩ := h1.cell hb hlt
        obtain ⟨b2, o2, y, v2, rfl, hy, hz2, s1, s2, s3, hv2⟩ := h2.cell hb (k := k) (by have := HL.out; omega)
        obtain ⟨V1, n1, rfl, _⟩ := hv1.form
        obtain ⟨V2, n2, rfl, _⟩ := hv2.form
        have hlt2 : (k : Int) < b.length := by have := HL.out; omega
        have HX : Hid (a[k]? = some x) := hx
        have HY : Hid (b[k]? = some y) := hy
        clear hx hy
        by_cases hxy : x = y
        · have e2 := eqB_yes hxy
          have HE : Hid (x = y) := hxy
          clear hxy
          go_wp2
          go_region_held3 (fun w' => w'.cell? ⟨b1, o1 + k * 3, none⟩ = some (.int .i64 x.to) ∧ w'.cell? ⟨b1, o1 + k * 3 + 1, none⟩ = some (.int .i64 x.hd) ∧ w'.cell? ⟨b1, o1 + k * 3 + 2, none⟩ = some (.slice V1 x.args.length n1) ∧ w'.cell? ⟨b2, o2 + k * 3, none⟩ = some (.int .i64 y.to) ∧ w'.cell? ⟨b2, o2 + k * 3 + 1, none⟩ = some (.int .i64 y.hd) ∧ w'.cell? ⟨b2, o2 + k * 3 + 2, none⟩ = some (.slice V2 y.args.length n2)) (go_keep)
            (first | (go_at_call 21; refine (rSameNote _ _ _ x y ⟨_, rfl, (hv1.below (by exact (bRefl _).drew)).any⟩ ⟨_, rfl, (hv2.below (by exact (bRefl _).drew)).any⟩).mono ?_; rintro e w1 ⟨rfl, hb1⟩; have hc1 := bcell (undrew hb1)))
          go_wp2
          go_roundg (a.length - (k + 1))
          case measure => omega
          case rel => exact ⟨k + 1, rfl, by omega, by go_num, take_eq ht.out HX.out HY.out HE.out, bTrans hb (undrew hb1)⟩
        · have e2 := eqB_no hxy
          have HE : Hid (x ≠ y) := hxy
          clear hxy
          go_wp2
          go_region_held3 (fun w' => w'.cell? ⟨b1, o1 + k * 3, none⟩ = some (.int .i64 x.to) ∧ w'.cell? ⟨b1, o1 + k * 3 + 1, none⟩ = some (.int .i64 x.hd) ∧ w'.cell? ⟨b1, o1 + k * 3 + 2, none⟩ = some (.slice V1 x.args.length n1) ∧ w'.cell? ⟨b2, o2 + k * 3, none⟩ = some (.int .i64 y.to) ∧ w'.cell? ⟨b2, o2 + k * 3 + 1, none⟩ = some (.int .i64 y.hd) ∧ w'.cell? ⟨b2, o2 + k * 3 + 2, none⟩ = some (.slice V2 y.args.length n2)) (go_keep)
            (first | (go_at_call 21; refine (rSameNote _ _ _ x y ⟨_, rfl, (hv1.below (by exact (bRefl _).drew)).any⟩ ⟨_, rfl, (hv2.below (by exact (bRefl _).drew)).any⟩).mono ?_; rintro e w1 ⟨rfl, hb1⟩; have hc1 := bcell (undrew hb1)))
          go_wp2
          go_ret
          exact ⟨ret_b (eqB_no (take_ne HX.out HY.out HE.out)).symm, bTrans hb (undrew hb1)⟩
      · go_wp2
        go_ret
        exact ⟨ret_b (eqB_yes (take_all HL.out hlt ht.out)).symm, hb⟩
  · have e1 := lt_ne hlen
    go_enter Tryd.func26, Tryd.ntmps26
    go_wp2
    go_ret
    exact ⟨ret_b (eqB_no (len_ne hlen)).symm, bRefl _⟩
end Go.Proofs.YtpcffhhednplaaaDoor
