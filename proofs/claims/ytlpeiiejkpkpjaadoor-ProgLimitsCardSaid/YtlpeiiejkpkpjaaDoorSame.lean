/-
  What the functions that hold two handlers, actors, notes and programs against each other answer: whether they are one. No further conditions.
-/
import Derived.Test.YtlpeiiejkpkpjaaDoorEq
namespace Go.Proofs.YtlpeiiejkpkpjaaDoor
open Go.RowKit

theorem eqB_nte (a b : PNte) : eqB a b = (decide (a.to = b.to) && decide (a.hd = b.hd) && eqB a.args b.args) := by
  obtain ⟨t, d, l⟩ := a
  obtain ⟨t', d', l'⟩ := b
  simp [eqB]
  rw [Bool.eq_iff_iff]; simp [and_assoc]
theorem eqB_hnd (a b : PHnd) : eqB a b = (decide (a.args = b.args) && eqB a.code b.code) := by
  obtain ⟨t, l⟩ := a
  obtain ⟨t', l'⟩ := b
  simp [eqB]
theorem eqB_act (a b : PAct) : eqB a b = (decide (a.cap = b.cap) && decide (a.timer = b.timer) && decide (a.armed = b.armed) && eqB a.regs b.regs) := by
  obtain ⟨t, d, l, r⟩ := a
  obtain ⟨t', d', l', r'⟩ := b
  simp [eqB]
  rw [Bool.eq_iff_iff]; simp only [Bool.and_eq_true, decide_eq_true_eq]
  constructor
  · rintro ⟨a, b, c, d⟩; exact ⟨⟨⟨b, c⟩, d⟩, a⟩
  · rintro ⟨⟨⟨b, c⟩, d⟩, a⟩; exact ⟨a, b, c, d⟩
theorem eqB_prg (a b : PPrg) : eqB a b = (decide (a.fuel = b.fuel) && eqB a.hs b.hs && eqB a.acs b.acs && eqB a.bs b.bs) := by
  obtain ⟨t, d, l, r⟩ := a
  obtain ⟨t', d', l', r'⟩ := b
  simp [eqB]
  rw [Bool.eq_iff_iff]; simp only [Bool.and_eq_true, decide_eq_true_eq]
  constructor
  · rintro ⟨a, b, c, d⟩; exact ⟨⟨⟨d, a⟩, b⟩, c⟩
  · rintro ⟨⟨⟨d, a⟩, b⟩, c⟩; exact ⟨a, b, c, d⟩

theorem Hnds.cell {out inn : Nat → Prop} {w wr : World} {A : Option Addr} {n c : Nat} {l : List PHnd} (h : Hnds out inn w (.slice A n c) l) (hb : Below w.heap.size w wr) {k : Nat} (hk : k < l.length) :
    ∃ b o x v, A = some ⟨b, o, none⟩ ∧ l[k]? = some x ∧ b < wr.heap.size ∧ wr.cell? ⟨b, o + k * 2, none⟩ = some (.int .i64 x.args) ∧ wr.cell? ⟨b, o + k * 2 + 1, none⟩ = some v ∧ Code inn wr v x.code := by
  obtain ⟨x, hx⟩ := at_lt hk
  obtain ⟨b, o, rfl, _, hlt, hc⟩ := h.at (by omega)
  obtain ⟨h1, v, h2, h3⟩ := hc k x hx
  exact ⟨b, o, x, v, rfl, hx, Nat.lt_of_lt_of_le hlt hb.size, (hb.cell (p := ⟨b, _, none⟩) hlt).trans h1, (hb.cell (p := ⟨b, _, none⟩) hlt).trans h2, h3.below hb⟩
theorem Acts.cell {out inn : Nat → Prop} {w wr : World} {A : Option Addr} {n c : Nat} {l : List PAct} (h : Acts out inn w (.slice A n c) l) (hb : Below w.heap.size w wr) {k : Nat} (hk : k < l.length) :
    ∃ b o x v, A = some ⟨b, o, none⟩ ∧ l[k]? = some x ∧ b < wr.heap.size ∧ wr.cell? ⟨b, o + k * 4, none⟩ = some v ∧ wr.cell? ⟨b, o + k * 4 + 1, none⟩ = some (.int .i64 x.cap) ∧ wr.cell? ⟨b, o + k * 4 + 2, none⟩ = some (.int .i64 x.timer) ∧ wr.cell? ⟨b, o + k * 4 + 3, none⟩ = some (.bool x.armed) ∧ Ints inn wr v x.regs := by
  obtain ⟨x, hx⟩ := at_lt hk
  obtain ⟨b, o, rfl, _, hlt, hc⟩ := h.at (by omega)
  obtain ⟨⟨v, h1, h2⟩, h3, h4, h5⟩ := hc k x hx
  exact ⟨b, o, x, v, rfl, hx, Nat.lt_of_lt_of_le hlt hb.size, (hb.cell (p := ⟨b, _, none⟩) hlt).trans h1, (hb.cell (p := ⟨b, _, none⟩) hlt).trans h3, (hb.cell (p := ⟨b, _, none⟩) hlt).trans h4, (hb.cell (p := ⟨b, _, none⟩) hlt).trans h5, h2.below hb⟩
theorem Ntes.cell {out inn : Nat → Prop} {w wr : World} {A : Option Addr} {n c : Nat} {l : List PNte} (h : Ntes out inn w (.slice A n c) l) (hb : Below w.heap.size w wr) {k : Nat} (hk : k < l.length) :
    ∃ b o x v, A = some ⟨b, o, none⟩ ∧ l[k]? = some x ∧ b < wr.heap.size ∧ wr.cell? ⟨b, o + k * 3, none⟩ = some (.int .i64 x.to) ∧ wr.cell? ⟨b, o + k * 3 + 1, none⟩ = some (.int .i64 x.hd) ∧ wr.cell? ⟨b, o + k * 3 + 2, none⟩ = some v ∧ Ints inn wr v x.args := by
  obtain ⟨x, hx⟩ := at_lt hk
  obtain ⟨b, o, rfl, _, hlt, hc⟩ := h.at (by omega)
  obtain ⟨h1, h2, v, h3, h4⟩ := hc k x hx
  exact ⟨b, o, x, v, rfl, hx, Nat.lt_of_lt_of_le hlt hb.size, (hb.cell (p := ⟨b, _, none⟩) hlt).trans h1, (hb.cell (p := ⟨b, _, none⟩) hlt).trans h2, (hb.cell (p := ⟨b, _, none⟩) hlt).trans h3, h4.below hb⟩

set_option maxHeartbeats 400000 in
theorem sameNote (w : World) (v1 v2 : Value) (n m : PNte) (h1 : NteV w v1 n) (h2 : NteV w v2 m) :
    Calls Tryd.prog 20 #[v1, v2] w fun e w' => e = .returned (.bool (eqB n m)) ∧ Below w.heap.size w w' := by
  obtain ⟨c1, rfl, h1⟩ := h1
  obtain ⟨c2, rfl, h2⟩ := h2
  obtain ⟨t1, d1, l1⟩ := n
  obtain ⟨t2, d2, l2⟩ := m
  have HE : Hid (eqB (PNte.mk t1 d1 l1) ⟨t2, d2, l2⟩ = (decide (t1 = t2) && decide (d1 = d2) && eqB l1 l2)) := eqB_nte _ _
  dsimp only at h1 h2
  by_cases e1 : t1 = t2
  · by_cases e2 : d1 = d2
    · subst e1 e2
      go_enter Tryd.func20, Tryd.ntmps20
      go_wp2_with (go_at_call 40; refine (equalI anyB anyB _ _ _ _ _ (h1.below (by exact bAlloc (bAlloc (bRefl _) _) _)) (h2.below (by exact bAlloc (bAlloc (bRefl _) _) _))).mono ?_; rintro e w' ⟨rfl, hq⟩)
      go_ret
      exact ⟨ret_b (by rw [HE.out]; simp), bTrans (bAlloc (bAlloc (bRefl _) _) _) (quiet_below hq)⟩
    · have b2 : (d1 == d2) = false := by simp [e2]
      subst e1
      go_enter Tryd.func20, Tryd.ntmps20
      go_wp2
      go_ret
      exact ⟨ret_b (by rw [HE.out]; simp [e2]), bAlloc (bAlloc (bRefl _) _) _⟩
  · have b1 : (t1 == t2) = false := by simp [e1]
    go_enter Tryd.func20, Tryd.ntmps20
    go_wp2
    go_ret
    exact ⟨ret_b (by rw [HE.out]; simp [e1]), bAlloc (bAlloc (bRefl _) _) _⟩

set_option maxHeartbeats 400000 in
theorem rSameNote (w : World) (v1 v2 : Value) (n m : PNte) (h1 : NteV w v1 n) (h2 : NteV w v2 m) :
    Calls Tryd.prog 47 #[v1, v2] w fun e w' => e = .returned (.bool (eqB n m)) ∧ Below w.heap.size w w' := by
  obtain ⟨c1, rfl, h1⟩ := h1
  obtain ⟨c2, rfl, h2⟩ := h2
  obtain ⟨t1, d1, l1⟩ := n
  obtain ⟨t2, d2, l2⟩ := m
  have HE : Hid (eqB (PNte.mk t1 d1 l1) ⟨t2, d2, l2⟩ = (decide (t1 = t2) && decide (d1 = d2) && eqB l1 l2)) := eqB_nte _ _
  dsimp only at h1 h2
  by_cases e1 : t1 = t2
  · by_cases e2 : d1 = d2
    · subst e1 e2
      go_enter Tryd.func47, Tryd.ntmps47
      go_wp2_with (go_at_call 34; refine (refI anyB anyB _ _ _ _ _ (h1.below (by exact bAlloc (bAlloc (bRefl _) _) _)) (h2.below (by exact bAlloc (bAlloc (bRefl _) _) _))).mono ?_; rintro e w' ⟨rfl, hq⟩)
      go_ret
      exact ⟨ret_b (by rw [HE.out]; simp), bTrans (bAlloc (bAlloc (bRefl _) _) _) (quiet_below hq)⟩
    · have b2 : (d1 == d2) = false := by simp [e2]
      subst e1
      go_enter Tryd.func47, Tryd.ntmps47
      go_wp2
      go_ret
      exact ⟨ret_b (by rw [HE.out]; simp [e2]), bAlloc (bAlloc (bRefl _) _) _⟩
  · have b1 : (t1 == t2) = false := by simp [e1]
    go_enter Tryd.func47, Tryd.ntmps47
    go_wp2
    go_ret
    exact ⟨ret_b (by rw [HE.out]; simp [e1]), bAlloc (bAlloc (bRefl _) _) _⟩

set_option maxHeartbeats 400000 in
theorem sameHnd (w : World) (v1 v2 : Value) (n m : PHnd) (h1 : HndV w v1 n) (h2 : HndV w v2 m) :
    Calls Tryd.prog 28 #[v1, v2] w fun e w' => e = .returned (.bool (eqB n m)) ∧ Below w.heap.size w w' := by
  obtain ⟨c1, rfl, h1⟩ := h1
  obtain ⟨c2, rfl, h2⟩ := h2
  obtain ⟨t1, l1⟩ := n
  obtain ⟨t2, l2⟩ := m
  have HE : Hid (eqB (PHnd.mk t1 l1) ⟨t2, l2⟩ = (decide (t1 = t2) && eqB l1 l2)) := eqB_hnd _ _
  dsimp only at h1 h2
  by_cases e1 : t1 = t2
  · subst e1
    go_enter Tryd.func28, Tryd.ntmps28
    go_wp2_with (go_at_call 46; refine (equalC anyB anyB _ _ _ _ _ (h1.below (by exact bAlloc (bAlloc (bRefl _) _) _)) (h2.below (by exact bAlloc (bAlloc (bRefl _) _) _))).mono ?_; rintro e w' ⟨rfl, hq⟩)
    go_ret
    exact ⟨ret_b (by rw [HE.out]; simp), bTrans (bAlloc (bAlloc (bRefl _) _) _) (quiet_below hq)⟩
  · have b1 : (t1 == t2) = false := by simp [e1]
    go_enter Tryd.func28, Tryd.ntmps28
    go_wp2
    go_ret
    exact ⟨ret_b (by rw [HE.out]; simp [e1]), bAlloc (bAlloc (bRefl _) _) _⟩

set_option maxHeartbeats 400000 in
theorem sameAct (w : World) (v1 v2 : Value) (n m : PAct) (h1 : ActV w v1 n) (h2 : ActV w v2 m) :
    Calls Tryd.prog 30 #[v1, v2] w fun e w' => e = .returned (.bool (eqB n m)) ∧ Below w.heap.size w w' := by
  obtain ⟨c1, rfl, h1⟩ := h1
  obtain ⟨c2, rfl, h2⟩ := h2
  obtain ⟨l1, t1, d1, r1⟩ := n
  obtain ⟨l2, t2, d2, r2⟩ := m
  have HE : Hid (eqB (PAct.mk l1 t1 d1 r1) ⟨l2, t2, d2, r2⟩ = (decide (t1 = t2) && decide (d1 = d2) && decide (r1 = r2) && eqB l1 l2)) := eqB_act _ _
  dsimp only at h1 h2
  by_cases e1 : t1 = t2
  · by_cases e2 : d1 = d2
    · by_cases e3 : r1 = r2
      · subst e1 e2 e3
        go_enter Tryd.func30, Tryd.ntmps30
        go_wp2_with (go_at_call 40; refine (equalI anyB anyB _ _ _ _ _ (h1.below (by exact bAlloc (bAlloc (bRefl _) _) _)) (h2.below (by exact bAlloc (bAlloc (bRefl _) _) _))).mono ?_; rintro e w' ⟨rfl, hq⟩)
        go_ret
        exact ⟨ret_b (by rw [HE.out]; simp), bTrans (bAlloc (bAlloc (bRefl _) _) _) (quiet_below hq)⟩
      · have b2 : (r1 == r2) = false := by simp [e3]
        subst e1 e2
        go_enter Tryd.func30, Tryd.ntmps30
        go_wp2
        go_ret
        exact ⟨ret_b (by rw [HE.out]; simp [e3]), bAlloc (bAlloc (bRefl _) _) _⟩
    · have b2 : (d1 == d2) = false := by simp [e2]
      subst e1
      go_enter Tryd.func30, Tryd.ntmps30
      go_wp2
      go_ret
      exact ⟨ret_b (by rw [HE.out]; simp [e2]), bAlloc (bAlloc (bRefl _) _) _⟩
  · have b1 : (t1 == t2) = false := by simp [e1]
    go_enter Tryd.func30, Tryd.ntmps30
    go_wp2
    go_ret
    exact ⟨ret_b (by rw [HE.out]; simp [e1]), bAlloc (bAlloc (bRefl _) _) _⟩

set_option maxHeartbeats 400000 in
theorem equalH (w : World) (v1 v2 : Value) (a b : List PHnd) (h1 : Hnds anyB anyB w v1 a) (h2 : Hnds anyB anyB w v2 b) :
    Calls Tryd.prog 27 #[v1, v2, .func (.func 28) #[] #[]] w fun e w' => e = .returned (.bool (eqB a b)) ∧ Below w.heap.size w w' := by
  obtain ⟨A1, c1, rfl, hl1⟩ := h1.form
  obtain ⟨A2, c2, rfl, hl2⟩ := h2.form
  by_cases hlen : a.length = b.length
  · have HL : Hid (a.length = b.length) := hlen
    have e1 := lt_eq hlen
    clear hlen
    go_enter Tryd.func27, Tryd.ntmps27
    go_wp2
    go_loopg [7, 8, 9, 17] a.length (fun g i7 i8 i9 i17 wr => ∃ k : Nat, g = a.length - k ∧ k ≤ a.length ∧ i17 = .int .i64 k ∧ Hid (a.take k = b.take k) ∧ Below w.heap.size w wr)
    case atStart => exact ⟨0, rfl, by omega, rfl, rfl, bRefl w⟩
    case round =>
      obtain ⟨k, rfl, hk, rfl, ht, hb⟩ := hrel
      by_cases hlt : k < a.length
      · obtain ⟨b1, o1, x, v1, rfl, hx, hz1, q1, q2, hv1⟩ := h1.cell hb hlt
        obtain ⟨b2, o2, y, v2, rfl, hy, hz2, s1, s2, hv2⟩ := h2.cell hb (k := k) (by have := HL.out; omega)
        obtain ⟨V1, n1, rfl, _⟩ := hv1.form
        obtain ⟨V2, n2, rfl, _⟩ := hv2.form
        have hlt2 : (k : Int) < b.length := by have := HL.out; omega
        have HX : Hid (a[k]? = some x) := hx
        have HY : Hid (b[k]? = some y) := hy
        clear hx hy
        by_cases hxy : x = y
        · have e2 := eqB_yes hxy
          have HE : Hid (x = y) := hxy
          clear hxy
          go_wp2_with (go_at_call 28; refine (sameHnd _ _ _ x y ⟨_, rfl, (hv1.below (by exact bAlloc (bAlloc (bRefl _) _) _)).any⟩ ⟨_, rfl, (hv2.below (by exact bAlloc (bAlloc (bRefl _) _) _)).any⟩).mono ?_; rintro e w' ⟨rfl, hb'⟩)
          go_roundg (a.length - (k + 1))
          case measure => omega
          case rel => exact ⟨k + 1, rfl, by omega, by go_num, take_eq ht.out HX.out HY.out HE.out, bTrans (bTrans hb (by exact bAlloc (bAlloc (bRefl _) _) _)) hb'⟩
        · have e2 := eqB_no hxy
          go_wp2_with (go_at_call 28; refine (sameHnd _ _ _ x y ⟨_, rfl, (hv1.below (by exact bAlloc (bAlloc (bRefl _) _) _)).any⟩ ⟨_, rfl, (hv2.below (by exact bAlloc (bAlloc (bRefl _) _) _)).any⟩).mono ?_; rintro e w' ⟨rfl, hb'⟩)
          go_ret
          exact ⟨ret_b (eqB_no (take_ne HX.out HY.out hxy)).symm, bTrans (bTrans hb (by exact bAlloc (bAlloc (bRefl _) _) _)) hb'⟩
      · go_wp2
        go_ret
        exact ⟨ret_b (eqB_yes (take_all HL.out hlt ht.out)).symm, hb⟩
  · have e1 := lt_ne hlen
    go_enter Tryd.func27, Tryd.ntmps27
    go_wp2
    go_ret
    exact ⟨ret_b (eqB_no (len_ne hlen)).symm, bRefl _⟩

set_option maxHeartbeats 400000 in
theorem equalA (w : World) (v1 v2 : Value) (a b : List PAct) (h1 : Acts anyB anyB w v1 a) (h2 : Acts anyB anyB w v2 b) :
    Calls Tryd.prog 29 #[v1, v2, .func (.func 30) #[] #[]] w fun e w' => e = .returned (.bool (eqB a b)) ∧ Below w.heap.size w w' := by
  obtain ⟨A1, c1, rfl, hl1⟩ := h1.form
  obtain ⟨A2, c2, rfl, hl2⟩ := h2.form
  by_cases hlen : a.length = b.length
  · have HL : Hid (a.length = b.length) := hlen
    have e1 := lt_eq hlen
    clear hlen
    go_enter Tryd.func29, Tryd.ntmps29
    go_wp2
    go_loopg [7, 8, 9, 17] a.length (fun g i7 i8 i9 i17 wr => ∃ k : Nat, g = a.length - k ∧ k ≤ a.length ∧ i17 = .int .i64 k ∧ Hid (a.take k = b.take k) ∧ Below w.heap.size w wr)
    case atStart => exact ⟨0, rfl, by omega, rfl, rfl, bRefl w⟩
    case round =>
      obtain ⟨k, rfl, hk, rfl, ht, hb⟩ := hrel
      by_cases hlt : k < a.length
      · obtain ⟨b1, o1, x, v1, rfl, hx, hz1, q1, q2, q3, q4, hv1⟩ := h1.cell hb hlt
        obtain ⟨b2, o2, y, v2, rfl, hy, hz2, s1, s2, s3, s4, hv2⟩ := h2.cell hb (k := k) (by have := HL.out; omega)
        obtain ⟨V1, n1, rfl, _⟩ := hv1.form
        obtain ⟨V2, n2, rfl, _⟩ := hv2.form
        have hlt2 : (k : Int) < b.length := by have := HL.out; omega
        have HX : Hid (a[k]? = some x) := hx
        have HY : Hid (b[k]? = some y) := hy
        clear hx hy
        by_cases hxy : x = y
        · have e2 := eqB_yes hxy
          have HE : Hid (x = y) := hxy
          clear hxy
          go_wp2_with (go_at_call 30; refine (sameAct _ _ _ x y ⟨_, rfl, (hv1.below (by exact bAlloc (bAlloc (bRefl _) _) _)).any⟩ ⟨_, rfl, (hv2.below (by exact bAlloc (bAlloc (bRefl _) _) _)).any⟩).mono ?_; rintro e w' ⟨rfl, hb'⟩)
          go_roundg (a.length - (k + 1))
          case measure => omega
          case rel => exact ⟨k + 1, rfl, by omega, by go_num, take_eq ht.out HX.out HY.out HE.out, bTrans (bTrans hb (by exact bAlloc (bAlloc (bRefl _) _) _)) hb'⟩
        · have e2 := eqB_no hxy
          go_wp2_with (go_at_call 30; refine (sameAct _ _ _ x y ⟨_, rfl, (hv1.below (by exact bAlloc (bAlloc (bRefl _) _) _)).any⟩ ⟨_, rfl, (hv2.below (by exact bAlloc (bAlloc (bRefl _) _) _)).any⟩).mono ?_; rintro e w' ⟨rfl, hb'⟩)
          go_ret
          exact ⟨ret_b (eqB_no (take_ne HX.out HY.out hxy)).symm, bTrans (bTrans hb (by exact bAlloc (bAlloc (bRefl _) _) _)) hb'⟩
      · go_wp2
        go_ret
        exact ⟨ret_b (eqB_yes (take_all HL.out hlt ht.out)).symm, hb⟩
  · have e1 := lt_ne hlen
    go_enter Tryd.func29, Tryd.ntmps29
    go_wp2
    go_ret
    exact ⟨ret_b (eqB_no (len_ne hlen)).symm, bRefl _⟩

set_option maxHeartbeats 400000 in
theorem equalN (w : World) (v1 v2 : Value) (a b : List PNte) (h1 : Ntes anyB anyB w v1 a) (h2 : Ntes anyB anyB w v2 b) :
    Calls Tryd.prog 31 #[v1, v2, .func (.func 20) #[] #[]] w fun e w' => e = .returned (.bool (eqB a b)) ∧ Below w.heap.size w w' := by
  obtain ⟨A1, c1, rfl, hl1⟩ := h1.form
  obtain ⟨A2, c2, rfl, hl2⟩ := h2.form
  by_cases hlen : a.length = b.length
  · have HL : Hid (a.length = b.length) := hlen
    have e1 := lt_eq hlen
    clear hlen
    go_enter Tryd.func31, Tryd.ntmps31
    go_wp2
    go_loopg [7, 8, 9, 17] a.length (fun g i7 i8 i9 i17 wr => ∃ k : Nat, g = a.length - k ∧ k ≤ a.length ∧ i17 = .int .i64 k ∧ Hid (a.take k = b.take k) ∧ Below w.heap.size w wr)
    case atStart => exact ⟨0, rfl, by omega, rfl, rfl, bRefl w⟩
    case round =>
      obtain ⟨k, rfl, hk, rfl, ht, hb⟩ := hrel
      by_cases hlt : k < a.length
      · obtain ⟨b1, o1, x, v1, rfl, hx, hz1, q1, q2, q3, hv1⟩ := h1.cell hb hlt
        obtain ⟨b2, o2, y, v2, rfl, hy, hz2, s1, s2, s3, hv2⟩ := h2.cell hb (k := k) (by have := HL.out; omega)
        obtain ⟨V1, n1, rfl, _⟩ := hv1.form
        obtain ⟨V2, n2, rfl, _⟩ := hv2.form
        have hlt2 : (k : Int) < b.length := by have := HL.out; omega
        have HX : Hid (a[k]? = some x) := hx
        have HY : Hid (b[k]? = some y) := hy
        clear hx hy
        by_cases hxy : x = y
        · have e2 := eqB_yes hxy
          have HE : Hid (x = y) := hxy
          clear hxy
          go_wp2_with (go_at_call 20; refine (sameNote _ _ _ x y ⟨_, rfl, (hv1.below (by exact bAlloc (bAlloc (bRefl _) _) _)).any⟩ ⟨_, rfl, (hv2.below (by exact bAlloc (bAlloc (bRefl _) _) _)).any⟩).mono ?_; rintro e w' ⟨rfl, hb'⟩)
          go_roundg (a.length - (k + 1))
          case measure => omega
          case rel => exact ⟨k + 1, rfl, by omega, by go_num, take_eq ht.out HX.out HY.out HE.out, bTrans (bTrans hb (by exact bAlloc (bAlloc (bRefl _) _) _)) hb'⟩
        · have e2 := eqB_no hxy
          go_wp2_with (go_at_call 20; refine (sameNote _ _ _ x y ⟨_, rfl, (hv1.below (by exact bAlloc (bAlloc (bRefl _) _) _)).any⟩ ⟨_, rfl, (hv2.below (by exact bAlloc (bAlloc (bRefl _) _) _)).any⟩).mono ?_; rintro e w' ⟨rfl, hb'⟩)
          go_ret
          exact ⟨ret_b (eqB_no (take_ne HX.out HY.out hxy)).symm, bTrans (bTrans hb (by exact bAlloc (bAlloc (bRefl _) _) _)) hb'⟩
      · go_wp2
        go_ret
        exact ⟨ret_b (eqB_yes (take_all HL.out hlt ht.out)).symm, hb⟩
  · have e1 := lt_ne hlen
    go_enter Tryd.func31, Tryd.ntmps31
    go_wp2
    go_ret
    exact ⟨ret_b (eqB_no (len_ne hlen)).symm, bRefl _⟩

end Go.Proofs.YtlpeiiejkpkpjaaDoor
