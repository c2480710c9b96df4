/-
  Two lists of messages alike: Same, and the reference's SameMail; the reference's Sorted. No conditions.
-/
import Derived.Test.YtgdloonpemaijaaDoorM4
namespace Go.Proofs.YtgdloonpemaijaaDoor
open Go.RowKit
attribute [local go_sem ↓] Go.wp_at_zero Go.wp_at_succ eq6
set_option maxHeartbeats 4000000 in
theorem rsorted_any (w : World) (v : Value) (l : List PMsg) (h : Msgs anyB anyB w v l) :
    Calls Tryd.prog 111 #[v] w fun e w' => e = .returned (.bool (srt l)) ∧ Below w.heap.size w w' := by
  obtain ⟨A, c, rfl, hl⟩ := h.form
  go_enter Tryd.func111, Tryd.ntmps111
  go_wp2
  go_loopg [3] l.length (fun n i3 wr => ∃ k : Nat, n = l.length - k ∧ k ≤ l.length ∧ i3 = .int .i64 ((k : Int) + 1) ∧ Hid (∀ (j : Nat) (x y : PMsg), j < k → l[j]? = some x → l[j + 1]? = some y → lessD x.id y.id = true) ∧ Below w.heap.size w wr)
  case atStart => exact ⟨0, rfl, by omega, rfl, fun j x y hj => by omega, bRefl w⟩
  case round =>
    obtain ⟨k, rfl, hk, rfl, ht, hb⟩ := hrel
    by_cases hlt : k + 1 < l.length
    · obtain ⟨b1, o1, x, v1, hA1, hx, hz1, q1, q2, q3, -, -, -, -⟩ := h.cell (k := k) hb (by omega)
      obtain ⟨b2, o2, y, v2, hA2, hy, hz2, r1, r2, r3, -, -, -, -⟩ := h.cell hb hlt
      subst hA1
      cases hA2
      have HX : Hid (l[k]? = some x) := hx
      have HY : Hid (l[k + 1]? = some y) := hy
      have HB : Hid (Below w.heap.size w wr) := hb
      have a1 : (k : Int) < l.length := by omega
      have a2 : (k : Int) + 1 < l.length := by omega
      have a3 : (0 : Int) ≤ (k : Int) + 1 := by omega
      have a4 : ((k : Int) + 1).toNat = k + 1 := by omega
      have a5 : IntKind.i64.wrap ((k : Int) + 1 - 1) = k := by rw [IntKind.wrap_i64]; omega
      have a6 : IntKind.i64.wrap (k : Int) = k := by rw [IntKind.wrap_i64]; omega
      have a7 : (k : Int) ≤ 9223372036854775807 := by omega
      have a8 : IntKind.i64.wrap ((k : Int) + 1) = (k : Int) + 1 := by rw [IntKind.wrap_i64]; omega
      have a9 : IntKind.i64.wrap ((k : Int) + 1 + 1) = (k : Int) + 1 + 1 := by rw [IntKind.wrap_i64]; omega
      clear hx hy hb
      cases hle : lessD x.id y.id with
      | true =>
        have HE : Hid (lessD x.id y.id = true) := hle
        go_wp2
        go_region_held3 (fun w' => w'.cell? ⟨b1, o1 + k * 6, none⟩ = some (.int .i64 x.id.f) ∧ w'.cell? ⟨b1, o1 + k * 6 + 1, none⟩ = some (.int .i64 x.id.n) ∧ w'.cell? ⟨b1, o1 + k * 6 + 2, none⟩ = some (.int .i64 x.id.c) ∧ w'.cell? ⟨b1, o1 + (k + 1) * 6, none⟩ = some (.int .i64 y.id.f) ∧ w'.cell? ⟨b1, o1 + (k + 1) * 6 + 1, none⟩ = some (.int .i64 y.id.n) ∧ w'.cell? ⟨b1, o1 + (k + 1) * 6 + 2, none⟩ = some (.int .i64 y.id.c)) (go_keep)
          (first | (go_at_call 143; refine (rless_any x.id y.id _).mono ?_; rintro e w1 ⟨rfl, hb1⟩; have hc1 := bcell (undrew hb1)))
        go_wp2
        go_roundg (l.length - (k + 1))
        case measure => omega
        case rel => exact ⟨k + 1, rfl, by omega, by go_num, fun j x' y' hj hx' hy' => by
            by_cases ej : j = k
            · subst ej; have e1 := HX.out; have e2 := HY.out; rw [hx'] at e1; rw [hy'] at e2; cases e1; cases e2; exact HE.out
            · exact ht.out j x' y' (by omega) hx' hy', bTrans HB.out (undrew hb1)⟩
      | false =>
        have HE : Hid (lessD x.id y.id = false) := hle
        go_wp2
        go_region_held3 (fun w' => w'.cell? ⟨b1, o1 + k * 6, none⟩ = some (.int .i64 x.id.f) ∧ w'.cell? ⟨b1, o1 + k * 6 + 1, none⟩ = some (.int .i64 x.id.n) ∧ w'.cell? ⟨b1, o1 + k * 6 + 2, none⟩ = some (.int .i64 x.id.c) ∧ w'.cell? ⟨b1, o1 + (k + 1) * 6, none⟩ = some (.int .i64 y.id.f) ∧ w'.cell? ⟨b1, o1 + (k + 1) * 6 + 1, none⟩ = some (.int .i64 y.id.n) ∧ w'.cell? ⟨b1, o1 + (k + 1) * 6 + 2, none⟩ = some (.int .i64 y.id.c)) (go_keep)
          (first | (go_at_call 143; refine (rless_any x.id y.id _).mono ?_; rintro e w1 ⟨rfl, hb1⟩; have hc1 := bcell (undrew hb1)))
        go_wp2
        go_ret
        exact ⟨ret_b (srt_no HX.out HY.out HE.out).symm, bTrans HB.out (undrew hb1)⟩
    · have hlt' : ¬ ((k : Int) + 1 < l.length) := by omega
      go_wp2
      go_ret
      refine ⟨ret_b ((srt_iff l).2 fun i x y hx hy => ht.out i x y ?_ hx hy).symm, hb⟩
      have := (List.getElem?_eq_some_iff.1 hy).1
      omega
theorem eqB_msg (a b : PMsg) : eqB a b = (sameD a.id b.id && eqB a.nt b.nt) := by
  obtain ⟨d, n⟩ := a
  obtain ⟨d', n'⟩ := b
  unfold eqB sameD
  rw [Bool.eq_iff_iff]; simp
set_option maxHeartbeats 1000000 in
theorem sameMsg_any (w : World) (v1 v2 : Value) (a b : PMsg) (h1 : MsgV anyB w v1 a) (h2 : MsgV anyB w v2 b) :
    Calls Tryd.prog 104 #[v1, v2] w fun e w' => e = .returned (.bool (eqB a b)) ∧ Below w.heap.size w w' := by
  obtain ⟨c1, rfl, h1⟩ := h1
  obtain ⟨c2, rfl, h2⟩ := h2
  obtain ⟨A1, d1, rfl, _⟩ := h1.form
  obtain ⟨A2, d2, rfl, _⟩ := h2.form
  have hgD := gD
  have HE : Hid (eqB a b = (sameD a.id b.id && eqB a.nt b.nt)) := eqB_msg _ _
  by_cases e : a.id = b.id
  · have e2 := sameD_yes e
    have E2 : Hid (sameD a.id b.id = true) := e2
    clear e
    go_enter Tryd.func104, Tryd.ntmps104
    go_wp2_with (go_at_call 139; refine (sameNote _ _ _ a.nt b.nt ⟨_, rfl, h1.below (by exact bAlloc (bAlloc (bRefl _) _) _)⟩ ⟨_, rfl, h2.below (by exact bAlloc (bAlloc (bRefl _) _) _)⟩).mono ?_; rintro e w' ⟨rfl, hb1⟩)
    go_ret
    exact ⟨ret_b (by rw [HE.out, E2.out]; simp), bTrans (bAlloc (bAlloc (bRefl _) _) _) hb1⟩
  · have e2 := sameD_no e
    have E2 : Hid (sameD a.id b.id = false) := e2
    clear e
    go_enter Tryd.func104, Tryd.ntmps104
    go_wp2
    go_ret
    exact ⟨ret_b (by rw [HE.out, E2.out]; rfl), bAlloc (bAlloc (bRefl _) _) _⟩
set_option maxHeartbeats 4000000 in
theorem equal_any (w : World) (v1 v2 : Value) (a b : List PMsg) (h1 : Msgs anyB anyB w v1 a) (h2 : Msgs anyB anyB w v2 b) :
    Calls Tryd.prog 103 #[v1, v2, .func (.func 104) #[] #[]] w fun e w' => e = .returned (.bool (eqB a b)) ∧ Below w.heap.size w w' := by
  obtain ⟨A1, c1, rfl, hl1⟩ := h1.form
  obtain ⟨A2, c2, rfl, hl2⟩ := h2.form
  by_cases hlen : a.length = b.length
  · have HL : Hid (a.length = b.length) := hlen
    have e1 := lt_eq hlen
    clear hlen
    go_enter Tryd.func103, Tryd.ntmps103
    go_wp2
    go_loopg [7, 8, 9, 17] a.length (fun g i7 i8 i9 i17 wr => ∃ k : Nat, g = a.length - k ∧ k ≤ a.length ∧ i17 = .int .i64 k ∧ Hid (a.take k = b.take k) ∧ Below w.heap.size w wr)
    case atStart => exact ⟨0, rfl, by omega, rfl, rfl, bRefl w⟩
    case round =>
      obtain ⟨k, rfl, hk, rfl, ht, hb⟩ := hrel
      by_cases hlt : k < a.length
      · obtain ⟨b1, o1, x, v1, rfl, hx, hz1, q1, q2, q3, q4, q5, q6, hv1⟩ := h1.cell hb hlt
        obtain ⟨b2, o2, y, v2, rfl, hy, hz2, s1, s2, s3, s4, s5, s6, hv2⟩ := h2.cell hb (k := k) (by have := HL.out; omega)
        obtain ⟨V1, n1, rfl, _⟩ := hv1.form
        obtain ⟨V2, n2, rfl, _⟩ := hv2.form
        have hlt2 : (k : Int) < b.length := by have := HL.out; omega
        have HX : Hid (a[k]? = some x) := hx
        have HY : Hid (b[k]? = some y) := hy
        have HB : Hid (Below w.heap.size w wr) := hb
        clear hx hy hb
        by_cases hxy : x = y
        · have e2 := eqB_yes hxy
          have HE : Hid (x = y) := hxy
          clear hxy
          go_wp2_with (go_at_call 104; refine (sameMsg_any _ _ _ x y ⟨_, rfl, hv1.below (by exact bAlloc (bAlloc (bRefl _) _) _)⟩ ⟨_, rfl, hv2.below (by exact bAlloc (bAlloc (bRefl _) _) _)⟩).mono ?_; rintro e w' ⟨rfl, hb1⟩)
          go_roundg (a.length - (k + 1))
          case measure => omega
          case rel => exact ⟨k + 1, rfl, by omega, by go_num, take_eq ht.out HX.out HY.out HE.out, bTrans HB.out (bTrans (bAlloc (bAlloc (bRefl _) _) _) hb1)⟩
        · have e2 := eqB_no hxy
          have HE : Hid (x ≠ y) := hxy
          clear hxy
          go_wp2_with (go_at_call 104; refine (sameMsg_any _ _ _ x y ⟨_, rfl, hv1.below (by exact bAlloc (bAlloc (bRefl _) _) _)⟩ ⟨_, rfl, hv2.below (by exact bAlloc (bAlloc (bRefl _) _) _)⟩).mono ?_; rintro e w' ⟨rfl, hb1⟩)
          go_ret
          exact ⟨ret_b (eqB_no (take_ne HX.out HY.out HE.out)).symm, bTrans HB.out (bTrans (bAlloc (bAlloc (bRefl _) _) _) hb1)⟩
      · go_wp2
        go_ret
        exact ⟨ret_b (eqB_yes (take_all HL.out hlt ht.out)).symm, hb⟩
  · have e1 := lt_ne hlen
    go_enter Tryd.func103, Tryd.ntmps103
    go_wp2
    go_ret
    exact ⟨ret_b (eqB_no (len_ne hlen)).symm, bRefl _⟩
theorem same_any (w : World) (v1 v2 : Value) (a b : List PMsg) (h1 : Msgs anyB anyB w v1 a) (h2 : Msgs anyB anyB w v2 b) :
    Calls Tryd.prog 63 #[v1, v2] w fun e w' => e = .returned (.bool (eqB a b)) ∧ Below w.heap.size w w' := by
  go_enter Tryd.func63, Tryd.ntmps63
  go_wp2_with (go_at_call 103; refine (equal_any _ _ _ a b h1 h2).mono ?_; rintro e w' ⟨rfl, hb1⟩)
  go_ret
  exact ⟨rfl, hb1⟩
end Go.Proofs.YtgdloonpemaijaaDoor
