/-
  What the reference's SameNotes answers of two lists of notes: whether they are one. No further conditions.
-/
import Derived.Test.YtlpeiiejkpkpjaaDoorPrg
import Derived.Test.YtlpeiiejkpkpjaaDoorCopy
namespace Go.Proofs.YtlpeiiejkpkpjaaDoor
open Go.RowKit
attribute [local go_sem ↓] Go.wp_at_zero Go.wp_at_succ

set_option maxHeartbeats 4000000 in
theorem rSameNotes (w : World) (v1 v2 : Value) (a b : List PNte) (h1 : Ntes anyB anyB w v1 a) (h2 : Ntes anyB anyB w v2 b) :
    Calls Tryd.prog 32 #[v1, v2] w fun e w' => e = .returned (.bool (eqB a b)) ∧ Below w.heap.size w w' := by
  obtain ⟨A1, c1, rfl, hl1⟩ := h1.form
  obtain ⟨A2, c2, rfl, hl2⟩ := h2.form
  by_cases hlen : a.length = b.length
  · have HL : Hid (a.length = b.length) := hlen
    have e1 := lt_eq hlen
    clear hlen
    go_enter Tryd.func32, Tryd.ntmps32
    go_wp2
    go_loopg [5] a.length (fun g i5 wr => ∃ k : Nat, g = a.length - k ∧ k ≤ a.length ∧ i5 = .int .i64 k ∧ Hid (a.take k = b.take k) ∧ Below w.heap.size w wr)
    case atStart => exact ⟨0, rfl, by omega, rfl, rfl, bRefl w⟩
    case round =>
      obtain ⟨k, rfl, hk, rfl, ht, hb⟩ := hrel
      by_cases hlt : k < a.length
      · obtain ⟨b1, o1, x, v1, rfl, hx, hz1, q1, q2, q3, hv1⟩ := h1.cell hb hlt
        obtain ⟨b2, o2, y, v2, rfl, hy, hz2, s1, s2, s3, hv2⟩ := h2.cell hb (k := k) (by have := HL.out; omega)
        obtain ⟨V1, n1, rfl, _⟩ := hv1.form
        obtain ⟨V2, n2, rfl, _⟩ := hv2.form
        have hlt2 : (k : Int) < b.length := by have := HL.out; omega
        have HX : Hid (a[k]? = some x) := hx
        have HY : Hid (b[k]? = some y) := hy
        clear hx hy
        by_cases hxy : x = y
        · have e2 := eqB_yes hxy
          have HE : Hid (x = y) := hxy
          clear hxy
          go_wp2
          go_region_held3 (fun w' => w'.cell? ⟨b1, o1 + k * 3, none⟩ = some (.int .i64 x.to) ∧ w'.cell? ⟨b1, o1 + k * 3 + 1, none⟩ = some (.int .i64 x.hd) ∧ w'.cell? ⟨b1, o1 + k * 3 + 2, none⟩ = some (.slice V1 x.args.length n1) ∧ w'.cell? ⟨b2, o2 + k * 3, none⟩ = some (.int .i64 y.to) ∧ w'.cell? ⟨b2, o2 + k * 3 + 1, none⟩ = some (.int .i64 y.hd) ∧ w'.cell? ⟨b2, o2 + k * 3 + 2, none⟩ = some (.slice V2 y.args.length n2)) (go_keep)
            (first | (go_at_call 47; refine (rSameNote _ _ _ x y ⟨_, rfl, (hv1.below (by exact (bRefl _).drew)).any⟩ ⟨_, rfl, (hv2.below (by exact (bRefl _).drew)).any⟩).mono ?_; rintro e w1 ⟨rfl, hb1⟩; have hc1 := bcell (undrew hb1)))
          go_wp2
          go_roundg (a.length - (k + 1))
          case measure => omega
          case rel => exact ⟨k + 1, rfl, by omega, by go_num, take_eq ht.out HX.out HY.out HE.out, bTrans hb (undrew hb1)⟩
        · have e2 := eqB_no hxy
          have HE : Hid (x ≠ y) := hxy
          clear hxy
          go_wp2
          go_region_held3 (fun w' => w'.cell? ⟨b1, o1 + k * 3, none⟩ = some (.int .i64 x.to) ∧ w'.cell? ⟨b1, o1 + k * 3 + 1, none⟩ = some (.int .i64 x.hd) ∧ w'.cell? ⟨b1, o1 + k * 3 + 2, none⟩ = some (.slice V1 x.args.length n1) ∧ w'.cell? ⟨b2, o2 + k * 3, none⟩ = some (.int .i64 y.to) ∧ w'.cell? ⟨b2, o2 + k * 3 + 1, none⟩ = some (.int .i64 y.hd) ∧ w'.cell? ⟨b2, o2 + k * 3 + 2, none⟩ = some (.slice V2 y.args.length n2)) (go_keep)
            (first | (go_at_call 47; refine (rSameNote _ _ _ x y ⟨_, rfl, (hv1.below (by exact (bRefl _).drew)).any⟩ ⟨_, rfl, (hv2.below (by exact (bRefl _).drew)).any⟩).mono ?_; rintro e w1 ⟨rfl, hb1⟩; have hc1 := bcell (undrew hb1)))
          go_wp2
          go_ret
          exact ⟨ret_b (eqB_no (take_ne HX.out HY.out HE.out)).symm, bTrans hb (undrew hb1)⟩
      · go_wp2
        go_ret
        exact ⟨ret_b (eqB_yes (take_all HL.out hlt ht.out)).symm, hb⟩
  · have e1 := lt_ne hlen
    go_enter Tryd.func32, Tryd.ntmps32
    go_wp2
    go_ret
    exact ⟨ret_b (eqB_no (len_ne hlen)).symm, bRefl _⟩
end Go.Proofs.YtlpeiiejkpkpjaaDoor
