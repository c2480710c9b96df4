/-
  The fifth law of chapter 7. Condition: what it reads is there.
-/
import Derived.Test.YtdgialhigibnlaaDoorIa
namespace Go.Proofs.YtdgialhigibnlaaDoor
open Go.RowKit
attribute [local go_sem ↓] Go.wp_at_zero Go.wp_at_succ
theorem wrapN {a n : Int} (h : 0 < n) : -n < a.tmod n ∧ a.tmod n < n := by
  have h1 := Int.tmod_lt_of_pos a h
  have h3 : -n < a.tmod n := by
    have := Int.tmod_lt_of_pos (-a) h
    rw [Int.neg_tmod] at this
    omega
  exact ⟨h3, h1⟩
theorem bef_lt {x y : PEv} (h : x.k < y.k) : befE x y = true := befE_iff.2 (Or.inl h)
theorem bef_gt {x y : PEv} (h : y.k < x.k) : befE x y = false := by
  rw [Bool.eq_false_iff]
  intro e
  rcases befE_iff.1 e with h' | ⟨h', _⟩ <;> omega
theorem bef_id {k : Int} {a b : PID} : befE ⟨k, a, 0⟩ ⟨k, b, 0⟩ = lessD a b := by
  rw [Bool.eq_iff_iff, befE_iff]
  constructor
  · rintro (h | ⟨_, h | ⟨_, h⟩⟩)
    · have h' : k < k := h; omega
    · exact h
    · have h' : (0 : Int) < 0 := h; omega
  · intro h; exact Or.inr ⟨rfl, Or.inl h⟩
theorem bef_who {k m n : Int} : befE ⟨k, id0, m⟩ ⟨k, id0, n⟩ = decide (m < n) := by
  have h0 : ¬ lessD id0 id0 = true := by decide
  rw [Bool.eq_iff_iff, befE_iff, decide_eq_true_eq]
  constructor
  · rintro (h | ⟨_, h | ⟨_, h⟩⟩)
    · have h' : k < k := h; omega
    · exact absurd h h0
    · exact h
  · intro h; exact Or.inr ⟨rfl, Or.inr ⟨rfl, h⟩⟩
set_option maxHeartbeats 4000000 in
set_option maxRecDepth 100000 in
theorem kinds_any (w : World) (he : Env w) (a b : Int) (x y : PID) (m n : Int) :
    Calls Tryd.prog 7 #[.int .i64 a, .int .i64 b, dV x, dV y, .int .i64 m, .int .i64 n] w fun e w' => e = .returned (.bool true) ∧ Below w.heap.size w w' := by
  have HE : Hid (Env w) := he
  obtain ⟨a1, a2⟩ := wrapN (a := a) (n := 5) (by decide)
  obtain ⟨b1, b2⟩ := wrapN (a := b) (n := 5) (by decide)
  obtain ⟨J, hJ⟩ : ∃ J, 1 + a.tmod 5 % 5 = J := ⟨_, rfl⟩
  obtain ⟨K, hK⟩ : ∃ K, 1 + b.tmod 5 % 5 = K := ⟨_, rfl⟩
  have j1 : 1 ≤ J := by omega
  have j2 : J ≤ 5 := by omega
  have k1 : 1 ≤ K := by omega
  have k2 : K ≤ 5 := by omega
  clear he
  go_enter Tryd.func7, Tryd.ntmps7
  go_wp2_with fail
  refine (less_any x y _).mono ?_
  rintro e w2 ⟨rfl, hb2⟩
  have HB2 : Hid (Below w.heap.size w w2) := bTrans (bAlloc (bAlloc (bAlloc (bAlloc (bRefl w) _) _) _) _) hb2
  have kx : w2.heap[w.heap.size]? = some (.cells #[.int .i64 x.f, .int .i64 x.n, .int .i64 x.c] 23) := (hb2.block _ (by simp; omega)).trans ((Below.block (bAlloc (bAlloc (bAlloc (bRefl (w.alloc _)) _) _) _) _ (by simp)).trans (heap_new _ _))
  have ky : w2.heap[w.heap.size + 1]? = some (.cells #[.int .i64 y.f, .int .i64 y.n, .int .i64 y.c] 23) := (hb2.block _ (by simp)).trans ((Below.block (bAlloc (bAlloc (bRefl ((w.alloc _).alloc _)) _) _) _ (by simp)).trans (heap_new2 (by simp)))
  have ke : w2.heap[w.heap.size + 1 + 1]? = some (.cells #[.int .i64 J, .int .i64 0, .int .i64 0, .int .i64 0, .int .i64 0] 25) := (hb2.block _ (by simp)).trans ((Below.block (bAlloc (bRefl (((w.alloc _).alloc _).alloc _)) _) _ (by simp)).trans (heap_new2 (by simp)))
  have kf : w2.heap[w.heap.size + 1 + 1 + 1]? = some (.cells #[.int .i64 K, .int .i64 0, .int .i64 0, .int .i64 0, .int .i64 0] 25) := (hb2.block _ (by simp)).trans (heap_new2 (by simp))
  obtain ⟨x0, x1, x2⟩ := blk3 kx
  obtain ⟨y0, y1, y2⟩ := blk3 ky
  obtain ⟨e0, e1, e2, e3, e4⟩ := blk5 ke
  obtain ⟨f0, f1, f2, f3, f4⟩ := blk5 kf
  have ge := Lib.frozen_of_heap ke
  have gf := Lib.frozen_of_heap kf
  have ge1 := ge 1
  have ge2 := ge 2
  have ge3 := ge 3
  have ge4 := ge 4
  have gf1 := gf 1
  have gf2 := gf 2
  have gf3 := gf 3
  have gf4 := gf 4
  clear hb2 kx ky ke kf ge gf
  by_cases hj : J ≤ 3
  · by_cases hk : K ≤ 3
    · by_cases h1 : J < K
      · have h2 : (J == K) = false := by simp; omega
        have hbe : befE ⟨J, x, 0⟩ ⟨K, y, 0⟩ = true := bef_lt h1
        go_wp2_with fail
        refine (before_any ⟨J, x, 0⟩ ⟨K, y, 0⟩ _).mono ?_
        rw [hbe]
        rintro e w3 ⟨rfl, hb3⟩
        have HB3 : Hid (Below w.heap.size w w3) := bTrans (((((((HB2.out).setCell (p := ⟨w.heap.size + 1 + 1, 1, none⟩) (show w.heap.size ≤ w.heap.size + 1 + 1 by omega) _).setCell (p := ⟨w.heap.size + 1 + 1, 2, none⟩) (show w.heap.size ≤ w.heap.size + 1 + 1 by omega) _).setCell (p := ⟨w.heap.size + 1 + 1, 3, none⟩) (show w.heap.size ≤ w.heap.size + 1 + 1 by omega) _).setCell (p := ⟨w.heap.size + 1 + 1 + 1, 1, none⟩) (show w.heap.size ≤ w.heap.size + 1 + 1 + 1 by omega) _).setCell (p := ⟨w.heap.size + 1 + 1 + 1, 2, none⟩) (show w.heap.size ≤ w.heap.size + 1 + 1 + 1 by omega) _).setCell (p := ⟨w.heap.size + 1 + 1 + 1, 3, none⟩) (show w.heap.size ≤ w.heap.size + 1 + 1 + 1 by omega) _) hb3
        clear hb3
        go_wp2_with (go_at_call 8; refine (awake_any _ (HE.out.below HB3.out)).mono ?_; rintro e w9 ⟨rfl, hb9⟩)
        go_ret
        exact ⟨rfl, bTrans HB3.out hb9⟩
      · by_cases h3 : J = K
        · subst h3
          have h2 : (J == J) = true := by simp
          have hbe : befE ⟨J, x, 0⟩ ⟨J, y, 0⟩ = lessD x y := bef_id
          go_wp2_with fail
          refine (before_any ⟨J, x, 0⟩ ⟨J, y, 0⟩ _).mono ?_
          rw [hbe]
          rintro e w3 ⟨rfl, hb3⟩
          have HB3 : Hid (Below w.heap.size w w3) := bTrans (((((((HB2.out).setCell (p := ⟨w.heap.size + 1 + 1, 1, none⟩) (show w.heap.size ≤ w.heap.size + 1 + 1 by omega) _).setCell (p := ⟨w.heap.size + 1 + 1, 2, none⟩) (show w.heap.size ≤ w.heap.size + 1 + 1 by omega) _).setCell (p := ⟨w.heap.size + 1 + 1, 3, none⟩) (show w.heap.size ≤ w.heap.size + 1 + 1 by omega) _).setCell (p := ⟨w.heap.size + 1 + 1 + 1, 1, none⟩) (show w.heap.size ≤ w.heap.size + 1 + 1 + 1 by omega) _).setCell (p := ⟨w.heap.size + 1 + 1 + 1, 2, none⟩) (show w.heap.size ≤ w.heap.size + 1 + 1 + 1 by omega) _).setCell (p := ⟨w.heap.size + 1 + 1 + 1, 3, none⟩) (show w.heap.size ≤ w.heap.size + 1 + 1 + 1 by omega) _) hb3
          clear hb3
          go_wp2_with (go_at_call 8; refine (awake_any _ (HE.out.below HB3.out)).mono ?_; rintro e w9 ⟨rfl, hb9⟩)
          go_ret
          exact ⟨rfl, bTrans HB3.out hb9⟩
        · have h2 : (J == K) = false := by simp [h3]
          have h4 : decide (J < K) = false := by simp; omega
          have hbe : befE ⟨J, x, 0⟩ ⟨K, y, 0⟩ = false := bef_gt (by show K < J; omega)
          go_wp2_with fail
          refine (before_any ⟨J, x, 0⟩ ⟨K, y, 0⟩ _).mono ?_
          rw [hbe]
          rintro e w3 ⟨rfl, hb3⟩
          have HB3 : Hid (Below w.heap.size w w3) := bTrans (((((((HB2.out).setCell (p := ⟨w.heap.size + 1 + 1, 1, none⟩) (show w.heap.size ≤ w.heap.size + 1 + 1 by omega) _).setCell (p := ⟨w.heap.size + 1 + 1, 2, none⟩) (show w.heap.size ≤ w.heap.size + 1 + 1 by omega) _).setCell (p := ⟨w.heap.size + 1 + 1, 3, none⟩) (show w.heap.size ≤ w.heap.size + 1 + 1 by omega) _).setCell (p := ⟨w.heap.size + 1 + 1 + 1, 1, none⟩) (show w.heap.size ≤ w.heap.size + 1 + 1 + 1 by omega) _).setCell (p := ⟨w.heap.size + 1 + 1 + 1, 2, none⟩) (show w.heap.size ≤ w.heap.size + 1 + 1 + 1 by omega) _).setCell (p := ⟨w.heap.size + 1 + 1 + 1, 3, none⟩) (show w.heap.size ≤ w.heap.size + 1 + 1 + 1 by omega) _) hb3
          clear hb3
          go_wp2_with (go_at_call 8; refine (awake_any _ (HE.out.below HB3.out)).mono ?_; rintro e w9 ⟨rfl, hb9⟩)
          go_ret
          exact ⟨rfl, bTrans HB3.out hb9⟩
    · have h1 : J < K := by omega
      have h2 : (J == K) = false := by simp; omega
      have hbe : befE ⟨J, x, 0⟩ ⟨K, id0, n⟩ = true := bef_lt h1
      go_wp2_with fail
      refine (before_any ⟨J, x, 0⟩ ⟨K, id0, n⟩ _).mono ?_
      rw [hbe]
      rintro e w3 ⟨rfl, hb3⟩
      have HB3 : Hid (Below w.heap.size w w3) := bTrans (((((HB2.out).setCell (p := ⟨w.heap.size + 1 + 1, 1, none⟩) (show w.heap.size ≤ w.heap.size + 1 + 1 by omega) _).setCell (p := ⟨w.heap.size + 1 + 1, 2, none⟩) (show w.heap.size ≤ w.heap.size + 1 + 1 by omega) _).setCell (p := ⟨w.heap.size + 1 + 1, 3, none⟩) (show w.heap.size ≤ w.heap.size + 1 + 1 by omega) _).setCell (p := ⟨w.heap.size + 1 + 1 + 1, 4, none⟩) (show w.heap.size ≤ w.heap.size + 1 + 1 + 1 by omega) _) hb3
      clear hb3
      go_wp2_with (go_at_call 8; refine (awake_any _ (HE.out.below HB3.out)).mono ?_; rintro e w9 ⟨rfl, hb9⟩)
      go_ret
      exact ⟨rfl, bTrans HB3.out hb9⟩
  · by_cases hk : K ≤ 3
    · have h1 : decide (J < K) = false := by simp; omega
      have h2 : (J == K) = false := by simp; omega
      have hbe : befE ⟨J, id0, m⟩ ⟨K, y, 0⟩ = false := bef_gt (by show K < J; omega)
      go_wp2_with fail
      refine (before_any ⟨J, id0, m⟩ ⟨K, y, 0⟩ _).mono ?_
      rw [hbe]
      rintro e w3 ⟨rfl, hb3⟩
      have HB3 : Hid (Below w.heap.size w w3) := bTrans (((((HB2.out).setCell (p := ⟨w.heap.size + 1 + 1, 4, none⟩) (show w.heap.size ≤ w.heap.size + 1 + 1 by omega) _).setCell (p := ⟨w.heap.size + 1 + 1 + 1, 1, none⟩) (show w.heap.size ≤ w.heap.size + 1 + 1 + 1 by omega) _).setCell (p := ⟨w.heap.size + 1 + 1 + 1, 2, none⟩) (show w.heap.size ≤ w.heap.size + 1 + 1 + 1 by omega) _).setCell (p := ⟨w.heap.size + 1 + 1 + 1, 3, none⟩) (show w.heap.size ≤ w.heap.size + 1 + 1 + 1 by omega) _) hb3
      clear hb3
      go_wp2_with (go_at_call 8; refine (awake_any _ (HE.out.below HB3.out)).mono ?_; rintro e w9 ⟨rfl, hb9⟩)
      go_ret
      exact ⟨rfl, bTrans HB3.out hb9⟩
    · by_cases h1 : J < K
      · have h2 : (J == K) = false := by simp; omega
        have hbe : befE ⟨J, id0, m⟩ ⟨K, id0, n⟩ = true := bef_lt h1
        go_wp2_with fail
        refine (before_any ⟨J, id0, m⟩ ⟨K, id0, n⟩ _).mono ?_
        rw [hbe]
        rintro e w3 ⟨rfl, hb3⟩
        have HB3 : Hid (Below w.heap.size w w3) := bTrans (((HB2.out).setCell (p := ⟨w.heap.size + 1 + 1, 4, none⟩) (show w.heap.size ≤ w.heap.size + 1 + 1 by omega) _).setCell (p := ⟨w.heap.size + 1 + 1 + 1, 4, none⟩) (show w.heap.size ≤ w.heap.size + 1 + 1 + 1 by omega) _) hb3
        clear hb3
        go_wp2_with (go_at_call 8; refine (awake_any _ (HE.out.below HB3.out)).mono ?_; rintro e w9 ⟨rfl, hb9⟩)
        go_ret
        exact ⟨rfl, bTrans HB3.out hb9⟩
      · by_cases h3 : J = K
        · subst h3
          have h2 : (J == J) = true := by simp
          have hbe : befE ⟨J, id0, m⟩ ⟨J, id0, n⟩ = decide (m < n) := bef_who
          go_wp2_with fail
          refine (before_any ⟨J, id0, m⟩ ⟨J, id0, n⟩ _).mono ?_
          rw [hbe]
          rintro e w3 ⟨rfl, hb3⟩
          have HB3 : Hid (Below w.heap.size w w3) := bTrans (((HB2.out).setCell (p := ⟨w.heap.size + 1 + 1, 4, none⟩) (show w.heap.size ≤ w.heap.size + 1 + 1 by omega) _).setCell (p := ⟨w.heap.size + 1 + 1 + 1, 4, none⟩) (show w.heap.size ≤ w.heap.size + 1 + 1 + 1 by omega) _) hb3
          clear hb3
          go_wp2_with (go_at_call 8; refine (awake_any _ (HE.out.below HB3.out)).mono ?_; rintro e w9 ⟨rfl, hb9⟩)
          go_ret
          exact ⟨rfl, bTrans HB3.out hb9⟩
        · have h4 : decide (J < K) = false := by simp; omega
          have h2 : (J == K) = false := by simp [h3]
          have hbe : befE ⟨J, id0, m⟩ ⟨K, id0, n⟩ = false := bef_gt (by show K < J; omega)
          go_wp2_with fail
          refine (before_any ⟨J, id0, m⟩ ⟨K, id0, n⟩ _).mono ?_
          rw [hbe]
          rintro e w3 ⟨rfl, hb3⟩
          have HB3 : Hid (Below w.heap.size w w3) := bTrans (((HB2.out).setCell (p := ⟨w.heap.size + 1 + 1, 4, none⟩) (show w.heap.size ≤ w.heap.size + 1 + 1 by omega) _).setCell (p := ⟨w.heap.size + 1 + 1 + 1, 4, none⟩) (show w.heap.size ≤ w.heap.size + 1 + 1 + 1 by omega) _) hb3
          clear hb3
          go_wp2_with (go_at_call 8; refine (awake_any _ (HE.out.below HB3.out)).mono ?_; rintro e w9 ⟨rfl, hb9⟩)
          go_ret
          exact ⟨rfl, bTrans HB3.out hb9⟩
end Go.Proofs.YtdgialhigibnlaaDoor
