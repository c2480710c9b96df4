/-
  Less, Before, Fault, and which kinds are of messages or actors; the reference's besides. No conditions.
-/
import Derived.Test.YtdgialhigibnlaaDoorSe
namespace Go.Proofs.YtdgialhigibnlaaDoor
open Go.RowKit
attribute [local go_sem ↓] Go.wp_at_zero Go.wp_at_succ eq6 eq10
theorem less_any (a b : PID) (w : World) : Calls Tryd.prog 13 #[dV a, dV b] w fun e w' => e = .returned (.bool (lessD a b)) ∧ Below w.heap.size w w' := by
  go_enter Tryd.func13, Tryd.ntmps13
  go_wp2_with (go_at_call 29; refine (compare_any a b _).mono ?_; rintro e w2 ⟨rfl, hb2⟩)
  go_ret
  exact ⟨rfl, bTrans (bAlloc (bAlloc (bRefl _) _) _) hb2⟩
set_option maxHeartbeats 4000000 in
set_option maxRecDepth 100000 in
theorem before_any (x y : PEv) (w : World) : Calls Tryd.prog 17 #[eV x, eV y] w fun e w' => e = .returned (.bool (befE x y)) ∧ Below w.heap.size w w' := by
  go_enter Tryd.func17, Tryd.ntmps17
  go_wp2_with fail
  have hA : ((w.alloc (.cells #[.int .i64 x.k, .int .i64 x.id.f, .int .i64 x.id.n, .int .i64 x.id.c, .int .i64 x.who] 25)).alloc (.cells #[.int .i64 y.k, .int .i64 y.id.f, .int .i64 y.id.n, .int .i64 y.id.c, .int .i64 y.who] 25)).heap[w.heap.size]? = some (.cells #[.int .i64 x.k, .int .i64 x.id.f, .int .i64 x.id.n, .int .i64 x.id.c, .int .i64 x.who] 25) := ((bAlloc (bRefl (w.alloc _)) _).block _ (by simp)).trans (heap_new _ _)
  have hB : ((w.alloc (.cells #[.int .i64 x.k, .int .i64 x.id.f, .int .i64 x.id.n, .int .i64 x.id.c, .int .i64 x.who] 25)).alloc (.cells #[.int .i64 y.k, .int .i64 y.id.f, .int .i64 y.id.n, .int .i64 y.id.c, .int .i64 y.who] 25)).heap[w.heap.size + 1]? = some (.cells #[.int .i64 y.k, .int .i64 y.id.f, .int .i64 y.id.n, .int .i64 y.id.c, .int .i64 y.who] 25) := heap_new2 (by simp)
  have HL : Hid (Below w.heap.size w ((w.alloc (.cells #[.int .i64 x.k, .int .i64 x.id.f, .int .i64 x.id.n, .int .i64 x.id.c, .int .i64 x.who] 25)).alloc (.cells #[.int .i64 y.k, .int .i64 y.id.f, .int .i64 y.id.n, .int .i64 y.id.c, .int .i64 y.who] 25))) := bAlloc (bAlloc (bRefl _) _) _
  have hs : w.heap.size + 1 < ((w.alloc (.cells #[.int .i64 x.k, .int .i64 x.id.f, .int .i64 x.id.n, .int .i64 x.id.c, .int .i64 x.who] 25)).alloc (.cells #[.int .i64 y.k, .int .i64 y.id.f, .int .i64 y.id.n, .int .i64 y.id.c, .int .i64 y.who] 25)).heap.size := by simp
  generalize ((w.alloc (.cells #[.int .i64 x.k, .int .i64 x.id.f, .int .i64 x.id.n, .int .i64 x.id.c, .int .i64 x.who] 25)).alloc (.cells #[.int .i64 y.k, .int .i64 y.id.f, .int .i64 y.id.n, .int .i64 y.id.c, .int .i64 y.who] 25)) = w1 at hA hB HL hs ⊢
  obtain ⟨p0, p1, p2, p3, p4⟩ := blk5 hA
  obtain ⟨q0, q1, q2, q3, q4⟩ := blk5 hB
  have hs0 : w.heap.size < w1.heap.size := by omega
  have hbb : Below w1.heap.size w1 w1 := bRefl w1
  clear hA hB
  go_region_held3 (fun w' => w'.cell? ⟨w.heap.size, 0, none⟩ = some (.int .i64 x.k) ∧ w'.cell? ⟨w.heap.size, 1, none⟩ = some (.int .i64 x.id.f) ∧ w'.cell? ⟨w.heap.size, 2, none⟩ = some (.int .i64 x.id.n) ∧ w'.cell? ⟨w.heap.size, 3, none⟩ = some (.int .i64 x.id.c) ∧ w'.cell? ⟨w.heap.size, 4, none⟩ = some (.int .i64 x.who) ∧ w'.cell? ⟨w.heap.size + 1, 0, none⟩ = some (.int .i64 y.k) ∧ w'.cell? ⟨w.heap.size + 1, 1, none⟩ = some (.int .i64 y.id.f) ∧ w'.cell? ⟨w.heap.size + 1, 2, none⟩ = some (.int .i64 y.id.n) ∧ w'.cell? ⟨w.heap.size + 1, 3, none⟩ = some (.int .i64 y.id.c) ∧ w'.cell? ⟨w.heap.size + 1, 4, none⟩ = some (.int .i64 y.who)) (go_keep)
    (first
      | (go_at_call 33; refine (cmp_b _ _ _).mono ?_; rintro e w2 ⟨rfl, hb2⟩; have hc2 := (by first | exact bcell (undrew hb2) | exact bcell hb2); replace hbb := (by first | exact bTrans hbb (undrew hb2) | exact bTrans hbb hb2); have hz2 := Nat.lt_of_lt_of_le hs0 hbb.size; have hz3 := Nat.lt_of_lt_of_le hs hbb.size)
      | (go_at_call 29; refine (compare_any x.id y.id _).mono ?_; rintro e w2 ⟨rfl, hb2⟩; have hc2 := (by first | exact bcell (undrew hb2) | exact bcell hb2); replace hbb := (by first | exact bTrans hbb (undrew hb2) | exact bTrans hbb hb2); have hz2 := Nat.lt_of_lt_of_le hs0 hbb.size; have hz3 := Nat.lt_of_lt_of_le hs hbb.size)
      | (go_at_call 32; refine (or_b _ _ _ _ _ (by exact heap_new2 (by simp))).mono ?_; rintro e w2 ⟨rfl, hb2⟩; have hc2 := bcell hb2; replace hbb := bTrans (bAlloc hbb _) hb2; have y0 := (hbb.cell (p := ⟨w.heap.size, 0, none⟩) hs0).trans p0; have y1 := (hbb.cell (p := ⟨w.heap.size, 1, none⟩) hs0).trans p1; have y2 := (hbb.cell (p := ⟨w.heap.size, 2, none⟩) hs0).trans p2; have y3 := (hbb.cell (p := ⟨w.heap.size, 3, none⟩) hs0).trans p3; have y4 := (hbb.cell (p := ⟨w.heap.size, 4, none⟩) hs0).trans p4; have x0 := (hbb.cell (p := ⟨w.heap.size + 1, 0, none⟩) hs).trans q0; have x1 := (hbb.cell (p := ⟨w.heap.size + 1, 1, none⟩) hs).trans q1; have x2 := (hbb.cell (p := ⟨w.heap.size + 1, 2, none⟩) hs).trans q2; have x3 := (hbb.cell (p := ⟨w.heap.size + 1, 3, none⟩) hs).trans q3; have x4 := (hbb.cell (p := ⟨w.heap.size + 1, 4, none⟩) hs).trans q4))
  all_goals
    go_wp2_with fail
    go_ret
    exact ⟨rfl, bTrans HL.out hbb⟩
theorem fault_any (x : PEv) (w : World) : Calls Tryd.prog 21 #[eV x] w fun e w' => e = .returned (.bool (faultE x)) ∧ Below w.heap.size w w' := by
  by_cases h1 : 2 ≤ x.k
  · by_cases h2 : x.k ≤ 5
    · go_enter Tryd.func21, Tryd.ntmps21
      go_wp2
      go_ret
      exact ⟨ret_b (by unfold faultE; exact (decide_eq_true (by omega)).symm), bAlloc (bRefl _) _⟩
    · go_enter Tryd.func21, Tryd.ntmps21
      go_wp2
      go_ret
      exact ⟨ret_b (by unfold faultE; exact (decide_eq_false (by omega)).symm), bAlloc (bRefl _) _⟩
  · go_enter Tryd.func21, Tryd.ntmps21
    go_wp2
    go_ret
    exact ⟨ret_b (by unfold faultE; exact (decide_eq_false (by omega)).symm), bAlloc (bRefl _) _⟩
theorem rfault_any (x : PEv) (w : World) : Calls Tryd.prog 22 #[eV x] w fun e w' => e = .returned (.bool (faultE x)) ∧ Below w.heap.size w w' := by
  by_cases h1 : 2 ≤ x.k
  · by_cases h2 : x.k ≤ 5
    · go_enter Tryd.func22, Tryd.ntmps22
      go_wp2
      go_ret
      exact ⟨ret_b (by unfold faultE; exact (decide_eq_true (by omega)).symm), bAlloc (bRefl _) _⟩
    · go_enter Tryd.func22, Tryd.ntmps22
      go_wp2
      go_ret
      exact ⟨ret_b (by unfold faultE; exact (decide_eq_false (by omega)).symm), bAlloc (bRefl _) _⟩
  · go_enter Tryd.func22, Tryd.ntmps22
    go_wp2
    go_ret
    exact ⟨ret_b (by unfold faultE; exact (decide_eq_false (by omega)).symm), bAlloc (bRefl _) _⟩
theorem rless_any (a b : PID) (w : World) : Calls Tryd.prog 14 #[dV a, dV b] w fun e w' => e = .returned (.bool (lessD a b)) ∧ Below w.heap.size w w' := by
  have HI : Hid (lessD a b = true ↔ a.f < b.f ∨ (a.f = b.f ∧ (a.n < b.n ∨ (a.n = b.n ∧ a.c < b.c)))) := lessD_iff
  have fin : ∀ (z : Bool), (z = true ↔ a.f < b.f ∨ (a.f = b.f ∧ (a.n < b.n ∨ (a.n = b.n ∧ a.c < b.c)))) → z = lessD a b := fun z hz => Bool.eq_iff_iff.2 (hz.trans HI.out.symm)
  have HF : Hid (∀ (z : Bool), (z = true ↔ a.f < b.f ∨ (a.f = b.f ∧ (a.n < b.n ∨ (a.n = b.n ∧ a.c < b.c)))) → z = lessD a b) := fin
  clear fin
  by_cases h1 : a.f = b.f
  · have e1 := ne_no h1
    have H1 : Hid (a.f = b.f) := h1
    clear h1
    by_cases h2 : a.n = b.n
    · have e2 := ne_no h2
      have H2 : Hid (a.n = b.n) := h2
      clear h2
      go_enter Tryd.func14, Tryd.ntmps14
      go_wp2
      go_ret
      exact ⟨ret_b (HF.out _ (by have := H1.out; have := H2.out; rw [decide_eq_true_eq]; omega)), bAlloc (bAlloc (bRefl _) _) _⟩
    · have e2 := ne_yes h2
      have H2 : Hid (a.n ≠ b.n) := h2
      clear h2
      go_enter Tryd.func14, Tryd.ntmps14
      go_wp2
      go_ret
      exact ⟨ret_b (HF.out _ (by have := H1.out; have := H2.out; rw [decide_eq_true_eq]; omega)), bAlloc (bAlloc (bRefl _) _) _⟩
  · have e1 := ne_yes h1
    have H1 : Hid (a.f ≠ b.f) := h1
    clear h1
    go_enter Tryd.func14, Tryd.ntmps14
    go_wp2
    go_ret
    exact ⟨ret_b (HF.out _ (by have := H1.out; rw [decide_eq_true_eq]; omega)), bAlloc (bAlloc (bRefl _) _) _⟩
set_option maxHeartbeats 1000000 in
theorem rbefore_any (x y : PEv) (w : World) : Calls Tryd.prog 18 #[eV x, eV y] w fun e w' => e = .returned (.bool (befE x y)) ∧ Below w.heap.size w w' := by
  have HF : Hid (∀ (z : Bool), (z = true ↔ x.k < y.k ∨ (x.k = y.k ∧ (lessD x.id y.id = true ∨ (x.id = y.id ∧ x.who < y.who)))) → z = befE x y) := fun z hz => Bool.eq_iff_iff.2 (hz.trans befE_iff.symm)
  have hgD := gD
  by_cases h1 : x.k = y.k
  · have e1 := ne_no h1
    have H1 : Hid (x.k = y.k) := h1
    clear h1
    by_cases h2 : x.id = y.id
    · have e2 : sameD ⟨x.id.f, x.id.n, x.id.c⟩ ⟨y.id.f, y.id.n, y.id.c⟩ = true := sameD_yes h2
      have H2 : Hid (x.id = y.id) := h2
      clear h2
      go_enter Tryd.func18, Tryd.ntmps18
      go_wp2_with (go_at_call 14; refine (rless_any x.id y.id _).mono ?_; rintro e w2 ⟨rfl, hb2⟩)
      go_ret
      exact ⟨ret_b (HF.out _ (by
        have a1 := H1.out
        have a2 := H2.out
        have a3 : ¬ lessD x.id y.id = true := by rw [a2, lessD_iff]; omega
        rw [decide_eq_true_eq]
        constructor
        · intro h; exact Or.inr ⟨a1, Or.inr ⟨a2, h⟩⟩
        · rintro (h | ⟨_, h | ⟨_, h⟩⟩)
          · omega
          · exact absurd h a3
          · exact h)), bAlloc (bAlloc (bRefl _) _) _⟩
    · have e2 : sameD ⟨x.id.f, x.id.n, x.id.c⟩ ⟨y.id.f, y.id.n, y.id.c⟩ = false := sameD_no h2
      have H2 : Hid (x.id ≠ y.id) := h2
      clear h2
      go_enter Tryd.func18, Tryd.ntmps18
      go_wp2_with (go_at_call 14; refine (rless_any x.id y.id _).mono ?_; rintro e w2 ⟨rfl, hb2⟩)
      go_ret
      exact ⟨ret_b (HF.out _ (by
        have a1 := H1.out
        have a2 := H2.out
        constructor
        · intro h; exact Or.inr ⟨a1, Or.inl h⟩
        · rintro (h | ⟨_, h | ⟨h, _⟩⟩)
          · omega
          · exact h
          · exact absurd h a2)), bTrans (bAlloc (bAlloc (bRefl _) _) _) hb2⟩
  · have e1 := ne_yes h1
    have H1 : Hid (x.k ≠ y.k) := h1
    clear h1
    go_enter Tryd.func18, Tryd.ntmps18
    go_wp2_with (go_at_call 14; refine (rless_any x.id y.id _).mono ?_; rintro e w2 ⟨rfl, hb2⟩)
    go_ret
    exact ⟨ret_b (HF.out _ (by have := H1.out; rw [decide_eq_true_eq]; constructor; (· intro h; exact Or.inl h); (· rintro (h | ⟨h, _⟩); exact h; exact absurd h this))), bAlloc (bAlloc (bRefl _) _) _⟩
theorem ofm_any (k : Int) (w : World) : Calls Tryd.prog 34 #[.int .i64 k] w fun e w' => e = .returned (.bool (msgK k)) ∧ w' = w := by
  by_cases h1 : 1 ≤ k
  · by_cases h2 : k ≤ 3
    · go_enter Tryd.func34, Tryd.ntmps34
      go_wp2
      go_ret
      exact ⟨ret_b (by unfold msgK; exact (decide_eq_true (by omega)).symm), rfl⟩
    · go_enter Tryd.func34, Tryd.ntmps34
      go_wp2
      go_ret
      exact ⟨ret_b (by unfold msgK; exact (decide_eq_false (by omega)).symm), rfl⟩
  · go_enter Tryd.func34, Tryd.ntmps34
    go_wp2
    go_ret
    exact ⟨ret_b (by unfold msgK; exact (decide_eq_false (by omega)).symm), rfl⟩
theorem ofa_any (k : Int) (w : World) : Calls Tryd.prog 35 #[.int .i64 k] w fun e w' => e = .returned (.bool (actK k)) ∧ w' = w := by
  by_cases h1 : k = 4
  · subst h1
    go_enter Tryd.func35, Tryd.ntmps35
    go_wp2
    go_ret
    exact ⟨ret_b (by decide), rfl⟩
  · by_cases h2 : k = 5
    · subst h2
      go_enter Tryd.func35, Tryd.ntmps35
      go_wp2
      go_ret
      exact ⟨ret_b (by decide), rfl⟩
    · have e1 : (k == 4) = false := by simp [h1]
      have e2 : (k == 5) = false := by simp [h2]
      have E : Hid (actK k = false) := by show _ = _; unfold actK; simp [h1, h2]
      clear h1 h2
      go_enter Tryd.func35, Tryd.ntmps35
      go_wp2
      go_ret
      exact ⟨ret_b (by rw [E.out]), rfl⟩
end Go.Proofs.YtdgialhigibnlaaDoor
