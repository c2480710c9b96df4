/-
  What the functions of package sums, and the reference's, answer for every number: the plain functions of Num. No conditions.
-/
import Derived.Test.YtpcffhhednplaaaDoorNum
namespace Go.Proofs.YtpcffhhednplaaaDoor
open Go.RowKit

theorem ret_two {a b c d : Int} (h : a = c) (k : b = d) : Ending.returned (.tuple #[.int .i64 a, .int .i64 b]) = .returned (.tuple #[.int .i64 c, .int .i64 d]) := by rw [h, k]
theorem ret_one {a c : Int} {b d : Bool} (h : a = c) (k : b = d) : Ending.returned (.tuple #[.int .i64 a, .bool b]) = .returned (.tuple #[.int .i64 c, .bool d]) := by rw [h, k]

theorem truth_any (b : Bool) (w : World) : Calls Tryd.prog 64 #[.bool b] w fun e w' => e = .returned (.int .i64 (tr b)) ∧ w' = w := by
  cases b
  all_goals
    go_enter Tryd.func64, Tryd.ntmps64
    go_wp2
    go_ret
    exact ⟨rfl, rfl⟩
theorem rtruth_any (b : Bool) (w : World) : Calls Tryd.prog 38 #[.bool b] w fun e w' => e = .returned (.int .i64 (tr b)) ∧ w' = w := by
  cases b
  all_goals
    go_enter Tryd.func38, Tryd.ntmps38
    go_wp2
    go_ret
    exact ⟨rfl, rfl⟩

theorem divide_nought (op a : Int) (w : World) : Calls Tryd.prog 69 #[.int .i64 op, .int .i64 a, .int .i64 0] w fun e w' => e = .returned (.tuple #[.int .i64 0, .int .i64 3]) ∧ w' = w := by
  go_enter Tryd.func69, Tryd.ntmps69
  go_wp2
  go_ret2
  exact ⟨rfl, rfl⟩
theorem divide_div (a b : Int) (hb : b ≠ 0) (w : World) : Calls Tryd.prog 69 #[.int .i64 12, .int .i64 a, .int .i64 b] w fun e w' => e = .returned (.tuple #[.int .i64 (wrap64 (a.tdiv b)), .int .i64 0]) ∧ w' = w := by
  go_enter Tryd.func69, Tryd.ntmps69
  go_wp2
  go_ret2
  exact ⟨rfl, rfl⟩
theorem divide_mod (a b : Int) (hb : b ≠ 0) (w : World) : Calls Tryd.prog 69 #[.int .i64 13, .int .i64 a, .int .i64 b] w fun e w' => e = .returned (.tuple #[.int .i64 (a.tmod b), .int .i64 0]) ∧ w' = w := by
  go_enter Tryd.func69, Tryd.ntmps69
  go_wp2
  go_ret2
  exact ⟨rfl, rfl⟩
set_option maxHeartbeats 400000 in
theorem two_add (a b : Int) (w : World) : Calls Tryd.prog 63 #[.int .i64 9, .int .i64 a, .int .i64 b] w fun e w' => e = .returned (.tuple #[.int .i64 (tw 9 a b), .int .i64 (dn 9 b)]) ∧ w' = w := by
  go_enter Tryd.func63, Tryd.ntmps63
  go_wp2
  go_ret2
  exact ⟨ret_two rfl rfl, rfl⟩

set_option maxHeartbeats 400000 in
theorem two_sub (a b : Int) (w : World) : Calls Tryd.prog 63 #[.int .i64 10, .int .i64 a, .int .i64 b] w fun e w' => e = .returned (.tuple #[.int .i64 (tw 10 a b), .int .i64 (dn 10 b)]) ∧ w' = w := by
  go_enter Tryd.func63, Tryd.ntmps63
  go_wp2
  go_ret2
  exact ⟨ret_two rfl rfl, rfl⟩

set_option maxHeartbeats 400000 in
theorem two_mul (a b : Int) (w : World) : Calls Tryd.prog 63 #[.int .i64 11, .int .i64 a, .int .i64 b] w fun e w' => e = .returned (.tuple #[.int .i64 (tw 11 a b), .int .i64 (dn 11 b)]) ∧ w' = w := by
  go_enter Tryd.func63, Tryd.ntmps63
  go_wp2
  go_ret2
  exact ⟨ret_two rfl rfl, rfl⟩

set_option maxHeartbeats 400000 in
theorem two_div0 (a : Int) (w : World) : Calls Tryd.prog 63 #[.int .i64 12, .int .i64 a, .int .i64 0] w fun e w' => e = .returned (.tuple #[.int .i64 (tw 12 a 0), .int .i64 (dn 12 0)]) ∧ w' = w := by
  go_enter Tryd.func63, Tryd.ntmps63
  go_wp2_with (go_at_call 69; refine (divide_nought _ _ _).mono ?_; rintro e w' ⟨rfl, rfl⟩)
  go_ret2
  exact ⟨ret_two rfl rfl, rfl⟩

set_option maxHeartbeats 400000 in
theorem two_div (a b : Int) (hb : b ≠ 0) (w : World) : Calls Tryd.prog 63 #[.int .i64 12, .int .i64 a, .int .i64 b] w fun e w' => e = .returned (.tuple #[.int .i64 (tw 12 a b), .int .i64 (dn 12 b)]) ∧ w' = w := by
  go_enter Tryd.func63, Tryd.ntmps63
  go_wp2_with (go_at_call 69; refine (divide_div _ _ hb _).mono ?_; rintro e w' ⟨rfl, rfl⟩)
  go_ret2
  exact ⟨ret_two (tw_div hb).symm (dn_div hb).symm, rfl⟩

set_option maxHeartbeats 400000 in
theorem two_mod0 (a : Int) (w : World) : Calls Tryd.prog 63 #[.int .i64 13, .int .i64 a, .int .i64 0] w fun e w' => e = .returned (.tuple #[.int .i64 (tw 13 a 0), .int .i64 (dn 13 0)]) ∧ w' = w := by
  go_enter Tryd.func63, Tryd.ntmps63
  go_wp2_with (go_at_call 69; refine (divide_nought _ _ _).mono ?_; rintro e w' ⟨rfl, rfl⟩)
  go_ret2
  exact ⟨ret_two rfl rfl, rfl⟩

set_option maxHeartbeats 400000 in
theorem two_mod (a b : Int) (hb : b ≠ 0) (w : World) : Calls Tryd.prog 63 #[.int .i64 13, .int .i64 a, .int .i64 b] w fun e w' => e = .returned (.tuple #[.int .i64 (tw 13 a b), .int .i64 (dn 13 b)]) ∧ w' = w := by
  go_enter Tryd.func63, Tryd.ntmps63
  go_wp2_with (go_at_call 69; refine (divide_mod _ _ hb _).mono ?_; rintro e w' ⟨rfl, rfl⟩)
  go_ret2
  exact ⟨ret_two (tw_mod hb).symm (dn_mod hb).symm, rfl⟩

set_option maxHeartbeats 400000 in
theorem two_eq (a b : Int) (w : World) : Calls Tryd.prog 63 #[.int .i64 15, .int .i64 a, .int .i64 b] w fun e w' => e = .returned (.tuple #[.int .i64 (tw 15 a b), .int .i64 (dn 15 b)]) ∧ w' = w := by
  go_enter Tryd.func63, Tryd.ntmps63
  go_wp2_with (go_at_call 64; refine (truth_any _ _).mono ?_; rintro e w' ⟨rfl, rfl⟩)
  go_ret2
  exact ⟨ret_two rfl rfl, rfl⟩

set_option maxHeartbeats 400000 in
theorem two_less (a b : Int) (w : World) : Calls Tryd.prog 63 #[.int .i64 16, .int .i64 a, .int .i64 b] w fun e w' => e = .returned (.tuple #[.int .i64 (tw 16 a b), .int .i64 (dn 16 b)]) ∧ w' = w := by
  go_enter Tryd.func63, Tryd.ntmps63
  go_wp2_with (go_at_call 64; refine (truth_any _ _).mono ?_; rintro e w' ⟨rfl, rfl⟩)
  go_ret2
  exact ⟨ret_two rfl rfl, rfl⟩

set_option maxHeartbeats 400000 in
theorem two_and (a b : Int) (w : World) : Calls Tryd.prog 63 #[.int .i64 17, .int .i64 a, .int .i64 b] w fun e w' => e = .returned (.tuple #[.int .i64 (tw 17 a b), .int .i64 (dn 17 b)]) ∧ w' = w := by
  by_cases ha : a = 0 <;> by_cases hb : b = 0
  all_goals
    first | subst ha | skip
    first | subst hb | skip
    go_enter Tryd.func63, Tryd.ntmps63
    go_wp2_with (go_at_call 64; refine (truth_any _ _).mono ?_; rintro e w' ⟨rfl, rfl⟩)
    go_ret2
    exact ⟨ret_two (by rw [tw_and]; try exact congrArg tr (by simp [*])) rfl, rfl⟩

set_option maxHeartbeats 400000 in
theorem two_or (a b : Int) (w : World) : Calls Tryd.prog 63 #[.int .i64 18, .int .i64 a, .int .i64 b] w fun e w' => e = .returned (.tuple #[.int .i64 (tw 18 a b), .int .i64 (dn 18 b)]) ∧ w' = w := by
  by_cases ha : a = 0 <;> by_cases hb : b = 0
  all_goals
    first | subst ha | skip
    first | subst hb | skip
    go_enter Tryd.func63, Tryd.ntmps63
    go_wp2_with (go_at_call 64; refine (truth_any _ _).mono ?_; rintro e w' ⟨rfl, rfl⟩)
    go_ret2
    exact ⟨ret_two (by rw [tw_or]; try exact congrArg tr (by simp [*])) rfl, rfl⟩
set_option maxHeartbeats 400000 in
theorem rtwo_add (a b : Int) (w : World) : Calls Tryd.prog 30 #[.int .i64 9, .int .i64 a, .int .i64 b] w fun e w' => e = .returned (.tuple #[.int .i64 (tw 9 a b), .int .i64 (dn 9 b)]) ∧ w' = w := by
  go_enter Tryd.func30, Tryd.ntmps30
  go_wp2
  go_ret2
  exact ⟨ret_two rfl rfl, rfl⟩

set_option maxHeartbeats 400000 in
theorem rtwo_sub (a b : Int) (w : World) : Calls Tryd.prog 30 #[.int .i64 10, .int .i64 a, .int .i64 b] w fun e w' => e = .returned (.tuple #[.int .i64 (tw 10 a b), .int .i64 (dn 10 b)]) ∧ w' = w := by
  go_enter Tryd.func30, Tryd.ntmps30
  go_wp2
  go_ret2
  exact ⟨ret_two rfl rfl, rfl⟩

set_option maxHeartbeats 400000 in
theorem rtwo_mul (a b : Int) (w : World) : Calls Tryd.prog 30 #[.int .i64 11, .int .i64 a, .int .i64 b] w fun e w' => e = .returned (.tuple #[.int .i64 (tw 11 a b), .int .i64 (dn 11 b)]) ∧ w' = w := by
  go_enter Tryd.func30, Tryd.ntmps30
  go_wp2
  go_ret2
  exact ⟨ret_two rfl rfl, rfl⟩

set_option maxHeartbeats 400000 in
theorem rtwo_div0 (a : Int) (w : World) : Calls Tryd.prog 30 #[.int .i64 12, .int .i64 a, .int .i64 0] w fun e w' => e = .returned (.tuple #[.int .i64 (tw 12 a 0), .int .i64 (dn 12 0)]) ∧ w' = w := by
  go_enter Tryd.func30, Tryd.ntmps30
  go_wp2
  go_ret2
  exact ⟨ret_two rfl rfl, rfl⟩

set_option maxHeartbeats 400000 in
theorem rtwo_div1 (a : Int) (w : World) : Calls Tryd.prog 30 #[.int .i64 12, .int .i64 a, .int .i64 (-1)] w fun e w' => e = .returned (.tuple #[.int .i64 (tw 12 a (-1)), .int .i64 (dn 12 (-1))]) ∧ w' = w := by
  go_enter Tryd.func30, Tryd.ntmps30
  go_wp2
  go_ret2
  exact ⟨ret_two (by rw [tw_div (by omega)]; simp) (dn_div (by omega)).symm, rfl⟩

set_option maxHeartbeats 400000 in
theorem rtwo_div (a b : Int) (hb : b ≠ 0) (hb1 : b ≠ -1) (w : World) : Calls Tryd.prog 30 #[.int .i64 12, .int .i64 a, .int .i64 b] w fun e w' => e = .returned (.tuple #[.int .i64 (tw 12 a b), .int .i64 (dn 12 b)]) ∧ w' = w := by
  go_enter Tryd.func30, Tryd.ntmps30
  go_wp2
  go_ret2
  exact ⟨ret_two (tw_div hb).symm (dn_div hb).symm, rfl⟩

set_option maxHeartbeats 400000 in
theorem rtwo_mod0 (a : Int) (w : World) : Calls Tryd.prog 30 #[.int .i64 13, .int .i64 a, .int .i64 0] w fun e w' => e = .returned (.tuple #[.int .i64 (tw 13 a 0), .int .i64 (dn 13 0)]) ∧ w' = w := by
  go_enter Tryd.func30, Tryd.ntmps30
  go_wp2
  go_ret2
  exact ⟨ret_two rfl rfl, rfl⟩

set_option maxHeartbeats 400000 in
theorem rtwo_mod1 (a : Int) (w : World) : Calls Tryd.prog 30 #[.int .i64 13, .int .i64 a, .int .i64 (-1)] w fun e w' => e = .returned (.tuple #[.int .i64 (tw 13 a (-1)), .int .i64 (dn 13 (-1))]) ∧ w' = w := by
  go_enter Tryd.func30, Tryd.ntmps30
  go_wp2
  go_ret2
  exact ⟨ret_two (by rw [tw_mod (by omega)]; simp) (dn_mod (by omega)).symm, rfl⟩

set_option maxHeartbeats 400000 in
theorem rtwo_mod (a b : Int) (hb : b ≠ 0) (hb1 : b ≠ -1) (w : World) : Calls Tryd.prog 30 #[.int .i64 13, .int .i64 a, .int .i64 b] w fun e w' => e = .returned (.tuple #[.int .i64 (tw 13 a b), .int .i64 (dn 13 b)]) ∧ w' = w := by
  go_enter Tryd.func30, Tryd.ntmps30
  go_wp2
  go_ret2
  exact ⟨ret_two (tw_mod hb).symm (dn_mod hb).symm, rfl⟩

set_option maxHeartbeats 400000 in
theorem rtwo_eq (a b : Int) (w : World) : Calls Tryd.prog 30 #[.int .i64 15, .int .i64 a, .int .i64 b] w fun e w' => e = .returned (.tuple #[.int .i64 (tw 15 a b), .int .i64 (dn 15 b)]) ∧ w' = w := by
  go_enter Tryd.func30, Tryd.ntmps30
  go_wp2_with (go_at_call 38; refine (rtruth_any _ _).mono ?_; rintro e w' ⟨rfl, rfl⟩)
  go_ret2
  exact ⟨ret_two rfl rfl, rfl⟩

set_option maxHeartbeats 400000 in
theorem rtwo_less (a b : Int) (w : World) : Calls Tryd.prog 30 #[.int .i64 16, .int .i64 a, .int .i64 b] w fun e w' => e = .returned (.tuple #[.int .i64 (tw 16 a b), .int .i64 (dn 16 b)]) ∧ w' = w := by
  go_enter Tryd.func30, Tryd.ntmps30
  go_wp2_with (go_at_call 38; refine (rtruth_any _ _).mono ?_; rintro e w' ⟨rfl, rfl⟩)
  go_ret2
  exact ⟨ret_two rfl rfl, rfl⟩

set_option maxHeartbeats 400000 in
theorem rtwo_and (a b : Int) (w : World) : Calls Tryd.prog 30 #[.int .i64 17, .int .i64 a, .int .i64 b] w fun e w' => e = .returned (.tuple #[.int .i64 (tw 17 a b), .int .i64 (dn 17 b)]) ∧ w' = w := by
  by_cases ha : a = 0 <;> by_cases hb : b = 0
  all_goals
    first | subst ha | skip
    first | subst hb | skip
    go_enter Tryd.func30, Tryd.ntmps30
    go_wp2_with (go_at_call 38; refine (rtruth_any _ _).mono ?_; rintro e w' ⟨rfl, rfl⟩)
    go_ret2
    exact ⟨ret_two (by rw [tw_and]; try exact congrArg tr (by simp [*])) rfl, rfl⟩

set_option maxHeartbeats 400000 in
theorem rtwo_or (a b : Int) (w : World) : Calls Tryd.prog 30 #[.int .i64 18, .int .i64 a, .int .i64 b] w fun e w' => e = .returned (.tuple #[.int .i64 (tw 18 a b), .int .i64 (dn 18 b)]) ∧ w' = w := by
  by_cases ha : a = 0 <;> by_cases hb : b = 0
  all_goals
    first | subst ha | skip
    first | subst hb | skip
    go_enter Tryd.func30, Tryd.ntmps30
    go_wp2_with (go_at_call 38; refine (rtruth_any _ _).mono ?_; rintro e w' ⟨rfl, rfl⟩)
    go_ret2
    exact ⟨ret_two (by rw [tw_or]; try exact congrArg tr (by simp [*])) rfl, rfl⟩

set_option maxHeartbeats 400000 in
theorem two_else (op a b : Int) (h : op ≠ 9 ∧ op ≠ 10 ∧ op ≠ 11 ∧ op ≠ 12 ∧ op ≠ 13 ∧ op ≠ 15 ∧ op ≠ 16 ∧ op ≠ 17 ∧ op ≠ 18) (w : World) : Calls Tryd.prog 63 #[.int .i64 op, .int .i64 a, .int .i64 b] w fun e w' => e = .returned (.tuple #[.int .i64 (tw op a b), .int .i64 (dn op b)]) ∧ w' = w := by
  obtain ⟨h1, h2, h3, h4, h5, h6, h7, h8, h9⟩ := h
  have e1 : tw op a b = 0 := by simp [tw, *]
  have e2 : dn op b = 0 := by simp [dn, *]
  rw [e1, e2]
  go_enter Tryd.func63, Tryd.ntmps63
  go_wp2
  go_ret2
  exact ⟨rfl, rfl⟩
set_option maxHeartbeats 400000 in
theorem rtwo_else (op a b : Int) (h : op ≠ 9 ∧ op ≠ 10 ∧ op ≠ 11 ∧ op ≠ 12 ∧ op ≠ 13 ∧ op ≠ 15 ∧ op ≠ 16 ∧ op ≠ 17 ∧ op ≠ 18) (w : World) : Calls Tryd.prog 30 #[.int .i64 op, .int .i64 a, .int .i64 b] w fun e w' => e = .returned (.tuple #[.int .i64 (tw op a b), .int .i64 (dn op b)]) ∧ w' = w := by
  obtain ⟨h1, h2, h3, h4, h5, h6, h7, h8, h9⟩ := h
  have e1 : tw op a b = 0 := by simp [tw, *]
  have e2 : dn op b = 0 := by simp [dn, *]
  rw [e1, e2]
  go_enter Tryd.func30, Tryd.ntmps30
  go_wp2
  go_ret2
  exact ⟨rfl, rfl⟩

/-- 'Two', whatever the instruction and the numbers. -/
theorem two_any (op a b : Int) (w : World) : Calls Tryd.prog 63 #[.int .i64 op, .int .i64 a, .int .i64 b] w fun e w' => e = .returned (.tuple #[.int .i64 (tw op a b), .int .i64 (dn op b)]) ∧ w' = w := by
  by_cases h1 : op = 9
  · subst h1; exact two_add a b w
  by_cases h2 : op = 10
  · subst h2; exact two_sub a b w
  by_cases h3 : op = 11
  · subst h3; exact two_mul a b w
  by_cases h4 : op = 12
  · subst h4
    by_cases hb : b = 0
    · subst hb; exact two_div0 a w
    · exact two_div a b hb w
  by_cases h5 : op = 13
  · subst h5
    by_cases hb : b = 0
    · subst hb; exact two_mod0 a w
    · exact two_mod a b hb w
  by_cases h6 : op = 15
  · subst h6; exact two_eq a b w
  by_cases h7 : op = 16
  · subst h7; exact two_less a b w
  by_cases h8 : op = 17
  · subst h8; exact two_and a b w
  by_cases h9 : op = 18
  · subst h9; exact two_or a b w
  exact two_else op a b ⟨h1, h2, h3, h4, h5, h6, h7, h8, h9⟩ w
/-- The reference's 'Two' answers the same. -/
theorem rtwo_any (op a b : Int) (w : World) : Calls Tryd.prog 30 #[.int .i64 op, .int .i64 a, .int .i64 b] w fun e w' => e = .returned (.tuple #[.int .i64 (tw op a b), .int .i64 (dn op b)]) ∧ w' = w := by
  by_cases h1 : op = 9
  · subst h1; exact rtwo_add a b w
  by_cases h2 : op = 10
  · subst h2; exact rtwo_sub a b w
  by_cases h3 : op = 11
  · subst h3; exact rtwo_mul a b w
  by_cases h4 : op = 12
  · subst h4
    by_cases hb : b = 0
    · subst hb; exact rtwo_div0 a w
    · by_cases hb1 : b = -1
      · subst hb1; exact rtwo_div1 a w
      · exact rtwo_div a b hb hb1 w
  by_cases h5 : op = 13
  · subst h5
    by_cases hb : b = 0
    · subst hb; exact rtwo_mod0 a w
    · by_cases hb1 : b = -1
      · subst hb1; exact rtwo_mod1 a w
      · exact rtwo_mod a b hb hb1 w
  by_cases h6 : op = 15
  · subst h6; exact rtwo_eq a b w
  by_cases h7 : op = 16
  · subst h7; exact rtwo_less a b w
  by_cases h8 : op = 17
  · subst h8; exact rtwo_and a b w
  by_cases h9 : op = 18
  · subst h9; exact rtwo_or a b w
  exact rtwo_else op a b ⟨h1, h2, h3, h4, h5, h6, h7, h8, h9⟩ w

/-- 'One', whatever the instruction and the number. -/
theorem one_any (op a : Int) (w : World) : Calls Tryd.prog 54 #[.int .i64 op, .int .i64 a] w fun e w' => e = .returned (.tuple #[.int .i64 (on op a), .bool (ok op)]) ∧ w' = w := by
  by_cases h1 : op = 14
  · subst h1
    go_enter Tryd.func54, Tryd.ntmps54
    go_wp2
    go_ret2
    exact ⟨ret_one (by rw [on_neg]) rfl, rfl⟩
  by_cases h2 : op = 19
  · subst h2
    go_enter Tryd.func54, Tryd.ntmps54
    go_wp2_with (go_at_call 64; refine (truth_any _ _).mono ?_; rintro e w' ⟨rfl, rfl⟩)
    go_ret2
    exact ⟨ret_one rfl rfl, rfl⟩
  have e1 : on op a = 0 := by simp [on, *]
  have e2 : ok op = false := by simp [ok, *]
  rw [e1, e2]
  go_enter Tryd.func54, Tryd.ntmps54
  go_wp2
  go_ret2
  exact ⟨rfl, rfl⟩

/-- 'rOne', whatever the instruction and the number. -/
theorem rone_any (op a : Int) (w : World) : Calls Tryd.prog 29 #[.int .i64 op, .int .i64 a] w fun e w' => e = .returned (.tuple #[.int .i64 (on op a), .bool (ok op)]) ∧ w' = w := by
  by_cases h1 : op = 14
  · subst h1
    go_enter Tryd.func29, Tryd.ntmps29
    go_wp2
    go_ret2
    exact ⟨ret_one (by rw [on_neg]) rfl, rfl⟩
  by_cases h2 : op = 19
  · subst h2
    go_enter Tryd.func29, Tryd.ntmps29
    go_wp2_with (go_at_call 38; refine (rtruth_any _ _).mono ?_; rintro e w' ⟨rfl, rfl⟩)
    go_ret2
    exact ⟨ret_one rfl rfl, rfl⟩
  have e1 : on op a = 0 := by simp [on, *]
  have e2 : ok op = false := by simp [ok, *]
  rw [e1, e2]
  go_enter Tryd.func29, Tryd.ntmps29
  go_wp2
  go_ret2
  exact ⟨rfl, rfl⟩
end Go.Proofs.YtpcffhhednplaaaDoor
