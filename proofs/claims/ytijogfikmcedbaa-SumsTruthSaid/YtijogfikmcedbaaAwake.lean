/-
  The examples that the document fixes hold: the law's own 'awake' answers true. No conditions.
-/
import Derived.Test.YtijogfikmcedbaaSums
namespace Go.Proofs.Ytijogfikmcedbaa
open Go.RowKit

theorem aw1 : tw 12 7 (-2) = -3 := by rw [tw_div (by omega), wrap_in (by decide)]; rfl
theorem aw2 : tw 13 7 0 = 0 := rfl
theorem aw3 : tw 12 (-9223372036854775808) (-1) = -9223372036854775808 := by rw [tw_div (by omega)]; simp [wrap64]
theorem aw4 : dn 12 (-2) = 0 := rfl
theorem aw5 : dn 13 0 = 3 := rfl
theorem aw6 : dn 12 (-1) = 0 := rfl
theorem aw7 : on 19 0 = 1 := rfl
theorem aw8 : ok 19 = true := rfl
theorem aw9 : ok 9 = false := rfl
theorem tr1 : tr true = 1 := rfl
theorem tr0 : tr false = 0 := rfl

set_option maxHeartbeats 1000000 in
theorem awake_true (w : World) : Calls Try.prog 11 #[] w fun e w' => e = .returned (.bool true) ∧ w' = w := by
  have a1 := aw1
  have a2 := aw2
  have a3 := aw3
  have a4 := aw4
  have a5 := aw5
  have a6 := aw6
  have a7 := aw7
  have a8 := aw8
  have a9 := aw9
  have t1 := tr1
  have t0 := tr0
  go_enter Try.func11, Try.ntmps11
  go_wp2_with (first
    | (go_at_call 7; refine (two_any _ _ _ _).mono ?_; rintro e w' ⟨rfl, rfl⟩)
    | (go_at_call 9; refine (one_any _ _ _).mono ?_; rintro e w' ⟨rfl, rfl⟩)
    | (go_at_call 12; refine (truth_any _ _).mono ?_; rintro e w' ⟨rfl, rfl⟩))
  go_ret
  exact ⟨rfl, rfl⟩
end Go.Proofs.Ytijogfikmcedbaa
