/-
  What ProgLimits answers of any two numbers: true; and nothing old has turned. Condition: the table of the instructions is in the world.
-/
import Derived.Test.YtlpeiiejkpkpjaaDoorL0
import Derived.Test.YtlpeiiejkpkpjaaDoorL1
import Derived.Test.YtlpeiiejkpkpjaaDoorL2
import Derived.Test.YtlpeiiejkpkpjaaDoorL3
import Derived.Test.YtlpeiiejkpkpjaaDoorL4
namespace Go.Proofs.YtlpeiiejkpkpjaaDoor
open Go.RowKit

theorem limits_low (n k : Int) (w : World) (ht : Tab w) (hn : n < 0) : Calls Tryd.prog 5 #[.int .i64 n, .int .i64 k] w fun e w' => e = .returned (.bool true) ∧ Below w.heap.size w w' := by
  have g1 : (decide (n < 0)) = true := by simp [hn]
  go_enter Tryd.func5, Tryd.ntmps5
  go_wp2_with fail
  refine (awake_any w ht).mono ?_
  rintro e w4 ⟨rfl, hb4⟩
  go_wp2_with fail
  go_ret
  exact ⟨rfl, hb4⟩

theorem limits_high (n k : Int) (w : World) (ht : Tab w) (hn : 70 < n) : Calls Tryd.prog 5 #[.int .i64 n, .int .i64 k] w fun e w' => e = .returned (.bool true) ∧ Below w.heap.size w w' := by
  have g1 : (decide (n < 0)) = false := by simp; omega
  have g2 : (decide (n > 70)) = true := by simp; omega
  go_enter Tryd.func5, Tryd.ntmps5
  go_wp2_with fail
  refine (awake_any w ht).mono ?_
  rintro e w4 ⟨rfl, hb4⟩
  go_wp2_with fail
  go_ret
  exact ⟨rfl, hb4⟩

theorem limits_all (n k : Int) (w : World) (ht : Tab w) : Calls Tryd.prog 5 #[.int .i64 n, .int .i64 k] w fun e w' => e = .returned (.bool true) ∧ Below w.heap.size w w' := by
  by_cases h0 : n < 0
  · exact limits_low n k w ht h0
  · by_cases h1 : 70 < n
    · exact limits_high n k w ht h1
    · obtain ⟨m, rfl⟩ : ∃ m : Nat, n = m := ⟨n.toNat, by omega⟩
      have hm : m ≤ 70 := by omega
      have hb := rnd_bd k (n := 5) (by decide)
      rcases (by omega : rnd k 5 = 0 ∨ rnd k 5 = 1 ∨ rnd k 5 = 2 ∨ rnd k 5 = 3 ∨ rnd k 5 = 4) with h | h | h | h | h
      · exact limit0 m k w ht hm h
      · exact limit1 m k w ht hm h
      · exact limit2 m k w ht hm h
      · exact limit3 m k w ht hm h
      · exact limit4 m k w ht hm h
end Go.Proofs.YtlpeiiejkpkpjaaDoor
