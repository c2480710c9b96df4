/-
  What Round answers. Condition: it is asked of a number from 1 to 2,000.
-/
import Derived.Test.YtkfndedphpehiaaDoorMem
namespace Go.Proofs.YtkfndedphpehiaaDoor
open Go.RowKit
theorem wrapN {a n : Int} (h : 0 < n) : -n < a.tmod n ∧ a.tmod n < n := by
  have h1 := Int.tmod_lt_of_pos a h
  have h3 : -n < a.tmod n := by
    have := Int.tmod_lt_of_pos (-a) h
    rw [Int.neg_tmod] at this
    omega
  exact ⟨h3, h1⟩
def rnd (k n : Int) : Int := (k.tmod n + n) % n
theorem rnd_bd (k : Int) {n : Int} (h : 0 < n) : 0 ≤ rnd k n ∧ rnd k n < n := ⟨Int.emod_nonneg _ (by omega), Int.emod_lt_of_pos _ h⟩
set_option maxHeartbeats 400000 in
theorem round_any (k n : Int) (w : World) (h : 0 < n) (h2 : n < 100000) : Calls Tryd.prog 15 #[.int .i64 k, .int .i64 n] w fun e w' => e = .returned (.int .i64 (rnd k n)) ∧ w' = w := by
  obtain ⟨h3, h4⟩ := wrapN (a := k) h
  go_enter Tryd.func15, Tryd.ntmps15
  go_wp2
  go_ret
  exact ⟨rfl, rfl⟩
end Go.Proofs.YtkfndedphpehiaaDoor
