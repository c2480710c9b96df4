/-
  The reference's names of events: kinds, walked.
-/
import Derived.Test.YtdgialhigibnlaaDoorRr
import Derived.Test.YtdgialhigibnlaaDoorI9
namespace Go.Proofs.YtdgialhigibnlaaDoor
open Go.RowKit
attribute [local go_sem ↓] Go.wp_at_zero Go.wp_at_succ eq6 eq10
def KS (B : Nat) (w : World) : Prop := ∀ k : Nat, k < 6 → w.cell? ⟨B, k, none⟩ = some (.string (bs (wdK k)))
set_option maxHeartbeats 1000000 in
theorem rkinds_any (w : World) : Calls Tryd.prog 28 #[] w fun e w' =>
    e = .returned (.slice (some ⟨w.heap.size, 0, none⟩) 6 6) ∧ KS w.heap.size w' ∧ w.heap.size < w'.heap.size ∧ Below w.heap.size w w' := by
  go_enter Tryd.func28, Tryd.ntmps28
  go_wp2_with fail
  go_ret
  refine ⟨rfl, ?_, by simp, bAlloc (bRefl _) _⟩
  intro k hk
  rcases (by omega : k = 0 ∨ k = 1 ∨ k = 2 ∨ k = 3 ∨ k = 4 ∨ k = 5) with h | h | h | h | h | h <;> subst h <;> rw [Lib.cell_of_heap (heap_new _ _)] <;> rfl
end Go.Proofs.YtdgialhigibnlaaDoor
