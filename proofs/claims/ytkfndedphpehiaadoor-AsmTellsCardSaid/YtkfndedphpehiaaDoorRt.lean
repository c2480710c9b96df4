/-
  The first law, as its row wants it. No conditions beyond the row's own.
-/
import Derived.Test.YtkfndedphpehiaaDoorTells
import Derived.Test.YtkfndedphpehiaaDoorLaid
namespace Go.Proofs.YtkfndedphpehiaaDoor
open Go.RowKit
theorem tells_row (W : World) (hL : laidMetH Tryd.prog laid1 W) (hS : W.ShapedOpen Tryd.prog) {v0 v2 : Value} {x0 : List PIns} {x2 : PIns} (h0 : Code anyB W v0 x0 ∧ ∀ i ∈ x0, RgI i) (h2 : v2 = .agg #[.int .i64 x2.op, .int .i64 x2.a] ∧ RgI x2) (a1 : ByteArray) (ha : a1.size ≤ maxLen) :
    Calls Tryd.prog 3 #[v0, .string a1, v2] W fun e w' => e = .returned (.bool true) ∧ Below W.heap.size W w' := by
  obtain ⟨rfl, h2⟩ := h2
  exact tells_any anyB W v0 x0 a1.data.toList x2 h0.2 h2.2 h0.1 (by unfold maxLen at ha; have : a1.data.toList.length = a1.size := by simp
                                                                    omega) (of_laid hL hS)
end Go.Proofs.YtkfndedphpehiaaDoor
