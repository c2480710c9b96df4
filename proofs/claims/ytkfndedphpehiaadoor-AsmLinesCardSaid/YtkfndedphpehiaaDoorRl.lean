/-
  The third law, as its row wants it. No conditions beyond the row's own.
-/
import Derived.Test.YtkfndedphpehiaaDoorLL2
import Derived.Test.YtkfndedphpehiaaDoorLaid
namespace Go.Proofs.YtkfndedphpehiaaDoor
open Go.RowKit
theorem lines_row (W : World) (hL : laidMetH Tryd.prog laid1 W) (hS : W.ShapedOpen Tryd.prog) {v0 v1 : Value} {x0 x1 : List PIns} (h0 : Code anyB W v0 x0 ∧ ∀ i ∈ x0, RgI i) (h1 : Code anyB W v1 x1 ∧ ∀ i ∈ x1, RgI i) :
    Calls Tryd.prog 5 #[v0, v1] W fun e w' => e = .returned (.bool true) ∧ Below W.heap.size W w' :=
  lines_any anyB anyB W v0 v1 x0 x1 h0.2 h1.2 h0.1 h1.1 (of_laid hL hS)
end Go.Proofs.YtkfndedphpehiaaDoor
