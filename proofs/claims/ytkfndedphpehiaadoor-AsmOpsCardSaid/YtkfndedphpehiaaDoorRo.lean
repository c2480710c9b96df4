/-
  The fourth law, as its row wants it. No conditions beyond the row's own.
-/
import Derived.Test.YtkfndedphpehiaaDoorLOps
import Derived.Test.YtkfndedphpehiaaDoorLaid
namespace Go.Proofs.YtkfndedphpehiaaDoor
open Go.RowKit
theorem ops_row (W : World) (hL : laidMetH Tryd.prog laid1 W) (hS : W.ShapedOpen Tryd.prog) (a0 a1 : Int) (h1 : (Lit.int .i64 a1).wf = true) (a2 : ByteArray) (ha : a2.size ≤ maxLen) :
    Calls Tryd.prog 6 #[.int .i64 a0, .int .i64 a1, .string a2] W fun e w' => e = .returned (.bool true) ∧ Below W.heap.size W w' :=
  ops_any W a0 a1 a2.data.toList (rg_of h1) (by unfold maxLen at ha; rw [show a2.data.toList.length = a2.size by simp]; omega) (of_laid hL hS)
end Go.Proofs.YtkfndedphpehiaaDoor
