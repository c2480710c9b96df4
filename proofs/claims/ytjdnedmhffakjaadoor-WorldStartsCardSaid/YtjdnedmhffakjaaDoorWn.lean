/-
  WorldStarts, of any program. Conditions: its numbers are of 64 bits; what is read of the world is there.
-/
import Derived.Test.YtjdnedmhffakjaaDoorWm
namespace Go.Proofs.YtjdnedmhffakjaaDoor
open Go.RowKit
theorem starts_any (W : World) (vp : Value) (p : PPrg) (he : Env W) (hp : PrgV W vp p) (hr : RgP p) :
    Calls Tryd.prog 3 #[vp] W fun e w' => e = .returned (.bool true) ∧ Below W.heap.size W w' := by
  by_cases hs : Small p
  · by_cases hf : fc p = 0
    · exact starts_yes W vp p he hp hs hr hf
    · exact starts_no W vp p he hp hs hf
  · exact starts_big W vp p he hp hs
end Go.Proofs.YtjdnedmhffakjaaDoor
