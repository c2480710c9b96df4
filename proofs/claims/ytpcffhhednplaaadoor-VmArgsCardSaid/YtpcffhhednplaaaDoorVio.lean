/-
  What a list of numbers reads as, and what VmArgs answers of it. Condition: the table of the instructions is in the world.
-/
import Derived.Test.YtpcffhhednplaaaDoorViw
import Derived.Test.YtpcffhhednplaaaDoorOpen
namespace Go.Proofs.YtpcffhhednplaaaDoor
open Go.ChangeShapes Go.WideShapes Go.ChangeAt Go.RowKit
theorem open_intsV {H : Type} {enc : TypeId × Value → H} {w : World} {spare : Nat → Bool} {held : Bool} {r : Reach} {b0 : Nat} {v : Value} {d : DataW H} {p : List MemPlace} (hv : Value.okWide Tryd.prog w r b0 27 v) (h : DataW.Trod enc Tryd.prog w 0 spare held 27 v d p) : ∃ l, Ints anyB w v l := by
  obtain ⟨a, len, cap, rfl⟩ := okWide_slice Tryd.underlying27 hv
  obtain ⟨fuel, hf⟩ := h
  obtain ⟨u, l, hu, hl⟩ := open_ints hf
  simp [Value.cells] at hu
  subst hu
  exact ⟨l, hl⟩
end Go.Proofs.YtpcffhhednplaaaDoor
