/-
  What a list of bools reads as, and what VmArms answers of it. Condition: the table of the instructions is in the world.
-/
import Derived.Test.YtpcffhhednplaaaDoorVqw
import Derived.Test.YtpcffhhednplaaaDoorOpen
namespace Go.Proofs.YtpcffhhednplaaaDoor
open Go.ChangeShapes Go.WideShapes Go.ChangeAt Go.RowKit
theorem cellsB : Tryd.prog.cellsOf 4 = 1 := by kernel_rfl
theorem open_boolsV {H : Type} {enc : TypeId × Value → H} {w : World} {spare : Nat → Bool} {held : Bool} {r : Reach} {b0 : Nat} {v : Value} {d : DataW H} {p : List MemPlace} (hv : Value.okWide Tryd.prog w r b0 55 v) (h : DataW.Trod enc Tryd.prog w 0 spare held 55 v d p) : ∃ l, Bls anyB w v l := by
  obtain ⟨a, len, cap, rfl⟩ := okWide_slice Tryd.underlying55 hv
  obtain ⟨fuel, hf⟩ := h
  obtain ⟨u, l, hu, hl⟩ := sl_open (R := rBool) Tryd.underlying55 cellsB (by decide) (fun b o cs' n d hc h => by
    obtain ⟨k, rfl, _⟩ := DataW.trod_bool Tryd.underlying4 h
    exact ⟨k, hc 0 (by decide)⟩) hf
  simp [Value.cells] at hu
  subst hu
  exact ⟨l, hl⟩
end Go.Proofs.YtpcffhhednplaaaDoor
