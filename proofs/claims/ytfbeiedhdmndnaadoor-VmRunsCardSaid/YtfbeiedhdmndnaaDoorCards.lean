/-
  DERIVED. GIVEN WITH THE SEED: THE CARDS: each row of YtfbeiedhdmndnaaDoorRows.lean that lists a variable, with what it lists TIED to the program's text (the seventh form; the later family's looks); each row that meets fmt, with fmt's text TOLD by the authors' own Lean function (tested against real Go, not proved from fmt's source: count such statements apart). THE CARD IS WHAT COUNTS. Prove the row's statement (the work); the ties are given (YtfbeiedhdmndnaaDoorTie.lean); close each card by the builder's one call (the guide's Derived/Test/ToyasCard.lean, 'card_holds'). Laid BY PROGRAM, IN A SANDBOX (cutbox-door.mjs). By AI agents, Wed Nov 11 2026. No macro, syntax, notation, axiom, sorry.
-/
import Derived.Test.YtfbeiedhdmndnaaDoorRows
import GoSem.ClaimSeven
namespace Go.Proofs.YtfbeiedhdmndnaaDoor
namespace Rows

/-- THE TIED CARD OF 'gavottelaw6.VmRuns'. -/
def vmRunsCard : Claim7 := { stood := { row := vmRunsRow, standIns := [], harness := (true, "7cc8efbd7b4de7c67ed2816f9f16fec8e1e6aa5e95b16da252a53475c79d985a"), looks := false }, kinds := [], alts := [], laidByText := true, laidKinds := [.data], laidTests := true, laidLooks := .later }
def VmRunsCardSaid : Prop := Claim7.holds Tryd.pinned (.plain (OpenSpec.ofChange vmRunsSpec)) vmRunsCard

/-- THE TIED CARD OF 'gavottelaw9.WorldSame'. -/
def worldSameCard : Claim7 := { stood := { row := worldSameRow, standIns := [], harness := (true, "7cc8efbd7b4de7c67ed2816f9f16fec8e1e6aa5e95b16da252a53475c79d985a"), looks := false }, kinds := [], alts := [], laidByText := true, laidKinds := [.data, .data, .data, .data], laidTests := true, laidLooks := .later }
def WorldSameCardSaid : Prop := Claim7.holds Tryd.pinned (.plain (OpenSpec.ofChange worldSameSpec)) worldSameCard

/-- THE TIED CARD OF 'gavottelaw9.WorldMay'. -/
def worldMayCard : Claim7 := { stood := { row := worldMayRow, standIns := [], harness := (true, "7cc8efbd7b4de7c67ed2816f9f16fec8e1e6aa5e95b16da252a53475c79d985a"), looks := false }, kinds := [], alts := [], laidByText := true, laidKinds := [.data, .data, .data, .data], laidTests := true, laidLooks := .later }
def WorldMayCardSaid : Prop := Claim7.holds Tryd.pinned (.plain (OpenSpec.ofChange worldMaySpec)) worldMayCard

/-- THE SECOND FORM's CARD OF 'gavottelaw6.VmRuns'. -/
def vmRunsUptoCard : Claim7 := { stood := { row := vmRunsUptoRow, standIns := [], harness := (true, "7cc8efbd7b4de7c67ed2816f9f16fec8e1e6aa5e95b16da252a53475c79d985a"), looks := false }, kinds := [], alts := [], laidByText := true, laidKinds := [.data], laidTests := true, laidLooks := .later }
def VmRunsUptoCardSaid : Prop := Claim7.holds Tryd.pinned (.plain (OpenSpec.upto vmRunsSpec)) vmRunsUptoCard

/-- THE SECOND FORM's CARD OF 'gavottelaw9.WorldSame'. -/
def worldSameUptoCard : Claim7 := { stood := { row := worldSameUptoRow, standIns := [], harness := (true, "7cc8efbd7b4de7c67ed2816f9f16fec8e1e6aa5e95b16da252a53475c79d985a"), looks := false }, kinds := [], alts := [], laidByText := true, laidKinds := [.data, .data, .data, .data], laidTests := true, laidLooks := .later }
def WorldSameUptoCardSaid : Prop := Claim7.holds Tryd.pinned (.plain (OpenSpec.upto worldSameSpec)) worldSameUptoCard

/-- THE SECOND FORM's CARD OF 'gavottelaw9.WorldMay'. -/
def worldMayUptoCard : Claim7 := { stood := { row := worldMayUptoRow, standIns := [], harness := (true, "7cc8efbd7b4de7c67ed2816f9f16fec8e1e6aa5e95b16da252a53475c79d985a"), looks := false }, kinds := [], alts := [], laidByText := true, laidKinds := [.data, .data, .data, .data], laidTests := true, laidLooks := .later }
def WorldMayUptoCardSaid : Prop := Claim7.holds Tryd.pinned (.plain (OpenSpec.upto worldMaySpec)) worldMayUptoCard
end Rows
end Go.Proofs.YtfbeiedhdmndnaaDoor
