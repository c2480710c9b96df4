/-
  DERIVED. GIVEN WITH THE SEED: THE CARDS: each row of YtfkaalgcgbmlpaaDoorRows.lean that lists a variable, with what it lists TIED to the program's text (the seventh form; the later family's looks); each row that meets fmt, with fmt's text TOLD by the authors' own Lean function (tested against real Go, not proved from fmt's source: count such statements apart). THE CARD IS WHAT COUNTS. Prove the row's statement (the work); the ties are given (YtfkaalgcgbmlpaaDoorTie.lean); close each card by the builder's one call (the guide's Derived/Test/ToyasCard.lean, 'card_holds'). Laid BY PROGRAM, IN A SANDBOX (cutbox-door.mjs). By AI agents, Wed Nov 11 2026. No macro, syntax, notation, axiom, sorry.
-/
import Derived.Test.YtfkaalgcgbmlpaaDoorRows
import GoSem.ClaimSeven
namespace Go.Proofs.YtfkaalgcgbmlpaaDoor
namespace Rows

/-- THE TIED CARD OF 'gavottelaw4.FlowTells'. -/
def flowTellsCard : Claim7 := { stood := { row := flowTellsRow, standIns := [], harness := (true, "8beb0813f0959876a2b22103d3c5f1b4d57c422c54960f92fa651ca4710d1ffb"), looks := false }, kinds := [], alts := [], laidByText := true, laidKinds := [.data], laidTests := true, laidLooks := .later }
def FlowTellsCardSaid : Prop := Claim7.holds Tryd.pinned (.plain (OpenSpec.ofChange flowTellsSpec)) flowTellsCard

/-- THE TIED CARD OF 'gavottelaw4.FlowRows'. -/
def flowRowsCard : Claim7 := { stood := { row := flowRowsRow, standIns := [], harness := (true, "8beb0813f0959876a2b22103d3c5f1b4d57c422c54960f92fa651ca4710d1ffb"), looks := false }, kinds := [], alts := [], laidByText := true, laidKinds := [.data], laidTests := true, laidLooks := .later }
def FlowRowsCardSaid : Prop := Claim7.holds Tryd.pinned (.plain (OpenSpec.ofChange flowRowsSpec)) flowRowsCard

/-- THE TIED CARD OF 'gavottelaw4.FlowReach'. -/
def flowReachCard : Claim7 := { stood := { row := flowReachRow, standIns := [], harness := (true, "8beb0813f0959876a2b22103d3c5f1b4d57c422c54960f92fa651ca4710d1ffb"), looks := false }, kinds := [], alts := [], laidByText := true, laidKinds := [.data], laidTests := true, laidLooks := .later }
def FlowReachCardSaid : Prop := Claim7.holds Tryd.pinned (.plain (OpenSpec.ofChange flowReachSpec)) flowReachCard

/-- THE TIED CARD OF 'gavottelaw4.FlowJoins'. -/
def flowJoinsCard : Claim7 := { stood := { row := flowJoinsRow, standIns := [], harness := (true, "8beb0813f0959876a2b22103d3c5f1b4d57c422c54960f92fa651ca4710d1ffb"), looks := false }, kinds := [], alts := [], laidByText := true, laidKinds := [.data], laidTests := true, laidLooks := .later }
def FlowJoinsCardSaid : Prop := Claim7.holds Tryd.pinned (.plain (OpenSpec.ofChange flowJoinsSpec)) flowJoinsCard

/-- THE TIED CARD OF 'gavottelaw4.FlowSends'. -/
def flowSendsCard : Claim7 := { stood := { row := flowSendsRow, standIns := [], harness := (true, "8beb0813f0959876a2b22103d3c5f1b4d57c422c54960f92fa651ca4710d1ffb"), looks := false }, kinds := [], alts := [], laidByText := true, laidKinds := [.data], laidTests := true, laidLooks := .later }
def FlowSendsCardSaid : Prop := Claim7.holds Tryd.pinned (.plain (OpenSpec.ofChange flowSendsSpec)) flowSendsCard

/-- THE TIED CARD OF 'gavottelaw4.FlowFirst'. -/
def flowFirstCard : Claim7 := { stood := { row := flowFirstRow, standIns := [], harness := (true, "8beb0813f0959876a2b22103d3c5f1b4d57c422c54960f92fa651ca4710d1ffb"), looks := false }, kinds := [], alts := [], laidByText := true, laidKinds := [.data], laidTests := true, laidLooks := .later }
def FlowFirstCardSaid : Prop := Claim7.holds Tryd.pinned (.plain (OpenSpec.ofChange flowFirstSpec)) flowFirstCard

/-- THE SECOND FORM's CARD OF 'gavottelaw4.FlowTells'. -/
def flowTellsUptoCard : Claim7 := { stood := { row := flowTellsUptoRow, standIns := [], harness := (true, "8beb0813f0959876a2b22103d3c5f1b4d57c422c54960f92fa651ca4710d1ffb"), looks := false }, kinds := [], alts := [], laidByText := true, laidKinds := [.data], laidTests := true, laidLooks := .later }
def FlowTellsUptoCardSaid : Prop := Claim7.holds Tryd.pinned (.plain (OpenSpec.upto flowTellsSpec)) flowTellsUptoCard

/-- THE SECOND FORM's CARD OF 'gavottelaw4.FlowRows'. -/
def flowRowsUptoCard : Claim7 := { stood := { row := flowRowsUptoRow, standIns := [], harness := (true, "8beb0813f0959876a2b22103d3c5f1b4d57c422c54960f92fa651ca4710d1ffb"), looks := false }, kinds := [], alts := [], laidByText := true, laidKinds := [.data], laidTests := true, laidLooks := .later }
def FlowRowsUptoCardSaid : Prop := Claim7.holds Tryd.pinned (.plain (OpenSpec.upto flowRowsSpec)) flowRowsUptoCard

/-- THE SECOND FORM's CARD OF 'gavottelaw4.FlowReach'. -/
def flowReachUptoCard : Claim7 := { stood := { row := flowReachUptoRow, standIns := [], harness := (true, "8beb0813f0959876a2b22103d3c5f1b4d57c422c54960f92fa651ca4710d1ffb"), looks := false }, kinds := [], alts := [], laidByText := true, laidKinds := [.data], laidTests := true, laidLooks := .later }
def FlowReachUptoCardSaid : Prop := Claim7.holds Tryd.pinned (.plain (OpenSpec.upto flowReachSpec)) flowReachUptoCard

/-- THE SECOND FORM's CARD OF 'gavottelaw4.FlowJoins'. -/
def flowJoinsUptoCard : Claim7 := { stood := { row := flowJoinsUptoRow, standIns := [], harness := (true, "8beb0813f0959876a2b22103d3c5f1b4d57c422c54960f92fa651ca4710d1ffb"), looks := false }, kinds := [], alts := [], laidByText := true, laidKinds := [.data], laidTests := true, laidLooks := .later }
def FlowJoinsUptoCardSaid : Prop := Claim7.holds Tryd.pinned (.plain (OpenSpec.upto flowJoinsSpec)) flowJoinsUptoCard

/-- THE SECOND FORM's CARD OF 'gavottelaw4.FlowSends'. -/
def flowSendsUptoCard : Claim7 := { stood := { row := flowSendsUptoRow, standIns := [], harness := (true, "8beb0813f0959876a2b22103d3c5f1b4d57c422c54960f92fa651ca4710d1ffb"), looks := false }, kinds := [], alts := [], laidByText := true, laidKinds := [.data], laidTests := true, laidLooks := .later }
def FlowSendsUptoCardSaid : Prop := Claim7.holds Tryd.pinned (.plain (OpenSpec.upto flowSendsSpec)) flowSendsUptoCard

/-- THE SECOND FORM's CARD OF 'gavottelaw4.FlowFirst'. -/
def flowFirstUptoCard : Claim7 := { stood := { row := flowFirstUptoRow, standIns := [], harness := (true, "8beb0813f0959876a2b22103d3c5f1b4d57c422c54960f92fa651ca4710d1ffb"), looks := false }, kinds := [], alts := [], laidByText := true, laidKinds := [.data], laidTests := true, laidLooks := .later }
def FlowFirstUptoCardSaid : Prop := Claim7.holds Tryd.pinned (.plain (OpenSpec.upto flowFirstSpec)) flowFirstUptoCard
end Rows
end Go.Proofs.YtfkaalgcgbmlpaaDoor
