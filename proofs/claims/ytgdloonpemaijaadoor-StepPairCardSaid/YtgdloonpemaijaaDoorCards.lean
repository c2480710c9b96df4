/-
  DERIVED. GIVEN WITH THE SEED: THE CARDS: each row of YtgdloonpemaijaaDoorRows.lean that lists a variable, with what it lists TIED to the program's text (the seventh form; the later family's looks); each row that meets fmt, with fmt's text TOLD by the authors' own Lean function (tested against real Go, not proved from fmt's source: count such statements apart). THE CARD IS WHAT COUNTS. Prove the row's statement (the work); the ties are given (YtgdloonpemaijaaDoorTie.lean); close each card by the builder's one call (the guide's Derived/Test/ToyasCard.lean, 'card_holds'). Laid BY PROGRAM, IN A SANDBOX (cutbox-door.mjs). By AI agents, Wed Nov 11 2026. No macro, syntax, notation, axiom, sorry.
-/
import Derived.Test.YtgdloonpemaijaaDoorRows
import GoSem.ClaimSeven
namespace Go.Proofs.YtgdloonpemaijaaDoor
namespace Rows

/-- THE TIED CARD OF 'gavottelaw6.VmRuns'. -/
def vmRunsCard : Claim7 := { stood := { row := vmRunsRow, standIns := [], harness := (true, "5b3646bd4415776cf741f76b8a37185dbf1d7db7eb5d4a8a9bdaf8d89ae5b139"), looks := false }, kinds := [], alts := [], laidByText := true, laidKinds := [.data], laidTests := true, laidLooks := .later }
def VmRunsCardSaid : Prop := Claim7.holds Tryd.pinned (.plain (OpenSpec.ofChange vmRunsSpec)) vmRunsCard

/-- THE TIED CARD OF 'gavottelaw9.WorldStarts'. -/
def worldStartsCard : Claim7 := { stood := { row := worldStartsRow, standIns := [], harness := (true, "5b3646bd4415776cf741f76b8a37185dbf1d7db7eb5d4a8a9bdaf8d89ae5b139"), looks := false }, kinds := [], alts := [], laidByText := true, laidKinds := [.data, .data, .data, .data], laidTests := true, laidLooks := .later }
def WorldStartsCardSaid : Prop := Claim7.holds Tryd.pinned (.plain (OpenSpec.ofChange worldStartsSpec)) worldStartsCard

/-- THE TIED CARD OF 'gavottelaw9.WorldSame'. -/
def worldSameCard : Claim7 := { stood := { row := worldSameRow, standIns := [], harness := (true, "5b3646bd4415776cf741f76b8a37185dbf1d7db7eb5d4a8a9bdaf8d89ae5b139"), looks := false }, kinds := [], alts := [], laidByText := true, laidKinds := [.data, .data, .data, .data], laidTests := true, laidLooks := .later }
def WorldSameCardSaid : Prop := Claim7.holds Tryd.pinned (.plain (OpenSpec.ofChange worldSameSpec)) worldSameCard

/-- THE TIED CARD OF 'gavottelaw9.WorldMay'. -/
def worldMayCard : Claim7 := { stood := { row := worldMayRow, standIns := [], harness := (true, "5b3646bd4415776cf741f76b8a37185dbf1d7db7eb5d4a8a9bdaf8d89ae5b139"), looks := false }, kinds := [], alts := [], laidByText := true, laidKinds := [.data, .data, .data, .data], laidTests := true, laidLooks := .later }
def WorldMayCardSaid : Prop := Claim7.holds Tryd.pinned (.plain (OpenSpec.ofChange worldMaySpec)) worldMayCard

/-- THE TIED CARD OF 'gavottelaw10.EventTells'. -/
def eventTellsCard : Claim7 := { stood := { row := eventTellsRow, standIns := [], harness := (true, "5b3646bd4415776cf741f76b8a37185dbf1d7db7eb5d4a8a9bdaf8d89ae5b139"), looks := false }, kinds := [], alts := [], laidByText := true, laidKinds := [.data], laidTests := true, laidLooks := .later }
def EventTellsCardSaid : Prop := Claim7.holds Tryd.pinned (.plain (OpenSpec.ofChange eventTellsSpec)) eventTellsCard

/-- THE TIED CARD OF 'gavottelaw11.StepWalks'. -/
def stepWalksCard : Claim7 := { stood := { row := stepWalksRow, standIns := [], harness := (true, "5b3646bd4415776cf741f76b8a37185dbf1d7db7eb5d4a8a9bdaf8d89ae5b139"), looks := false }, kinds := [], alts := [], laidByText := true, laidKinds := [.data], laidTests := true, laidLooks := .later }
def StepWalksCardSaid : Prop := Claim7.holds Tryd.pinned (.plain (OpenSpec.ofChange stepWalksSpec)) stepWalksCard

/-- THE TIED CARD OF 'gavottelaw11.StepPair'. -/
def stepPairCard : Claim7 := { stood := { row := stepPairRow, standIns := [], harness := (true, "5b3646bd4415776cf741f76b8a37185dbf1d7db7eb5d4a8a9bdaf8d89ae5b139"), looks := false }, kinds := [], alts := [], laidByText := true, laidKinds := [.data], laidTests := true, laidLooks := .later }
def StepPairCardSaid : Prop := Claim7.holds Tryd.pinned (.plain (OpenSpec.ofChange stepPairSpec)) stepPairCard

/-- THE TIED CARD OF 'gavottelaw11.StepDoubles'. -/
def stepDoublesCard : Claim7 := { stood := { row := stepDoublesRow, standIns := [], harness := (true, "5b3646bd4415776cf741f76b8a37185dbf1d7db7eb5d4a8a9bdaf8d89ae5b139"), looks := false }, kinds := [], alts := [], laidByText := true, laidKinds := [.data], laidTests := true, laidLooks := .later }
def StepDoublesCardSaid : Prop := Claim7.holds Tryd.pinned (.plain (OpenSpec.ofChange stepDoublesSpec)) stepDoublesCard

/-- THE TIED CARD OF 'gavottelaw11.StepTimers'. -/
def stepTimersCard : Claim7 := { stood := { row := stepTimersRow, standIns := [], harness := (true, "5b3646bd4415776cf741f76b8a37185dbf1d7db7eb5d4a8a9bdaf8d89ae5b139"), looks := false }, kinds := [], alts := [], laidByText := true, laidKinds := [.data], laidTests := true, laidLooks := .later }
def StepTimersCardSaid : Prop := Claim7.holds Tryd.pinned (.plain (OpenSpec.ofChange stepTimersSpec)) stepTimersCard

/-- THE TIED CARD OF 'gavottelaw11.StepCrashes'. -/
def stepCrashesCard : Claim7 := { stood := { row := stepCrashesRow, standIns := [], harness := (true, "5b3646bd4415776cf741f76b8a37185dbf1d7db7eb5d4a8a9bdaf8d89ae5b139"), looks := false }, kinds := [], alts := [], laidByText := true, laidKinds := [.data], laidTests := true, laidLooks := .later }
def StepCrashesCardSaid : Prop := Claim7.holds Tryd.pinned (.plain (OpenSpec.ofChange stepCrashesSpec)) stepCrashesCard

/-- THE SECOND FORM's CARD OF 'gavottelaw6.VmRuns'. -/
def vmRunsUptoCard : Claim7 := { stood := { row := vmRunsUptoRow, standIns := [], harness := (true, "5b3646bd4415776cf741f76b8a37185dbf1d7db7eb5d4a8a9bdaf8d89ae5b139"), looks := false }, kinds := [], alts := [], laidByText := true, laidKinds := [.data], laidTests := true, laidLooks := .later }
def VmRunsUptoCardSaid : Prop := Claim7.holds Tryd.pinned (.plain (OpenSpec.upto vmRunsSpec)) vmRunsUptoCard

/-- THE SECOND FORM's CARD OF 'gavottelaw9.WorldStarts'. -/
def worldStartsUptoCard : Claim7 := { stood := { row := worldStartsUptoRow, standIns := [], harness := (true, "5b3646bd4415776cf741f76b8a37185dbf1d7db7eb5d4a8a9bdaf8d89ae5b139"), looks := false }, kinds := [], alts := [], laidByText := true, laidKinds := [.data, .data, .data, .data], laidTests := true, laidLooks := .later }
def WorldStartsUptoCardSaid : Prop := Claim7.holds Tryd.pinned (.plain (OpenSpec.upto worldStartsSpec)) worldStartsUptoCard

/-- THE SECOND FORM's CARD OF 'gavottelaw9.WorldSame'. -/
def worldSameUptoCard : Claim7 := { stood := { row := worldSameUptoRow, standIns := [], harness := (true, "5b3646bd4415776cf741f76b8a37185dbf1d7db7eb5d4a8a9bdaf8d89ae5b139"), looks := false }, kinds := [], alts := [], laidByText := true, laidKinds := [.data, .data, .data, .data], laidTests := true, laidLooks := .later }
def WorldSameUptoCardSaid : Prop := Claim7.holds Tryd.pinned (.plain (OpenSpec.upto worldSameSpec)) worldSameUptoCard

/-- THE SECOND FORM's CARD OF 'gavottelaw9.WorldMay'. -/
def worldMayUptoCard : Claim7 := { stood := { row := worldMayUptoRow, standIns := [], harness := (true, "5b3646bd4415776cf741f76b8a37185dbf1d7db7eb5d4a8a9bdaf8d89ae5b139"), looks := false }, kinds := [], alts := [], laidByText := true, laidKinds := [.data, .data, .data, .data], laidTests := true, laidLooks := .later }
def WorldMayUptoCardSaid : Prop := Claim7.holds Tryd.pinned (.plain (OpenSpec.upto worldMaySpec)) worldMayUptoCard

/-- THE SECOND FORM's CARD OF 'gavottelaw10.EventTells'. -/
def eventTellsUptoCard : Claim7 := { stood := { row := eventTellsUptoRow, standIns := [], harness := (true, "5b3646bd4415776cf741f76b8a37185dbf1d7db7eb5d4a8a9bdaf8d89ae5b139"), looks := false }, kinds := [], alts := [], laidByText := true, laidKinds := [.data], laidTests := true, laidLooks := .later }
def EventTellsUptoCardSaid : Prop := Claim7.holds Tryd.pinned (.plain (OpenSpec.upto eventTellsSpec)) eventTellsUptoCard

/-- THE SECOND FORM's CARD OF 'gavottelaw11.StepWalks'. -/
def stepWalksUptoCard : Claim7 := { stood := { row := stepWalksUptoRow, standIns := [], harness := (true, "5b3646bd4415776cf741f76b8a37185dbf1d7db7eb5d4a8a9bdaf8d89ae5b139"), looks := false }, kinds := [], alts := [], laidByText := true, laidKinds := [.data], laidTests := true, laidLooks := .later }
def StepWalksUptoCardSaid : Prop := Claim7.holds Tryd.pinned (.plain (OpenSpec.upto stepWalksSpec)) stepWalksUptoCard

/-- THE SECOND FORM's CARD OF 'gavottelaw11.StepPair'. -/
def stepPairUptoCard : Claim7 := { stood := { row := stepPairUptoRow, standIns := [], harness := (true, "5b3646bd4415776cf741f76b8a37185dbf1d7db7eb5d4a8a9bdaf8d89ae5b139"), looks := false }, kinds := [], alts := [], laidByText := true, laidKinds := [.data], laidTests := true, laidLooks := .later }
def StepPairUptoCardSaid : Prop := Claim7.holds Tryd.pinned (.plain (OpenSpec.upto stepPairSpec)) stepPairUptoCard

/-- THE SECOND FORM's CARD OF 'gavottelaw11.StepDoubles'. -/
def stepDoublesUptoCard : Claim7 := { stood := { row := stepDoublesUptoRow, standIns := [], harness := (true, "5b3646bd4415776cf741f76b8a37185dbf1d7db7eb5d4a8a9bdaf8d89ae5b139"), looks := false }, kinds := [], alts := [], laidByText := true, laidKinds := [.data], laidTests := true, laidLooks := .later }
def StepDoublesUptoCardSaid : Prop := Claim7.holds Tryd.pinned (.plain (OpenSpec.upto stepDoublesSpec)) stepDoublesUptoCard

/-- THE SECOND FORM's CARD OF 'gavottelaw11.StepTimers'. -/
def stepTimersUptoCard : Claim7 := { stood := { row := stepTimersUptoRow, standIns := [], harness := (true, "5b3646bd4415776cf741f76b8a37185dbf1d7db7eb5d4a8a9bdaf8d89ae5b139"), looks := false }, kinds := [], alts := [], laidByText := true, laidKinds := [.data], laidTests := true, laidLooks := .later }
def StepTimersUptoCardSaid : Prop := Claim7.holds Tryd.pinned (.plain (OpenSpec.upto stepTimersSpec)) stepTimersUptoCard

/-- THE SECOND FORM's CARD OF 'gavottelaw11.StepCrashes'. -/
def stepCrashesUptoCard : Claim7 := { stood := { row := stepCrashesUptoRow, standIns := [], harness := (true, "5b3646bd4415776cf741f76b8a37185dbf1d7db7eb5d4a8a9bdaf8d89ae5b139"), looks := false }, kinds := [], alts := [], laidByText := true, laidKinds := [.data], laidTests := true, laidLooks := .later }
def StepCrashesUptoCardSaid : Prop := Claim7.holds Tryd.pinned (.plain (OpenSpec.upto stepCrashesSpec)) stepCrashesUptoCard
end Rows
end Go.Proofs.YtgdloonpemaijaaDoor
