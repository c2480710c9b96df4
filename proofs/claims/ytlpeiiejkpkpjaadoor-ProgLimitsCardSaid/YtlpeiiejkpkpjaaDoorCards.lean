/-
  DERIVED. GIVEN WITH THE SEED: THE CARDS: each row of YtlpeiiejkpkpjaaDoorRows.lean that lists a variable, with what it lists TIED to the program's text (the seventh form; the later family's looks); each row that meets fmt, with fmt's text TOLD by the authors' own Lean function (tested against real Go, not proved from fmt's source: count such statements apart). THE CARD IS WHAT COUNTS. Prove the row's statement (the work); the ties are given (YtlpeiiejkpkpjaaDoorTie.lean); close each card by the builder's one call (the guide's Derived/Test/ToyasCard.lean, 'card_holds'). Laid BY PROGRAM, IN A SANDBOX (cutbox-door.mjs). By AI agents, Wed Nov 11 2026. No macro, syntax, notation, axiom, sorry.
-/
import Derived.Test.YtlpeiiejkpkpjaaDoorRows
import GoSem.ClaimSeven
namespace Go.Proofs.YtlpeiiejkpkpjaaDoor
namespace Rows

/-- THE TIED CARD OF 'gavottelaw3.ProgTells'. -/
def progTellsCard : Claim7 := { stood := { row := progTellsRow, standIns := [], harness := (true, "2ac9427755d7956e0ac8fccb12beddd7be012e6aefc8d2fc5f3dcd8cf1ff3a17"), looks := false }, kinds := [], alts := [], laidByText := true, laidKinds := [.data], laidTests := true, laidLooks := .later }
def ProgTellsCardSaid : Prop := Claim7.holds Tryd.pinned (.plain (OpenSpec.ofChange progTellsSpec)) progTellsCard

/-- THE TIED CARD OF 'gavottelaw3.ProgCopies'. -/
def progCopiesCard : Claim7 := { stood := { row := progCopiesRow, standIns := [], harness := (true, "2ac9427755d7956e0ac8fccb12beddd7be012e6aefc8d2fc5f3dcd8cf1ff3a17"), looks := false }, kinds := [], alts := [], laidByText := true, laidKinds := [.data], laidTests := true, laidLooks := .later }
def ProgCopiesCardSaid : Prop := Claim7.holds Tryd.pinned (.plain (OpenSpec.ofChange progCopiesSpec)) progCopiesCard

/-- THE TIED CARD OF 'gavottelaw3.ProgLimits'. -/
def progLimitsCard : Claim7 := { stood := { row := progLimitsRow, standIns := [], harness := (true, "2ac9427755d7956e0ac8fccb12beddd7be012e6aefc8d2fc5f3dcd8cf1ff3a17"), looks := false }, kinds := [], alts := [], laidByText := true, laidKinds := [.data], laidTests := true, laidLooks := .later }
def ProgLimitsCardSaid : Prop := Claim7.holds Tryd.pinned (.plain (OpenSpec.ofChange progLimitsSpec)) progLimitsCard

/-- THE TIED CARD OF 'gavottelaw3.ProgOdd'. -/
def progOddCard : Claim7 := { stood := { row := progOddRow, standIns := [], harness := (true, "2ac9427755d7956e0ac8fccb12beddd7be012e6aefc8d2fc5f3dcd8cf1ff3a17"), looks := false }, kinds := [], alts := [], laidByText := true, laidKinds := [.data], laidTests := true, laidLooks := .later }
def ProgOddCardSaid : Prop := Claim7.holds Tryd.pinned (.plain (OpenSpec.ofChange progOddSpec)) progOddCard

/-- THE TIED CARD OF 'gavottelaw3.ProgSame'. -/
def progSameCard : Claim7 := { stood := { row := progSameRow, standIns := [], harness := (true, "2ac9427755d7956e0ac8fccb12beddd7be012e6aefc8d2fc5f3dcd8cf1ff3a17"), looks := false }, kinds := [], alts := [], laidByText := true, laidKinds := [.data], laidTests := true, laidLooks := .later }
def ProgSameCardSaid : Prop := Claim7.holds Tryd.pinned (.plain (OpenSpec.ofChange progSameSpec)) progSameCard

/-- THE TIED CARD OF 'gavottelaw3.ProgNotes'. -/
def progNotesCard : Claim7 := { stood := { row := progNotesRow, standIns := [], harness := (true, "2ac9427755d7956e0ac8fccb12beddd7be012e6aefc8d2fc5f3dcd8cf1ff3a17"), looks := false }, kinds := [], alts := [], laidByText := true, laidKinds := [.data], laidTests := true, laidLooks := .later }
def ProgNotesCardSaid : Prop := Claim7.holds Tryd.pinned (.plain (OpenSpec.ofChange progNotesSpec)) progNotesCard

/-- THE SECOND FORM's CARD OF 'gavottelaw3.ProgTells'. -/
def progTellsUptoCard : Claim7 := { stood := { row := progTellsUptoRow, standIns := [], harness := (true, "2ac9427755d7956e0ac8fccb12beddd7be012e6aefc8d2fc5f3dcd8cf1ff3a17"), looks := false }, kinds := [], alts := [], laidByText := true, laidKinds := [.data], laidTests := true, laidLooks := .later }
def ProgTellsUptoCardSaid : Prop := Claim7.holds Tryd.pinned (.plain (OpenSpec.upto progTellsSpec)) progTellsUptoCard

/-- THE SECOND FORM's CARD OF 'gavottelaw3.ProgCopies'. -/
def progCopiesUptoCard : Claim7 := { stood := { row := progCopiesUptoRow, standIns := [], harness := (true, "2ac9427755d7956e0ac8fccb12beddd7be012e6aefc8d2fc5f3dcd8cf1ff3a17"), looks := false }, kinds := [], alts := [], laidByText := true, laidKinds := [.data], laidTests := true, laidLooks := .later }
def ProgCopiesUptoCardSaid : Prop := Claim7.holds Tryd.pinned (.plain (OpenSpec.upto progCopiesSpec)) progCopiesUptoCard

/-- THE SECOND FORM's CARD OF 'gavottelaw3.ProgLimits'. -/
def progLimitsUptoCard : Claim7 := { stood := { row := progLimitsUptoRow, standIns := [], harness := (true, "2ac9427755d7956e0ac8fccb12beddd7be012e6aefc8d2fc5f3dcd8cf1ff3a17"), looks := false }, kinds := [], alts := [], laidByText := true, laidKinds := [.data], laidTests := true, laidLooks := .later }
def ProgLimitsUptoCardSaid : Prop := Claim7.holds Tryd.pinned (.plain (OpenSpec.upto progLimitsSpec)) progLimitsUptoCard

/-- THE SECOND FORM's CARD OF 'gavottelaw3.ProgOdd'. -/
def progOddUptoCard : Claim7 := { stood := { row := progOddUptoRow, standIns := [], harness := (true, "2ac9427755d7956e0ac8fccb12beddd7be012e6aefc8d2fc5f3dcd8cf1ff3a17"), looks := false }, kinds := [], alts := [], laidByText := true, laidKinds := [.data], laidTests := true, laidLooks := .later }
def ProgOddUptoCardSaid : Prop := Claim7.holds Tryd.pinned (.plain (OpenSpec.upto progOddSpec)) progOddUptoCard

/-- THE SECOND FORM's CARD OF 'gavottelaw3.ProgSame'. -/
def progSameUptoCard : Claim7 := { stood := { row := progSameUptoRow, standIns := [], harness := (true, "2ac9427755d7956e0ac8fccb12beddd7be012e6aefc8d2fc5f3dcd8cf1ff3a17"), looks := false }, kinds := [], alts := [], laidByText := true, laidKinds := [.data], laidTests := true, laidLooks := .later }
def ProgSameUptoCardSaid : Prop := Claim7.holds Tryd.pinned (.plain (OpenSpec.upto progSameSpec)) progSameUptoCard

/-- THE SECOND FORM's CARD OF 'gavottelaw3.ProgNotes'. -/
def progNotesUptoCard : Claim7 := { stood := { row := progNotesUptoRow, standIns := [], harness := (true, "2ac9427755d7956e0ac8fccb12beddd7be012e6aefc8d2fc5f3dcd8cf1ff3a17"), looks := false }, kinds := [], alts := [], laidByText := true, laidKinds := [.data], laidTests := true, laidLooks := .later }
def ProgNotesUptoCardSaid : Prop := Claim7.holds Tryd.pinned (.plain (OpenSpec.upto progNotesSpec)) progNotesUptoCard
end Rows
end Go.Proofs.YtlpeiiejkpkpjaaDoor
