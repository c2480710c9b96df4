/-
  DERIVED. GIVEN WITH THE SEED: THE CARDS: each row of YtfbeiedhdmndnaaGreatDoorRows.lean that lists a variable, with what it lists TIED to the program's text (the seventh form; the later family's looks); each row that meets fmt, with fmt's text TOLD by the authors' own Lean function (tested against real Go, not proved from fmt's source: count such statements apart). THE CARD IS WHAT COUNTS. Prove the row's statement (the work); the ties are given (YtfbeiedhdmndnaaGreatDoorTie.lean); close each card by the builder's one call (the guide's Derived/Test/ToyasCard.lean, 'card_holds'). Laid BY PROGRAM, IN A SANDBOX (cutbox-door.mjs). By AI agents, Wed Nov 11 2026. No macro, syntax, notation, axiom, sorry.
-/
import Derived.Test.YtfbeiedhdmndnaaGreatDoorRows
import GoSem.ClaimSeven
namespace Go.Proofs.YtfbeiedhdmndnaaGreatDoor
namespace Rows

/-- THE TIED CARD OF 'gavottelaw11.StepTells'. -/
def stepTellsCard : Claim7 := { stood := { row := stepTellsRow, standIns := [], harness := (true, "90759c36a70ae48b10b164fd21c70aae5f1fd561b478b139cbb9d4f6bab9b6a8"), looks := false }, kinds := [], alts := [], laidByText := true, laidKinds := [.data], laidTests := true, laidLooks := .later }
def StepTellsCardSaid : Prop := Claim7.holds Tryz.pinned (.plain (OpenSpec.ofChange stepTellsSpec)) stepTellsCard

/-- THE TIED CARD OF 'gavottelaw11.StepRuns'. -/
def stepRunsCard : Claim7 := { stood := { row := stepRunsRow, standIns := [], harness := (true, "90759c36a70ae48b10b164fd21c70aae5f1fd561b478b139cbb9d4f6bab9b6a8"), looks := false }, kinds := [], alts := [], laidByText := true, laidKinds := [.data], laidTests := true, laidLooks := .later }
def StepRunsCardSaid : Prop := Claim7.holds Tryz.pinned (.plain (OpenSpec.ofChange stepRunsSpec)) stepRunsCard

/-- THE TIED CARD OF 'gavottelaw12.TouchSwaps'. -/
def touchSwapsCard : Claim7 := { stood := { row := touchSwapsRow, standIns := [], harness := (true, "90759c36a70ae48b10b164fd21c70aae5f1fd561b478b139cbb9d4f6bab9b6a8"), looks := false }, kinds := [], alts := [], laidByText := true, laidKinds := [.data], laidTests := true, laidLooks := .later }
def TouchSwapsCardSaid : Prop := Claim7.holds Tryz.pinned (.plain (OpenSpec.ofChange touchSwapsSpec)) touchSwapsCard

/-- THE TIED CARD OF 'gavottelaw12.TouchWalks'. -/
def touchWalksCard : Claim7 := { stood := { row := touchWalksRow, standIns := [], harness := (true, "90759c36a70ae48b10b164fd21c70aae5f1fd561b478b139cbb9d4f6bab9b6a8"), looks := false }, kinds := [], alts := [], laidByText := true, laidKinds := [.data], laidTests := true, laidLooks := .later }
def TouchWalksCardSaid : Prop := Claim7.holds Tryz.pinned (.plain (OpenSpec.ofChange touchWalksSpec)) touchWalksCard

/-- THE TIED CARD OF 'gavottelaw12.TouchSends'. -/
def touchSendsCard : Claim7 := { stood := { row := touchSendsRow, standIns := [], harness := (true, "90759c36a70ae48b10b164fd21c70aae5f1fd561b478b139cbb9d4f6bab9b6a8"), looks := false }, kinds := [], alts := [], laidByText := true, laidKinds := [.data], laidTests := true, laidLooks := .later }
def TouchSendsCardSaid : Prop := Claim7.holds Tryz.pinned (.plain (OpenSpec.ofChange touchSendsSpec)) touchSendsCard

/-- THE TIED CARD OF 'gavottelaw12.TouchFaults'. -/
def touchFaultsCard : Claim7 := { stood := { row := touchFaultsRow, standIns := [], harness := (true, "90759c36a70ae48b10b164fd21c70aae5f1fd561b478b139cbb9d4f6bab9b6a8"), looks := false }, kinds := [], alts := [], laidByText := true, laidKinds := [.data], laidTests := true, laidLooks := .later }
def TouchFaultsCardSaid : Prop := Claim7.holds Tryz.pinned (.plain (OpenSpec.ofChange touchFaultsSpec)) touchFaultsCard

/-- THE SECOND FORM's CARD OF 'gavottelaw11.StepTells'. -/
def stepTellsUptoCard : Claim7 := { stood := { row := stepTellsUptoRow, standIns := [], harness := (true, "90759c36a70ae48b10b164fd21c70aae5f1fd561b478b139cbb9d4f6bab9b6a8"), looks := false }, kinds := [], alts := [], laidByText := true, laidKinds := [.data], laidTests := true, laidLooks := .later }
def StepTellsUptoCardSaid : Prop := Claim7.holds Tryz.pinned (.plain (OpenSpec.upto stepTellsSpec)) stepTellsUptoCard

/-- THE SECOND FORM's CARD OF 'gavottelaw11.StepRuns'. -/
def stepRunsUptoCard : Claim7 := { stood := { row := stepRunsUptoRow, standIns := [], harness := (true, "90759c36a70ae48b10b164fd21c70aae5f1fd561b478b139cbb9d4f6bab9b6a8"), looks := false }, kinds := [], alts := [], laidByText := true, laidKinds := [.data], laidTests := true, laidLooks := .later }
def StepRunsUptoCardSaid : Prop := Claim7.holds Tryz.pinned (.plain (OpenSpec.upto stepRunsSpec)) stepRunsUptoCard

/-- THE SECOND FORM's CARD OF 'gavottelaw12.TouchSwaps'. -/
def touchSwapsUptoCard : Claim7 := { stood := { row := touchSwapsUptoRow, standIns := [], harness := (true, "90759c36a70ae48b10b164fd21c70aae5f1fd561b478b139cbb9d4f6bab9b6a8"), looks := false }, kinds := [], alts := [], laidByText := true, laidKinds := [.data], laidTests := true, laidLooks := .later }
def TouchSwapsUptoCardSaid : Prop := Claim7.holds Tryz.pinned (.plain (OpenSpec.upto touchSwapsSpec)) touchSwapsUptoCard

/-- THE SECOND FORM's CARD OF 'gavottelaw12.TouchWalks'. -/
def touchWalksUptoCard : Claim7 := { stood := { row := touchWalksUptoRow, standIns := [], harness := (true, "90759c36a70ae48b10b164fd21c70aae5f1fd561b478b139cbb9d4f6bab9b6a8"), looks := false }, kinds := [], alts := [], laidByText := true, laidKinds := [.data], laidTests := true, laidLooks := .later }
def TouchWalksUptoCardSaid : Prop := Claim7.holds Tryz.pinned (.plain (OpenSpec.upto touchWalksSpec)) touchWalksUptoCard

/-- THE SECOND FORM's CARD OF 'gavottelaw12.TouchSends'. -/
def touchSendsUptoCard : Claim7 := { stood := { row := touchSendsUptoRow, standIns := [], harness := (true, "90759c36a70ae48b10b164fd21c70aae5f1fd561b478b139cbb9d4f6bab9b6a8"), looks := false }, kinds := [], alts := [], laidByText := true, laidKinds := [.data], laidTests := true, laidLooks := .later }
def TouchSendsUptoCardSaid : Prop := Claim7.holds Tryz.pinned (.plain (OpenSpec.upto touchSendsSpec)) touchSendsUptoCard

/-- THE SECOND FORM's CARD OF 'gavottelaw12.TouchFaults'. -/
def touchFaultsUptoCard : Claim7 := { stood := { row := touchFaultsUptoRow, standIns := [], harness := (true, "90759c36a70ae48b10b164fd21c70aae5f1fd561b478b139cbb9d4f6bab9b6a8"), looks := false }, kinds := [], alts := [], laidByText := true, laidKinds := [.data], laidTests := true, laidLooks := .later }
def TouchFaultsUptoCardSaid : Prop := Claim7.holds Tryz.pinned (.plain (OpenSpec.upto touchFaultsSpec)) touchFaultsUptoCard
end Rows
end Go.Proofs.YtfbeiedhdmndnaaGreatDoor
