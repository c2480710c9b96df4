/-
  DERIVED. GIVEN WITH THE SEED: THE CARDS: each row of YtflpkdhmkgidiaaDoorRows.lean that lists a variable, with what it lists TIED to the program's text (the seventh form; the later family's looks); each row that meets fmt, with fmt's text TOLD by the authors' own Lean function (tested against real Go, not proved from fmt's source: count such statements apart). THE CARD IS WHAT COUNTS. Prove the row's statement (the work); the ties are given (YtflpkdhmkgidiaaDoorTie.lean); close each card by the builder's one call (the guide's Derived/Test/ToyasCard.lean, 'card_holds'). Laid BY PROGRAM, IN A SANDBOX (cutbox-door.mjs). By AI agents, Wed Nov 11 2026. No macro, syntax, notation, axiom, sorry.
-/
import Derived.Test.YtflpkdhmkgidiaaDoorRows
import GoSem.ClaimSeven
namespace Go.Proofs.YtflpkdhmkgidiaaDoor
namespace Rows

/-- THE TIED CARD OF 'gavottelaw9.WorldRoom'. -/
def worldRoomCard : Claim7 := { stood := { row := worldRoomRow, standIns := [], harness := (true, "6ff35c5dda0aeb78ec7ecd7f1607e93fbe46560c86f0144a86202b5f05b416e5"), looks := false }, kinds := [], alts := [], laidByText := true, laidKinds := [.data, .data, .data, .data], laidTests := true, laidLooks := .later }
def WorldRoomCardSaid : Prop := Claim7.holds Tryd.pinned (.plain (OpenSpec.ofChange worldRoomSpec)) worldRoomCard

/-- THE TIED CARD OF 'gavottelaw9.WorldSame'. -/
def worldSameCard : Claim7 := { stood := { row := worldSameRow, standIns := [], harness := (true, "6ff35c5dda0aeb78ec7ecd7f1607e93fbe46560c86f0144a86202b5f05b416e5"), looks := false }, kinds := [], alts := [], laidByText := true, laidKinds := [.data, .data, .data, .data], laidTests := true, laidLooks := .later }
def WorldSameCardSaid : Prop := Claim7.holds Tryd.pinned (.plain (OpenSpec.ofChange worldSameSpec)) worldSameCard

/-- THE TIED CARD OF 'gavottelaw9.WorldMay'. -/
def worldMayCard : Claim7 := { stood := { row := worldMayRow, standIns := [], harness := (true, "6ff35c5dda0aeb78ec7ecd7f1607e93fbe46560c86f0144a86202b5f05b416e5"), looks := false }, kinds := [], alts := [], laidByText := true, laidKinds := [.data, .data, .data, .data], laidTests := true, laidLooks := .later }
def WorldMayCardSaid : Prop := Claim7.holds Tryd.pinned (.plain (OpenSpec.ofChange worldMaySpec)) worldMayCard

/-- THE TIED CARD OF 'gavottelaw10.EventTells'. -/
def eventTellsCard : Claim7 := { stood := { row := eventTellsRow, standIns := [], harness := (true, "6ff35c5dda0aeb78ec7ecd7f1607e93fbe46560c86f0144a86202b5f05b416e5"), looks := false }, kinds := [], alts := [], laidByText := true, laidKinds := [.data], laidTests := true, laidLooks := .later }
def EventTellsCardSaid : Prop := Claim7.holds Tryd.pinned (.plain (OpenSpec.ofChange eventTellsSpec)) eventTellsCard

/-- THE TIED CARD OF 'gavottelaw10.EventLists'. -/
def eventListsCard : Claim7 := { stood := { row := eventListsRow, standIns := [], harness := (true, "6ff35c5dda0aeb78ec7ecd7f1607e93fbe46560c86f0144a86202b5f05b416e5"), looks := false }, kinds := [], alts := [], laidByText := true, laidKinds := [.data], laidTests := true, laidLooks := .later }
def EventListsCardSaid : Prop := Claim7.holds Tryd.pinned (.plain (OpenSpec.ofChange eventListsSpec)) eventListsCard

/-- THE TIED CARD OF 'gavottelaw10.EventBudgets'. -/
def eventBudgetsCard : Claim7 := { stood := { row := eventBudgetsRow, standIns := [], harness := (true, "6ff35c5dda0aeb78ec7ecd7f1607e93fbe46560c86f0144a86202b5f05b416e5"), looks := false }, kinds := [], alts := [], laidByText := true, laidKinds := [.data], laidTests := true, laidLooks := .later }
def EventBudgetsCardSaid : Prop := Claim7.holds Tryd.pinned (.plain (OpenSpec.ofChange eventBudgetsSpec)) eventBudgetsCard

/-- THE TIED CARD OF 'gavottelaw10.EventDown'. -/
def eventDownCard : Claim7 := { stood := { row := eventDownRow, standIns := [], harness := (true, "6ff35c5dda0aeb78ec7ecd7f1607e93fbe46560c86f0144a86202b5f05b416e5"), looks := false }, kinds := [], alts := [], laidByText := true, laidKinds := [.data], laidTests := true, laidLooks := .later }
def EventDownCardSaid : Prop := Claim7.holds Tryd.pinned (.plain (OpenSpec.ofChange eventDownSpec)) eventDownCard

/-- THE TIED CARD OF 'gavottelaw10.EventOdd'. -/
def eventOddCard : Claim7 := { stood := { row := eventOddRow, standIns := [], harness := (true, "6ff35c5dda0aeb78ec7ecd7f1607e93fbe46560c86f0144a86202b5f05b416e5"), looks := false }, kinds := [], alts := [], laidByText := true, laidKinds := [.data], laidTests := true, laidLooks := .later }
def EventOddCardSaid : Prop := Claim7.holds Tryd.pinned (.plain (OpenSpec.ofChange eventOddSpec)) eventOddCard

/-- THE SECOND FORM's CARD OF 'gavottelaw9.WorldRoom'. -/
def worldRoomUptoCard : Claim7 := { stood := { row := worldRoomUptoRow, standIns := [], harness := (true, "6ff35c5dda0aeb78ec7ecd7f1607e93fbe46560c86f0144a86202b5f05b416e5"), looks := false }, kinds := [], alts := [], laidByText := true, laidKinds := [.data, .data, .data, .data], laidTests := true, laidLooks := .later }
def WorldRoomUptoCardSaid : Prop := Claim7.holds Tryd.pinned (.plain (OpenSpec.upto worldRoomSpec)) worldRoomUptoCard

/-- THE SECOND FORM's CARD OF 'gavottelaw9.WorldSame'. -/
def worldSameUptoCard : Claim7 := { stood := { row := worldSameUptoRow, standIns := [], harness := (true, "6ff35c5dda0aeb78ec7ecd7f1607e93fbe46560c86f0144a86202b5f05b416e5"), looks := false }, kinds := [], alts := [], laidByText := true, laidKinds := [.data, .data, .data, .data], laidTests := true, laidLooks := .later }
def WorldSameUptoCardSaid : Prop := Claim7.holds Tryd.pinned (.plain (OpenSpec.upto worldSameSpec)) worldSameUptoCard

/-- THE SECOND FORM's CARD OF 'gavottelaw9.WorldMay'. -/
def worldMayUptoCard : Claim7 := { stood := { row := worldMayUptoRow, standIns := [], harness := (true, "6ff35c5dda0aeb78ec7ecd7f1607e93fbe46560c86f0144a86202b5f05b416e5"), looks := false }, kinds := [], alts := [], laidByText := true, laidKinds := [.data, .data, .data, .data], laidTests := true, laidLooks := .later }
def WorldMayUptoCardSaid : Prop := Claim7.holds Tryd.pinned (.plain (OpenSpec.upto worldMaySpec)) worldMayUptoCard

/-- THE SECOND FORM's CARD OF 'gavottelaw10.EventTells'. -/
def eventTellsUptoCard : Claim7 := { stood := { row := eventTellsUptoRow, standIns := [], harness := (true, "6ff35c5dda0aeb78ec7ecd7f1607e93fbe46560c86f0144a86202b5f05b416e5"), looks := false }, kinds := [], alts := [], laidByText := true, laidKinds := [.data], laidTests := true, laidLooks := .later }
def EventTellsUptoCardSaid : Prop := Claim7.holds Tryd.pinned (.plain (OpenSpec.upto eventTellsSpec)) eventTellsUptoCard

/-- THE SECOND FORM's CARD OF 'gavottelaw10.EventLists'. -/
def eventListsUptoCard : Claim7 := { stood := { row := eventListsUptoRow, standIns := [], harness := (true, "6ff35c5dda0aeb78ec7ecd7f1607e93fbe46560c86f0144a86202b5f05b416e5"), looks := false }, kinds := [], alts := [], laidByText := true, laidKinds := [.data], laidTests := true, laidLooks := .later }
def EventListsUptoCardSaid : Prop := Claim7.holds Tryd.pinned (.plain (OpenSpec.upto eventListsSpec)) eventListsUptoCard

/-- THE SECOND FORM's CARD OF 'gavottelaw10.EventBudgets'. -/
def eventBudgetsUptoCard : Claim7 := { stood := { row := eventBudgetsUptoRow, standIns := [], harness := (true, "6ff35c5dda0aeb78ec7ecd7f1607e93fbe46560c86f0144a86202b5f05b416e5"), looks := false }, kinds := [], alts := [], laidByText := true, laidKinds := [.data], laidTests := true, laidLooks := .later }
def EventBudgetsUptoCardSaid : Prop := Claim7.holds Tryd.pinned (.plain (OpenSpec.upto eventBudgetsSpec)) eventBudgetsUptoCard

/-- THE SECOND FORM's CARD OF 'gavottelaw10.EventDown'. -/
def eventDownUptoCard : Claim7 := { stood := { row := eventDownUptoRow, standIns := [], harness := (true, "6ff35c5dda0aeb78ec7ecd7f1607e93fbe46560c86f0144a86202b5f05b416e5"), looks := false }, kinds := [], alts := [], laidByText := true, laidKinds := [.data], laidTests := true, laidLooks := .later }
def EventDownUptoCardSaid : Prop := Claim7.holds Tryd.pinned (.plain (OpenSpec.upto eventDownSpec)) eventDownUptoCard

/-- THE SECOND FORM's CARD OF 'gavottelaw10.EventOdd'. -/
def eventOddUptoCard : Claim7 := { stood := { row := eventOddUptoRow, standIns := [], harness := (true, "6ff35c5dda0aeb78ec7ecd7f1607e93fbe46560c86f0144a86202b5f05b416e5"), looks := false }, kinds := [], alts := [], laidByText := true, laidKinds := [.data], laidTests := true, laidLooks := .later }
def EventOddUptoCardSaid : Prop := Claim7.holds Tryd.pinned (.plain (OpenSpec.upto eventOddSpec)) eventOddUptoCard
end Rows
end Go.Proofs.YtflpkdhmkgidiaaDoor
