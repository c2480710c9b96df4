/-
  DERIVED. GIVEN WITH THE SEED: THE CARDS: each row of YtjdnedmhffakjaaDoorRows.lean that lists a variable, with what it lists TIED to the program's text (the seventh form; the later family's looks); each row that meets fmt, with fmt's text TOLD by the authors' own Lean function (tested against real Go, not proved from fmt's source: count such statements apart). THE CARD IS WHAT COUNTS. Prove the row's statement (the work); the ties are given (YtjdnedmhffakjaaDoorTie.lean); close each card by the builder's one call (the guide's Derived/Test/ToyasCard.lean, 'card_holds'). Laid BY PROGRAM, IN A SANDBOX (cutbox-door.mjs). By AI agents, Wed Nov 11 2026. No macro, syntax, notation, axiom, sorry.
-/
import Derived.Test.YtjdnedmhffakjaaDoorRows
import GoSem.ClaimSeven
namespace Go.Proofs.YtjdnedmhffakjaaDoor
namespace Rows

/-- THE TIED CARD OF 'gavottelaw9.WorldStarts'. -/
def worldStartsCard : Claim7 := { stood := { row := worldStartsRow, standIns := [], harness := (true, "b0f15f5694f6254aa536a5d7f968508e5a99af7c381506f671aa982775d6fd59"), looks := false }, kinds := [], alts := [], laidByText := true, laidKinds := [.data, .data, .data, .data], laidTests := true, laidLooks := .later }
def WorldStartsCardSaid : Prop := Claim7.holds Tryd.pinned (.plain (OpenSpec.ofChange worldStartsSpec)) worldStartsCard

/-- THE TIED CARD OF 'gavottelaw9.WorldRoom'. -/
def worldRoomCard : Claim7 := { stood := { row := worldRoomRow, standIns := [], harness := (true, "b0f15f5694f6254aa536a5d7f968508e5a99af7c381506f671aa982775d6fd59"), looks := false }, kinds := [], alts := [], laidByText := true, laidKinds := [.data, .data, .data, .data], laidTests := true, laidLooks := .later }
def WorldRoomCardSaid : Prop := Claim7.holds Tryd.pinned (.plain (OpenSpec.ofChange worldRoomSpec)) worldRoomCard

/-- THE TIED CARD OF 'gavottelaw9.WorldSame'. -/
def worldSameCard : Claim7 := { stood := { row := worldSameRow, standIns := [], harness := (true, "b0f15f5694f6254aa536a5d7f968508e5a99af7c381506f671aa982775d6fd59"), looks := false }, kinds := [], alts := [], laidByText := true, laidKinds := [.data, .data, .data, .data], laidTests := true, laidLooks := .later }
def WorldSameCardSaid : Prop := Claim7.holds Tryd.pinned (.plain (OpenSpec.ofChange worldSameSpec)) worldSameCard

/-- THE TIED CARD OF 'gavottelaw9.WorldMay'. -/
def worldMayCard : Claim7 := { stood := { row := worldMayRow, standIns := [], harness := (true, "b0f15f5694f6254aa536a5d7f968508e5a99af7c381506f671aa982775d6fd59"), looks := false }, kinds := [], alts := [], laidByText := true, laidKinds := [.data, .data, .data, .data], laidTests := true, laidLooks := .later }
def WorldMayCardSaid : Prop := Claim7.holds Tryd.pinned (.plain (OpenSpec.ofChange worldMaySpec)) worldMayCard

/-- THE SECOND FORM's CARD OF 'gavottelaw9.WorldStarts'. -/
def worldStartsUptoCard : Claim7 := { stood := { row := worldStartsUptoRow, standIns := [], harness := (true, "b0f15f5694f6254aa536a5d7f968508e5a99af7c381506f671aa982775d6fd59"), looks := false }, kinds := [], alts := [], laidByText := true, laidKinds := [.data, .data, .data, .data], laidTests := true, laidLooks := .later }
def WorldStartsUptoCardSaid : Prop := Claim7.holds Tryd.pinned (.plain (OpenSpec.upto worldStartsSpec)) worldStartsUptoCard

/-- THE SECOND FORM's CARD OF 'gavottelaw9.WorldRoom'. -/
def worldRoomUptoCard : Claim7 := { stood := { row := worldRoomUptoRow, standIns := [], harness := (true, "b0f15f5694f6254aa536a5d7f968508e5a99af7c381506f671aa982775d6fd59"), looks := false }, kinds := [], alts := [], laidByText := true, laidKinds := [.data, .data, .data, .data], laidTests := true, laidLooks := .later }
def WorldRoomUptoCardSaid : Prop := Claim7.holds Tryd.pinned (.plain (OpenSpec.upto worldRoomSpec)) worldRoomUptoCard

/-- THE SECOND FORM's CARD OF 'gavottelaw9.WorldSame'. -/
def worldSameUptoCard : Claim7 := { stood := { row := worldSameUptoRow, standIns := [], harness := (true, "b0f15f5694f6254aa536a5d7f968508e5a99af7c381506f671aa982775d6fd59"), looks := false }, kinds := [], alts := [], laidByText := true, laidKinds := [.data, .data, .data, .data], laidTests := true, laidLooks := .later }
def WorldSameUptoCardSaid : Prop := Claim7.holds Tryd.pinned (.plain (OpenSpec.upto worldSameSpec)) worldSameUptoCard

/-- THE SECOND FORM's CARD OF 'gavottelaw9.WorldMay'. -/
def worldMayUptoCard : Claim7 := { stood := { row := worldMayUptoRow, standIns := [], harness := (true, "b0f15f5694f6254aa536a5d7f968508e5a99af7c381506f671aa982775d6fd59"), looks := false }, kinds := [], alts := [], laidByText := true, laidKinds := [.data, .data, .data, .data], laidTests := true, laidLooks := .later }
def WorldMayUptoCardSaid : Prop := Claim7.holds Tryd.pinned (.plain (OpenSpec.upto worldMaySpec)) worldMayUptoCard
end Rows
end Go.Proofs.YtjdnedmhffakjaaDoor
