/-
  DERIVED. GIVEN WITH THE SEED: THE CARDS: each row of YtpcffhhednplaaaDoorRows.lean that lists a variable, with what it lists TIED to the program's text (the seventh form; the later family's looks); each row that meets fmt, with fmt's text TOLD by the authors' own Lean function (tested against real Go, not proved from fmt's source: count such statements apart). THE CARD IS WHAT COUNTS. Prove the row's statement (the work); the ties are given (YtpcffhhednplaaaDoorTie.lean); close each card by the builder's one call (the guide's Derived/Test/ToyasCard.lean, 'card_holds'). Laid BY PROGRAM, IN A SANDBOX (cutbox-door.mjs). By AI agents, Wed Nov 11 2026. No macro, syntax, notation, axiom, sorry.
-/
import Derived.Test.YtpcffhhednplaaaDoorRows
import GoSem.ClaimSeven
namespace Go.Proofs.YtpcffhhednplaaaDoor
namespace Rows

/-- THE TIED CARD OF 'gavottelaw6.VmRuns'. -/
def vmRunsCard : Claim7 := { stood := { row := vmRunsRow, standIns := [], harness := (true, "bcb73b4261f98e2c9aa7bd9e72270cad3627062dadc296c0208cb582e11ae152"), looks := false }, kinds := [], alts := [], laidByText := true, laidKinds := [.data], laidTests := true, laidLooks := .later }
def VmRunsCardSaid : Prop := Claim7.holds Tryd.pinned (.plain (OpenSpec.ofChange vmRunsSpec)) vmRunsCard

/-- THE TIED CARD OF 'gavottelaw6.VmFuel'. -/
def vmFuelCard : Claim7 := { stood := { row := vmFuelRow, standIns := [], harness := (true, "bcb73b4261f98e2c9aa7bd9e72270cad3627062dadc296c0208cb582e11ae152"), looks := false }, kinds := [], alts := [], laidByText := true, laidKinds := [.data], laidTests := true, laidLooks := .later }
def VmFuelCardSaid : Prop := Claim7.holds Tryd.pinned (.plain (OpenSpec.ofChange vmFuelSpec)) vmFuelCard

/-- THE TIED CARD OF 'gavottelaw6.VmLoops'. -/
def vmLoopsCard : Claim7 := { stood := { row := vmLoopsRow, standIns := [], harness := (true, "bcb73b4261f98e2c9aa7bd9e72270cad3627062dadc296c0208cb582e11ae152"), looks := false }, kinds := [], alts := [], laidByText := true, laidKinds := [.data], laidTests := true, laidLooks := .later }
def VmLoopsCardSaid : Prop := Claim7.holds Tryd.pinned (.plain (OpenSpec.ofChange vmLoopsSpec)) vmLoopsCard

/-- THE TIED CARD OF 'gavottelaw6.VmArgs'. -/
def vmArgsCard : Claim7 := { stood := { row := vmArgsRow, standIns := [], harness := (true, "bcb73b4261f98e2c9aa7bd9e72270cad3627062dadc296c0208cb582e11ae152"), looks := false }, kinds := [], alts := [], laidByText := true, laidKinds := [.data], laidTests := true, laidLooks := .later }
def VmArgsCardSaid : Prop := Claim7.holds Tryd.pinned (.plain (OpenSpec.ofChange vmArgsSpec)) vmArgsCard

/-- THE TIED CARD OF 'gavottelaw6.VmStack'. -/
def vmStackCard : Claim7 := { stood := { row := vmStackRow, standIns := [], harness := (true, "bcb73b4261f98e2c9aa7bd9e72270cad3627062dadc296c0208cb582e11ae152"), looks := false }, kinds := [], alts := [], laidByText := true, laidKinds := [.data], laidTests := true, laidLooks := .later }
def VmStackCardSaid : Prop := Claim7.holds Tryd.pinned (.plain (OpenSpec.ofChange vmStackSpec)) vmStackCard

/-- THE TIED CARD OF 'gavottelaw6.VmArms'. -/
def vmArmsCard : Claim7 := { stood := { row := vmArmsRow, standIns := [], harness := (true, "bcb73b4261f98e2c9aa7bd9e72270cad3627062dadc296c0208cb582e11ae152"), looks := false }, kinds := [], alts := [], laidByText := true, laidKinds := [.data], laidTests := true, laidLooks := .later }
def VmArmsCardSaid : Prop := Claim7.holds Tryd.pinned (.plain (OpenSpec.ofChange vmArmsSpec)) vmArmsCard

/-- THE TIED CARD OF 'gavottelaw6.VmFalls'. -/
def vmFallsCard : Claim7 := { stood := { row := vmFallsRow, standIns := [], harness := (true, "bcb73b4261f98e2c9aa7bd9e72270cad3627062dadc296c0208cb582e11ae152"), looks := false }, kinds := [], alts := [], laidByText := true, laidKinds := [.data], laidTests := true, laidLooks := .later }
def VmFallsCardSaid : Prop := Claim7.holds Tryd.pinned (.plain (OpenSpec.ofChange vmFallsSpec)) vmFallsCard

/-- THE TIED CARD OF 'gavottelaw6.VmRegs'. -/
def vmRegsCard : Claim7 := { stood := { row := vmRegsRow, standIns := [], harness := (true, "bcb73b4261f98e2c9aa7bd9e72270cad3627062dadc296c0208cb582e11ae152"), looks := false }, kinds := [], alts := [], laidByText := true, laidKinds := [.data], laidTests := true, laidLooks := .later }
def VmRegsCardSaid : Prop := Claim7.holds Tryd.pinned (.plain (OpenSpec.ofChange vmRegsSpec)) vmRegsCard

/-- THE SECOND FORM's CARD OF 'gavottelaw6.VmRuns'. -/
def vmRunsUptoCard : Claim7 := { stood := { row := vmRunsUptoRow, standIns := [], harness := (true, "bcb73b4261f98e2c9aa7bd9e72270cad3627062dadc296c0208cb582e11ae152"), looks := false }, kinds := [], alts := [], laidByText := true, laidKinds := [.data], laidTests := true, laidLooks := .later }
def VmRunsUptoCardSaid : Prop := Claim7.holds Tryd.pinned (.plain (OpenSpec.upto vmRunsSpec)) vmRunsUptoCard

/-- THE SECOND FORM's CARD OF 'gavottelaw6.VmFuel'. -/
def vmFuelUptoCard : Claim7 := { stood := { row := vmFuelUptoRow, standIns := [], harness := (true, "bcb73b4261f98e2c9aa7bd9e72270cad3627062dadc296c0208cb582e11ae152"), looks := false }, kinds := [], alts := [], laidByText := true, laidKinds := [.data], laidTests := true, laidLooks := .later }
def VmFuelUptoCardSaid : Prop := Claim7.holds Tryd.pinned (.plain (OpenSpec.upto vmFuelSpec)) vmFuelUptoCard

/-- THE SECOND FORM's CARD OF 'gavottelaw6.VmLoops'. -/
def vmLoopsUptoCard : Claim7 := { stood := { row := vmLoopsUptoRow, standIns := [], harness := (true, "bcb73b4261f98e2c9aa7bd9e72270cad3627062dadc296c0208cb582e11ae152"), looks := false }, kinds := [], alts := [], laidByText := true, laidKinds := [.data], laidTests := true, laidLooks := .later }
def VmLoopsUptoCardSaid : Prop := Claim7.holds Tryd.pinned (.plain (OpenSpec.upto vmLoopsSpec)) vmLoopsUptoCard

/-- THE SECOND FORM's CARD OF 'gavottelaw6.VmArgs'. -/
def vmArgsUptoCard : Claim7 := { stood := { row := vmArgsUptoRow, standIns := [], harness := (true, "bcb73b4261f98e2c9aa7bd9e72270cad3627062dadc296c0208cb582e11ae152"), looks := false }, kinds := [], alts := [], laidByText := true, laidKinds := [.data], laidTests := true, laidLooks := .later }
def VmArgsUptoCardSaid : Prop := Claim7.holds Tryd.pinned (.plain (OpenSpec.upto vmArgsSpec)) vmArgsUptoCard

/-- THE SECOND FORM's CARD OF 'gavottelaw6.VmStack'. -/
def vmStackUptoCard : Claim7 := { stood := { row := vmStackUptoRow, standIns := [], harness := (true, "bcb73b4261f98e2c9aa7bd9e72270cad3627062dadc296c0208cb582e11ae152"), looks := false }, kinds := [], alts := [], laidByText := true, laidKinds := [.data], laidTests := true, laidLooks := .later }
def VmStackUptoCardSaid : Prop := Claim7.holds Tryd.pinned (.plain (OpenSpec.upto vmStackSpec)) vmStackUptoCard

/-- THE SECOND FORM's CARD OF 'gavottelaw6.VmArms'. -/
def vmArmsUptoCard : Claim7 := { stood := { row := vmArmsUptoRow, standIns := [], harness := (true, "bcb73b4261f98e2c9aa7bd9e72270cad3627062dadc296c0208cb582e11ae152"), looks := false }, kinds := [], alts := [], laidByText := true, laidKinds := [.data], laidTests := true, laidLooks := .later }
def VmArmsUptoCardSaid : Prop := Claim7.holds Tryd.pinned (.plain (OpenSpec.upto vmArmsSpec)) vmArmsUptoCard

/-- THE SECOND FORM's CARD OF 'gavottelaw6.VmFalls'. -/
def vmFallsUptoCard : Claim7 := { stood := { row := vmFallsUptoRow, standIns := [], harness := (true, "bcb73b4261f98e2c9aa7bd9e72270cad3627062dadc296c0208cb582e11ae152"), looks := false }, kinds := [], alts := [], laidByText := true, laidKinds := [.data], laidTests := true, laidLooks := .later }
def VmFallsUptoCardSaid : Prop := Claim7.holds Tryd.pinned (.plain (OpenSpec.upto vmFallsSpec)) vmFallsUptoCard

/-- THE SECOND FORM's CARD OF 'gavottelaw6.VmRegs'. -/
def vmRegsUptoCard : Claim7 := { stood := { row := vmRegsUptoRow, standIns := [], harness := (true, "bcb73b4261f98e2c9aa7bd9e72270cad3627062dadc296c0208cb582e11ae152"), looks := false }, kinds := [], alts := [], laidByText := true, laidKinds := [.data], laidTests := true, laidLooks := .later }
def VmRegsUptoCardSaid : Prop := Claim7.holds Tryd.pinned (.plain (OpenSpec.upto vmRegsSpec)) vmRegsUptoCard
end Rows
end Go.Proofs.YtpcffhhednplaaaDoor
