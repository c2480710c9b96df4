/-
  NARROWER THAN 'FOR EVERY INPUT', by the rows' own cells (each row's printed sentence says how): StepTells: laid · StepRuns: laid · TouchSwaps: laid · TouchWalks: laid · TouchSends: laid · TouchFaults: laid.
  DERIVED. THE GIVEN ROWS OF THIS SEAT. 6 by the template 'for every input the law returns true; each argument reads behind the call as it read before'; 0 by the template 'total and deterministic' (their statements: YtfbeiedhdmndnaaGreatDoorTotals.lean).
  GIVEN WITH THE SEED: the statements are not yours to turn. If you find one false, say at which input.
  Laid BY PROGRAM, IN A SANDBOX (cutbox-rows.mjs): the forced cells as the released guide's own fill.sh prints them over the translation e75786cc8858adbf… (all of the seat's roots in one cut). By AI agents, Wed Nov 11 2026. No macro, syntax, notation, axiom, sorry.
-/
import Derived.Test.YtfbeiedhdmndnaaGreatDoorChecked
import GoSem.Claim
import GoSem.ClaimJoined
import GoSem.ClaimMapViews
import Derived.JoinedTies
import Derived.KernelRfl
namespace Go.Proofs.YtfbeiedhdmndnaaGreatDoor
/- THE CELL 'sum', in the pinned program and in every row, IS THE sha256 OF THE DUMP (.gsa) THAT YtfbeiedhdmndnaaGreatDoorProg.lean LOADS. Nothing in Lean hashes anything: it is a label: what it is worth is what the hold of that sum in a sandbox is worth. -/
noncomputable def Tryz.pinned : Pinned := { name := "ytfbeiedhdmndnaagreatdoor", sum := "e75786cc8858adbfa6bf6ac917f218b170c364f09fb92f9250a47248d167a047", checked := Tryz.checked }
namespace Rows
def none {H : Type} : Left H := { results := [], args := [] }

/- WHAT THE LISTED PACKAGE-LEVEL VARIABLES READ AS WHEN THE CALL BEGINS. Each datum BY PROGRAM (the guide's laid-datum.mjs) off the statement by which the dump's own 'gosem.cut.vars' lays the variable. In a bare row this is a premise. The card (YtfbeiedhdmndnaaGreatDoorCards.lean) ties it to the program's text. -/
def laid_gavotte_ops_table {H : Type} : DataW H := .agg [.agg [.lit (.string []), .lit (.int .i64 0), .lit (.int .i64 0), .lit (.int .i64 0)], .agg [.lit (.string [112, 117, 115, 104]), .lit (.int .i64 0), .lit (.int .i64 1), .lit (.int .i64 1)], .agg [.lit (.string [112, 111, 112]), .lit (.int .i64 1), .lit (.int .i64 0), .lit (.int .i64 0)], .agg [.lit (.string [99, 111, 112, 121]), .lit (.int .i64 1), .lit (.int .i64 2), .lit (.int .i64 0)], .agg [.lit (.string [115, 119, 97, 112]), .lit (.int .i64 2), .lit (.int .i64 2), .lit (.int .i64 0)], .agg [.lit (.string [108, 111, 97, 100]), .lit (.int .i64 0), .lit (.int .i64 1), .lit (.int .i64 2)], .agg [.lit (.string [115, 116, 111, 114, 101]), .lit (.int .i64 1), .lit (.int .i64 0), .lit (.int .i64 2)], .agg [.lit (.string [97, 114, 103]), .lit (.int .i64 0), .lit (.int .i64 1), .lit (.int .i64 3)], .agg [.lit (.string [115, 101, 108, 102]), .lit (.int .i64 0), .lit (.int .i64 1), .lit (.int .i64 0)], .agg [.lit (.string [97, 100, 100]), .lit (.int .i64 2), .lit (.int .i64 1), .lit (.int .i64 0)], .agg [.lit (.string [115, 117, 98]), .lit (.int .i64 2), .lit (.int .i64 1), .lit (.int .i64 0)], .agg [.lit (.string [109, 117, 108]), .lit (.int .i64 2), .lit (.int .i64 1), .lit (.int .i64 0)], .agg [.lit (.string [100, 105, 118]), .lit (.int .i64 2), .lit (.int .i64 1), .lit (.int .i64 0)], .agg [.lit (.string [109, 111, 100]), .lit (.int .i64 2), .lit (.int .i64 1), .lit (.int .i64 0)], .agg [.lit (.string [110, 101, 103]), .lit (.int .i64 1), .lit (.int .i64 1), .lit (.int .i64 0)], .agg [.lit (.string [101, 113]), .lit (.int .i64 2), .lit (.int .i64 1), .lit (.int .i64 0)], .agg [.lit (.string [108, 101, 115, 115]), .lit (.int .i64 2), .lit (.int .i64 1), .lit (.int .i64 0)], .agg [.lit (.string [97, 110, 100]), .lit (.int .i64 2), .lit (.int .i64 1), .lit (.int .i64 0)], .agg [.lit (.string [111, 114]), .lit (.int .i64 2), .lit (.int .i64 1), .lit (.int .i64 0)], .agg [.lit (.string [110, 111, 116]), .lit (.int .i64 1), .lit (.int .i64 1), .lit (.int .i64 0)], .agg [.lit (.string [106, 117, 109, 112]), .lit (.int .i64 0), .lit (.int .i64 0), .lit (.int .i64 4)], .agg [.lit (.string [122, 101, 114, 111]), .lit (.int .i64 1), .lit (.int .i64 0), .lit (.int .i64 4)], .agg [.lit (.string [115, 101, 110, 100]), .lit (.int .i64 1), .lit (.int .i64 0), .lit (.int .i64 5)], .agg [.lit (.string [97, 114, 109]), .lit (.int .i64 0), .lit (.int .i64 0), .lit (.int .i64 0)], .agg [.lit (.string [99, 97, 108, 109]), .lit (.int .i64 0), .lit (.int .i64 0), .lit (.int .i64 0)], .agg [.lit (.string [101, 110, 100]), .lit (.int .i64 0), .lit (.int .i64 0), .lit (.int .i64 0)]]

/-- 'gavottelaw11.StepTells': WHATEVER THE INPUT: true; the input reads as it did. -/
def stepTellsSpec : ChangeSpec := { name := "stepTells", fn := fun _ => fun
  | [d1, d2, d3, d4] => { results := [.lit (.bool true)], args := [d1, d2, d3, d4] }
  | _ => none }
def stepTellsRow : OpenClaim := { program := "ytfbeiedhdmndnaagreatdoor", sum := "e75786cc8858adbfa6bf6ac917f218b170c364f09fb92f9250a47248d167a047", func := "gavotte/gavottelaw11.StepTells", spec := "stepTells", unfollowed := true, recurses := true, named := ["gavotte/ops.table"], apart := false, laid := [("gavotte/ops.table", laid_gavotte_ops_table)] }
def StepTellsSaid : Prop := stepTellsRow.holds Tryz.pinned (OpenSpec.ofChange stepTellsSpec)

/-- ITS FALSE NEIGHBOUR: 'it returns false'. Refute it at one input. -/
def stepTellsWrong : ChangeSpec := { name := "stepTells", fn := fun _ => fun
  | [d1, d2, d3, d4] => { results := [.lit (.bool false)], args := [d1, d2, d3, d4] }
  | _ => none }
def StepTellsWrongFalsely : Prop := stepTellsRow.holds Tryz.pinned (OpenSpec.ofChange stepTellsWrong)

/-- 'gavottelaw11.StepRuns': WHATEVER THE INPUT: true; the input reads as it did. -/
def stepRunsSpec : ChangeSpec := { name := "stepRuns", fn := fun _ => fun
  | [d1, d2, d3] => { results := [.lit (.bool true)], args := [d1, d2, d3] }
  | _ => none }
def stepRunsRow : OpenClaim := { program := "ytfbeiedhdmndnaagreatdoor", sum := "e75786cc8858adbfa6bf6ac917f218b170c364f09fb92f9250a47248d167a047", func := "gavotte/gavottelaw11.StepRuns", spec := "stepRuns", unfollowed := true, recurses := true, named := ["gavotte/ops.table"], apart := false, laid := [("gavotte/ops.table", laid_gavotte_ops_table)] }
def StepRunsSaid : Prop := stepRunsRow.holds Tryz.pinned (OpenSpec.ofChange stepRunsSpec)

/-- ITS FALSE NEIGHBOUR: 'it returns false'. Refute it at one input. -/
def stepRunsWrong : ChangeSpec := { name := "stepRuns", fn := fun _ => fun
  | [d1, d2, d3] => { results := [.lit (.bool false)], args := [d1, d2, d3] }
  | _ => none }
def StepRunsWrongFalsely : Prop := stepRunsRow.holds Tryz.pinned (OpenSpec.ofChange stepRunsWrong)

/-- 'gavottelaw12.TouchSwaps': WHATEVER THE INPUT: true; the input reads as it did. -/
def touchSwapsSpec : ChangeSpec := { name := "touchSwaps", fn := fun _ => fun
  | [d1, d2, d3, d4, d5] => { results := [.lit (.bool true)], args := [d1, d2, d3, d4, d5] }
  | _ => none }
def touchSwapsRow : OpenClaim := { program := "ytfbeiedhdmndnaagreatdoor", sum := "e75786cc8858adbfa6bf6ac917f218b170c364f09fb92f9250a47248d167a047", func := "gavotte/gavottelaw12.TouchSwaps", spec := "touchSwaps", unfollowed := true, recurses := true, named := ["gavotte/ops.table"], apart := false, laid := [("gavotte/ops.table", laid_gavotte_ops_table)] }
def TouchSwapsSaid : Prop := touchSwapsRow.holds Tryz.pinned (OpenSpec.ofChange touchSwapsSpec)

/-- ITS FALSE NEIGHBOUR: 'it returns false'. Refute it at one input. -/
def touchSwapsWrong : ChangeSpec := { name := "touchSwaps", fn := fun _ => fun
  | [d1, d2, d3, d4, d5] => { results := [.lit (.bool false)], args := [d1, d2, d3, d4, d5] }
  | _ => none }
def TouchSwapsWrongFalsely : Prop := touchSwapsRow.holds Tryz.pinned (OpenSpec.ofChange touchSwapsWrong)

/-- 'gavottelaw12.TouchWalks': WHATEVER THE INPUT: true; the input reads as it did. -/
def touchWalksSpec : ChangeSpec := { name := "touchWalks", fn := fun _ => fun
  | [d1, d2, d3] => { results := [.lit (.bool true)], args := [d1, d2, d3] }
  | _ => none }
def touchWalksRow : OpenClaim := { program := "ytfbeiedhdmndnaagreatdoor", sum := "e75786cc8858adbfa6bf6ac917f218b170c364f09fb92f9250a47248d167a047", func := "gavotte/gavottelaw12.TouchWalks", spec := "touchWalks", unfollowed := true, recurses := true, named := ["gavotte/ops.table"], apart := false, laid := [("gavotte/ops.table", laid_gavotte_ops_table)] }
def TouchWalksSaid : Prop := touchWalksRow.holds Tryz.pinned (OpenSpec.ofChange touchWalksSpec)

/-- ITS FALSE NEIGHBOUR: 'it returns false'. Refute it at one input. -/
def touchWalksWrong : ChangeSpec := { name := "touchWalks", fn := fun _ => fun
  | [d1, d2, d3] => { results := [.lit (.bool false)], args := [d1, d2, d3] }
  | _ => none }
def TouchWalksWrongFalsely : Prop := touchWalksRow.holds Tryz.pinned (OpenSpec.ofChange touchWalksWrong)

/-- 'gavottelaw12.TouchSends': WHATEVER THE INPUT: true; the input reads as it did. -/
def touchSendsSpec : ChangeSpec := { name := "touchSends", fn := fun _ => fun
  | [d1, d2, d3, d4] => { results := [.lit (.bool true)], args := [d1, d2, d3, d4] }
  | _ => none }
def touchSendsRow : OpenClaim := { program := "ytfbeiedhdmndnaagreatdoor", sum := "e75786cc8858adbfa6bf6ac917f218b170c364f09fb92f9250a47248d167a047", func := "gavotte/gavottelaw12.TouchSends", spec := "touchSends", unfollowed := true, recurses := true, named := ["gavotte/ops.table"], apart := false, laid := [("gavotte/ops.table", laid_gavotte_ops_table)] }
def TouchSendsSaid : Prop := touchSendsRow.holds Tryz.pinned (OpenSpec.ofChange touchSendsSpec)

/-- ITS FALSE NEIGHBOUR: 'it returns false'. Refute it at one input. -/
def touchSendsWrong : ChangeSpec := { name := "touchSends", fn := fun _ => fun
  | [d1, d2, d3, d4] => { results := [.lit (.bool false)], args := [d1, d2, d3, d4] }
  | _ => none }
def TouchSendsWrongFalsely : Prop := touchSendsRow.holds Tryz.pinned (OpenSpec.ofChange touchSendsWrong)

/-- 'gavottelaw12.TouchFaults': WHATEVER THE INPUT: true; the input reads as it did. -/
def touchFaultsSpec : ChangeSpec := { name := "touchFaults", fn := fun _ => fun
  | [d1, d2, d3, d4] => { results := [.lit (.bool true)], args := [d1, d2, d3, d4] }
  | _ => none }
def touchFaultsRow : OpenClaim := { program := "ytfbeiedhdmndnaagreatdoor", sum := "e75786cc8858adbfa6bf6ac917f218b170c364f09fb92f9250a47248d167a047", func := "gavotte/gavottelaw12.TouchFaults", spec := "touchFaults", unfollowed := true, recurses := true, named := ["gavotte/ops.table"], apart := false, laid := [("gavotte/ops.table", laid_gavotte_ops_table)] }
def TouchFaultsSaid : Prop := touchFaultsRow.holds Tryz.pinned (OpenSpec.ofChange touchFaultsSpec)

/-- ITS FALSE NEIGHBOUR: 'it returns false'. Refute it at one input. -/
def touchFaultsWrong : ChangeSpec := { name := "touchFaults", fn := fun _ => fun
  | [d1, d2, d3, d4] => { results := [.lit (.bool false)], args := [d1, d2, d3, d4] }
  | _ => none }
def TouchFaultsWrongFalsely : Prop := touchFaultsRow.holds Tryz.pinned (OpenSpec.ofChange touchFaultsWrong)

/- THE SECOND FORM. 'bulk': how many values and letters a reading holds, each counted each time it is reached (what is shared counts as often as it is met; a slice's spare places count too). A statement '..UptoSaid' is the law's where the arguments, and the package variables that the reading takes, are together of bulk at most 1048576: NARROWER than '..Said'. Prove '..Said' where nothing that the law and all that it calls make is longer than what came in: it says more and counts as full. Else prove '..UptoSaid'. A law counts once. -/
mutual
def uptoBulk {H : Type} : DataW H → Nat
  | .lit (.string bytes) => bytes.length + 1
  | .lit _ => 1
  | .nil => 1
  | .ptr d => uptoBulk d + 1
  | .slice elems spare => uptoBulkAll elems + uptoBulkAll spare + 1
  | .agg parts => uptoBulkAll parts + 1
  | .iface _ d => uptoBulk d + 1
  | .map entries => uptoBulkEntries entries + 1
  | .held _ => 1
def uptoBulkAll {H : Type} : List (DataW H) → Nat
  | [] => 0
  | d :: r => uptoBulk d + uptoBulkAll r
def uptoBulkEntries {H : Type} : List (Lit × DataW H) → Nat
  | [] => 0
  | x :: r => uptoBulkEntry x + uptoBulkEntries r
def uptoBulkEntry {H : Type} : Lit × DataW H → Nat
  | (.string bytes, d) => bytes.length + uptoBulk d + 1
  | (_, d) => uptoBulk d + 1
 end
def uptoSmall : (H : Type) → List (DataW H) → Bool := fun _ ds => decide (uptoBulkAll ds ≤ 1048576)
def OpenSpec.upto (s : _root_.Go.ChangeSpec) : _root_.Go.OpenSpec := { _root_.Go.OpenSpec.ofChange s with cond := some uptoSmall }

/-- 'gavottelaw11.StepTells', WHERE WHAT IT READS IS OF BULK AT MOST 1048576: true; the input reads as it did. -/
def stepTellsUptoRow : OpenClaim := { program := "ytfbeiedhdmndnaagreatdoor", sum := "e75786cc8858adbfa6bf6ac917f218b170c364f09fb92f9250a47248d167a047", func := "gavotte/gavottelaw11.StepTells", spec := "stepTells", unfollowed := true, recurses := true, named := ["gavotte/ops.table"], apart := false, laid := [("gavotte/ops.table", laid_gavotte_ops_table)], narrowed := true }
def StepTellsUptoSaid : Prop := stepTellsUptoRow.holds Tryz.pinned (OpenSpec.upto stepTellsSpec)

/-- 'gavottelaw11.StepRuns', WHERE WHAT IT READS IS OF BULK AT MOST 1048576: true; the input reads as it did. -/
def stepRunsUptoRow : OpenClaim := { program := "ytfbeiedhdmndnaagreatdoor", sum := "e75786cc8858adbfa6bf6ac917f218b170c364f09fb92f9250a47248d167a047", func := "gavotte/gavottelaw11.StepRuns", spec := "stepRuns", unfollowed := true, recurses := true, named := ["gavotte/ops.table"], apart := false, laid := [("gavotte/ops.table", laid_gavotte_ops_table)], narrowed := true }
def StepRunsUptoSaid : Prop := stepRunsUptoRow.holds Tryz.pinned (OpenSpec.upto stepRunsSpec)

/-- 'gavottelaw12.TouchSwaps', WHERE WHAT IT READS IS OF BULK AT MOST 1048576: true; the input reads as it did. -/
def touchSwapsUptoRow : OpenClaim := { program := "ytfbeiedhdmndnaagreatdoor", sum := "e75786cc8858adbfa6bf6ac917f218b170c364f09fb92f9250a47248d167a047", func := "gavotte/gavottelaw12.TouchSwaps", spec := "touchSwaps", unfollowed := true, recurses := true, named := ["gavotte/ops.table"], apart := false, laid := [("gavotte/ops.table", laid_gavotte_ops_table)], narrowed := true }
def TouchSwapsUptoSaid : Prop := touchSwapsUptoRow.holds Tryz.pinned (OpenSpec.upto touchSwapsSpec)

/-- 'gavottelaw12.TouchWalks', WHERE WHAT IT READS IS OF BULK AT MOST 1048576: true; the input reads as it did. -/
def touchWalksUptoRow : OpenClaim := { program := "ytfbeiedhdmndnaagreatdoor", sum := "e75786cc8858adbfa6bf6ac917f218b170c364f09fb92f9250a47248d167a047", func := "gavotte/gavottelaw12.TouchWalks", spec := "touchWalks", unfollowed := true, recurses := true, named := ["gavotte/ops.table"], apart := false, laid := [("gavotte/ops.table", laid_gavotte_ops_table)], narrowed := true }
def TouchWalksUptoSaid : Prop := touchWalksUptoRow.holds Tryz.pinned (OpenSpec.upto touchWalksSpec)

/-- 'gavottelaw12.TouchSends', WHERE WHAT IT READS IS OF BULK AT MOST 1048576: true; the input reads as it did. -/
def touchSendsUptoRow : OpenClaim := { program := "ytfbeiedhdmndnaagreatdoor", sum := "e75786cc8858adbfa6bf6ac917f218b170c364f09fb92f9250a47248d167a047", func := "gavotte/gavottelaw12.TouchSends", spec := "touchSends", unfollowed := true, recurses := true, named := ["gavotte/ops.table"], apart := false, laid := [("gavotte/ops.table", laid_gavotte_ops_table)], narrowed := true }
def TouchSendsUptoSaid : Prop := touchSendsUptoRow.holds Tryz.pinned (OpenSpec.upto touchSendsSpec)

/-- 'gavottelaw12.TouchFaults', WHERE WHAT IT READS IS OF BULK AT MOST 1048576: true; the input reads as it did. -/
def touchFaultsUptoRow : OpenClaim := { program := "ytfbeiedhdmndnaagreatdoor", sum := "e75786cc8858adbfa6bf6ac917f218b170c364f09fb92f9250a47248d167a047", func := "gavotte/gavottelaw12.TouchFaults", spec := "touchFaults", unfollowed := true, recurses := true, named := ["gavotte/ops.table"], apart := false, laid := [("gavotte/ops.table", laid_gavotte_ops_table)], narrowed := true }
def TouchFaultsUptoSaid : Prop := touchFaultsUptoRow.holds Tryz.pinned (OpenSpec.upto touchFaultsSpec)

end Rows
end Go.Proofs.YtfbeiedhdmndnaaGreatDoor
