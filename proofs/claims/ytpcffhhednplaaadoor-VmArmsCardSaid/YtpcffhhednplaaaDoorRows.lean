/-
  NARROWER THAN 'FOR EVERY INPUT', by the rows' own cells (each row's printed sentence says how): VmRuns: laid · VmFuel: laid · VmLoops: laid · VmArgs: laid · VmStack: laid · VmArms: laid · VmFalls: laid · VmRegs: laid.
  DERIVED. THE GIVEN ROWS OF THIS SEAT. 8 by the template 'for every input the law returns true; each argument reads behind the call as it read before'; 0 by the template 'total and deterministic' (their statements: YtpcffhhednplaaaDoorTotals.lean).
  GIVEN WITH THE SEED: the statements are not yours to turn. If you find one false, say at which input.
  Laid BY PROGRAM, IN A SANDBOX (cutbox-rows.mjs): the forced cells as the released guide's own fill.sh prints them over the translation 7f3b399cda92a6cc… (all of the seat's roots in one cut). By AI agents, Wed Nov 11 2026. No macro, syntax, notation, axiom, sorry.
-/
import Derived.Test.YtpcffhhednplaaaDoorChecked
import GoSem.Claim
import GoSem.ClaimJoined
import GoSem.ClaimMapViews
import Derived.JoinedTies
import Derived.KernelRfl
namespace Go.Proofs.YtpcffhhednplaaaDoor
/- THE CELL 'sum', in the pinned program and in every row, IS THE sha256 OF THE DUMP (.gsa) THAT YtpcffhhednplaaaDoorProg.lean LOADS. Nothing in Lean hashes anything: it is a label: what it is worth is what the hold of that sum in a sandbox is worth. -/
noncomputable def Tryd.pinned : Pinned := { name := "ytpcffhhednplaaadoor", sum := "7f3b399cda92a6cc61e6918f85352359502b2b09b22f27deff5341be2d180d78", checked := Tryd.checked }
namespace Rows
def none {H : Type} : Left H := { results := [], args := [] }

/- WHAT THE LISTED PACKAGE-LEVEL VARIABLES READ AS WHEN THE CALL BEGINS. Each datum BY PROGRAM (the guide's laid-datum.mjs) off the statement by which the dump's own 'gosem.cut.vars' lays the variable. In a bare row this is a premise. The card (YtpcffhhednplaaaDoorCards.lean) ties it to the program's text. -/
def laid_gavotte_ops_table {H : Type} : DataW H := .agg [.agg [.lit (.string []), .lit (.int .i64 0), .lit (.int .i64 0), .lit (.int .i64 0)], .agg [.lit (.string [112, 117, 115, 104]), .lit (.int .i64 0), .lit (.int .i64 1), .lit (.int .i64 1)], .agg [.lit (.string [112, 111, 112]), .lit (.int .i64 1), .lit (.int .i64 0), .lit (.int .i64 0)], .agg [.lit (.string [99, 111, 112, 121]), .lit (.int .i64 1), .lit (.int .i64 2), .lit (.int .i64 0)], .agg [.lit (.string [115, 119, 97, 112]), .lit (.int .i64 2), .lit (.int .i64 2), .lit (.int .i64 0)], .agg [.lit (.string [108, 111, 97, 100]), .lit (.int .i64 0), .lit (.int .i64 1), .lit (.int .i64 2)], .agg [.lit (.string [115, 116, 111, 114, 101]), .lit (.int .i64 1), .lit (.int .i64 0), .lit (.int .i64 2)], .agg [.lit (.string [97, 114, 103]), .lit (.int .i64 0), .lit (.int .i64 1), .lit (.int .i64 3)], .agg [.lit (.string [115, 101, 108, 102]), .lit (.int .i64 0), .lit (.int .i64 1), .lit (.int .i64 0)], .agg [.lit (.string [97, 100, 100]), .lit (.int .i64 2), .lit (.int .i64 1), .lit (.int .i64 0)], .agg [.lit (.string [115, 117, 98]), .lit (.int .i64 2), .lit (.int .i64 1), .lit (.int .i64 0)], .agg [.lit (.string [109, 117, 108]), .lit (.int .i64 2), .lit (.int .i64 1), .lit (.int .i64 0)], .agg [.lit (.string [100, 105, 118]), .lit (.int .i64 2), .lit (.int .i64 1), .lit (.int .i64 0)], .agg [.lit (.string [109, 111, 100]), .lit (.int .i64 2), .lit (.int .i64 1), .lit (.int .i64 0)], .agg [.lit (.string [110, 101, 103]), .lit (.int .i64 1), .lit (.int .i64 1), .lit (.int .i64 0)], .agg [.lit (.string [101, 113]), .lit (.int .i64 2), .lit (.int .i64 1), .lit (.int .i64 0)], .agg [.lit (.string [108, 101, 115, 115]), .lit (.int .i64 2), .lit (.int .i64 1), .lit (.int .i64 0)], .agg [.lit (.string [97, 110, 100]), .lit (.int .i64 2), .lit (.int .i64 1), .lit (.int .i64 0)], .agg [.lit (.string [111, 114]), .lit (.int .i64 2), .lit (.int .i64 1), .lit (.int .i64 0)], .agg [.lit (.string [110, 111, 116]), .lit (.int .i64 1), .lit (.int .i64 1), .lit (.int .i64 0)], .agg [.lit (.string [106, 117, 109, 112]), .lit (.int .i64 0), .lit (.int .i64 0), .lit (.int .i64 4)], .agg [.lit (.string [122, 101, 114, 111]), .lit (.int .i64 1), .lit (.int .i64 0), .lit (.int .i64 4)], .agg [.lit (.string [115, 101, 110, 100]), .lit (.int .i64 1), .lit (.int .i64 0), .lit (.int .i64 5)], .agg [.lit (.string [97, 114, 109]), .lit (.int .i64 0), .lit (.int .i64 0), .lit (.int .i64 0)], .agg [.lit (.string [99, 97, 108, 109]), .lit (.int .i64 0), .lit (.int .i64 0), .lit (.int .i64 0)], .agg [.lit (.string [101, 110, 100]), .lit (.int .i64 0), .lit (.int .i64 0), .lit (.int .i64 0)]]

/-- 'gavottelaw6.VmRuns': WHATEVER THE INPUT: true; the input reads as it did. -/
def vmRunsSpec : ChangeSpec := { name := "vmRuns", fn := fun _ => fun
  | [d1, d2, d3, d4, d5] => { results := [.lit (.bool true)], args := [d1, d2, d3, d4, d5] }
  | _ => none }
def vmRunsRow : OpenClaim := { program := "ytpcffhhednplaaadoor", sum := "7f3b399cda92a6cc61e6918f85352359502b2b09b22f27deff5341be2d180d78", func := "gavotte/gavottelaw6.VmRuns", spec := "vmRuns", named := ["gavotte/ops.table"], apart := false, laid := [("gavotte/ops.table", laid_gavotte_ops_table)] }
def VmRunsSaid : Prop := vmRunsRow.holds Tryd.pinned (OpenSpec.ofChange vmRunsSpec)

/-- ITS FALSE NEIGHBOUR: 'it returns false'. Refute it at one input. -/
def vmRunsWrong : ChangeSpec := { name := "vmRuns", fn := fun _ => fun
  | [d1, d2, d3, d4, d5] => { results := [.lit (.bool false)], args := [d1, d2, d3, d4, d5] }
  | _ => none }
def VmRunsWrongFalsely : Prop := vmRunsRow.holds Tryd.pinned (OpenSpec.ofChange vmRunsWrong)

/-- 'gavottelaw6.VmFuel': WHATEVER THE INPUT: true; the input reads as it did. -/
def vmFuelSpec : ChangeSpec := { name := "vmFuel", fn := fun _ => fun
  | [d1, d2, d3] => { results := [.lit (.bool true)], args := [d1, d2, d3] }
  | _ => none }
def vmFuelRow : OpenClaim := { program := "ytpcffhhednplaaadoor", sum := "7f3b399cda92a6cc61e6918f85352359502b2b09b22f27deff5341be2d180d78", func := "gavotte/gavottelaw6.VmFuel", spec := "vmFuel", named := ["gavotte/ops.table"], apart := false, laid := [("gavotte/ops.table", laid_gavotte_ops_table)] }
def VmFuelSaid : Prop := vmFuelRow.holds Tryd.pinned (OpenSpec.ofChange vmFuelSpec)

/-- ITS FALSE NEIGHBOUR: 'it returns false'. Refute it at one input. -/
def vmFuelWrong : ChangeSpec := { name := "vmFuel", fn := fun _ => fun
  | [d1, d2, d3] => { results := [.lit (.bool false)], args := [d1, d2, d3] }
  | _ => none }
def VmFuelWrongFalsely : Prop := vmFuelRow.holds Tryd.pinned (OpenSpec.ofChange vmFuelWrong)

/-- 'gavottelaw6.VmLoops': WHATEVER THE INPUT: true; the input reads as it did. -/
def vmLoopsSpec : ChangeSpec := { name := "vmLoops", fn := fun _ => fun
  | [d1, d2] => { results := [.lit (.bool true)], args := [d1, d2] }
  | _ => none }
def vmLoopsRow : OpenClaim := { program := "ytpcffhhednplaaadoor", sum := "7f3b399cda92a6cc61e6918f85352359502b2b09b22f27deff5341be2d180d78", func := "gavotte/gavottelaw6.VmLoops", spec := "vmLoops", named := ["gavotte/ops.table"], apart := false, laid := [("gavotte/ops.table", laid_gavotte_ops_table)] }
def VmLoopsSaid : Prop := vmLoopsRow.holds Tryd.pinned (OpenSpec.ofChange vmLoopsSpec)

/-- ITS FALSE NEIGHBOUR: 'it returns false'. Refute it at one input. -/
def vmLoopsWrong : ChangeSpec := { name := "vmLoops", fn := fun _ => fun
  | [d1, d2] => { results := [.lit (.bool false)], args := [d1, d2] }
  | _ => none }
def VmLoopsWrongFalsely : Prop := vmLoopsRow.holds Tryd.pinned (OpenSpec.ofChange vmLoopsWrong)

/-- 'gavottelaw6.VmArgs': WHATEVER THE INPUT: true; the input reads as it did. -/
def vmArgsSpec : ChangeSpec := { name := "vmArgs", fn := fun _ => fun
  | [d1, d2] => { results := [.lit (.bool true)], args := [d1, d2] }
  | _ => none }
def vmArgsRow : OpenClaim := { program := "ytpcffhhednplaaadoor", sum := "7f3b399cda92a6cc61e6918f85352359502b2b09b22f27deff5341be2d180d78", func := "gavotte/gavottelaw6.VmArgs", spec := "vmArgs", named := ["gavotte/ops.table"], apart := false, laid := [("gavotte/ops.table", laid_gavotte_ops_table)] }
def VmArgsSaid : Prop := vmArgsRow.holds Tryd.pinned (OpenSpec.ofChange vmArgsSpec)

/-- ITS FALSE NEIGHBOUR: 'it returns false'. Refute it at one input. -/
def vmArgsWrong : ChangeSpec := { name := "vmArgs", fn := fun _ => fun
  | [d1, d2] => { results := [.lit (.bool false)], args := [d1, d2] }
  | _ => none }
def VmArgsWrongFalsely : Prop := vmArgsRow.holds Tryd.pinned (OpenSpec.ofChange vmArgsWrong)

/-- 'gavottelaw6.VmStack': WHATEVER THE INPUT: true; the input reads as it did. -/
def vmStackSpec : ChangeSpec := { name := "vmStack", fn := fun _ => fun
  | [d1, d2] => { results := [.lit (.bool true)], args := [d1, d2] }
  | _ => none }
def vmStackRow : OpenClaim := { program := "ytpcffhhednplaaadoor", sum := "7f3b399cda92a6cc61e6918f85352359502b2b09b22f27deff5341be2d180d78", func := "gavotte/gavottelaw6.VmStack", spec := "vmStack", named := ["gavotte/ops.table"], apart := false, laid := [("gavotte/ops.table", laid_gavotte_ops_table)] }
def VmStackSaid : Prop := vmStackRow.holds Tryd.pinned (OpenSpec.ofChange vmStackSpec)

/-- ITS FALSE NEIGHBOUR: 'it returns false'. Refute it at one input. -/
def vmStackWrong : ChangeSpec := { name := "vmStack", fn := fun _ => fun
  | [d1, d2] => { results := [.lit (.bool false)], args := [d1, d2] }
  | _ => none }
def VmStackWrongFalsely : Prop := vmStackRow.holds Tryd.pinned (OpenSpec.ofChange vmStackWrong)

/-- 'gavottelaw6.VmArms': WHATEVER THE INPUT: true; the input reads as it did. -/
def vmArmsSpec : ChangeSpec := { name := "vmArms", fn := fun _ => fun
  | [d1, d2, d3] => { results := [.lit (.bool true)], args := [d1, d2, d3] }
  | _ => none }
def vmArmsRow : OpenClaim := { program := "ytpcffhhednplaaadoor", sum := "7f3b399cda92a6cc61e6918f85352359502b2b09b22f27deff5341be2d180d78", func := "gavotte/gavottelaw6.VmArms", spec := "vmArms", named := ["gavotte/ops.table"], apart := false, laid := [("gavotte/ops.table", laid_gavotte_ops_table)] }
def VmArmsSaid : Prop := vmArmsRow.holds Tryd.pinned (OpenSpec.ofChange vmArmsSpec)

/-- ITS FALSE NEIGHBOUR: 'it returns false'. Refute it at one input. -/
def vmArmsWrong : ChangeSpec := { name := "vmArms", fn := fun _ => fun
  | [d1, d2, d3] => { results := [.lit (.bool false)], args := [d1, d2, d3] }
  | _ => none }
def VmArmsWrongFalsely : Prop := vmArmsRow.holds Tryd.pinned (OpenSpec.ofChange vmArmsWrong)

/-- 'gavottelaw6.VmFalls': WHATEVER THE INPUT: true; the input reads as it did. -/
def vmFallsSpec : ChangeSpec := { name := "vmFalls", fn := fun _ => fun
  | [d1, d2, d3] => { results := [.lit (.bool true)], args := [d1, d2, d3] }
  | _ => none }
def vmFallsRow : OpenClaim := { program := "ytpcffhhednplaaadoor", sum := "7f3b399cda92a6cc61e6918f85352359502b2b09b22f27deff5341be2d180d78", func := "gavotte/gavottelaw6.VmFalls", spec := "vmFalls", named := ["gavotte/ops.table"], apart := false, laid := [("gavotte/ops.table", laid_gavotte_ops_table)] }
def VmFallsSaid : Prop := vmFallsRow.holds Tryd.pinned (OpenSpec.ofChange vmFallsSpec)

/-- ITS FALSE NEIGHBOUR: 'it returns false'. Refute it at one input. -/
def vmFallsWrong : ChangeSpec := { name := "vmFalls", fn := fun _ => fun
  | [d1, d2, d3] => { results := [.lit (.bool false)], args := [d1, d2, d3] }
  | _ => none }
def VmFallsWrongFalsely : Prop := vmFallsRow.holds Tryd.pinned (OpenSpec.ofChange vmFallsWrong)

/-- 'gavottelaw6.VmRegs': WHATEVER THE INPUT: true; the input reads as it did. -/
def vmRegsSpec : ChangeSpec := { name := "vmRegs", fn := fun _ => fun
  | [d1, d2, d3] => { results := [.lit (.bool true)], args := [d1, d2, d3] }
  | _ => none }
def vmRegsRow : OpenClaim := { program := "ytpcffhhednplaaadoor", sum := "7f3b399cda92a6cc61e6918f85352359502b2b09b22f27deff5341be2d180d78", func := "gavotte/gavottelaw6.VmRegs", spec := "vmRegs", named := ["gavotte/ops.table"], apart := false, laid := [("gavotte/ops.table", laid_gavotte_ops_table)] }
def VmRegsSaid : Prop := vmRegsRow.holds Tryd.pinned (OpenSpec.ofChange vmRegsSpec)

/-- ITS FALSE NEIGHBOUR: 'it returns false'. Refute it at one input. -/
def vmRegsWrong : ChangeSpec := { name := "vmRegs", fn := fun _ => fun
  | [d1, d2, d3] => { results := [.lit (.bool false)], args := [d1, d2, d3] }
  | _ => none }
def VmRegsWrongFalsely : Prop := vmRegsRow.holds Tryd.pinned (OpenSpec.ofChange vmRegsWrong)

/- THE SECOND FORM. 'bulk': how many values and letters a reading holds, each counted each time it is reached (what is shared counts as often as it is met; a slice's spare places count too). A statement '..UptoSaid' is the law's where the arguments, and the package variables that the reading takes, are together of bulk at most 1048576: NARROWER than '..Said'. Prove '..Said' where nothing that the law and all that it calls make is longer than what came in: it says more and counts as full. Else prove '..UptoSaid'. A law counts once. -/
mutual
def uptoBulk {H : Type} : DataW H → Nat
  | .lit (.string bytes) => bytes.length + 1
  | .lit _ => 1
  | .nil => 1
  | .ptr d => uptoBulk d + 1
  | .slice elems spare => uptoBulkAll elems + uptoBulkAll spare + 1
  | .agg parts => uptoBulkAll parts + 1
  | .iface _ d => uptoBulk d + 1
  | .map entries => uptoBulkEntries entries + 1
  | .held _ => 1
def uptoBulkAll {H : Type} : List (DataW H) → Nat
  | [] => 0
  | d :: r => uptoBulk d + uptoBulkAll r
def uptoBulkEntries {H : Type} : List (Lit × DataW H) → Nat
  | [] => 0
  | x :: r => uptoBulkEntry x + uptoBulkEntries r
def uptoBulkEntry {H : Type} : Lit × DataW H → Nat
  | (.string bytes, d) => bytes.length + uptoBulk d + 1
  | (_, d) => uptoBulk d + 1
 end
def uptoSmall : (H : Type) → List (DataW H) → Bool := fun _ ds => decide (uptoBulkAll ds ≤ 1048576)
def OpenSpec.upto (s : _root_.Go.ChangeSpec) : _root_.Go.OpenSpec := { _root_.Go.OpenSpec.ofChange s with cond := some uptoSmall }

/-- 'gavottelaw6.VmRuns', WHERE WHAT IT READS IS OF BULK AT MOST 1048576: true; the input reads as it did. -/
def vmRunsUptoRow : OpenClaim := { program := "ytpcffhhednplaaadoor", sum := "7f3b399cda92a6cc61e6918f85352359502b2b09b22f27deff5341be2d180d78", func := "gavotte/gavottelaw6.VmRuns", spec := "vmRuns", named := ["gavotte/ops.table"], apart := false, laid := [("gavotte/ops.table", laid_gavotte_ops_table)], narrowed := true }
def VmRunsUptoSaid : Prop := vmRunsUptoRow.holds Tryd.pinned (OpenSpec.upto vmRunsSpec)

/-- 'gavottelaw6.VmFuel', WHERE WHAT IT READS IS OF BULK AT MOST 1048576: true; the input reads as it did. -/
def vmFuelUptoRow : OpenClaim := { program := "ytpcffhhednplaaadoor", sum := "7f3b399cda92a6cc61e6918f85352359502b2b09b22f27deff5341be2d180d78", func := "gavotte/gavottelaw6.VmFuel", spec := "vmFuel", named := ["gavotte/ops.table"], apart := false, laid := [("gavotte/ops.table", laid_gavotte_ops_table)], narrowed := true }
def VmFuelUptoSaid : Prop := vmFuelUptoRow.holds Tryd.pinned (OpenSpec.upto vmFuelSpec)

/-- 'gavottelaw6.VmLoops', WHERE WHAT IT READS IS OF BULK AT MOST 1048576: true; the input reads as it did. -/
def vmLoopsUptoRow : OpenClaim := { program := "ytpcffhhednplaaadoor", sum := "7f3b399cda92a6cc61e6918f85352359502b2b09b22f27deff5341be2d180d78", func := "gavotte/gavottelaw6.VmLoops", spec := "vmLoops", named := ["gavotte/ops.table"], apart := false, laid := [("gavotte/ops.table", laid_gavotte_ops_table)], narrowed := true }
def VmLoopsUptoSaid : Prop := vmLoopsUptoRow.holds Tryd.pinned (OpenSpec.upto vmLoopsSpec)

/-- 'gavottelaw6.VmArgs', WHERE WHAT IT READS IS OF BULK AT MOST 1048576: true; the input reads as it did. -/
def vmArgsUptoRow : OpenClaim := { program := "ytpcffhhednplaaadoor", sum := "7f3b399cda92a6cc61e6918f85352359502b2b09b22f27deff5341be2d180d78", func := "gavotte/gavottelaw6.VmArgs", spec := "vmArgs", named := ["gavotte/ops.table"], apart := false, laid := [("gavotte/ops.table", laid_gavotte_ops_table)], narrowed := true }
def VmArgsUptoSaid : Prop := vmArgsUptoRow.holds Tryd.pinned (OpenSpec.upto vmArgsSpec)

/-- 'gavottelaw6.VmStack', WHERE WHAT IT READS IS OF BULK AT MOST 1048576: true; the input reads as it did. -/
def vmStackUptoRow : OpenClaim := { program := "ytpcffhhednplaaadoor", sum := "7f3b399cda92a6cc61e6918f85352359502b2b09b22f27deff5341be2d180d78", func := "gavotte/gavottelaw6.VmStack", spec := "vmStack", named := ["gavotte/ops.table"], apart := false, laid := [("gavotte/ops.table", laid_gavotte_ops_table)], narrowed := true }
def VmStackUptoSaid : Prop := vmStackUptoRow.holds Tryd.pinned (OpenSpec.upto vmStackSpec)

/-- 'gavottelaw6.VmArms', WHERE WHAT IT READS IS OF BULK AT MOST 1048576: true; the input reads as it did. -/
def vmArmsUptoRow : OpenClaim := { program := "ytpcffhhednplaaadoor", sum := "7f3b399cda92a6cc61e6918f85352359502b2b09b22f27deff5341be2d180d78", func := "gavotte/gavottelaw6.VmArms", spec := "vmArms", named := ["gavotte/ops.table"], apart := false, laid := [("gavotte/ops.table", laid_gavotte_ops_table)], narrowed := true }
def VmArmsUptoSaid : Prop := vmArmsUptoRow.holds Tryd.pinned (OpenSpec.upto vmArmsSpec)

/-- 'gavottelaw6.VmFalls', WHERE WHAT IT READS IS OF BULK AT MOST 1048576: true; the input reads as it did. -/
def vmFallsUptoRow : OpenClaim := { program := "ytpcffhhednplaaadoor", sum := "7f3b399cda92a6cc61e6918f85352359502b2b09b22f27deff5341be2d180d78", func := "gavotte/gavottelaw6.VmFalls", spec := "vmFalls", named := ["gavotte/ops.table"], apart := false, laid := [("gavotte/ops.table", laid_gavotte_ops_table)], narrowed := true }
def VmFallsUptoSaid : Prop := vmFallsUptoRow.holds Tryd.pinned (OpenSpec.upto vmFallsSpec)

/-- 'gavottelaw6.VmRegs', WHERE WHAT IT READS IS OF BULK AT MOST 1048576: true; the input reads as it did. -/
def vmRegsUptoRow : OpenClaim := { program := "ytpcffhhednplaaadoor", sum := "7f3b399cda92a6cc61e6918f85352359502b2b09b22f27deff5341be2d180d78", func := "gavotte/gavottelaw6.VmRegs", spec := "vmRegs", named := ["gavotte/ops.table"], apart := false, laid := [("gavotte/ops.table", laid_gavotte_ops_table)], narrowed := true }
def VmRegsUptoSaid : Prop := vmRegsUptoRow.holds Tryd.pinned (OpenSpec.upto vmRegsSpec)

end Rows
end Go.Proofs.YtpcffhhednplaaaDoor
