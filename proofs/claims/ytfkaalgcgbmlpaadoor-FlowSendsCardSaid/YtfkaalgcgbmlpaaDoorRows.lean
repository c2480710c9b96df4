/-
  NARROWER THAN 'FOR EVERY INPUT', by the rows' own cells (each row's printed sentence says how): FlowTells: laid · FlowRows: laid · FlowReach: laid · FlowJoins: laid · FlowSends: laid · FlowFirst: laid.
  DERIVED. THE GIVEN ROWS OF THIS SEAT. 6 by the template 'for every input the law returns true; each argument reads behind the call as it read before'; 0 by the template 'total and deterministic' (their statements: YtfkaalgcgbmlpaaDoorTotals.lean).
  GIVEN WITH THE SEED: the statements are not yours to turn. If you find one false, say at which input.
  Laid BY PROGRAM, IN A SANDBOX (cutbox-rows.mjs): the forced cells as the released guide's own fill.sh prints them over the translation 7268def2f3e4c33b… (all of the seat's roots in one cut). By AI agents, Wed Nov 11 2026. No macro, syntax, notation, axiom, sorry.
-/
import Derived.Test.YtfkaalgcgbmlpaaDoorChecked
import GoSem.Claim
import GoSem.ClaimJoined
import GoSem.ClaimMapViews
import Derived.JoinedTies
import Derived.KernelRfl
namespace Go.Proofs.YtfkaalgcgbmlpaaDoor
/- THE CELL 'sum', in the pinned program and in every row, IS THE sha256 OF THE DUMP (.gsa) THAT YtfkaalgcgbmlpaaDoorProg.lean LOADS. Nothing in Lean hashes anything: it is a label: what it is worth is what the hold of that sum in a sandbox is worth. -/
noncomputable def Tryd.pinned : Pinned := { name := "ytfkaalgcgbmlpaadoor", sum := "7268def2f3e4c33bbd1dddfc0892d455b89f1703d6a0d5eba1be9523badb4209", checked := Tryd.checked }
namespace Rows
def none {H : Type} : Left H := { results := [], args := [] }

/- WHAT THE LISTED PACKAGE-LEVEL VARIABLES READ AS WHEN THE CALL BEGINS. Each datum BY PROGRAM (the guide's laid-datum.mjs) off the statement by which the dump's own 'gosem.cut.vars' lays the variable. In a bare row this is a premise. The card (YtfkaalgcgbmlpaaDoorCards.lean) ties it to the program's text. -/
def laid_gavotte_ops_table {H : Type} : DataW H := .agg [.agg [.lit (.string []), .lit (.int .i64 0), .lit (.int .i64 0), .lit (.int .i64 0)], .agg [.lit (.string [112, 117, 115, 104]), .lit (.int .i64 0), .lit (.int .i64 1), .lit (.int .i64 1)], .agg [.lit (.string [112, 111, 112]), .lit (.int .i64 1), .lit (.int .i64 0), .lit (.int .i64 0)], .agg [.lit (.string [99, 111, 112, 121]), .lit (.int .i64 1), .lit (.int .i64 2), .lit (.int .i64 0)], .agg [.lit (.string [115, 119, 97, 112]), .lit (.int .i64 2), .lit (.int .i64 2), .lit (.int .i64 0)], .agg [.lit (.string [108, 111, 97, 100]), .lit (.int .i64 0), .lit (.int .i64 1), .lit (.int .i64 2)], .agg [.lit (.string [115, 116, 111, 114, 101]), .lit (.int .i64 1), .lit (.int .i64 0), .lit (.int .i64 2)], .agg [.lit (.string [97, 114, 103]), .lit (.int .i64 0), .lit (.int .i64 1), .lit (.int .i64 3)], .agg [.lit (.string [115, 101, 108, 102]), .lit (.int .i64 0), .lit (.int .i64 1), .lit (.int .i64 0)], .agg [.lit (.string [97, 100, 100]), .lit (.int .i64 2), .lit (.int .i64 1), .lit (.int .i64 0)], .agg [.lit (.string [115, 117, 98]), .lit (.int .i64 2), .lit (.int .i64 1), .lit (.int .i64 0)], .agg [.lit (.string [109, 117, 108]), .lit (.int .i64 2), .lit (.int .i64 1), .lit (.int .i64 0)], .agg [.lit (.string [100, 105, 118]), .lit (.int .i64 2), .lit (.int .i64 1), .lit (.int .i64 0)], .agg [.lit (.string [109, 111, 100]), .lit (.int .i64 2), .lit (.int .i64 1), .lit (.int .i64 0)], .agg [.lit (.string [110, 101, 103]), .lit (.int .i64 1), .lit (.int .i64 1), .lit (.int .i64 0)], .agg [.lit (.string [101, 113]), .lit (.int .i64 2), .lit (.int .i64 1), .lit (.int .i64 0)], .agg [.lit (.string [108, 101, 115, 115]), .lit (.int .i64 2), .lit (.int .i64 1), .lit (.int .i64 0)], .agg [.lit (.string [97, 110, 100]), .lit (.int .i64 2), .lit (.int .i64 1), .lit (.int .i64 0)], .agg [.lit (.string [111, 114]), .lit (.int .i64 2), .lit (.int .i64 1), .lit (.int .i64 0)], .agg [.lit (.string [110, 111, 116]), .lit (.int .i64 1), .lit (.int .i64 1), .lit (.int .i64 0)], .agg [.lit (.string [106, 117, 109, 112]), .lit (.int .i64 0), .lit (.int .i64 0), .lit (.int .i64 4)], .agg [.lit (.string [122, 101, 114, 111]), .lit (.int .i64 1), .lit (.int .i64 0), .lit (.int .i64 4)], .agg [.lit (.string [115, 101, 110, 100]), .lit (.int .i64 1), .lit (.int .i64 0), .lit (.int .i64 5)], .agg [.lit (.string [97, 114, 109]), .lit (.int .i64 0), .lit (.int .i64 0), .lit (.int .i64 0)], .agg [.lit (.string [99, 97, 108, 109]), .lit (.int .i64 0), .lit (.int .i64 0), .lit (.int .i64 0)], .agg [.lit (.string [101, 110, 100]), .lit (.int .i64 0), .lit (.int .i64 0), .lit (.int .i64 0)]]

/-- 'gavottelaw4.FlowTells': WHATEVER THE INPUT: true; the input reads as it did. -/
def flowTellsSpec : ChangeSpec := { name := "flowTells", fn := fun _ => fun
  | [d1, d2] => { results := [.lit (.bool true)], args := [d1, d2] }
  | _ => none }
def flowTellsRow : OpenClaim := { program := "ytfkaalgcgbmlpaadoor", sum := "7268def2f3e4c33bbd1dddfc0892d455b89f1703d6a0d5eba1be9523badb4209", func := "gavotte/gavottelaw4.FlowTells", spec := "flowTells", named := ["gavotte/ops.table"], apart := false, laid := [("gavotte/ops.table", laid_gavotte_ops_table)] }
def FlowTellsSaid : Prop := flowTellsRow.holds Tryd.pinned (OpenSpec.ofChange flowTellsSpec)

/-- ITS FALSE NEIGHBOUR: 'it returns false'. Refute it at one input. -/
def flowTellsWrong : ChangeSpec := { name := "flowTells", fn := fun _ => fun
  | [d1, d2] => { results := [.lit (.bool false)], args := [d1, d2] }
  | _ => none }
def FlowTellsWrongFalsely : Prop := flowTellsRow.holds Tryd.pinned (OpenSpec.ofChange flowTellsWrong)

/-- 'gavottelaw4.FlowRows': WHATEVER THE INPUT: true; the input reads as it did. -/
def flowRowsSpec : ChangeSpec := { name := "flowRows", fn := fun _ => fun
  | [d] => { results := [.lit (.bool true)], args := [d] }
  | _ => none }
def flowRowsRow : OpenClaim := { program := "ytfkaalgcgbmlpaadoor", sum := "7268def2f3e4c33bbd1dddfc0892d455b89f1703d6a0d5eba1be9523badb4209", func := "gavotte/gavottelaw4.FlowRows", spec := "flowRows", named := ["gavotte/ops.table"], apart := false, laid := [("gavotte/ops.table", laid_gavotte_ops_table)] }
def FlowRowsSaid : Prop := flowRowsRow.holds Tryd.pinned (OpenSpec.ofChange flowRowsSpec)

/-- ITS FALSE NEIGHBOUR: 'it returns false'. Refute it at one input. -/
def flowRowsWrong : ChangeSpec := { name := "flowRows", fn := fun _ => fun
  | [d] => { results := [.lit (.bool false)], args := [d] }
  | _ => none }
def FlowRowsWrongFalsely : Prop := flowRowsRow.holds Tryd.pinned (OpenSpec.ofChange flowRowsWrong)

/-- 'gavottelaw4.FlowReach': WHATEVER THE INPUT: true; the input reads as it did. -/
def flowReachSpec : ChangeSpec := { name := "flowReach", fn := fun _ => fun
  | [d1, d2, d3] => { results := [.lit (.bool true)], args := [d1, d2, d3] }
  | _ => none }
def flowReachRow : OpenClaim := { program := "ytfkaalgcgbmlpaadoor", sum := "7268def2f3e4c33bbd1dddfc0892d455b89f1703d6a0d5eba1be9523badb4209", func := "gavotte/gavottelaw4.FlowReach", spec := "flowReach", named := ["gavotte/ops.table"], apart := false, laid := [("gavotte/ops.table", laid_gavotte_ops_table)] }
def FlowReachSaid : Prop := flowReachRow.holds Tryd.pinned (OpenSpec.ofChange flowReachSpec)

/-- ITS FALSE NEIGHBOUR: 'it returns false'. Refute it at one input. -/
def flowReachWrong : ChangeSpec := { name := "flowReach", fn := fun _ => fun
  | [d1, d2, d3] => { results := [.lit (.bool false)], args := [d1, d2, d3] }
  | _ => none }
def FlowReachWrongFalsely : Prop := flowReachRow.holds Tryd.pinned (OpenSpec.ofChange flowReachWrong)

/-- 'gavottelaw4.FlowJoins': WHATEVER THE INPUT: true; the input reads as it did. -/
def flowJoinsSpec : ChangeSpec := { name := "flowJoins", fn := fun _ => fun
  | [d1, d2, d3] => { results := [.lit (.bool true)], args := [d1, d2, d3] }
  | _ => none }
def flowJoinsRow : OpenClaim := { program := "ytfkaalgcgbmlpaadoor", sum := "7268def2f3e4c33bbd1dddfc0892d455b89f1703d6a0d5eba1be9523badb4209", func := "gavotte/gavottelaw4.FlowJoins", spec := "flowJoins", named := ["gavotte/ops.table"], apart := false, laid := [("gavotte/ops.table", laid_gavotte_ops_table)] }
def FlowJoinsSaid : Prop := flowJoinsRow.holds Tryd.pinned (OpenSpec.ofChange flowJoinsSpec)

/-- ITS FALSE NEIGHBOUR: 'it returns false'. Refute it at one input. -/
def flowJoinsWrong : ChangeSpec := { name := "flowJoins", fn := fun _ => fun
  | [d1, d2, d3] => { results := [.lit (.bool false)], args := [d1, d2, d3] }
  | _ => none }
def FlowJoinsWrongFalsely : Prop := flowJoinsRow.holds Tryd.pinned (OpenSpec.ofChange flowJoinsWrong)

/-- 'gavottelaw4.FlowSends': WHATEVER THE INPUT: true; the input reads as it did. -/
def flowSendsSpec : ChangeSpec := { name := "flowSends", fn := fun _ => fun
  | [d1, d2] => { results := [.lit (.bool true)], args := [d1, d2] }
  | _ => none }
def flowSendsRow : OpenClaim := { program := "ytfkaalgcgbmlpaadoor", sum := "7268def2f3e4c33bbd1dddfc0892d455b89f1703d6a0d5eba1be9523badb4209", func := "gavotte/gavottelaw4.FlowSends", spec := "flowSends", named := ["gavotte/ops.table"], apart := false, laid := [("gavotte/ops.table", laid_gavotte_ops_table)] }
def FlowSendsSaid : Prop := flowSendsRow.holds Tryd.pinned (OpenSpec.ofChange flowSendsSpec)

/-- ITS FALSE NEIGHBOUR: 'it returns false'. Refute it at one input. -/
def flowSendsWrong : ChangeSpec := { name := "flowSends", fn := fun _ => fun
  | [d1, d2] => { results := [.lit (.bool false)], args := [d1, d2] }
  | _ => none }
def FlowSendsWrongFalsely : Prop := flowSendsRow.holds Tryd.pinned (OpenSpec.ofChange flowSendsWrong)

/-- 'gavottelaw4.FlowFirst': WHATEVER THE INPUT: true; the input reads as it did. -/
def flowFirstSpec : ChangeSpec := { name := "flowFirst", fn := fun _ => fun
  | [d1, d2, d3] => { results := [.lit (.bool true)], args := [d1, d2, d3] }
  | _ => none }
def flowFirstRow : OpenClaim := { program := "ytfkaalgcgbmlpaadoor", sum := "7268def2f3e4c33bbd1dddfc0892d455b89f1703d6a0d5eba1be9523badb4209", func := "gavotte/gavottelaw4.FlowFirst", spec := "flowFirst", named := ["gavotte/ops.table"], apart := false, laid := [("gavotte/ops.table", laid_gavotte_ops_table)] }
def FlowFirstSaid : Prop := flowFirstRow.holds Tryd.pinned (OpenSpec.ofChange flowFirstSpec)

/-- ITS FALSE NEIGHBOUR: 'it returns false'. Refute it at one input. -/
def flowFirstWrong : ChangeSpec := { name := "flowFirst", fn := fun _ => fun
  | [d1, d2, d3] => { results := [.lit (.bool false)], args := [d1, d2, d3] }
  | _ => none }
def FlowFirstWrongFalsely : Prop := flowFirstRow.holds Tryd.pinned (OpenSpec.ofChange flowFirstWrong)

/- THE SECOND FORM. 'bulk': how many values and letters a reading holds, each counted each time it is reached (what is shared counts as often as it is met; a slice's spare places count too). A statement '..UptoSaid' is the law's where the arguments, and the package variables that the reading takes, are together of bulk at most 1048576: NARROWER than '..Said'. Prove '..Said' where nothing that the law and all that it calls make is longer than what came in: it says more and counts as full. Else prove '..UptoSaid'. A law counts once. -/
mutual
def uptoBulk {H : Type} : DataW H → Nat
  | .lit (.string bytes) => bytes.length + 1
  | .lit _ => 1
  | .nil => 1
  | .ptr d => uptoBulk d + 1
  | .slice elems spare => uptoBulkAll elems + uptoBulkAll spare + 1
  | .agg parts => uptoBulkAll parts + 1
  | .iface _ d => uptoBulk d + 1
  | .map entries => uptoBulkEntries entries + 1
  | .held _ => 1
def uptoBulkAll {H : Type} : List (DataW H) → Nat
  | [] => 0
  | d :: r => uptoBulk d + uptoBulkAll r
def uptoBulkEntries {H : Type} : List (Lit × DataW H) → Nat
  | [] => 0
  | x :: r => uptoBulkEntry x + uptoBulkEntries r
def uptoBulkEntry {H : Type} : Lit × DataW H → Nat
  | (.string bytes, d) => bytes.length + uptoBulk d + 1
  | (_, d) => uptoBulk d + 1
 end
def uptoSmall : (H : Type) → List (DataW H) → Bool := fun _ ds => decide (uptoBulkAll ds ≤ 1048576)
def OpenSpec.upto (s : _root_.Go.ChangeSpec) : _root_.Go.OpenSpec := { _root_.Go.OpenSpec.ofChange s with cond := some uptoSmall }

/-- 'gavottelaw4.FlowTells', WHERE WHAT IT READS IS OF BULK AT MOST 1048576: true; the input reads as it did. -/
def flowTellsUptoRow : OpenClaim := { program := "ytfkaalgcgbmlpaadoor", sum := "7268def2f3e4c33bbd1dddfc0892d455b89f1703d6a0d5eba1be9523badb4209", func := "gavotte/gavottelaw4.FlowTells", spec := "flowTells", named := ["gavotte/ops.table"], apart := false, laid := [("gavotte/ops.table", laid_gavotte_ops_table)], narrowed := true }
def FlowTellsUptoSaid : Prop := flowTellsUptoRow.holds Tryd.pinned (OpenSpec.upto flowTellsSpec)

/-- 'gavottelaw4.FlowRows', WHERE WHAT IT READS IS OF BULK AT MOST 1048576: true; the input reads as it did. -/
def flowRowsUptoRow : OpenClaim := { program := "ytfkaalgcgbmlpaadoor", sum := "7268def2f3e4c33bbd1dddfc0892d455b89f1703d6a0d5eba1be9523badb4209", func := "gavotte/gavottelaw4.FlowRows", spec := "flowRows", named := ["gavotte/ops.table"], apart := false, laid := [("gavotte/ops.table", laid_gavotte_ops_table)], narrowed := true }
def FlowRowsUptoSaid : Prop := flowRowsUptoRow.holds Tryd.pinned (OpenSpec.upto flowRowsSpec)

/-- 'gavottelaw4.FlowReach', WHERE WHAT IT READS IS OF BULK AT MOST 1048576: true; the input reads as it did. -/
def flowReachUptoRow : OpenClaim := { program := "ytfkaalgcgbmlpaadoor", sum := "7268def2f3e4c33bbd1dddfc0892d455b89f1703d6a0d5eba1be9523badb4209", func := "gavotte/gavottelaw4.FlowReach", spec := "flowReach", named := ["gavotte/ops.table"], apart := false, laid := [("gavotte/ops.table", laid_gavotte_ops_table)], narrowed := true }
def FlowReachUptoSaid : Prop := flowReachUptoRow.holds Tryd.pinned (OpenSpec.upto flowReachSpec)

/-- 'gavottelaw4.FlowJoins', WHERE WHAT IT READS IS OF BULK AT MOST 1048576: true; the input reads as it did. -/
def flowJoinsUptoRow : OpenClaim := { program := "ytfkaalgcgbmlpaadoor", sum := "7268def2f3e4c33bbd1dddfc0892d455b89f1703d6a0d5eba1be9523badb4209", func := "gavotte/gavottelaw4.FlowJoins", spec := "flowJoins", named := ["gavotte/ops.table"], apart := false, laid := [("gavotte/ops.table", laid_gavotte_ops_table)], narrowed := true }
def FlowJoinsUptoSaid : Prop := flowJoinsUptoRow.holds Tryd.pinned (OpenSpec.upto flowJoinsSpec)

/-- 'gavottelaw4.FlowSends', WHERE WHAT IT READS IS OF BULK AT MOST 1048576: true; the input reads as it did. -/
def flowSendsUptoRow : OpenClaim := { program := "ytfkaalgcgbmlpaadoor", sum := "7268def2f3e4c33bbd1dddfc0892d455b89f1703d6a0d5eba1be9523badb4209", func := "gavotte/gavottelaw4.FlowSends", spec := "flowSends", named := ["gavotte/ops.table"], apart := false, laid := [("gavotte/ops.table", laid_gavotte_ops_table)], narrowed := true }
def FlowSendsUptoSaid : Prop := flowSendsUptoRow.holds Tryd.pinned (OpenSpec.upto flowSendsSpec)

/-- 'gavottelaw4.FlowFirst', WHERE WHAT IT READS IS OF BULK AT MOST 1048576: true; the input reads as it did. -/
def flowFirstUptoRow : OpenClaim := { program := "ytfkaalgcgbmlpaadoor", sum := "7268def2f3e4c33bbd1dddfc0892d455b89f1703d6a0d5eba1be9523badb4209", func := "gavotte/gavottelaw4.FlowFirst", spec := "flowFirst", named := ["gavotte/ops.table"], apart := false, laid := [("gavotte/ops.table", laid_gavotte_ops_table)], narrowed := true }
def FlowFirstUptoSaid : Prop := flowFirstUptoRow.holds Tryd.pinned (OpenSpec.upto flowFirstSpec)

end Rows
end Go.Proofs.YtfkaalgcgbmlpaaDoor
