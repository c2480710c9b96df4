/-
  NARROWER THAN 'FOR EVERY INPUT', by the rows' own cells (each row's printed sentence says how): ProgTells: laid · ProgCopies: laid · ProgLimits: laid · ProgOdd: laid · ProgSame: laid · ProgNotes: laid.
  DERIVED. THE GIVEN ROWS OF THIS SEAT. 6 by the template 'for every input the law returns true; each argument reads behind the call as it read before'; 0 by the template 'total and deterministic' (their statements: YtlpeiiejkpkpjaaDoorTotals.lean).
  GIVEN WITH THE SEED: the statements are not yours to turn. If you find one false, say at which input.
  Laid BY PROGRAM, IN A SANDBOX (cutbox-rows.mjs): the forced cells as the released guide's own fill.sh prints them over the translation 2ea4105c257707d3… (all of the seat's roots in one cut). By AI agents, Wed Nov 11 2026. No macro, syntax, notation, axiom, sorry.
-/
import Derived.Test.YtlpeiiejkpkpjaaDoorChecked
import GoSem.Claim
import GoSem.ClaimJoined
import GoSem.ClaimMapViews
import Derived.JoinedTies
import Derived.KernelRfl
namespace Go.Proofs.YtlpeiiejkpkpjaaDoor
/- THE CELL 'sum', in the pinned program and in every row, IS THE sha256 OF THE DUMP (.gsa) THAT YtlpeiiejkpkpjaaDoorProg.lean LOADS. Nothing in Lean hashes anything: it is a label: what it is worth is what the hold of that sum in a sandbox is worth. -/
noncomputable def Tryd.pinned : Pinned := { name := "ytlpeiiejkpkpjaadoor", sum := "2ea4105c257707d3737349efe20b7f19029083b395c658984dbc0cc81485332a", checked := Tryd.checked }
namespace Rows
def none {H : Type} : Left H := { results := [], args := [] }

/- WHAT THE LISTED PACKAGE-LEVEL VARIABLES READ AS WHEN THE CALL BEGINS. Each datum BY PROGRAM (the guide's laid-datum.mjs) off the statement by which the dump's own 'gosem.cut.vars' lays the variable. In a bare row this is a premise. The card (YtlpeiiejkpkpjaaDoorCards.lean) ties it to the program's text. -/
def laid_gavotte_ops_table {H : Type} : DataW H := .agg [.agg [.lit (.string []), .lit (.int .i64 0), .lit (.int .i64 0), .lit (.int .i64 0)], .agg [.lit (.string [112, 117, 115, 104]), .lit (.int .i64 0), .lit (.int .i64 1), .lit (.int .i64 1)], .agg [.lit (.string [112, 111, 112]), .lit (.int .i64 1), .lit (.int .i64 0), .lit (.int .i64 0)], .agg [.lit (.string [99, 111, 112, 121]), .lit (.int .i64 1), .lit (.int .i64 2), .lit (.int .i64 0)], .agg [.lit (.string [115, 119, 97, 112]), .lit (.int .i64 2), .lit (.int .i64 2), .lit (.int .i64 0)], .agg [.lit (.string [108, 111, 97, 100]), .lit (.int .i64 0), .lit (.int .i64 1), .lit (.int .i64 2)], .agg [.lit (.string [115, 116, 111, 114, 101]), .lit (.int .i64 1), .lit (.int .i64 0), .lit (.int .i64 2)], .agg [.lit (.string [97, 114, 103]), .lit (.int .i64 0), .lit (.int .i64 1), .lit (.int .i64 3)], .agg [.lit (.string [115, 101, 108, 102]), .lit (.int .i64 0), .lit (.int .i64 1), .lit (.int .i64 0)], .agg [.lit (.string [97, 100, 100]), .lit (.int .i64 2), .lit (.int .i64 1), .lit (.int .i64 0)], .agg [.lit (.string [115, 117, 98]), .lit (.int .i64 2), .lit (.int .i64 1), .lit (.int .i64 0)], .agg [.lit (.string [109, 117, 108]), .lit (.int .i64 2), .lit (.int .i64 1), .lit (.int .i64 0)], .agg [.lit (.string [100, 105, 118]), .lit (.int .i64 2), .lit (.int .i64 1), .lit (.int .i64 0)], .agg [.lit (.string [109, 111, 100]), .lit (.int .i64 2), .lit (.int .i64 1), .lit (.int .i64 0)], .agg [.lit (.string [110, 101, 103]), .lit (.int .i64 1), .lit (.int .i64 1), .lit (.int .i64 0)], .agg [.lit (.string [101, 113]), .lit (.int .i64 2), .lit (.int .i64 1), .lit (.int .i64 0)], .agg [.lit (.string [108, 101, 115, 115]), .lit (.int .i64 2), .lit (.int .i64 1), .lit (.int .i64 0)], .agg [.lit (.string [97, 110, 100]), .lit (.int .i64 2), .lit (.int .i64 1), .lit (.int .i64 0)], .agg [.lit (.string [111, 114]), .lit (.int .i64 2), .lit (.int .i64 1), .lit (.int .i64 0)], .agg [.lit (.string [110, 111, 116]), .lit (.int .i64 1), .lit (.int .i64 1), .lit (.int .i64 0)], .agg [.lit (.string [106, 117, 109, 112]), .lit (.int .i64 0), .lit (.int .i64 0), .lit (.int .i64 4)], .agg [.lit (.string [122, 101, 114, 111]), .lit (.int .i64 1), .lit (.int .i64 0), .lit (.int .i64 4)], .agg [.lit (.string [115, 101, 110, 100]), .lit (.int .i64 1), .lit (.int .i64 0), .lit (.int .i64 5)], .agg [.lit (.string [97, 114, 109]), .lit (.int .i64 0), .lit (.int .i64 0), .lit (.int .i64 0)], .agg [.lit (.string [99, 97, 108, 109]), .lit (.int .i64 0), .lit (.int .i64 0), .lit (.int .i64 0)], .agg [.lit (.string [101, 110, 100]), .lit (.int .i64 0), .lit (.int .i64 0), .lit (.int .i64 0)]]

/-- 'gavottelaw3.ProgTells': WHATEVER THE INPUT: true; the input reads as it did. -/
def progTellsSpec : ChangeSpec := { name := "progTells", fn := fun _ => fun
  | [d1, d2] => { results := [.lit (.bool true)], args := [d1, d2] }
  | _ => none }
def progTellsRow : OpenClaim := { program := "ytlpeiiejkpkpjaadoor", sum := "2ea4105c257707d3737349efe20b7f19029083b395c658984dbc0cc81485332a", func := "gavotte/gavottelaw3.ProgTells", spec := "progTells", unfollowed := true, recurses := true, named := ["gavotte/ops.table"], apart := false, laid := [("gavotte/ops.table", laid_gavotte_ops_table)] }
def ProgTellsSaid : Prop := progTellsRow.holds Tryd.pinned (OpenSpec.ofChange progTellsSpec)

/-- ITS FALSE NEIGHBOUR: 'it returns false'. Refute it at one input. -/
def progTellsWrong : ChangeSpec := { name := "progTells", fn := fun _ => fun
  | [d1, d2] => { results := [.lit (.bool false)], args := [d1, d2] }
  | _ => none }
def ProgTellsWrongFalsely : Prop := progTellsRow.holds Tryd.pinned (OpenSpec.ofChange progTellsWrong)

/-- 'gavottelaw3.ProgCopies': WHATEVER THE INPUT: true; the input reads as it did. -/
def progCopiesSpec : ChangeSpec := { name := "progCopies", fn := fun _ => fun
  | [d1, d2] => { results := [.lit (.bool true)], args := [d1, d2] }
  | _ => none }
def progCopiesRow : OpenClaim := { program := "ytlpeiiejkpkpjaadoor", sum := "2ea4105c257707d3737349efe20b7f19029083b395c658984dbc0cc81485332a", func := "gavotte/gavottelaw3.ProgCopies", spec := "progCopies", unfollowed := true, recurses := true, named := ["gavotte/ops.table"], apart := false, laid := [("gavotte/ops.table", laid_gavotte_ops_table)] }
def ProgCopiesSaid : Prop := progCopiesRow.holds Tryd.pinned (OpenSpec.ofChange progCopiesSpec)

/-- ITS FALSE NEIGHBOUR: 'it returns false'. Refute it at one input. -/
def progCopiesWrong : ChangeSpec := { name := "progCopies", fn := fun _ => fun
  | [d1, d2] => { results := [.lit (.bool false)], args := [d1, d2] }
  | _ => none }
def ProgCopiesWrongFalsely : Prop := progCopiesRow.holds Tryd.pinned (OpenSpec.ofChange progCopiesWrong)

/-- 'gavottelaw3.ProgLimits': WHATEVER THE INPUT: true; the input reads as it did. -/
def progLimitsSpec : ChangeSpec := { name := "progLimits", fn := fun _ => fun
  | [d1, d2] => { results := [.lit (.bool true)], args := [d1, d2] }
  | _ => none }
def progLimitsRow : OpenClaim := { program := "ytlpeiiejkpkpjaadoor", sum := "2ea4105c257707d3737349efe20b7f19029083b395c658984dbc0cc81485332a", func := "gavotte/gavottelaw3.ProgLimits", spec := "progLimits", unfollowed := true, recurses := true, named := ["gavotte/ops.table"], apart := false, laid := [("gavotte/ops.table", laid_gavotte_ops_table)] }
def ProgLimitsSaid : Prop := progLimitsRow.holds Tryd.pinned (OpenSpec.ofChange progLimitsSpec)

/-- ITS FALSE NEIGHBOUR: 'it returns false'. Refute it at one input. -/
def progLimitsWrong : ChangeSpec := { name := "progLimits", fn := fun _ => fun
  | [d1, d2] => { results := [.lit (.bool false)], args := [d1, d2] }
  | _ => none }
def ProgLimitsWrongFalsely : Prop := progLimitsRow.holds Tryd.pinned (OpenSpec.ofChange progLimitsWrong)

/-- 'gavottelaw3.ProgOdd': WHATEVER THE INPUT: true; the input reads as it did. -/
def progOddSpec : ChangeSpec := { name := "progOdd", fn := fun _ => fun
  | [d] => { results := [.lit (.bool true)], args := [d] }
  | _ => none }
def progOddRow : OpenClaim := { program := "ytlpeiiejkpkpjaadoor", sum := "2ea4105c257707d3737349efe20b7f19029083b395c658984dbc0cc81485332a", func := "gavotte/gavottelaw3.ProgOdd", spec := "progOdd", unfollowed := true, recurses := true, named := ["gavotte/ops.table"], apart := false, laid := [("gavotte/ops.table", laid_gavotte_ops_table)] }
def ProgOddSaid : Prop := progOddRow.holds Tryd.pinned (OpenSpec.ofChange progOddSpec)

/-- ITS FALSE NEIGHBOUR: 'it returns false'. Refute it at one input. -/
def progOddWrong : ChangeSpec := { name := "progOdd", fn := fun _ => fun
  | [d] => { results := [.lit (.bool false)], args := [d] }
  | _ => none }
def ProgOddWrongFalsely : Prop := progOddRow.holds Tryd.pinned (OpenSpec.ofChange progOddWrong)

/-- 'gavottelaw3.ProgSame': WHATEVER THE INPUT: true; the input reads as it did. -/
def progSameSpec : ChangeSpec := { name := "progSame", fn := fun _ => fun
  | [d1, d2] => { results := [.lit (.bool true)], args := [d1, d2] }
  | _ => none }
def progSameRow : OpenClaim := { program := "ytlpeiiejkpkpjaadoor", sum := "2ea4105c257707d3737349efe20b7f19029083b395c658984dbc0cc81485332a", func := "gavotte/gavottelaw3.ProgSame", spec := "progSame", unfollowed := true, recurses := true, named := ["gavotte/ops.table"], apart := false, laid := [("gavotte/ops.table", laid_gavotte_ops_table)] }
def ProgSameSaid : Prop := progSameRow.holds Tryd.pinned (OpenSpec.ofChange progSameSpec)

/-- ITS FALSE NEIGHBOUR: 'it returns false'. Refute it at one input. -/
def progSameWrong : ChangeSpec := { name := "progSame", fn := fun _ => fun
  | [d1, d2] => { results := [.lit (.bool false)], args := [d1, d2] }
  | _ => none }
def ProgSameWrongFalsely : Prop := progSameRow.holds Tryd.pinned (OpenSpec.ofChange progSameWrong)

/-- 'gavottelaw3.ProgNotes': WHATEVER THE INPUT: true; the input reads as it did. -/
def progNotesSpec : ChangeSpec := { name := "progNotes", fn := fun _ => fun
  | [d1, d2] => { results := [.lit (.bool true)], args := [d1, d2] }
  | _ => none }
def progNotesRow : OpenClaim := { program := "ytlpeiiejkpkpjaadoor", sum := "2ea4105c257707d3737349efe20b7f19029083b395c658984dbc0cc81485332a", func := "gavotte/gavottelaw3.ProgNotes", spec := "progNotes", unfollowed := true, recurses := true, named := ["gavotte/ops.table"], apart := false, laid := [("gavotte/ops.table", laid_gavotte_ops_table)] }
def ProgNotesSaid : Prop := progNotesRow.holds Tryd.pinned (OpenSpec.ofChange progNotesSpec)

/-- ITS FALSE NEIGHBOUR: 'it returns false'. Refute it at one input. -/
def progNotesWrong : ChangeSpec := { name := "progNotes", fn := fun _ => fun
  | [d1, d2] => { results := [.lit (.bool false)], args := [d1, d2] }
  | _ => none }
def ProgNotesWrongFalsely : Prop := progNotesRow.holds Tryd.pinned (OpenSpec.ofChange progNotesWrong)

/- THE SECOND FORM. 'bulk': how many values and letters a reading holds, each counted each time it is reached (what is shared counts as often as it is met; a slice's spare places count too). A statement '..UptoSaid' is the law's where the arguments, and the package variables that the reading takes, are together of bulk at most 1048576: NARROWER than '..Said'. Prove '..Said' where nothing that the law and all that it calls make is longer than what came in: it says more and counts as full. Else prove '..UptoSaid'. A law counts once. -/
mutual
def uptoBulk {H : Type} : DataW H → Nat
  | .lit (.string bytes) => bytes.length + 1
  | .lit _ => 1
  | .nil => 1
  | .ptr d => uptoBulk d + 1
  | .slice elems spare => uptoBulkAll elems + uptoBulkAll spare + 1
  | .agg parts => uptoBulkAll parts + 1
  | .iface _ d => uptoBulk d + 1
  | .map entries => uptoBulkEntries entries + 1
  | .held _ => 1
def uptoBulkAll {H : Type} : List (DataW H) → Nat
  | [] => 0
  | d :: r => uptoBulk d + uptoBulkAll r
def uptoBulkEntries {H : Type} : List (Lit × DataW H) → Nat
  | [] => 0
  | x :: r => uptoBulkEntry x + uptoBulkEntries r
def uptoBulkEntry {H : Type} : Lit × DataW H → Nat
  | (.string bytes, d) => bytes.length + uptoBulk d + 1
  | (_, d) => uptoBulk d + 1
 end
def uptoSmall : (H : Type) → List (DataW H) → Bool := fun _ ds => decide (uptoBulkAll ds ≤ 1048576)
def OpenSpec.upto (s : _root_.Go.ChangeSpec) : _root_.Go.OpenSpec := { _root_.Go.OpenSpec.ofChange s with cond := some uptoSmall }

/-- 'gavottelaw3.ProgTells', WHERE WHAT IT READS IS OF BULK AT MOST 1048576: true; the input reads as it did. -/
def progTellsUptoRow : OpenClaim := { program := "ytlpeiiejkpkpjaadoor", sum := "2ea4105c257707d3737349efe20b7f19029083b395c658984dbc0cc81485332a", func := "gavotte/gavottelaw3.ProgTells", spec := "progTells", unfollowed := true, recurses := true, named := ["gavotte/ops.table"], apart := false, laid := [("gavotte/ops.table", laid_gavotte_ops_table)], narrowed := true }
def ProgTellsUptoSaid : Prop := progTellsUptoRow.holds Tryd.pinned (OpenSpec.upto progTellsSpec)

/-- 'gavottelaw3.ProgCopies', WHERE WHAT IT READS IS OF BULK AT MOST 1048576: true; the input reads as it did. -/
def progCopiesUptoRow : OpenClaim := { program := "ytlpeiiejkpkpjaadoor", sum := "2ea4105c257707d3737349efe20b7f19029083b395c658984dbc0cc81485332a", func := "gavotte/gavottelaw3.ProgCopies", spec := "progCopies", unfollowed := true, recurses := true, named := ["gavotte/ops.table"], apart := false, laid := [("gavotte/ops.table", laid_gavotte_ops_table)], narrowed := true }
def ProgCopiesUptoSaid : Prop := progCopiesUptoRow.holds Tryd.pinned (OpenSpec.upto progCopiesSpec)

/-- 'gavottelaw3.ProgLimits', WHERE WHAT IT READS IS OF BULK AT MOST 1048576: true; the input reads as it did. -/
def progLimitsUptoRow : OpenClaim := { program := "ytlpeiiejkpkpjaadoor", sum := "2ea4105c257707d3737349efe20b7f19029083b395c658984dbc0cc81485332a", func := "gavotte/gavottelaw3.ProgLimits", spec := "progLimits", unfollowed := true, recurses := true, named := ["gavotte/ops.table"], apart := false, laid := [("gavotte/ops.table", laid_gavotte_ops_table)], narrowed := true }
def ProgLimitsUptoSaid : Prop := progLimitsUptoRow.holds Tryd.pinned (OpenSpec.upto progLimitsSpec)

/-- 'gavottelaw3.ProgOdd', WHERE WHAT IT READS IS OF BULK AT MOST 1048576: true; the input reads as it did. -/
def progOddUptoRow : OpenClaim := { program := "ytlpeiiejkpkpjaadoor", sum := "2ea4105c257707d3737349efe20b7f19029083b395c658984dbc0cc81485332a", func := "gavotte/gavottelaw3.ProgOdd", spec := "progOdd", unfollowed := true, recurses := true, named := ["gavotte/ops.table"], apart := false, laid := [("gavotte/ops.table", laid_gavotte_ops_table)], narrowed := true }
def ProgOddUptoSaid : Prop := progOddUptoRow.holds Tryd.pinned (OpenSpec.upto progOddSpec)

/-- 'gavottelaw3.ProgSame', WHERE WHAT IT READS IS OF BULK AT MOST 1048576: true; the input reads as it did. -/
def progSameUptoRow : OpenClaim := { program := "ytlpeiiejkpkpjaadoor", sum := "2ea4105c257707d3737349efe20b7f19029083b395c658984dbc0cc81485332a", func := "gavotte/gavottelaw3.ProgSame", spec := "progSame", unfollowed := true, recurses := true, named := ["gavotte/ops.table"], apart := false, laid := [("gavotte/ops.table", laid_gavotte_ops_table)], narrowed := true }
def ProgSameUptoSaid : Prop := progSameUptoRow.holds Tryd.pinned (OpenSpec.upto progSameSpec)

/-- 'gavottelaw3.ProgNotes', WHERE WHAT IT READS IS OF BULK AT MOST 1048576: true; the input reads as it did. -/
def progNotesUptoRow : OpenClaim := { program := "ytlpeiiejkpkpjaadoor", sum := "2ea4105c257707d3737349efe20b7f19029083b395c658984dbc0cc81485332a", func := "gavotte/gavottelaw3.ProgNotes", spec := "progNotes", unfollowed := true, recurses := true, named := ["gavotte/ops.table"], apart := false, laid := [("gavotte/ops.table", laid_gavotte_ops_table)], narrowed := true }
def ProgNotesUptoSaid : Prop := progNotesUptoRow.holds Tryd.pinned (OpenSpec.upto progNotesSpec)

end Rows
end Go.Proofs.YtlpeiiejkpkpjaaDoor
