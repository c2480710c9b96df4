/-
  No cell of these rows narrows 'for every input' (looked for: loops, veiled, ifaces, maps, wideKeys, modest, calm, conditions, laid).
  DERIVED. THE GIVEN ROWS OF THIS SEAT. 4 by the template 'for every input the law returns true; each argument reads behind the call as it read before'; 0 by the template 'total and deterministic' (their statements: YtijogfikmcedbaaTotals.lean).
  GIVEN WITH THE SEED: the statements are not yours to turn. If you find one false, say at which input.
  Laid BY PROGRAM, IN A SANDBOX (cutbox-rows.mjs): the forced cells as the released guide's own fill.sh prints them over the translation f59cc1b764d65fc2… (all of the seat's roots in one cut). By AI agents, Wed Nov 11 2026. No macro, syntax, notation, axiom, sorry.
-/
import Derived.Test.YtijogfikmcedbaaChecked
import GoSem.Claim
import GoSem.ClaimJoined
import GoSem.ClaimMapViews
import Derived.JoinedTies
import Derived.KernelRfl
namespace Go.Proofs.Ytijogfikmcedbaa
/- THE CELL 'sum', in the pinned program and in every row, IS THE sha256 OF THE DUMP (.gsa) THAT YtijogfikmcedbaaProg.lean LOADS. Nothing in Lean hashes anything: it is a label: what it is worth is what the hold of that sum in a sandbox is worth. -/
noncomputable def Try.pinned : Pinned := { name := "ytijogfikmcedbaa", sum := "f59cc1b764d65fc2719f0b72d8a30d4d3b1acea58744f7cda4069e980ea0020a", checked := Try.checked }
namespace Rows
def none {H : Type} : Left H := { results := [], args := [] }

/-- 'gavottelaw2.SumsTell': WHATEVER THE INPUT: true; the input reads as it did. -/
def sumsTellSpec : ChangeSpec := { name := "sumsTell", fn := fun _ => fun
  | [d1, d2, d3] => { results := [.lit (.bool true)], args := [d1, d2, d3] }
  | _ => none }
def sumsTellRow : OpenClaim := { program := "ytijogfikmcedbaa", sum := "f59cc1b764d65fc2719f0b72d8a30d4d3b1acea58744f7cda4069e980ea0020a", func := "gavotte/gavottelaw2.SumsTell", spec := "sumsTell", apart := false }
def SumsTellSaid : Prop := sumsTellRow.holds Try.pinned (OpenSpec.ofChange sumsTellSpec)

/-- ITS FALSE NEIGHBOUR: 'it returns false'. Refute it at one input. -/
def sumsTellWrong : ChangeSpec := { name := "sumsTell", fn := fun _ => fun
  | [d1, d2, d3] => { results := [.lit (.bool false)], args := [d1, d2, d3] }
  | _ => none }
def SumsTellWrongFalsely : Prop := sumsTellRow.holds Try.pinned (OpenSpec.ofChange sumsTellWrong)

/-- 'gavottelaw2.SumsLaws': WHATEVER THE INPUT: true; the input reads as it did. -/
def sumsLawsSpec : ChangeSpec := { name := "sumsLaws", fn := fun _ => fun
  | [d1, d2, d3] => { results := [.lit (.bool true)], args := [d1, d2, d3] }
  | _ => none }
def sumsLawsRow : OpenClaim := { program := "ytijogfikmcedbaa", sum := "f59cc1b764d65fc2719f0b72d8a30d4d3b1acea58744f7cda4069e980ea0020a", func := "gavotte/gavottelaw2.SumsLaws", spec := "sumsLaws", apart := false }
def SumsLawsSaid : Prop := sumsLawsRow.holds Try.pinned (OpenSpec.ofChange sumsLawsSpec)

/-- ITS FALSE NEIGHBOUR: 'it returns false'. Refute it at one input. -/
def sumsLawsWrong : ChangeSpec := { name := "sumsLaws", fn := fun _ => fun
  | [d1, d2, d3] => { results := [.lit (.bool false)], args := [d1, d2, d3] }
  | _ => none }
def SumsLawsWrongFalsely : Prop := sumsLawsRow.holds Try.pinned (OpenSpec.ofChange sumsLawsWrong)

/-- 'gavottelaw2.SumsTruth': WHATEVER THE INPUT: true; the input reads as it did. -/
def sumsTruthSpec : ChangeSpec := { name := "sumsTruth", fn := fun _ => fun
  | [d1, d2] => { results := [.lit (.bool true)], args := [d1, d2] }
  | _ => none }
def sumsTruthRow : OpenClaim := { program := "ytijogfikmcedbaa", sum := "f59cc1b764d65fc2719f0b72d8a30d4d3b1acea58744f7cda4069e980ea0020a", func := "gavotte/gavottelaw2.SumsTruth", spec := "sumsTruth", apart := false }
def SumsTruthSaid : Prop := sumsTruthRow.holds Try.pinned (OpenSpec.ofChange sumsTruthSpec)

/-- ITS FALSE NEIGHBOUR: 'it returns false'. Refute it at one input. -/
def sumsTruthWrong : ChangeSpec := { name := "sumsTruth", fn := fun _ => fun
  | [d1, d2] => { results := [.lit (.bool false)], args := [d1, d2] }
  | _ => none }
def SumsTruthWrongFalsely : Prop := sumsTruthRow.holds Try.pinned (OpenSpec.ofChange sumsTruthWrong)

/-- 'gavottelaw2.SumsOrder': WHATEVER THE INPUT: true; the input reads as it did. -/
def sumsOrderSpec : ChangeSpec := { name := "sumsOrder", fn := fun _ => fun
  | [d1, d2, d3] => { results := [.lit (.bool true)], args := [d1, d2, d3] }
  | _ => none }
def sumsOrderRow : OpenClaim := { program := "ytijogfikmcedbaa", sum := "f59cc1b764d65fc2719f0b72d8a30d4d3b1acea58744f7cda4069e980ea0020a", func := "gavotte/gavottelaw2.SumsOrder", spec := "sumsOrder", apart := false }
def SumsOrderSaid : Prop := sumsOrderRow.holds Try.pinned (OpenSpec.ofChange sumsOrderSpec)

/-- ITS FALSE NEIGHBOUR: 'it returns false'. Refute it at one input. -/
def sumsOrderWrong : ChangeSpec := { name := "sumsOrder", fn := fun _ => fun
  | [d1, d2, d3] => { results := [.lit (.bool false)], args := [d1, d2, d3] }
  | _ => none }
def SumsOrderWrongFalsely : Prop := sumsOrderRow.holds Try.pinned (OpenSpec.ofChange sumsOrderWrong)

/- THE SECOND FORM. 'bulk': how many values and letters a reading holds, each counted each time it is reached (what is shared counts as often as it is met; a slice's spare places count too). A statement '..UptoSaid' is the law's where the arguments, and the package variables that the reading takes, are together of bulk at most 1048576: NARROWER than '..Said'. Prove '..Said' where nothing that the law and all that it calls make is longer than what came in: it says more and counts as full. Else prove '..UptoSaid'. A law counts once. -/
mutual
def uptoBulk {H : Type} : DataW H → Nat
  | .lit (.string bytes) => bytes.length + 1
  | .lit _ => 1
  | .nil => 1
  | .ptr d => uptoBulk d + 1
  | .slice elems spare => uptoBulkAll elems + uptoBulkAll spare + 1
  | .agg parts => uptoBulkAll parts + 1
  | .iface _ d => uptoBulk d + 1
  | .map entries => uptoBulkEntries entries + 1
  | .held _ => 1
def uptoBulkAll {H : Type} : List (DataW H) → Nat
  | [] => 0
  | d :: r => uptoBulk d + uptoBulkAll r
def uptoBulkEntries {H : Type} : List (Lit × DataW H) → Nat
  | [] => 0
  | x :: r => uptoBulkEntry x + uptoBulkEntries r
def uptoBulkEntry {H : Type} : Lit × DataW H → Nat
  | (.string bytes, d) => bytes.length + uptoBulk d + 1
  | (_, d) => uptoBulk d + 1
 end
def uptoSmall : (H : Type) → List (DataW H) → Bool := fun _ ds => decide (uptoBulkAll ds ≤ 1048576)
def OpenSpec.upto (s : _root_.Go.ChangeSpec) : _root_.Go.OpenSpec := { _root_.Go.OpenSpec.ofChange s with cond := some uptoSmall }

/-- 'gavottelaw2.SumsTell', WHERE WHAT IT READS IS OF BULK AT MOST 1048576: true; the input reads as it did. -/
def sumsTellUptoRow : OpenClaim := { program := "ytijogfikmcedbaa", sum := "f59cc1b764d65fc2719f0b72d8a30d4d3b1acea58744f7cda4069e980ea0020a", func := "gavotte/gavottelaw2.SumsTell", spec := "sumsTell", apart := false, narrowed := true }
def SumsTellUptoSaid : Prop := sumsTellUptoRow.holds Try.pinned (OpenSpec.upto sumsTellSpec)

/-- 'gavottelaw2.SumsLaws', WHERE WHAT IT READS IS OF BULK AT MOST 1048576: true; the input reads as it did. -/
def sumsLawsUptoRow : OpenClaim := { program := "ytijogfikmcedbaa", sum := "f59cc1b764d65fc2719f0b72d8a30d4d3b1acea58744f7cda4069e980ea0020a", func := "gavotte/gavottelaw2.SumsLaws", spec := "sumsLaws", apart := false, narrowed := true }
def SumsLawsUptoSaid : Prop := sumsLawsUptoRow.holds Try.pinned (OpenSpec.upto sumsLawsSpec)

/-- 'gavottelaw2.SumsTruth', WHERE WHAT IT READS IS OF BULK AT MOST 1048576: true; the input reads as it did. -/
def sumsTruthUptoRow : OpenClaim := { program := "ytijogfikmcedbaa", sum := "f59cc1b764d65fc2719f0b72d8a30d4d3b1acea58744f7cda4069e980ea0020a", func := "gavotte/gavottelaw2.SumsTruth", spec := "sumsTruth", apart := false, narrowed := true }
def SumsTruthUptoSaid : Prop := sumsTruthUptoRow.holds Try.pinned (OpenSpec.upto sumsTruthSpec)

/-- 'gavottelaw2.SumsOrder', WHERE WHAT IT READS IS OF BULK AT MOST 1048576: true; the input reads as it did. -/
def sumsOrderUptoRow : OpenClaim := { program := "ytijogfikmcedbaa", sum := "f59cc1b764d65fc2719f0b72d8a30d4d3b1acea58744f7cda4069e980ea0020a", func := "gavotte/gavottelaw2.SumsOrder", spec := "sumsOrder", apart := false, narrowed := true }
def SumsOrderUptoSaid : Prop := sumsOrderUptoRow.holds Try.pinned (OpenSpec.upto sumsOrderSpec)

end Rows
end Go.Proofs.Ytijogfikmcedbaa
