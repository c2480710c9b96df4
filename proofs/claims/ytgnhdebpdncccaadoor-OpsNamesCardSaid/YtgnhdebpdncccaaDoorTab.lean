/-
  What the table of the instructions holds, as plain lists, and what it means that a world holds it. No conditions.
-/
import Derived.Test.YtgnhdebpdncccaaDoorRows
import Derived.WalkKit
import Derived.WalkSpells
import Derived.WalkLawsBesides
namespace Go.Proofs.YtgnhdebpdncccaaDoor
open Go.RowKit

/-- The names, by number. -/
def nmL : List (List UInt8) := [[], [112, 117, 115, 104], [112, 111, 112], [99, 111, 112, 121], [115, 119, 97, 112], [108, 111, 97, 100], [115, 116, 111, 114, 101], [97, 114, 103], [115, 101, 108, 102], [97, 100, 100], [115, 117, 98], [109, 117, 108], [100, 105, 118], [109, 111, 100], [110, 101, 103], [101, 113], [108, 101, 115, 115], [97, 110, 100], [111, 114], [110, 111, 116], [106, 117, 109, 112], [122, 101, 114, 111], [115, 101, 110, 100], [97, 114, 109], [99, 97, 108, 109], [101, 110, 100]]
def poL : List Int := [0, 0, 1, 1, 2, 0, 1, 0, 0, 2, 2, 2, 2, 2, 1, 2, 2, 2, 2, 1, 0, 1, 1, 0, 0, 0]
def puL : List Int := [0, 1, 0, 2, 2, 1, 0, 1, 1, 1, 1, 1, 1, 1, 1, 1, 1, 1, 1, 1, 0, 0, 0, 0, 0, 0]
def odL : List Int := [0, 1, 0, 0, 0, 2, 2, 3, 0, 0, 0, 0, 0, 0, 0, 0, 0, 0, 0, 0, 4, 4, 5, 0, 0, 0]
def nm (i : Nat) : ByteArray := ⟨(nmL.getD i []).toArray⟩
def po (i : Nat) : Int := poL.getD i 0
def pu (i : Nat) : Int := puL.getD i 0
def od (i : Nat) : Int := odL.getD i 0
/-- The row of a number: row 0 of what is no instruction. -/
def at_ (op : Int) : Nat := if 1 ≤ op ∧ op ≤ 25 then op.toNat else 0

/-- The world holds the table. -/
structure Tab (w : World) : Prop where
  name : ∀ i, i < 26 → w.cell? ⟨0, i * 4, none⟩ = some (.string (nm i))
  pops : ∀ i, i < 26 → w.cell? ⟨0, i * 4 + 1, none⟩ = some (.int .i64 (po i))
  puts : ∀ i, i < 26 → w.cell? ⟨0, i * 4 + 2, none⟩ = some (.int .i64 (pu i))
  oper : ∀ i, i < 26 → w.cell? ⟨0, i * 4 + 3, none⟩ = some (.int .i64 (od i))
  held : 0 < w.heap.size

theorem Tab.below {w w' : World} (h : Tab w) (hb : Below w.heap.size w w') : Tab w' :=
  ⟨fun i hi => (hb.cell (p := ⟨0, i * 4, none⟩) h.held).trans (h.name i hi), fun i hi => (hb.cell (p := ⟨0, i * 4 + 1, none⟩) h.held).trans (h.pops i hi),
   fun i hi => (hb.cell (p := ⟨0, i * 4 + 2, none⟩) h.held).trans (h.puts i hi), fun i hi => (hb.cell (p := ⟨0, i * 4 + 3, none⟩) h.held).trans (h.oper i hi), Nat.lt_of_lt_of_le h.held hb.size⟩
end Go.Proofs.YtgnhdebpdncccaaDoor
