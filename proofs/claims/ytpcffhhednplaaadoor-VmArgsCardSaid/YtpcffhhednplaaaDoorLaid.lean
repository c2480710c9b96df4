/-
  From the row's condition (the table reads as it is laid) to the table's cells in the world; and the shutting of a row whose walk leaves all that was there as it was. No conditions.
-/
import Derived.Test.YtpcffhhednplaaaDoorOps
import Derived.Test.YtpcffhhednplaaaDoorOpen
import Derived.ProofKit
import Derived.LaidMore
import Derived.OpenShut
import Derived.Stop.Joined
import Derived.Lib.SmallJoins
namespace Go.Proofs.YtpcffhhednplaaaDoor
open Go.ChangeShapes Go.WideShapes Go.ChangeAt Go.RowKit

theorem own : ownKnob Tryd.prog.godebug = none := by kernel_rfl
def tabName : String := (Rows.vmRunsRow.laid.map (·.1)).headD ""
theorem gTab : Tryd.prog.globalNamed tabName = some 0 := by kernel_rfl
theorem tTab : (Tryd.prog.globals[0]?).map (·.type) = some 97 := by kernel_rfl
theorem cells95 : Tryd.prog.cellsOf 95 = 4 := by kernel_rfl
theorem cells97 : Tryd.prog.cellsOf 97 = 104 := by kernel_rfl
theorem cells9 : Tryd.prog.cellsOf 9 = 1 := by kernel_rfl

def laid1 : List (String × DataW Unit) := [(tabName, Rows.laid_gavotte_ops_table)]

/-- The datum, row by row. -/
def rowD (i : Nat) : DataW Unit := .agg [.lit (.string (nmL.getD i [])), .lit (.int .i64 (po i)), .lit (.int .i64 (pu i)), .lit (.int .i64 (od i))]
theorem table_rows : (Rows.laid_gavotte_ops_table : DataW Unit) = .agg ((List.range 26).map rowD) := by kernel_rfl

theorem four_of {α : Type} {l : List α} {i j : Nat} {a : α} (hj : j < 4) (h : ((l.drop (i * 4)).take 4)[j]? = some a) : l[i * 4 + j]? = some a := by
  rw [List.getElem?_take, if_pos hj, List.getElem?_drop] at h
  exact h

theorem str_of {s : ByteArray} {l : List UInt8} (h : l = s.data.toList) : s = ⟨l.toArray⟩ := by
  subst h
  rfl

theorem of_laid {W : World} (h : laidMetH Tryd.prog laid1 W) : Tab W := by
  rw [MakeChecks.laidMetH_plain _ _ _ (by kernel_rfl)] at h
  obtain ⟨ps, ⟨g0, t0, cs0, f0, p0, q0, hg0, ht0, hv0, hd0, _, _⟩, _, _⟩ := h
  obtain rfl := Option.some.inj (gTab.symm.trans hg0)
  obtain rfl := Option.some.inj (tTab.symm.trans ht0)
  obtain ⟨xs, m, rfl, hx, hlen, hn, hel⟩ := DataW.trod_array Tryd.underlying97 hd0
  rw [table_rows] at hx
  simp only [Prod.mk.injEq, DataW.agg.injEq] at hx
  have key : ∀ i, i < 26 → cs0[i * 4]? = some (.string (nm i)) ∧ cs0[i * 4 + 1]? = some (.int .i64 (po i)) ∧ cs0[i * 4 + 2]? = some (.int .i64 (pu i)) ∧ cs0[i * 4 + 3]? = some (.int .i64 (od i)) := by
    intro i hi
    have he := hel i hi
    have hxi : (xs.map (·.1))[i]? = some (rowD i) := by rw [← hx.1]; simp [hi]
    rw [List.getElem?_map] at hxi
    obtain ⟨x, hx1, hx2⟩ := Option.map_eq_some_iff.1 hxi
    rw [hx1, cells95] at he
    obtain ⟨y0, y1, y2, y3, n, hy, _, e0, e1, e2, e3⟩ := Go.Joins.trod_struct4 Tryd.underlying95 he
    rw [hy] at hx2
    simp only [rowD, DataW.agg.injEq, List.cons.injEq, and_true] at hx2
    obtain ⟨r0, r1, r2, r3⟩ := hx2
    rw [cells9] at e0
    rw [cells3] at e1 e2 e3
    obtain ⟨s, c0, rfl, _⟩ := DataW.trod_string Tryd.underlying9 e0
    obtain ⟨a, c1, rfl, _⟩ := DataW.trod_int Tryd.underlying3 e1
    obtain ⟨b, c2, rfl, _⟩ := DataW.trod_int Tryd.underlying3 e2
    obtain ⟨c, c3, rfl, _⟩ := DataW.trod_int Tryd.underlying3 e3
    simp only [DataW.lit.injEq, Lit.string.injEq, Lit.int.injEq, true_and] at r0 r1 r2 r3
    obtain rfl := r1
    obtain rfl := r2
    obtain rfl := r3
    have hs : s = nm i := str_of r0.symm
    subst hs
    have d0 := four_of (j := 0) (by decide) (one_of c0)
    have d1 := four_of (j := 1) (by decide) (one_of c1)
    have d2 := four_of (j := 2) (by decide) (one_of c2)
    have d3 := four_of (j := 3) (by decide) (one_of c3)
    simp only [Array.getElem?_toList] at d0 d1 d2 d3
    exact ⟨d0, d1, d2, d3⟩
  have look := fun k => World.var?_cell hg0 hv0 k
  have first : W.cell? ⟨0, 0 * 4, none⟩ = some (.string (nm 0)) := (look (0 * 4)).trans (key 0 (by decide)).1
  refine ⟨fun i hi => (look _).trans (key i hi).1, fun i hi => (look _).trans (key i hi).2.1, fun i hi => (look _).trans (key i hi).2.2.1, fun i hi => (look _).trans (key i hi).2.2.2, ?_⟩
  apply Classical.byContradiction
  intro hz
  have : W.heap[0]? = none := by rw [Array.getElem?_eq_none]; omega
  simp [World.cell?, this] at first

/-- The heap that the initialisers leave meets the condition. -/
theorem door_met (os : Os) (args : Array Value) : laidMetH Tryd.prog laid1 ((World.doorLaid Tryd.prog 400 os).forCall (fun _ _ => 0) ⟨#[], args, []⟩).memory :=
  laidMetH_of_parts3 (fuel := 8) (laidMet_of_run' 8 (by kernel_rfl) (by kernel_rfl)) (by kernel_rfl) (by kernel_rfl)
end Go.Proofs.YtpcffhhednplaaaDoor
