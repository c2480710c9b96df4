/-
  From what an argument reads as to its cells: budgets, events, lists of events. No conditions.
-/
import Derived.Test.YtflpkdhmkgidiaaDoorOpen
import Derived.Test.YtflpkdhmkgidiaaDoorE8
namespace Go.Proofs.YtflpkdhmkgidiaaDoor
open Go.ChangeShapes Go.WideShapes Go.ChangeAt Go.RowKit
theorem cellsBu : Tryd.prog.cellsOf 32 = 4 := by kernel_rfl
theorem cellsEv : Tryd.prog.cellsOf 56 = 5 := by kernel_rfl
theorem cellsId : Tryd.prog.cellsOf 45 = 3 := by kernel_rfl
theorem sub_of {α : Type} {l : List α} {a b c : Nat} {x : α} (hc : c < b) (h : (((l.drop a).take b).drop c).take 1 = [x]) : l[a + c]? = some x := by
  have := one_of h
  rwa [List.getElem?_take, if_pos hc, List.getElem?_drop] at this
section
variable {H : Type} {enc : TypeId × Value → H} {w : World} {spare : Nat → Bool} {held : Bool}
set_option maxRecDepth 100000 in
theorem open_bud {r : Reach} {b0 : Nat} {v : Value} {d : DataW H} {p : List MemPlace} (hv : Value.okWide Tryd.prog w r b0 32 v) (h : DataW.Trod enc Tryd.prog w 0 spare held 32 v d p) : ∃ x : PBud, v = uVal x ∧ Rg x.drop := by
  obtain ⟨v0, v1, v2, v3, y0, y1, y2, y3, n, rfl, _, _, e0, e1, e2, e3⟩ := Go.Joins.open_agg4 Tryd.underlying32 (by kernel_rfl) cellsBu hv h
  obtain ⟨i, c0, _, f0⟩ := DataW.trod_int Tryd.underlying3 e0
  obtain ⟨j, c1, _⟩ := DataW.trod_int Tryd.underlying3 e1
  obtain ⟨k, c2, _⟩ := DataW.trod_int Tryd.underlying3 e2
  obtain ⟨l, c3, _⟩ := DataW.trod_int Tryd.underlying3 e3
  simp only [List.cons.injEq, and_true] at c0 c1 c2 c3
  subst c0 c1 c2 c3
  exact ⟨⟨i, j, k, l⟩, rfl, rg_of f0⟩
theorem open_evs0 {fuel : Nat} {cs : List Value} {x : DataW H × List MemPlace} (h : DataW.trod enc Tryd.prog w 0 spare held fuel 61 cs = some x) : ∃ v l, cs = [v] ∧ Evs anyB w v l :=
  sl_open Tryd.underlying61 cellsEv (by decide) (fun b o cs' n d hc h => by
    obtain ⟨y0, y1, y2, m, _, _, e0, e1, e2⟩ := Go.Deep.trod_struct3 Tryd.underlying56 h
    obtain ⟨z0, z1, z2, m', _, _, g0, g1, g2⟩ := Go.Deep.trod_struct3 Tryd.underlying45 e1
    simp only [cells3, cellsId] at e0 e2 g0 g1 g2
    obtain ⟨i, c0, _⟩ := DataW.trod_int Tryd.underlying3 e0
    obtain ⟨f, c1, _⟩ := DataW.trod_int Tryd.underlying3 g0
    obtain ⟨k, c2, _⟩ := DataW.trod_int Tryd.underlying3 g1
    obtain ⟨c, c3, _⟩ := DataW.trod_int Tryd.underlying3 g2
    obtain ⟨u, c4, _⟩ := DataW.trod_int Tryd.underlying3 e2
    exact ⟨⟨i, ⟨f, k, c⟩, u⟩, (hc 0 (by decide)).trans (one_of c0), (hc 1 (by decide)).trans (sub_of (by decide) c1), (hc 2 (by decide)).trans (sub_of (by decide) c2), (hc 3 (by decide)).trans (sub_of (by decide) c3), (hc 4 (by decide)).trans (one_of c4)⟩) h
set_option maxRecDepth 100000 in
theorem open_evs {r : Reach} {b0 : Nat} {v : Value} {d : DataW H} {p : List MemPlace} (hv : Value.okWide Tryd.prog w r b0 61 v) (h : DataW.Trod enc Tryd.prog w 0 spare held 61 v d p) : ∃ l, Evs anyB w v l := by
  obtain ⟨a, len, cap, rfl⟩ := okWide_slice Tryd.underlying61 hv
  obtain ⟨fuel, hf⟩ := h
  obtain ⟨u, l, hu, hl⟩ := open_evs0 hf
  simp [Value.cells] at hu
  subst hu
  exact ⟨l, hl⟩
end
end Go.Proofs.YtflpkdhmkgidiaaDoor
