/-
  From what an argument reads as to the cells in the world: lists, handlers, actors, notes, programs. No conditions.
-/
import Derived.Test.YtpcffhhednplaaaDoorMem
import Derived.ProofKit
import Derived.Deep.Slices
import Derived.Deep.Strs
import Derived.Lib.SmallJoins
namespace Go.Proofs.YtpcffhhednplaaaDoor
open Go.ChangeShapes Go.WideShapes Go.ChangeAt Go.RowKit

theorem one_of {α : Type} {l : List α} {k : Nat} {a : α} (h : (l.drop k).take 1 = [a]) : l[k]? = some a := by
  have := congrArg (·[0]?) h
  simpa [List.getElem?_take, List.getElem?_drop] using this

theorem cells3 : Tryd.prog.cellsOf 3 = 1 := by kernel_rfl
theorem cells4 : Tryd.prog.cellsOf 4 = 1 := by kernel_rfl
theorem cells22 : Tryd.prog.cellsOf 22 = 1 := by kernel_rfl
theorem cells23 : Tryd.prog.cellsOf 23 = 1 := by kernel_rfl
theorem cells24 : Tryd.prog.cellsOf 24 = 1 := by kernel_rfl
theorem cells26 : Tryd.prog.cellsOf 26 = 4 := by kernel_rfl
theorem cells39 : Tryd.prog.cellsOf 39 = 1 := by kernel_rfl
theorem cells50 : Tryd.prog.cellsOf 50 = 2 := by kernel_rfl
theorem cells41 : Tryd.prog.cellsOf 41 = 2 := by kernel_rfl
theorem cells27 : Tryd.prog.cellsOf 27 = 1 := by kernel_rfl
theorem cells52 : Tryd.prog.cellsOf 52 = 4 := by kernel_rfl
theorem cells47 : Tryd.prog.cellsOf 47 = 3 := by kernel_rfl

theorem addr_add (b o j : Nat) : (⟨b, o, none⟩ : Addr).add j = ⟨b, o + j, none⟩ := by
  unfold Addr.add
  by_cases h : j = 0
  · subst h; rfl
  · rw [if_neg h]

section
variable {H : Type} {enc : TypeId × Value → H} {w : World} {spare : Nat → Bool} {held : Bool}

theorem sl_open {α : Type} [Inhabited α] {sz : Nat} {R : World → Nat → Nat → α → Prop} {t e : TypeId} {fuel : Nat} {cs : List Value} {x : DataW H × List MemPlace} (ht : Tryd.prog.underlying t = some (.slice e)) (hsz : Tryd.prog.cellsOf e = sz) (h0 : 0 < sz)
    (hel : ∀ b o cs' n d, (∀ j, j < sz → w.cell? ⟨b, o + j, none⟩ = cs'[j]?) → DataW.trod enc Tryd.prog w 0 spare held n e cs' = some d → ∃ x, R w b o x) (h : DataW.trod enc Tryd.prog w 0 spare held fuel t cs = some x) :
    ∃ v l, cs = [v] ∧ Sl sz R anyB w v l := by
  rcases Go.Deep.open_slice ht h with ⟨rfl, _⟩ | ⟨a, len, cap, m, n, D, Pl, rfl, _, hl, hm, hmm, _, hx⟩
  · exact ⟨_, [], rfl, _, _, rfl, by simp, Or.inl rfl⟩
  · have hlm : len ≤ m := by rw [hmm]; split <;> omega
    by_cases hz : len = 0
    · subst hz
      exact ⟨_, [], rfl, _, _, rfl, by simp, Or.inl rfl⟩
    · rw [hsz] at hx
      have hbd : (len : Int) ≤ 9223372036854775807 := by unfold maxLen at hm; omega
      obtain ⟨ab, ao, asp⟩ := a
      have hsp : asp = none ∧ ab < w.heap.size := by
        obtain ⟨cs', h1, _⟩ := hx 0 (by omega)
        obtain ⟨_, h2, h3⟩ := World.cells?_some h1
        have h4 := h3 0 h0
        rw [Nat.zero_mul] at h4
        have h5 : w.cell? ⟨ab, ao, asp⟩ = cs'[0]? := h4
        rw [List.getElem?_eq_getElem (by omega)] at h5
        refine ⟨?_, World.block_lt_of_cell? _ _ h5⟩
        unfold World.cell? at h5
        split at h5
        · split at h5
          · simp at h5
          · rename_i hns; cases asp <;> simp_all
        · simp at h5
      obtain ⟨rfl, hlt⟩ := hsp
      obtain ⟨f, hf⟩ := Go.Deep.choose_lt (α := α) (n := len) (p := fun i x => R w ab (ao + i * sz) x) (fun i hi => by
        obtain ⟨cs', h1, h2⟩ := hx i (by omega)
        obtain ⟨_, _, h3⟩ := World.cells?_some h1
        refine hel ab (ao + i * sz) cs' n _ (fun j hj => ?_) h2
        have := h3 j hj
        rwa [addr_add, addr_add] at this)
      refine ⟨_, (List.range len).map f, rfl, some ⟨ab, ao, none⟩, cap, by simp, by simpa using hbd, Or.inr ⟨ab, ao, rfl, trivial, hlt, fun k y hy => ?_⟩⟩
      have hk : k < len := by have := (List.getElem?_eq_some_iff.1 hy).1; simpa using this
      have : f k = y := by simpa [hk] using hy
      rw [← this]
      exact hf k hk

theorem open_ints {fuel : Nat} {cs : List Value} {x : DataW H × List MemPlace} (h : DataW.trod enc Tryd.prog w 0 spare held fuel 27 cs = some x) : ∃ v l, cs = [v] ∧ Ints anyB w v l :=
  sl_open Tryd.underlying27 cells3 (by decide) (fun b o cs' n d hc h => by
    obtain ⟨k, rfl, _⟩ := DataW.trod_int Tryd.underlying3 h
    exact ⟨k, hc 0 (by decide)⟩) h
theorem open_code {fuel : Nat} {cs : List Value} {x : DataW H × List MemPlace} (h : DataW.trod enc Tryd.prog w 0 spare held fuel 39 cs = some x) : ∃ v l, cs = [v] ∧ Code anyB w v l :=
  sl_open Tryd.underlying39 cells41 (by decide) (fun b o cs' n d hc h => by
    obtain ⟨y0, y1, m, _, _, e0, e1⟩ := trod_struct2 Tryd.underlying41 h
    rw [cells3] at e0 e1
    obtain ⟨i, c0, _⟩ := DataW.trod_int Tryd.underlying3 e0
    obtain ⟨j, c1, _⟩ := DataW.trod_int Tryd.underlying3 e1
    exact ⟨⟨i, j⟩, (hc 0 (by decide)).trans (one_of c0), (hc 1 (by decide)).trans (one_of c1)⟩) h
theorem open_hnds {fuel : Nat} {cs : List Value} {x : DataW H × List MemPlace} (h : DataW.trod enc Tryd.prog w 0 spare held fuel 22 cs = some x) : ∃ v l, cs = [v] ∧ Hnds anyB anyB w v l :=
  sl_open Tryd.underlying22 cells50 (by decide) (fun b o cs' n d hc h => by
    obtain ⟨y0, y1, m, _, _, e0, e1⟩ := trod_struct2 Tryd.underlying50 h
    rw [cells3] at e0
    rw [cells39] at e1
    obtain ⟨i, c0, _⟩ := DataW.trod_int Tryd.underlying3 e0
    obtain ⟨v, l, c1, hl⟩ := open_code e1
    exact ⟨⟨i, l⟩, (hc 0 (by decide)).trans (one_of c0), v, (hc 1 (by decide)).trans (one_of c1), hl⟩) h
theorem open_acts {fuel : Nat} {cs : List Value} {x : DataW H × List MemPlace} (h : DataW.trod enc Tryd.prog w 0 spare held fuel 23 cs = some x) : ∃ v l, cs = [v] ∧ Acts anyB anyB w v l :=
  sl_open Tryd.underlying23 cells52 (by decide) (fun b o cs' n d hc h => by
    obtain ⟨y0, y1, y2, y3, m, _, _, e0, e1, e2, e3⟩ := Go.Joins.trod_struct4 Tryd.underlying52 h
    rw [cells27] at e0
    rw [cells3] at e1 e2
    rw [cells4] at e3
    obtain ⟨v, l, c0, hl⟩ := open_ints e0
    obtain ⟨i, c1, _⟩ := DataW.trod_int Tryd.underlying3 e1
    obtain ⟨j, c2, _⟩ := DataW.trod_int Tryd.underlying3 e2
    obtain ⟨k, c3, _⟩ := DataW.trod_bool Tryd.underlying4 e3
    exact ⟨⟨l, i, j, k⟩, ⟨v, (hc 0 (by decide)).trans (one_of c0), hl⟩, (hc 1 (by decide)).trans (one_of c1), (hc 2 (by decide)).trans (one_of c2), (hc 3 (by decide)).trans (one_of c3)⟩) h
theorem open_ntes {fuel : Nat} {cs : List Value} {x : DataW H × List MemPlace} (h : DataW.trod enc Tryd.prog w 0 spare held fuel 24 cs = some x) : ∃ v l, cs = [v] ∧ Ntes anyB anyB w v l :=
  sl_open Tryd.underlying24 cells47 (by decide) (fun b o cs' n d hc h => by
    obtain ⟨y0, y1, y2, m, _, _, e0, e1, e2⟩ := Go.Deep.trod_struct3 Tryd.underlying47 h
    rw [cells3] at e0 e1
    rw [cells27] at e2
    obtain ⟨i, c0, _⟩ := DataW.trod_int Tryd.underlying3 e0
    obtain ⟨j, c1, _⟩ := DataW.trod_int Tryd.underlying3 e1
    obtain ⟨v, l, c2, hl⟩ := open_ints e2
    exact ⟨⟨i, j, l⟩, (hc 0 (by decide)).trans (one_of c0), (hc 1 (by decide)).trans (one_of c1), v, (hc 2 (by decide)).trans (one_of c2), hl⟩) h

theorem open_nte {r : Reach} {b0 : Nat} {v : Value} {d : DataW H} {p : List MemPlace} (hv : Value.okWide Tryd.prog w r b0 47 v) (h : DataW.Trod enc Tryd.prog w 0 spare held 47 v d p) : ∃ n, NteV w v n := by
  obtain ⟨v0, v1, v2, y0, y1, y2, n, rfl, _, _, e0, e1, e2⟩ := Go.Joins.open_agg3 Tryd.underlying47 (by kernel_rfl) cells47 hv h
  obtain ⟨i, c0, _⟩ := DataW.trod_int Tryd.underlying3 e0
  obtain ⟨j, c1, _⟩ := DataW.trod_int Tryd.underlying3 e1
  obtain ⟨u, l, c2, hl⟩ := open_ints e2
  simp only [List.cons.injEq, and_true] at c0 c1 c2
  subst c0 c1 c2
  exact ⟨⟨i, j, l⟩, _, rfl, hl⟩
theorem open_prg {r : Reach} {b0 : Nat} {v : Value} {d : DataW H} {p : List MemPlace} (hv : Value.okWide Tryd.prog w r b0 26 v) (h : DataW.Trod enc Tryd.prog w 0 spare held 26 v d p) : ∃ q, PrgV w v q := by
  obtain ⟨v0, v1, v2, v3, y0, y1, y2, y3, n, rfl, _, _, e0, e1, e2, e3⟩ := Go.Joins.open_agg4 Tryd.underlying26 (by kernel_rfl) cells26 hv h
  obtain ⟨u0, l0, c0, h0⟩ := open_hnds e0
  obtain ⟨u1, l1, c1, h1⟩ := open_acts e1
  obtain ⟨u2, l2, c2, h2⟩ := open_ntes e2
  obtain ⟨i, c3, _⟩ := DataW.trod_int Tryd.underlying3 e3
  simp only [List.cons.injEq, and_true] at c0 c1 c2 c3
  subst c0 c1 c2 c3
  exact ⟨⟨l0, l1, l2, i⟩, _, _, _, rfl, h0, h1, h2⟩
end
end Go.Proofs.YtpcffhhednplaaaDoor
