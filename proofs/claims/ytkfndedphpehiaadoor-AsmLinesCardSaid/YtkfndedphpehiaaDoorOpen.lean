/-
  From what an argument reads as to the cells in the world: code, an instruction. No conditions.
-/
import Derived.Test.YtkfndedphpehiaaDoorAsm1
import Derived.Test.YtkfndedphpehiaaDoorMem
import Derived.ProofKit
import Derived.Deep.Slices
import Derived.Deep.Strs
import Derived.Lib.SmallJoins
namespace Go.Proofs.YtkfndedphpehiaaDoor
open Go.ChangeShapes Go.WideShapes Go.ChangeAt Go.RowKit

theorem one_of {α : Type} {l : List α} {k : Nat} {a : α} (h : (l.drop k).take 1 = [a]) : l[k]? = some a := by
  have := congrArg (·[0]?) h
  simpa [List.getElem?_take, List.getElem?_drop] using this

theorem cells3 : Tryd.prog.cellsOf 3 = 1 := by kernel_rfl
theorem cells24 : Tryd.prog.cellsOf 24 = 2 := by kernel_rfl
theorem addr_add (b o j : Nat) : (⟨b, o, none⟩ : Addr).add j = ⟨b, o + j, none⟩ := by
  unfold Addr.add
  by_cases h : j = 0
  · subst h; rfl
  · rw [if_neg h]

theorem rg_of {n : Int} (h : (Lit.int .i64 n).wf = true) : Rg n := by
  simp [Lit.wf, IntKind.min, IntKind.max, IntKind.bits, IntKind.signed] at h
  exact ⟨by omega, by omega⟩
section
variable {H : Type} {enc : TypeId × Value → H} {w : World} {spare : Nat → Bool} {held : Bool}
theorem sl_open {α : Type} [Inhabited α] {sz : Nat} {R : World → Nat → Nat → α → Prop} {t e : TypeId} {fuel : Nat} {cs : List Value} {x : DataW H × List MemPlace} (ht : Tryd.prog.underlying t = some (.slice e)) (hsz : Tryd.prog.cellsOf e = sz) (h0 : 0 < sz)
    (hel : ∀ b o cs' n d, (∀ j, j < sz → w.cell? ⟨b, o + j, none⟩ = cs'[j]?) → DataW.trod enc Tryd.prog w 0 spare held n e cs' = some d → ∃ x, R w b o x) (h : DataW.trod enc Tryd.prog w 0 spare held fuel t cs = some x) :
    ∃ v l, cs = [v] ∧ Sl sz R anyB w v l := by
  rcases Go.Deep.open_slice ht h with ⟨rfl, _⟩ | ⟨a, len, cap, m, n, D, Pl, rfl, _, hl, hm, hmm, _, hx⟩
  · exact ⟨_, [], rfl, _, _, rfl, by simp, Or.inl rfl⟩
  · have hlm : len ≤ m := by rw [hmm]; split <;> omega
    by_cases hz : len = 0
    · subst hz
      exact ⟨_, [], rfl, _, _, rfl, by simp, Or.inl rfl⟩
    · rw [hsz] at hx
      have hbd : (len : Int) ≤ 9223372036854775807 := by unfold maxLen at hm; omega
      obtain ⟨ab, ao, asp⟩ := a
      have hsp : asp = none ∧ ab < w.heap.size := by
        obtain ⟨cs', h1, _⟩ := hx 0 (by omega)
        obtain ⟨_, h2, h3⟩ := World.cells?_some h1
        have h4 := h3 0 h0
        rw [Nat.zero_mul] at h4
        have h5 : w.cell? ⟨ab, ao, asp⟩ = cs'[0]? := h4
        rw [List.getElem?_eq_getElem (by omega)] at h5
        refine ⟨?_, World.block_lt_of_cell? _ _ h5⟩
        unfold World.cell? at h5
        split at h5
        · split at h5
          · simp at h5
          · rename_i hns; cases asp <;> simp_all
        · simp at h5
      obtain ⟨rfl, hlt⟩ := hsp
      obtain ⟨f, hf⟩ := Go.Deep.choose_lt (α := α) (n := len) (p := fun i x => R w ab (ao + i * sz) x) (fun i hi => by
        obtain ⟨cs', h1, h2⟩ := hx i (by omega)
        obtain ⟨_, _, h3⟩ := World.cells?_some h1
        refine hel ab (ao + i * sz) cs' n _ (fun j hj => ?_) h2
        have := h3 j hj
        rwa [addr_add, addr_add] at this)
      refine ⟨_, (List.range len).map f, rfl, some ⟨ab, ao, none⟩, cap, by simp, by simpa using hbd, Or.inr ⟨ab, ao, rfl, trivial, hlt, fun k y hy => ?_⟩⟩
      have hk : k < len := by have := (List.getElem?_eq_some_iff.1 hy).1; simpa using this
      have : f k = y := by simpa [hk] using hy
      rw [← this]
      exact hf k hk

/-- Code, and that its numbers are of 64 bits. -/
theorem open_codeV {r : Reach} {b0 : Nat} {v : Value} {d : DataW H} {p : List MemPlace} (hv : Value.okWide Tryd.prog w r b0 22 v) (h : DataW.Trod enc Tryd.prog w 0 spare held 22 v d p) : ∃ l, Code anyB w v l ∧ ∀ i ∈ l, RgI i := by
  obtain ⟨a, len, cap, rfl⟩ := okWide_slice Tryd.underlying22 hv
  obtain ⟨fuel, hf⟩ := h
  obtain ⟨u, l, hu, hl⟩ := sl_open (R := fun w b o (i : PIns) => rIns w b o i ∧ RgI i) Tryd.underlying22 cells24 (by decide) (fun b o cs' n d hc h => by
    obtain ⟨y0, y1, m, _, _, e0, e1⟩ := trod_struct2 Tryd.underlying24 h
    rw [cells3] at e0 e1
    obtain ⟨i, c0, _, f0⟩ := DataW.trod_int Tryd.underlying3 e0
    obtain ⟨j, c1, _, f1⟩ := DataW.trod_int Tryd.underlying3 e1
    exact ⟨⟨i, j⟩, ⟨(hc 0 (by decide)).trans (one_of c0), (hc 1 (by decide)).trans (one_of c1)⟩, rg_of f0, rg_of f1⟩) hf
  simp [Value.cells] at hu
  subst hu
  obtain ⟨A, c, e, hlen, hx⟩ := hl
  rcases hx with rfl | ⟨b, o, e2, h1, h2, h3⟩
  · exact ⟨[], ⟨A, c, e, hlen, Or.inl rfl⟩, fun i hi => by cases hi⟩
  · exact ⟨l, ⟨A, c, e, hlen, Or.inr ⟨b, o, e2, h1, h2, fun k x hk => (h3 k x hk).1⟩⟩, fun i hi => by
      obtain ⟨k, hk, rfl⟩ := List.mem_iff_getElem.1 hi
      exact (h3 k _ (List.getElem?_eq_getElem hk)).2⟩
/-- An instruction. -/
theorem open_insV {r : Reach} {b0 : Nat} {v : Value} {d : DataW H} {p : List MemPlace} (hv : Value.okWide Tryd.prog w r b0 24 v) (h : DataW.Trod enc Tryd.prog w 0 spare held 24 v d p) : ∃ i : PIns, v = .agg #[.int .i64 i.op, .int .i64 i.a] ∧ RgI i := by
  obtain ⟨v0, v1, y0, y1, n, rfl, _, _, e0, e1⟩ := Go.Joins.open_agg2 Tryd.underlying24 (by kernel_rfl) cells24 hv h
  obtain ⟨i, c0, _, f0⟩ := DataW.trod_int Tryd.underlying3 e0
  obtain ⟨j, c1, _, f1⟩ := DataW.trod_int Tryd.underlying3 e1
  simp only [List.cons.injEq, and_true] at c0 c1
  subst c0 c1
  exact ⟨⟨i, j⟩, rfl, rg_of f0, rg_of f1⟩
end
end Go.Proofs.YtkfndedphpehiaaDoor
