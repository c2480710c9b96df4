/-
  From what an argument reads as to the cells in the world: numbers, messages, and what is to be done with them. No conditions.
-/
import Derived.Test.YtjdkbgeehjihfaaM7
import Derived.ProofKit
import Derived.Deep.Slices
import Derived.Deep.Strs
import Derived.Lib.SmallJoins
import Derived.Carry
namespace Go.Proofs.Ytjdkbgeehjihfaa
open Go.ChangeShapes Go.WideShapes Go.ChangeAt Go.RowKit
theorem one_of {α : Type} {l : List α} {k : Nat} {a : α} (h : (l.drop k).take 1 = [a]) : l[k]? = some a := by
  have := congrArg (·[0]?) h
  simpa [List.getElem?_take, List.getElem?_drop] using this

theorem cells3 : Try.prog.cellsOf 3 = 1 := by kernel_rfl
theorem cellsL : Try.prog.cellsOf 25 = 1 := by kernel_rfl
theorem cellsD : Try.prog.cellsOf 24 = 3 := by kernel_rfl
theorem cellsN : Try.prog.cellsOf 27 = 3 := by kernel_rfl
theorem cellsM : Try.prog.cellsOf 29 = 6 := by kernel_rfl
theorem cellsA : Try.prog.cellsOf 48 = 7 := by kernel_rfl
/-- What is to be done: its kind, and a message. -/
structure PAct where
  kind : Int
  m : PMsg
  deriving DecidableEq, Inhabited
def rAct (ok : Nat → Prop) (w : World) (b o : Nat) (x : PAct) : Prop := w.cell? ⟨b, o, none⟩ = some (.int .i64 x.kind) ∧ rMsg ok w b (o + 1) x.m
abbrev Acts (out inn : Nat → Prop) := Sl 7 (rAct inn) out
theorem take_at {α : Type} {l : List α} {k n j : Nat} (hj : j < n) : ((l.drop k).take n)[j]? = l[k + j]? := by rw [List.getElem?_take, if_pos hj, List.getElem?_drop]
section
variable {H : Type} {enc : TypeId × Value → H} {w : World} {spare : Nat → Bool} {held : Bool}

theorem sl_open {α : Type} [Inhabited α] {sz : Nat} {R : World → Nat → Nat → α → Prop} {t e : TypeId} {fuel : Nat} {cs : List Value} {x : DataW H × List MemPlace} (ht : Try.prog.underlying t = some (.slice e)) (hsz : Try.prog.cellsOf e = sz) (h0 : 0 < sz)
    (hel : ∀ b o cs' n d, (∀ j, j < sz → w.cell? ⟨b, o + j, none⟩ = cs'[j]?) → DataW.trod enc Try.prog w 0 spare held n e cs' = some d → ∃ x, R w b o x) (h : DataW.trod enc Try.prog w 0 spare held fuel t cs = some x) :
    ∃ v l, cs = [v] ∧ Sl sz R anyB w v l := by
  rcases Go.Deep.open_slice ht h with ⟨rfl, _⟩ | ⟨a, len, cap, m, n, D, Pl, rfl, _, hl, hm, hmm, _, hx⟩
  · exact ⟨_, [], rfl, _, _, rfl, by simp, by simp, Or.inl rfl⟩
  · have hlm : len ≤ m := by rw [hmm]; split <;> omega
    by_cases hz : len = 0
    · subst hz
      exact ⟨_, [], rfl, _, _, rfl, by simp, by simp, Or.inl rfl⟩
    · rw [hsz] at hx
      have hbd : (len : Int) ≤ 9223372036854775807 := by unfold maxLen at hm; omega
      obtain ⟨ab, ao, asp⟩ := a
      have hsp : asp = none ∧ ab < w.heap.size := by
        obtain ⟨cs', h1, _⟩ := hx 0 (by omega)
        obtain ⟨_, h2, h3⟩ := World.cells?_some h1
        have h4 := h3 0 h0
        rw [Nat.zero_mul] at h4
        have h5 : w.cell? ⟨ab, ao, asp⟩ = cs'[0]? := h4
        rw [List.getElem?_eq_getElem (by omega)] at h5
        refine ⟨?_, World.block_lt_of_cell? _ _ h5⟩
        unfold World.cell? at h5
        split at h5
        · split at h5
          · simp at h5
          · rename_i hns; cases asp <;> simp_all
        · simp at h5
      obtain ⟨rfl, hlt⟩ := hsp
      obtain ⟨f, hf⟩ := Go.Deep.choose_lt (α := α) (n := len) (p := fun i x => R w ab (ao + i * sz) x) (fun i hi => by
        obtain ⟨cs', h1, h2⟩ := hx i (by omega)
        obtain ⟨_, _, h3⟩ := World.cells?_some h1
        refine hel ab (ao + i * sz) cs' n _ (fun j hj => ?_) h2
        have := h3 j hj
        rwa [addr_add, addr_add] at this)
      refine ⟨_, (List.range len).map f, rfl, some ⟨ab, ao, none⟩, cap, by simp, by simpa using hbd, by simpa using hl, Or.inr ⟨ab, ao, rfl, trivial, hlt, fun k y hy => ?_⟩⟩
      have hk : k < len := by have := (List.getElem?_eq_some_iff.1 hy).1; simpa using this
      have : f k = y := by simpa [hk] using hy
      rw [← this]
      exact hf k hk

theorem open_ints {fuel : Nat} {cs : List Value} {x : DataW H × List MemPlace} (h : DataW.trod enc Try.prog w 0 spare held fuel 25 cs = some x) : ∃ v l, cs = [v] ∧ Ints anyB w v l :=
  sl_open Try.underlying25 cells3 (by decide) (fun b o cs' n d hc h => by
    obtain ⟨k, rfl, _⟩ := DataW.trod_int Try.underlying3 h
    exact ⟨k, hc 0 (by decide)⟩) h
/-- A message's cells. -/
theorem open_mcs {fuel : Nat} {cs : List Value} {x : DataW H × List MemPlace} (h : DataW.trod enc Try.prog w 0 spare held fuel 29 cs = some x) :
    ∃ (m : PMsg) (c : Value), cs[0]? = some (.int .i64 m.id.f) ∧ cs[1]? = some (.int .i64 m.id.n) ∧ cs[2]? = some (.int .i64 m.id.c) ∧ cs[3]? = some (.int .i64 m.nt.to) ∧ cs[4]? = some (.int .i64 m.nt.hd) ∧ cs[5]? = some c ∧ Ints anyB w c m.nt.args := by
  obtain ⟨y0, y1, m, _, _, e0, e1⟩ := trod_struct2 Try.underlying29 h
  obtain ⟨_, _, _, _, _, _, f0, f1, f2⟩ := Go.Deep.trod_struct3 Try.underlying24 e0
  obtain ⟨_, _, _, _, _, _, g0, g1, g2⟩ := Go.Deep.trod_struct3 Try.underlying27 e1
  simp only [cells3, cellsD, cellsN, cellsL] at f0 f1 f2 g0 g1 g2
  obtain ⟨i0, c0, _⟩ := DataW.trod_int Try.underlying3 f0
  obtain ⟨i1, c1, _⟩ := DataW.trod_int Try.underlying3 f1
  obtain ⟨i2, c2, _⟩ := DataW.trod_int Try.underlying3 f2
  obtain ⟨j0, d0, _⟩ := DataW.trod_int Try.underlying3 g0
  obtain ⟨j1, d1, _⟩ := DataW.trod_int Try.underlying3 g1
  obtain ⟨v, l, d2, hl⟩ := open_ints g2
  have a0 := one_of c0
  have a1 := one_of c1
  have a2 := one_of c2
  have b0 := one_of d0
  have b1 := one_of d1
  have b2 := one_of d2
  rw [take_at (by decide)] at a0 a1 a2 b0 b1 b2
  exact ⟨⟨⟨i0, i1, i2⟩, ⟨j0, j1, l⟩⟩, v, a0, a1, a2, b0, b1, b2, hl⟩
theorem open_msgs {fuel : Nat} {cs : List Value} {x : DataW H × List MemPlace} (h : DataW.trod enc Try.prog w 0 spare held fuel 22 cs = some x) : ∃ v l, cs = [v] ∧ Msgs anyB anyB w v l :=
  sl_open Try.underlying22 cellsM (by decide) (fun b o cs' n d hc h => by
    obtain ⟨m, c, e0, e1, e2, e3, e4, e5, hl⟩ := open_mcs h
    exact ⟨m, (hc 0 (by decide)).trans e0, (hc 1 (by decide)).trans e1, (hc 2 (by decide)).trans e2, (hc 3 (by decide)).trans e3, (hc 4 (by decide)).trans e4, c, (hc 5 (by decide)).trans e5, hl⟩) h
theorem open_acts {fuel : Nat} {cs : List Value} {x : DataW H × List MemPlace} (h : DataW.trod enc Try.prog w 0 spare held fuel 46 cs = some x) : ∃ v l, cs = [v] ∧ Acts anyB anyB w v l :=
  sl_open Try.underlying46 cellsA (by decide) (fun b o cs' n d hc h => by
    obtain ⟨y0, y1, m, _, _, e0, e1⟩ := trod_struct2 Try.underlying48 h
    simp only [cells3, cellsM] at e0 e1
    obtain ⟨i, c0, _⟩ := DataW.trod_int Try.underlying3 e0
    obtain ⟨m, c, f0, f1, f2, f3, f4, f5, hl⟩ := open_mcs e1
    rw [take_at (by decide)] at f0 f1 f2 f3 f4 f5
    refine ⟨⟨i, m⟩, (hc 0 (by decide)).trans (one_of c0), (hc 1 (by decide)).trans f0, (hc 2 (by decide)).trans f1, (hc 3 (by decide)).trans f2, (hc 4 (by decide)).trans f3, (hc 5 (by decide)).trans f4, c, (hc 6 (by decide)).trans f5, hl⟩) h
theorem open_intsV {r : Reach} {b0 : Nat} {v : Value} {d : DataW H} {p : List MemPlace} (hv : Value.okWide Try.prog w r b0 25 v) (h : DataW.Trod enc Try.prog w 0 spare held 25 v d p) : ∃ l, Ints anyB w v l := by
  obtain ⟨a, len, cap, rfl⟩ := okWide_slice Try.underlying25 hv
  obtain ⟨fuel, hf⟩ := h
  obtain ⟨u, l, hu, hl⟩ := open_ints hf
  simp [Value.cells] at hu
  subst hu
  exact ⟨l, hl⟩
theorem open_msgsV {r : Reach} {b0 : Nat} {v : Value} {d : DataW H} {p : List MemPlace} (hv : Value.okWide Try.prog w r b0 22 v) (h : DataW.Trod enc Try.prog w 0 spare held 22 v d p) : ∃ l, Msgs anyB anyB w v l := by
  obtain ⟨a, len, cap, rfl⟩ := okWide_slice Try.underlying22 hv
  obtain ⟨fuel, hf⟩ := h
  obtain ⟨u, l, hu, hl⟩ := open_msgs hf
  simp [Value.cells] at hu
  subst hu
  exact ⟨l, hl⟩
theorem open_actsV {r : Reach} {b0 : Nat} {v : Value} {d : DataW H} {p : List MemPlace} (hv : Value.okWide Try.prog w r b0 46 v) (h : DataW.Trod enc Try.prog w 0 spare held 46 v d p) : ∃ l, Acts anyB anyB w v l := by
  obtain ⟨a, len, cap, rfl⟩ := okWide_slice Try.underlying46 hv
  obtain ⟨fuel, hf⟩ := h
  obtain ⟨u, l, hu, hl⟩ := open_acts hf
  simp [Value.cells] at hu
  subst hu
  exact ⟨l, hl⟩
theorem arr6 {cs : Array Value} (h : cs.size = 6) : ∃ a b c d e f, cs = #[a, b, c, d, e, f] := by
  obtain ⟨l⟩ := cs
  match l, h with
  | [a, b, c, d, e, f], _ => exact ⟨a, b, c, d, e, f, rfl⟩
theorem open_msgV {r : Reach} {b0 : Nat} {v : Value} {d : DataW H} {p : List MemPlace} (hv : Value.okWide Try.prog w r b0 29 v) (h : DataW.Trod enc Try.prog w 0 spare held 29 v d p) : ∃ m, MsgV anyB w v m := by
  obtain ⟨cs, rfl, hsz⟩ := okWide_struct Try.underlying29 hv
  obtain ⟨x0, x1, x2, x3, x4, x5, rfl⟩ := arr6 (hsz.trans cellsM)
  obtain ⟨fuel, hf⟩ := h
  obtain ⟨m, c, e0, e1, e2, e3, e4, e5, hl⟩ := open_mcs hf
  simp [Value.cells] at e0 e1 e2 e3 e4 e5
  subst e0 e1 e2 e3 e4 e5
  exact ⟨m, _, rfl, hl⟩
end
end Go.Proofs.Ytjdkbgeehjihfaa
