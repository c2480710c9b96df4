/-
 From what an argument reads as to the cells in the world: lists, handlers, actors, notes, programs, budgets, events, messages, worlds, and that numbers are of 64 bits. No conditions.
-/
import Derived.Test.YtfbeiedhdmndnaaGreatDoorPk14
import Derived.ProofKit
import Derived.Deep.Slices
import Derived.Deep.Strs
import Derived.Lib.SmallJoins
namespace Go.Proofs.YtfbeiedhdmndnaaGreatDoor
open Go.ChangeShapes Go.WideShapes Go.ChangeAt Go.RowKit
/-- A number of 64 bits. -/
def Rg (n : Int) : Prop := -9223372036854775808 ≤ n ∧ n ≤ 9223372036854775807
/-- A program's numbers are of 64 bits. -/
structure RgP (q : PPrg) : Prop where
 regs : ∀ a ∈ q.acs, ∀ n ∈ a.regs, Rg n
 args : ∀ x ∈ q.bs, ∀ n ∈ x.args, Rg n
theorem rg_of {n : Int} (h : (Lit.int .i64 n).wf = true) : Rg n := by
 simp [Lit.wf, IntKind.min, IntKind.max, IntKind.bits, IntKind.signed] at h
 exact ⟨by omega, by omega⟩
theorem cells4 : Tryz.prog.cellsOf 4 = 1 := by kernel_rfl
theorem cellsP : Tryz.prog.cellsOf 26 = 4 := by kernel_rfl
theorem cellsC : Tryz.prog.cellsOf 71 = 1 := by kernel_rfl
theorem cellsH : Tryz.prog.cellsOf 73 = 2 := by kernel_rfl
theorem cellsI : Tryz.prog.cellsOf 70 = 2 := by kernel_rfl
theorem cellsIs : Tryz.prog.cellsOf 54 = 1 := by kernel_rfl
theorem cellsA : Tryz.prog.cellsOf 75 = 4 := by kernel_rfl
theorem cellsN : Tryz.prog.cellsOf 79 = 3 := by kernel_rfl
theorem Sl.split {α : Type} {sz : Nat} {R : World → Nat → Nat → α → Prop} {Q : α → Prop} {ok : Nat → Prop} {w : World} {v : Value} {l : List α} (h : Sl sz (fun w b o x => R w b o x ∧ Q x) ok w v l) : Sl sz R ok w v l ∧ ∀ x ∈ l, Q x := by
 refine ⟨h.imp (fun _ h => h) (Nat.le_refl _) fun _ _ _ _ _ hr => hr.1, fun x hx => ?_⟩
 obtain ⟨A, c, rfl, _, _, h⟩ := h
 rcases h with rfl | ⟨b, o, _, _, _, hc⟩
 ·cases hx
 ·obtain ⟨k, hk⟩ := List.getElem?_of_mem hx
  exact (hc k x hk).2
theorem cellsBu : Tryz.prog.cellsOf 28 = 4 := by kernel_rfl
theorem cellsEv : Tryz.prog.cellsOf 36 = 5 := by kernel_rfl
theorem cellsId : Tryz.prog.cellsOf 34 = 3 := by kernel_rfl
theorem cellsM : Tryz.prog.cellsOf 90 = 6 := by kernel_rfl
theorem cellsLo : Tryz.prog.cellsOf 56 = 5 := by kernel_rfl
theorem cellsLs : Tryz.prog.cellsOf 29 = 1 := by kernel_rfl
theorem cellsMs : Tryz.prog.cellsOf 30 = 1 := by kernel_rfl
theorem cellsW : Tryz.prog.cellsOf 32 = 6 := by kernel_rfl
theorem take_at {α : Type} {l : List α} {k n j : Nat} (hj : j < n) : ((l.drop k).take n)[j]? = l[k + j]? := by rw [List.getElem?_take, if_pos hj, List.getElem?_drop]
theorem arr5 {cs : Array Value} (h : cs.size = 5) : ∃ a b c d e, cs = #[a, b, c, d, e] := by
 obtain ⟨l⟩ := cs
 match l, h with
 | [a, b, c, d, e], _ => exact ⟨a, b, c, d, e, rfl⟩
theorem arr6 {cs : Array Value} (h : cs.size = 6) : ∃ a b c d e f, cs = #[a, b, c, d, e, f] := by
 obtain ⟨l⟩ := cs
 match l, h with
 | [a, b, c, d, e, f], _ => exact ⟨a, b, c, d, e, f, rfl⟩
section
variable {H : Type} {enc : TypeId × Value → H} {w : World} {spare : Nat → Bool} {held : Bool}
theorem sl_open {α : Type} [Inhabited α] {sz : Nat} {R : World → Nat → Nat → α → Prop} {t e : TypeId} {fuel : Nat} {cs : List Value} {x : DataW H × List MemPlace} (ht : Tryz.prog.underlying t = some (.slice e)) (hsz : Tryz.prog.cellsOf e = sz) (h0 : 0 < sz)
  (hel : ∀ b o cs' n d, (∀ j, j < sz → w.cell? ⟨b, o + j, none⟩ = cs'[j]?) → DataW.trod enc Tryz.prog w 0 spare held n e cs' = some d → ∃ x, R w b o x) (h : DataW.trod enc Tryz.prog w 0 spare held fuel t cs = some x) :
  ∃ v l, cs = [v] ∧ Sl sz R anyB w v l := by
 rcases Go.Deep.open_slice ht h with ⟨rfl, _⟩ | ⟨a, len, cap, m, n, D, Pl, rfl, _, hl, hm, hmm, _, hx⟩
 ·exact ⟨_, [], rfl, _, _, rfl, by simp, by simp, Or.inl rfl⟩
 ·have hlm : len ≤ m := by rw [hmm]; split <;> omega
  by_cases hz : len = 0
  ·subst hz
   exact ⟨_, [], rfl, _, _, rfl, by simp, by simp, Or.inl rfl⟩
  ·rw [hsz] at hx
   have hbd : (len : Int) ≤ 9223372036854775807 := by unfold maxLen at hm; omega
   obtain ⟨ab, ao, asp⟩ := a
   have hsp : asp = none ∧ ab < w.heap.size := by
    obtain ⟨cs', h1, _⟩ := hx 0 (by omega)
    obtain ⟨_, h2, h3⟩ := World.cells?_some h1
    have h4 := h3 0 h0
    rw [Nat.zero_mul] at h4
    have h5 : w.cell? ⟨ab, ao, asp⟩ = cs'[0]? := h4
    rw [List.getElem?_eq_getElem (by omega)] at h5
    refine ⟨?_, World.block_lt_of_cell? _ _ h5⟩
    unfold World.cell? at h5
    split at h5
    ·split at h5
     ·simp at h5
     ·rename_i hns; cases asp <;> simp_all
    ·simp at h5
   obtain ⟨rfl, hlt⟩ := hsp
   obtain ⟨f, hf⟩ := Go.Deep.choose_lt (α := α) (n := len) (p := fun i x => R w ab (ao + i * sz) x) (fun i hi => by
    obtain ⟨cs', h1, h2⟩ := hx i (by omega)
    obtain ⟨_, _, h3⟩ := World.cells?_some h1
    refine hel ab (ao + i * sz) cs' n _ (fun j hj => ?_) h2
    have := h3 j hj
    rwa [addr_add, addr_add] at this)
   refine ⟨_, (List.range len).map f, rfl, some ⟨ab, ao, none⟩, cap, by simp, by simpa using hbd, by simpa using hl, Or.inr ⟨ab, ao, rfl, trivial, hlt, fun k y hy => ?_⟩⟩
   have hk : k < len := by have := (List.getElem?_eq_some_iff.1 hy).1; simpa using this
   have : f k = y := by simpa [hk] using hy
   rw [← this]
   exact hf k hk

theorem open_ints {fuel : Nat} {cs : List Value} {x : DataW H × List MemPlace} (h : DataW.trod enc Tryz.prog w 0 spare held fuel 54 cs = some x) : ∃ v l, cs = [v] ∧ Ints anyB w v l ∧ ∀ n ∈ l, Rg n := by
 obtain ⟨v, l, e, hl⟩ := sl_open (R := fun w b o (n : Int) => rInt w b o n ∧ Rg n) Tryz.underlying54 cells3 (by decide) (fun b o cs' n d hc h => by
  obtain ⟨k, rfl, _, hw⟩ := DataW.trod_int Tryz.underlying3 h
  exact ⟨k, hc 0 (by decide), rg_of hw⟩) h
 exact ⟨v, l, e, hl.split⟩
theorem open_code {fuel : Nat} {cs : List Value} {x : DataW H × List MemPlace} (h : DataW.trod enc Tryz.prog w 0 spare held fuel 71 cs = some x) : ∃ v l, cs = [v] ∧ Code anyB w v l :=
 sl_open Tryz.underlying71 cellsI (by decide) (fun b o cs' n d hc h => by
  obtain ⟨y0, y1, m, _, _, e0, e1⟩ := trod_struct2 Tryz.underlying70 h
  rw [cells3] at e0 e1
  obtain ⟨i, c0, _⟩ := DataW.trod_int Tryz.underlying3 e0
  obtain ⟨j, c1, _⟩ := DataW.trod_int Tryz.underlying3 e1
  exact ⟨⟨i, j⟩, (hc 0 (by decide)).trans (one_of c0), (hc 1 (by decide)).trans (one_of c1)⟩) h
theorem open_hnds {fuel : Nat} {cs : List Value} {x : DataW H × List MemPlace} (h : DataW.trod enc Tryz.prog w 0 spare held fuel 22 cs = some x) : ∃ v l, cs = [v] ∧ Hnds anyB anyB w v l :=
 sl_open Tryz.underlying22 cellsH (by decide) (fun b o cs' n d hc h => by
  obtain ⟨y0, y1, m, _, _, e0, e1⟩ := trod_struct2 Tryz.underlying73 h
  rw [cells3] at e0
  rw [cellsC] at e1
  obtain ⟨i, c0, _⟩ := DataW.trod_int Tryz.underlying3 e0
  obtain ⟨v, l, c1, hl⟩ := open_code e1
  exact ⟨⟨i, l⟩, (hc 0 (by decide)).trans (one_of c0), v, (hc 1 (by decide)).trans (one_of c1), hl⟩) h
theorem open_acts {fuel : Nat} {cs : List Value} {x : DataW H × List MemPlace} (h : DataW.trod enc Tryz.prog w 0 spare held fuel 23 cs = some x) : ∃ v l, cs = [v] ∧ Acts anyB anyB w v l ∧ ∀ a ∈ l, ∀ n ∈ a.regs, Rg n := by
 obtain ⟨v, l, e, hl⟩ := sl_open (R := fun w b o (a : PAct) => rAct anyB w b o a ∧ ∀ n ∈ a.regs, Rg n) Tryz.underlying23 cellsA (by decide) (fun b o cs' n d hc h => by
  obtain ⟨y0, y1, y2, y3, m, _, _, e0, e1, e2, e3⟩ := Go.Joins.trod_struct4 Tryz.underlying75 h
  rw [cellsIs] at e0
  rw [cells3] at e1 e2
  rw [cells4] at e3
  obtain ⟨v, l, c0, hl, hg⟩ := open_ints e0
  obtain ⟨i, c1, _⟩ := DataW.trod_int Tryz.underlying3 e1
  obtain ⟨j, c2, _⟩ := DataW.trod_int Tryz.underlying3 e2
  obtain ⟨k, c3, _⟩ := DataW.trod_bool Tryz.underlying4 e3
  exact ⟨⟨l, i, j, k⟩, ⟨⟨v, (hc 0 (by decide)).trans (one_of c0), hl⟩, (hc 1 (by decide)).trans (one_of c1), (hc 2 (by decide)).trans (one_of c2), (hc 3 (by decide)).trans (one_of c3)⟩, hg⟩) h
 exact ⟨v, l, e, hl.split⟩
theorem open_ntes {fuel : Nat} {cs : List Value} {x : DataW H × List MemPlace} (h : DataW.trod enc Tryz.prog w 0 spare held fuel 24 cs = some x) : ∃ v l, cs = [v] ∧ Ntes anyB anyB w v l ∧ ∀ n ∈ l, ∀ k ∈ n.args, Rg k := by
 obtain ⟨v, l, e, hl⟩ := sl_open (R := fun w b o (n : PNte) => rNte anyB w b o n ∧ ∀ k ∈ n.args, Rg k) Tryz.underlying24 cellsN (by decide) (fun b o cs' n d hc h => by
  obtain ⟨y0, y1, y2, m, _, _, e0, e1, e2⟩ := Go.Deep.trod_struct3 Tryz.underlying79 h
  rw [cells3] at e0 e1
  rw [cellsIs] at e2
  obtain ⟨i, c0, _⟩ := DataW.trod_int Tryz.underlying3 e0
  obtain ⟨j, c1, _⟩ := DataW.trod_int Tryz.underlying3 e1
  obtain ⟨v, l, c2, hl, hg⟩ := open_ints e2
  exact ⟨⟨i, j, l⟩, ⟨(hc 0 (by decide)).trans (one_of c0), (hc 1 (by decide)).trans (one_of c1), v, (hc 2 (by decide)).trans (one_of c2), hl⟩, hg⟩) h
 exact ⟨v, l, e, hl.split⟩
set_option maxRecDepth 100000 in
theorem open_prg {r : Reach} {b0 : Nat} {v : Value} {d : DataW H} {p : List MemPlace} (hv : Value.okWide Tryz.prog w r b0 26 v) (h : DataW.Trod enc Tryz.prog w 0 spare held 26 v d p) : ∃ q, PrgV w v q ∧ RgP q := by
 obtain ⟨v0, v1, v2, v3, y0, y1, y2, y3, n, rfl, _, _, e0, e1, e2, e3⟩ := Go.Joins.open_agg4 Tryz.underlying26 (by kernel_rfl) cellsP hv h
 obtain ⟨u0, l0, c0, h0⟩ := open_hnds e0
 obtain ⟨u1, l1, c1, h1, g1⟩ := open_acts e1
 obtain ⟨u2, l2, c2, h2, g2⟩ := open_ntes e2
 obtain ⟨i, c3, _⟩ := DataW.trod_int Tryz.underlying3 e3
 simp only [List.cons.injEq, and_true] at c0 c1 c2 c3
 subst c0 c1 c2 c3
 exact ⟨⟨l0, l1, l2, i⟩, ⟨_, _, _, rfl, h0, h1, h2⟩, ⟨g1, g2⟩⟩
set_option maxRecDepth 100000 in
theorem open_bud {r : Reach} {b0 : Nat} {v : Value} {d : DataW H} {p : List MemPlace} (hv : Value.okWide Tryz.prog w r b0 28 v) (h : DataW.Trod enc Tryz.prog w 0 spare held 28 v d p) : ∃ x : PBud, v = uVal x ∧ Rg x.drop := by
 obtain ⟨v0, v1, v2, v3, y0, y1, y2, y3, n, rfl, _, _, e0, e1, e2, e3⟩ := Go.Joins.open_agg4 Tryz.underlying28 (by kernel_rfl) cellsBu hv h
 obtain ⟨i, c0, _, f0⟩ := DataW.trod_int Tryz.underlying3 e0
 obtain ⟨j, c1, _⟩ := DataW.trod_int Tryz.underlying3 e1
 obtain ⟨k, c2, _⟩ := DataW.trod_int Tryz.underlying3 e2
 obtain ⟨l, c3, _⟩ := DataW.trod_int Tryz.underlying3 e3
 simp only [List.cons.injEq, and_true] at c0 c1 c2 c3
 subst c0 c1 c2 c3
 exact ⟨⟨i, j, k, l⟩, rfl, rg_of f0⟩
set_option maxRecDepth 100000 in
/-- A message's cells. -/
theorem open_mcs {fuel : Nat} {cs : List Value} {x : DataW H × List MemPlace} (h : DataW.trod enc Tryz.prog w 0 spare held fuel 90 cs = some x) :
  ∃ (m : PMsg) (c : Value), cs[0]? = some (.int .i64 m.id.f) ∧ cs[1]? = some (.int .i64 m.id.n) ∧ cs[2]? = some (.int .i64 m.id.c) ∧ cs[3]? = some (.int .i64 m.nt.to) ∧ cs[4]? = some (.int .i64 m.nt.hd) ∧ cs[5]? = some c ∧ Ints anyB w c m.nt.args := by
 obtain ⟨y0, y1, m, _, _, e0, e1⟩ := trod_struct2 Tryz.underlying90 h
 obtain ⟨_, _, _, _, _, _, f0, f1, f2⟩ := Go.Deep.trod_struct3 Tryz.underlying34 e0
 obtain ⟨_, _, _, _, _, _, g0, g1, g2⟩ := Go.Deep.trod_struct3 Tryz.underlying79 e1
 simp only [cells3, cellsId, cellsN, cellsIs] at f0 f1 f2 g0 g1 g2
 obtain ⟨i0, c0, _⟩ := DataW.trod_int Tryz.underlying3 f0
 obtain ⟨i1, c1, _⟩ := DataW.trod_int Tryz.underlying3 f1
 obtain ⟨i2, c2, _⟩ := DataW.trod_int Tryz.underlying3 f2
 obtain ⟨j0, d0, _⟩ := DataW.trod_int Tryz.underlying3 g0
 obtain ⟨j1, d1, _⟩ := DataW.trod_int Tryz.underlying3 g1
 obtain ⟨v, l, d2, hl, _⟩ := open_ints g2
 have a0 := one_of c0
 have a1 := one_of c1
 have a2 := one_of c2
 have b0 := one_of d0
 have b1 := one_of d1
 have b2 := one_of d2
 rw [take_at (by decide)] at a0 a1 a2 b0 b1 b2
 exact ⟨⟨⟨i0, i1, i2⟩, ⟨j0, j1, l⟩⟩, v, a0, a1, a2, b0, b1, b2, hl⟩
set_option maxRecDepth 100000 in
theorem open_msgs {fuel : Nat} {cs : List Value} {x : DataW H × List MemPlace} (h : DataW.trod enc Tryz.prog w 0 spare held fuel 30 cs = some x) : ∃ v l, cs = [v] ∧ Msgs anyB anyB w v l :=
 sl_open Tryz.underlying30 cellsM (by decide) (fun b o cs' n d hc h => by
  obtain ⟨m, c, e0, e1, e2, e3, e4, e5, hl⟩ := open_mcs h
  exact ⟨m, (hc 0 (by decide)).trans e0, (hc 1 (by decide)).trans e1, (hc 2 (by decide)).trans e2, (hc 3 (by decide)).trans e3, (hc 4 (by decide)).trans e4, c, (hc 5 (by decide)).trans e5, hl⟩) h
set_option maxRecDepth 100000 in
theorem open_ev {r : Reach} {b0 : Nat} {v : Value} {d : DataW H} {p : List MemPlace} (hv : Value.okWide Tryz.prog w r b0 36 v) (h : DataW.Trod enc Tryz.prog w 0 spare held 36 v d p) : ∃ x : PEv, v = eVal x ∧ Rg x.kind := by
 obtain ⟨cs, rfl, hsz⟩ := okWide_struct Tryz.underlying36 hv
 obtain ⟨x0, x1, x2, x3, x4, rfl⟩ := arr5 (hsz.trans cellsEv)
 obtain ⟨fuel, hf⟩ := h
 obtain ⟨y0, y1, y2, n, hx, _, h0, h1, h2⟩ := Go.Deep.trod_struct3 Tryz.underlying36 hf
 obtain ⟨z0, z1, z2, m, hz, _, g0, g1, g2⟩ := Go.Deep.trod_struct3 Tryz.underlying34 h1
 simp only [cells3, cellsId] at h0 h2 g0 g1 g2
 obtain ⟨i, c0, _, f0⟩ := DataW.trod_int Tryz.underlying3 h0
 obtain ⟨j, c1, _, f1⟩ := DataW.trod_int Tryz.underlying3 g0
 obtain ⟨k, c2, _, f2⟩ := DataW.trod_int Tryz.underlying3 g1
 obtain ⟨l, c3, _, f3⟩ := DataW.trod_int Tryz.underlying3 g2
 obtain ⟨o, c4, _, f4⟩ := DataW.trod_int Tryz.underlying3 h2
 simp [Value.cells] at c0 c1 c2 c3 c4
 subst c0 c1 c2 c3 c4
 exact ⟨⟨i, ⟨j, k, l⟩, o⟩, rfl, rg_of f0⟩
theorem open5 {t : TypeId} {f0 f1 f2 f3 f4 : Field} {fuel : Nat} {cs : List Value} {x : DataW H × List MemPlace} (ht : Tryz.prog.underlying t = some (.struct #[f0, f1, f2, f3, f4])) (h : DataW.trod enc Tryz.prog w 0 spare held fuel t cs = some x) :
  ∃ (y0 y1 y2 y3 y4 : DataW H × List MemPlace) (n : Nat), DataW.trod enc Tryz.prog w 0 spare held n f0.type ((cs.drop f0.offset).take (Tryz.prog.cellsOf f0.type)) = some y0 ∧
   DataW.trod enc Tryz.prog w 0 spare held n f1.type ((cs.drop f1.offset).take (Tryz.prog.cellsOf f1.type)) = some y1 ∧ DataW.trod enc Tryz.prog w 0 spare held n f2.type ((cs.drop f2.offset).take (Tryz.prog.cellsOf f2.type)) = some y2 ∧
   DataW.trod enc Tryz.prog w 0 spare held n f3.type ((cs.drop f3.offset).take (Tryz.prog.cellsOf f3.type)) = some y3 ∧ DataW.trod enc Tryz.prog w 0 spare held n f4.type ((cs.drop f4.offset).take (Tryz.prog.cellsOf f4.type)) = some y4 := by
 obtain ⟨xs, n, _, rfl, _, hlen, hf⟩ := DataW.trod_struct ht h
 match xs, hlen with
 | [y0, y1, y2, y3, y4], _ => exact ⟨y0, y1, y2, y3, y4, n, by simpa using hf 0 f0 rfl, by simpa using hf 1 f1 rfl, by simpa using hf 2 f2 rfl, by simpa using hf 3 f3 rfl, by simpa using hf 4 f4 rfl⟩
set_option maxRecDepth 100000 in
theorem open_locs {fuel : Nat} {cs : List Value} {x : DataW H × List MemPlace} (h : DataW.trod enc Tryz.prog w 0 spare held fuel 29 cs = some x) : ∃ v l, cs = [v] ∧ Locs anyB anyB w v l :=
 sl_open Tryz.underlying29 cellsLo (by decide) (fun b o cs' n d hc h => by
  obtain ⟨y0, y1, y2, y3, y4, m, e0, e1, e2, e3, e4⟩ := open5 Tryz.underlying56 h
  rw [cellsIs] at e0
  rw [cells4] at e1
  rw [cells3] at e2 e3 e4
  obtain ⟨v, l, c0, hl, _⟩ := open_ints e0
  obtain ⟨i, c1, _⟩ := DataW.trod_bool Tryz.underlying4 e1
  obtain ⟨j, c2, _⟩ := DataW.trod_int Tryz.underlying3 e2
  obtain ⟨k, c3, _⟩ := DataW.trod_int Tryz.underlying3 e3
  obtain ⟨u, c4, _⟩ := DataW.trod_int Tryz.underlying3 e4
  exact ⟨⟨l, i, j, k, u⟩, ⟨v, (hc 0 (by decide)).trans (one_of c0), hl⟩, (hc 1 (by decide)).trans (one_of c1), (hc 2 (by decide)).trans (one_of c2), (hc 3 (by decide)).trans (one_of c3), (hc 4 (by decide)).trans (one_of c4)⟩) h
set_option maxRecDepth 100000 in
theorem open_wldV {r : Reach} {b0 : Nat} {v : Value} {d : DataW H} {p : List MemPlace} (hv : Value.okWide Tryz.prog w r b0 32 v) (h : DataW.Trod enc Tryz.prog w 0 spare held 32 v d p) : ∃ x, WldV w v x ∧ (x.used.drop ≤ 9223372036854775807 ∧ x.used.dup ≤ 9223372036854775807 ∧ x.used.time ≤ 9223372036854775807 ∧ x.used.crash ≤ 9223372036854775807) := by
 obtain ⟨cs, rfl, hsz⟩ := okWide_struct Tryz.underlying32 hv
 obtain ⟨x0, x1, x2, x3, x4, x5, rfl⟩ := arr6 (hsz.trans cellsW)
 obtain ⟨fuel, hf⟩ := h
 obtain ⟨y0, y1, y2, n, hx, _, h0, h1, h2⟩ := Go.Deep.trod_struct3 Tryz.underlying32 hf
 obtain ⟨z0, z1, z2, z3, m, hz, _, g0, g1, g2, g3⟩ := Go.Joins.trod_struct4 Tryz.underlying28 h2
 simp only [cells3, cellsLs, cellsMs, cellsBu] at h0 h1 g0 g1 g2 g3
 obtain ⟨u0, l0, c0, k0⟩ := open_locs h0
 obtain ⟨u1, l1, c1, k1⟩ := open_msgs h1
 obtain ⟨i, c2, _, f2⟩ := DataW.trod_int Tryz.underlying3 g0
 obtain ⟨j, c3, _, f3⟩ := DataW.trod_int Tryz.underlying3 g1
 obtain ⟨k, c4, _, f4⟩ := DataW.trod_int Tryz.underlying3 g2
 obtain ⟨l, c5, _, f5⟩ := DataW.trod_int Tryz.underlying3 g3
 simp [Value.cells] at c0 c1 c2 c3 c4 c5
 subst c0 c1 c2 c3 c4 c5
 exact ⟨⟨l0, l1, ⟨i, j, k, l⟩⟩, ⟨_, _, rfl, k0, k1⟩, (rg_of f2).2, (rg_of f3).2, (rg_of f4).2, (rg_of f5).2⟩
end
section
variable {H : Type} {enc : TypeId × Value → H} {P : Program} {w : World} {base : Nat} {spare : Nat → Bool} {held : Bool}
theorem trodAll_five {t t' t'' t3 t4 : TypeId} {args : Array Value} {ds : List (DataW H)} {ps : List MemPlace} (h : DataW.TrodAll enc P w base spare held [t, t', t'', t3, t4] args.toList ds ps) :
  ∃ v v' v'' v3 v4 d d' d'' d3 d4 p p' p'' p3 p4, args = #[v, v', v'', v3, v4] ∧ ds = [d, d', d'', d3, d4] ∧ ps = p ++ p' ++ p'' ++ p3 ++ p4 ∧ DataW.Trod enc P w base spare held t v d p ∧ DataW.Trod enc P w base spare held t' v' d' p' ∧ DataW.Trod enc P w base spare held t'' v'' d'' p'' ∧ DataW.Trod enc P w base spare held t3 v3 d3 p3 ∧ DataW.Trod enc P w base spare held t4 v4 d4 p4 := by
 obtain ⟨v, vs, d, ds', p, q, hargs, rfl, rfl, hd, hrest⟩ := trodAll_cons h
 obtain ⟨v', vs', d', ds'', p', q', rfl, rfl, rfl, hd', hrest'⟩ := trodAll_cons hrest
 obtain ⟨v'', vs'', d'', ds''', p'', q'', rfl, rfl, rfl, hd'', hrest''⟩ := trodAll_cons hrest'
 obtain ⟨v3, vs3, d3, ds3, p3, q3, rfl, rfl, rfl, hd3, hrest3⟩ := trodAll_cons hrest''
 obtain ⟨v4, vs4, d4, ds4, p4, q4, rfl, rfl, rfl, hd4, hrest4⟩ := trodAll_cons hrest3
 obtain ⟨rfl, rfl, rfl⟩ := trodAll_nil hrest4
 exact ⟨v, v', v'', v3, v4, d, d', d'', d3, d4, p, p', p'', p3, p4, by cases args; simp_all, rfl, by simp, hd, hd', hd'', hd3, hd4⟩
theorem trodAll_mk5 {t t' t'' t3 t4 : TypeId} {v v' v'' v3 v4 : Value} {d d' d'' d3 d4 : DataW H} {p p' p'' p3 p4 : List MemPlace} (h : DataW.Trod enc P w base spare held t v d p) (h' : DataW.Trod enc P w base spare held t' v' d' p')
  (h'' : DataW.Trod enc P w base spare held t'' v'' d'' p'') (h3 : DataW.Trod enc P w base spare held t3 v3 d3 p3) (h4 : DataW.Trod enc P w base spare held t4 v4 d4 p4) : DataW.TrodAll enc P w base spare held [t, t', t'', t3, t4] [v, v', v'', v3, v4] [d, d', d'', d3, d4] (p ++ (p' ++ (p'' ++ (p3 ++ p4)))) := ⟨p, p' ++ (p'' ++ (p3 ++ p4)), h, trodAll_mk4 h' h'' h3 h4, rfl⟩
end
end Go.Proofs.YtfbeiedhdmndnaaGreatDoor
