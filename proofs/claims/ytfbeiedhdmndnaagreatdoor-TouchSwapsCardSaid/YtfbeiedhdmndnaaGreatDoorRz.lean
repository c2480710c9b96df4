/-
 The memory of the reference's Run: the registers, the stack, the notes; what each store and append does to them. No conditions.
-/
import Derived.Test.YtfbeiedhdmndnaaGreatDoorRn
namespace Go.Proofs.YtfbeiedhdmndnaaGreatDoor
open Go.RowKit
/-- Numbers as values. -/
def nIV (l : List Int) : List Value := l.map (Value.int .i64)
theorem nI_len (l : List Int) : (nIV l).length = l.length := by simp [nIV]
theorem nI_app (a b : List Int) : nIV (a ++ b) = nIV a ++ nIV b := by simp [nIV]
theorem nI_at {l : List Int} {k : Nat} {x : Int} (h : l[k]? = some x) : (nIV l)[k]? = some (.int .i64 x) := by simp [nIV, h]
theorem rown0V {P : Program} {w : World} {base e size k : Nat} {v : Value} {xs : List Value} (t ty : TypeId) (i : TypeInfo) (ht : P.underlying t = some (.slice e)) (hi : P.info? e = some i) (h : w.ownsRow base e size v k xs) (A : Option Addr) (c : Nat) :
  (Builtin.append_ #[t, t] ty #[v, .slice A 0 c]).run P w = .ok v w := by
 obtain ⟨h1, h2⟩ := h
 rcases h2 with ⟨rfl, _⟩ | ⟨g, cap, cur, rfl, hb, hh, h3, h4, h5, h6⟩
 ·exact run_append_empty t ty e i ht hi A c
 ·cases A with
  | none =>
   have hst : ∀ a : Addr, (storeCells a []).run P w = .ok () w := fun a => by rw [storeCells]; rfl
   simp [Builtin.append_, run_underlying ht, sizeOf, typeInfo, hi, Builtin.lenOf, Builtin.firstCells, h3, hst, Result.andThen]
  | some a =>
   have := run_append_room_cells (P := P) w t ty e i ht hi g 0 k cap a 0 c [] (by simp) (by simp) (by simp) (by omega) (by simp) (by simp)
   rw [this]
   rfl
theorem raddV (b o j : Nat) : (⟨b, o, none⟩ : Addr).add j = ⟨b, o + j, none⟩ := by
 unfold Addr.add
 by_cases h0 : j = 0
 ·subst h0; rfl
 ·rw [if_neg h0]
theorem rnewsV {w : World} {b o : Nat} {cs : List Int} (h : ∀ k x, cs[k]? = some x → rInt w b (o + k * 1) x) : ∀ j u, (nIV cs)[j]? = some u → w.cell? ((⟨b, o, none⟩ : Addr).add j) = some u := by
 intro j u hu
 rw [raddV]
 rw [nIV, List.getElem?_map] at hu
 cases hx : cs[j]? with
 | none => rw [hx] at hu; cases hu
 | some x =>
  rw [hx] at hu
  have := h j x hx
  rw [Nat.mul_one] at this
  rw [← Option.some.inj hu]
  exact this
/-- Numbers in a row of the call's own. -/
abbrev OwnIV (base : Nat) (w : World) (v : Value) (l : List Int) : Prop := w.ownsRow base 3 1 v l.length (nIV l)
/-- What an append of numbers leaves. -/
def IAV (base : Nat) (W : World) (v : Value) (l : List Int) (v' : Value) (W' : World) : Prop := OwnIV base W' v' l ∧ W.grownBy W' v.ownBlock ∧ (v'.ownBlock = v.ownBlock ∨ v'.ownBlock = some W.heap.size)
section
variable {base : Nat} {w W W' : World} {v v' : Value} {l a b : List Int} {ok : Nat → Prop}
theorem OwnIV.form (h : OwnIV base w v l) : ∃ A c, v = .slice A l.length c := by
 obtain ⟨h1, h2⟩ := h
 rcases h2 with ⟨rfl, h2⟩ | ⟨g, cap, cur, rfl, _⟩
 ·exact ⟨none, 0, by rw [h2]⟩
 ·exact ⟨_, cap, rfl⟩
theorem OwnIV.ints (h : OwnIV base w v l) (hl : l.length ≤ 1000000) : Ints (fun b => base ≤ b ∧ v.ownBlock = some b) w v l := by
 obtain ⟨h1, h2⟩ := h
 rcases h2 with ⟨rfl, h2⟩ | ⟨g, cap, cur, rfl, hb, hh, h3, h4, h5, h6⟩
 ·have : l = [] := List.length_eq_zero_iff.1 h2
  subst this; exact ⟨_, _, rfl, by simp, by simp, Or.inl rfl⟩
 ·refine ⟨_, cap, rfl, by omega, h3, Or.inr ⟨g, 0, rfl, ⟨hb, rfl⟩, (Array.getElem?_eq_some_iff.1 hh).1, fun k x hx => ?_⟩⟩
  have hk := (List.getElem?_eq_some_iff.1 hx).1
  show w.cell? ⟨g, 0 + k * 1, none⟩ = _
  rw [Nat.zero_add, Nat.mul_one, cell_of_row _ _ _ _ _ _ hh]
  have : cur[k]? = (nIV l)[k]? := by rw [← h6, List.getElem?_take, if_pos (by omega)]; simp
  rw [this]; exact nI_at hx
theorem OwnIV.cell {A : Option Addr} {n c : Nat} (h : OwnIV base w (.slice A n c) l) {k : Nat} {x : Int} (hx : l[k]? = some x) : ∃ g, A = some ⟨g, 0, none⟩ ∧ base ≤ g ∧ g < w.heap.size ∧ w.cell? ⟨g, k, none⟩ = some (.int .i64 x) ∧ (∀ j, w.frozen? ⟨g, j, none⟩ = false) ∧ l.length ≤ c := by
 obtain ⟨h1, h2⟩ := h
 have hk := (List.getElem?_eq_some_iff.1 hx).1
 rcases h2 with ⟨e, h2⟩ | ⟨g, cap, cur, e, hb, hh, h3, h4, h5, h6⟩
 ·omega
 ·cases e
  refine ⟨g, rfl, hb, (Array.getElem?_eq_some_iff.1 hh).1, ?_, fun j => by simp [World.frozen?, hh], h3⟩
  rw [cell_of_row _ _ _ _ _ _ hh]
  have : cur[k]? = (nIV l)[k]? := by rw [← h6, List.getElem?_take, if_pos (by omega)]; simp
  rw [this]; exact nI_at hx
/-- The first m of them. -/
theorem OwnIV.take {A : Option Addr} {n c m : Nat} (h : OwnIV base w (.slice A n c) l) (hm : m ≤ l.length) : OwnIV base w (.slice A m c) (l.take m) := by
 obtain ⟨h1, h2⟩ := h
 have e1 : (l.take m).length = m := by simp; omega
 refine ⟨by rw [nI_len]; simp, ?_⟩
 rcases h2 with ⟨e, h2⟩ | ⟨g, cap, cur, e, hb, hh, h3, h4, h5, h6⟩
 ·cases e
  exact Or.inl ⟨by rw [show m = 0 by omega], by omega⟩
 ·cases e
  refine Or.inr ⟨g, c, cur, by rw [e1], hb, hh, by omega, h4, h5, ?_⟩
  rw [e1, Nat.mul_one]
  rw [Nat.mul_one] at h6
  have := congrArg (List.take m) h6
  rw [List.take_take, Nat.min_eq_left hm] at this
  rw [this]; simp [nIV, List.map_take]
theorem OwnIV.set {A : Option Addr} {n c g k : Nat} (h : OwnIV base w (.slice A n c) l) (hA : A = some ⟨g, 0, none⟩) (hk : k < l.length) (y : Int) : OwnIV base (w.setCell ⟨g, k, none⟩ (.int .i64 y)) (.slice A n c) (l.set k y) := by
 obtain ⟨h1, h2⟩ := h
 refine ⟨by rw [nI_len]; simp, ?_⟩
 rcases h2 with ⟨e, h2⟩ | ⟨g', cap, cur, e, hb, hh, h3, h4, h5, h6⟩
 ·omega
 ·cases e
  cases hA
  refine Or.inr ⟨g, c, cur.setIfInBounds k (.int .i64 y), by rw [List.length_set], hb, setCell_heap hh, by rw [List.length_set]; exact h3, h4, by simpa using h5, ?_⟩
  rw [List.length_set, Nat.mul_one]
  rw [Nat.mul_one] at h6
  rw [Array.toList_setIfInBounds, List.take_set, h6]
  simp [nIV, List.map_set]
theorem OwnIV.same (h : OwnIV base w v l) (hs : ∀ g, v.ownBlock = some g → W.heap[g]? = w.heap[g]?) : OwnIV base W v l := own_block h fun g hg _ => hs g hg
theorem run_appIV (ty : TypeId) (h : OwnIV base W v a) {A : Option Addr} {c n : Nat} (h2 : Ints ok W (.slice A n c) b) (hl : a.length + b.length ≤ 1000000) (hbase : base ≤ W.heap.size) :
  ∃ A' c' W', (Builtin.append_ #[54, 54] ty #[v, .slice A n c]).run Tryz.prog W = .ok (.slice A' (a.length + b.length) c') W' ∧ IAV base W v (a ++ b) (.slice A' (a.length + b.length) c') W' := by
 obtain ⟨i0, hi0, hz0, hz1, hz2⟩ := info_parts info3
 obtain ⟨A1, c1, e1, _, _, hr⟩ := h2
 cases e1
 by_cases h0 : b = []
 ·subst h0
  obtain ⟨A2, c2, rfl⟩ := h.form
  exact ⟨A2, c2, W, rown0V 54 ty i0 Tryz.underlying54 hi0 h A c, by simpa using h, ⟨rfl, rfl, rfl, Nat.le_refl _, fun _ _ _ => rfl⟩, Or.inl rfl⟩
 ·rcases hr with hr | ⟨bb, o, rfl, _, hlt, hcell⟩
  ·exact absurd hr h0
  ·obtain ⟨g, cap, W', hrun, ho, hg, hat, _⟩ := run_append_lies (P := Tryz.prog) W 54 ty base 3 i0 _ 1 8 Tryz.underlying54 hi0 hz0 hz1 hz2 rfl (by decide) v a.length _ h ⟨bb, o, none⟩ b.length c (nIV b) (by rw [nI_len, Nat.mul_one]) (rnewsV hcell) (fun u hu => by simp only [nIV, List.mem_map] at hu; obtain ⟨_, _, rfl⟩ := hu; rfl) (List.length_pos_iff.2 h0) (by unfold maxLen; omega) (by omega) hbase W.heap.size rfl
   refine ⟨_, cap, W', hrun, by unfold OwnIV; rw [List.length_append, nI_app]; exact ho, hg, ?_⟩
   rcases hat with hat | hat
   ·exact Or.inl hat.symm
   ·subst hat; exact Or.inr rfl
variable {ops : Array Oper} {rest : List Oper} {o : Oper} {ac : Act} {Q : Exit → Act → World → Prop} {K : Act → World → Prop}
theorem wp_appIV (s x : Operand) (ho : o.op = .call { callee := .builtin .append, args := #[s, x], argTypes := #[54, 54] }) {A : Option Addr} {c n : Nat} (h : OwnIV base W v a) (hs : ac.eval s = v) (hx : ac.eval x = .slice A n c)
  (hm : Ints ok W (.slice A n c) b) (hl : a.length + b.length ≤ 1000000) (hbase : base ≤ W.heap.size)
  (hK : ∀ A' c' W', IAV base W v (a ++ b) (.slice A' (a.length + b.length) c') W' → K (ac.put o.dst (.slice A' (a.length + b.length) c')) W') : o.wp Tryz.prog ac W K Q := by
 obtain ⟨A', c', W', hr, hma⟩ := run_appIV o.type h hm hl hbase
 unfold Oper.wp execOp
 simp only [ho, resolve, invoke, builtin, Sem.run_bind, Sem.run_pure, Result.andThen_ok, List.map_toArray, List.map_cons, List.map_nil, hs, hx, hr]
 exact hK A' c' W' hma
theorem appIV (hgd : o.guard = none) (s x : Operand) (ho : o.op = .call { callee := .builtin .append, args := #[s, x], argTypes := #[54, 54] }) {A : Option Addr} {c n : Nat} (h : OwnIV base W v a) (hs : ac.eval s = v) (hx : ac.eval x = .slice A n c)
  (hm : Ints ok W (.slice A n c) b) (hl : a.length + b.length ≤ 1000000) (hbase : base ≤ W.heap.size)
  (hK : ∀ A' c' W', IAV base W v (a ++ b) (.slice A' (a.length + b.length) c') W' → wpList Tryz.prog ops Q rest (ac.put o.dst (.slice A' (a.length + b.length) c')) W') : wpList Tryz.prog ops Q (o :: rest) ac W :=
 wpList_plain hgd fun _ hK' => wp_appIV s x ho h hs hx hm hl hbase fun A' c' W' hma => hK' _ _ (hK A' c' W' hma)
end
theorem OwnIV.empty {base : Nat} {W : World} {e : Nat} (h : W.heap[e]? = some (.cells #[] 3)) (he : base ≤ e) : OwnIV base W (.slice (some ⟨e, 0, none⟩) 0 0) [] :=
 ⟨rfl, Or.inr ⟨e, 0, #[], rfl, he, h, by simp, by simp [maxLen], rfl, rfl⟩⟩
theorem ints1V {W : World} {B : Nat} {n : Int} (h : W.heap[B]? = some (.cells #[.int .i64 n] 3)) : Ints (fun b => b = B) W (.slice (some ⟨B, 0, none⟩) 1 1) [n] := by
 refine ⟨_, 1, rfl, by simp, by simp, Or.inr ⟨B, 0, rfl, rfl, (Array.getElem?_eq_some_iff.1 h).1, fun k x hx => ?_⟩⟩
 cases k with
 | zero => cases hx; show W.cell? ⟨B, 0, none⟩ = _; rw [cell_of_row _ _ _ _ _ _ h]; rfl
 | succ k => cases hx
/-- An actor's state in its box. -/
def nv (vr : Value) (ar : Bool) (l : PLoc) : Nat → Value
 | 0 => vr
 | 1 => .bool ar
 | 2 => .int .i64 l.down
 | 3 => .int .i64 l.sent
 | _ => .int .i64 l.over
/-- The memory between two instructions. w1: the world at the first; Bn: the state's box; gR: the registers' block. -/
structure RS (w1 : World) (Bn gR : Nat) (l : PLoc) (vr vs vn : Value) (us : List Value) (s : MS) (w : World) : Prop where
 sz : w1.heap.size ≤ w.heap.size
 os : w.os = w1.os ∧ w.tape = w1.tape ∧ w.output = w1.output
 fix : ∀ b, b < w1.heap.size → b ≠ Bn → b ≠ gR → w.heap[b]? = w1.heap[b]?
 now : w.rowIs Bn 56 5 (nv vr s.armed l)
 lts : Bn < w1.heap.size ∧ gR < w1.heap.size ∧ Bn ≠ gR
 rg : OwnIV 0 w vr s.regs
 rb : vr.ownBlock = some gR
 st : OwnIV w1.heap.size w vs s.st.reverse
 nt : NT w1 (fun b => vs.ownBlock = some b) w vn s.notes us
section
variable {w1 w W W' : World} {Bn gR : Nat} {l : PLoc} {vr vs vn vs' : Value} {us : List Value} {s : MS}
theorem RS.below (h : RS w1 Bn gR l vr vs vn us s w) (hb : Below w.heap.size w W) : RS w1 Bn gR l vr vs vn us s W :=
 ⟨Nat.le_trans h.sz hb.size, ⟨hb.os.trans h.os.1, hb.tape.trans h.os.2.1, hb.output.trans h.os.2.2⟩, fun b h1 h2 h3 => (hb.block b (Nat.lt_of_lt_of_le h1 h.sz)).trans (h.fix b h1 h2 h3),
  h.now.of_block (hb.block Bn (Nat.lt_of_lt_of_le h.lts.1 h.sz)), h.lts, h.rg.same fun g hg => hb.block g (own_lt h.rg hg).2, h.rb, h.st.same fun g hg => hb.block g (own_lt h.st hg).2, h.nt.same hb.size fun b hlt _ => hb.block b hlt⟩
/-- Another stack, in the row of the elder one or in a new row. -/
theorem RS.stk (h : RS w1 Bn gR l vr vs vn us s W) {st' : List Int} (hg : W.grownBy W' vs.ownBlock) (ho : OwnIV w1.heap.size W' vs' st'.reverse) (hat : vs'.ownBlock = vs.ownBlock ∨ ∃ b, vs'.ownBlock = some b ∧ W.heap.size ≤ b) : RS w1 Bn gR l vr vs' vn us { s with st := st' } W' := by
 have key : ∀ b, b < W.heap.size → vs.ownBlock ≠ some b → W'.heap[b]? = W.heap[b]? := fun b hb hn => hg.block b hb fun e => hn e.symm
 have low : ∀ b, b < w1.heap.size → vs.ownBlock ≠ some b := fun b hb e => by have := (own_lt h.st e).1; omega
 have h2 : NT w1 (fun b => vs.ownBlock = some b) W' vn s.notes us := h.nt.same hg.size fun b hb hn => key b hb hn
 refine ⟨Nat.le_trans h.sz hg.size, ⟨hg.os.trans h.os.1, hg.tape.trans h.os.2.1, hg.output.trans h.os.2.2⟩, fun b h1 h3 h4 => (key b (Nat.lt_of_lt_of_le h1 h.sz) (low b h1)).trans (h.fix b h1 h3 h4), h.now.of_block (key Bn (Nat.lt_of_lt_of_le h.lts.1 h.sz) (low Bn h.lts.1)), h.lts,
  h.rg.same fun g hg' => by
   rw [h.rb] at hg'
   cases hg'
   exact key gR (Nat.lt_of_lt_of_le h.lts.2.1 h.sz) (low gR h.lts.2.1), h.rb, ho, ?_⟩
 have h3 : NT w1 (fun b => vs.ownBlock = some b) W vn s.notes us := h.nt
 rcases hat with hat | ⟨b, hb, hlt⟩
 ·rw [hat]; exact h2
 ·-- the notes' blocks are elder than the new row
  refine ⟨h2.own, h2.len, fun k n u hn hu => ?_, fun g hg' e => ?_⟩
  ·refine (Sl.lt (h3.rd k n u hn hu)).imp (fun b' hb' => ⟨hb'.1.1, fun e => ?_, hb'.1.2.2⟩) hg.size fun b' o x hb' hlt' hr => (World.cell?_of_block (w := W) (key b' hlt' hb'.1.2.1)).trans hr
   rw [hb] at e
   have : b = b' := Option.some.inj e
   have := hb'.2
   omega
  ·rw [hb] at e
   have : b = g := Option.some.inj e
   have := (own_lt h3.own hg').2
   omega
/-- The stack cut down. -/
theorem RS.cut {As : Option Addr} {n c m : Nat} {st' : List Int} (h : RS w1 Bn gR l vr (.slice As n c) vn us s w) (hm : m ≤ s.st.length) (e : st'.reverse = s.st.reverse.take m) : RS w1 Bn gR l vr (.slice As m c) vn us { s with st := st' } w :=
 h.stk ⟨rfl, rfl, rfl, Nat.le_refl _, fun _ _ _ => rfl⟩ (by rw [e]; exact h.st.take (by simpa using hm)) (Or.inl (by cases As <;> rfl))
theorem RS.push {x : Int} (h : RS w1 Bn gR l vr vs vn us s W) (hi : IAV w1.heap.size W vs (s.st.reverse ++ [x]) vs' W') : RS w1 Bn gR l vr vs' vn us { s with st := x :: s.st } W' :=
 h.stk hi.2.1 (by rw [List.reverse_cons]; exact hi.1) (hi.2.2.imp id fun e => ⟨_, e, Nat.le_refl _⟩)
/-- A stack made anew. -/
theorem RS.anew {st' : List Int} (h : RS w1 Bn gR l vr vs vn us s w) (hb : Below w.heap.size w W) (ho : OwnIV w.heap.size W vs' st'.reverse) (hn : ∃ b, vs'.ownBlock = some b) : RS w1 Bn gR l vr vs' vn us { s with st := st' } W := by
 obtain ⟨b, hb'⟩ := hn
 refine h.stk (W' := W) ⟨hb.os, hb.tape, hb.output, hb.size, fun i hi _ => hb.block i hi⟩ ?_ (Or.inr ⟨b, hb', (own_lt ho hb').1⟩)
 obtain ⟨h1, h2⟩ := ho
 exact ⟨h1, h2.imp id fun ⟨g, cap, cur, a1, a2, a3⟩ => ⟨g, cap, cur, a1, Nat.le_trans h.sz a2, a3⟩⟩
theorem RS.setFix {b j : Nat} {y : Value} (h : RS w1 Bn gR l vr vs vn us s w) (hb : b < w1.heap.size) : OwnIV w1.heap.size (w.setCell ⟨b, j, none⟩ y) vs s.st.reverse ∧ NT w1 (fun b => vs.ownBlock = some b) (w.setCell ⟨b, j, none⟩ y) vn s.notes us := by
 have hne : ∀ b', b' ≠ b → (w.setCell ⟨b, j, none⟩ y).heap[b']? = w.heap[b']? := fun b' hb' => Below.heap_setCell _ _ _ _ (fun e => hb' (by have e' : b' = b := e; exact e'))
 refine ⟨h.st.same fun g hg => hne g (by have := (own_lt h.st hg).1; omega), own_block h.nt.own fun g hg _ => hne g (by have := (own_lt h.nt.own hg).1; omega), h.nt.len, fun k n u hn hu => (h.nt.rd k n u hn hu).same ⟨by simp, fun b' hb' _ => hne b' (by have := hb'.1; omega)⟩, h.nt.nx⟩
theorem RS.reg {A : Option Addr} {n c k : Nat} (h : RS w1 Bn gR l (.slice A n c) vs vn us s w) (hk : k < s.regs.length) (y : Int) : RS w1 Bn gR l (.slice A n c) vs vn us { s with regs := s.regs.set k y } (w.setCell ⟨gR, k, none⟩ (.int .i64 y)) := by
 obtain ⟨h1, h2⟩ := h.setFix (j := k) (y := .int .i64 y) h.lts.2.1
 have hne : ∀ b', b' ≠ gR → (w.setCell ⟨gR, k, none⟩ (.int .i64 y)).heap[b']? = w.heap[b']? := fun b' hb' => Below.heap_setCell _ _ _ _ (fun e => hb' (by have e' : b' = gR := e; exact e'))
 obtain ⟨x, hx⟩ := at_lt hk
 obtain ⟨g, hA, _⟩ := h.rg.cell hx
 have hg : g = gR := by have := h.rb; rw [hA] at this; exact Option.some.inj this
 subst hg
 exact ⟨by simpa using h.sz, h.os, fun b q1 q2 q3 => (hne b q3).trans (h.fix b q1 q2 q3), h.now.of_block (hne Bn h.lts.2.2), h.lts, h.rg.set hA hk y, h.rb, h1, h2⟩
end
end Go.Proofs.YtfbeiedhdmndnaaGreatDoor
