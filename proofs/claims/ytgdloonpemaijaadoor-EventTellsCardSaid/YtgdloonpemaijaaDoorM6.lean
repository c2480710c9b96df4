/-
  Messages in a row of the call's own; numbers made anew; another message: what each append does. Condition: the lists are short.
-/
import Derived.Test.YtgdloonpemaijaaDoorM5
namespace Go.Proofs.YtgdloonpemaijaaDoor
open Go.RowKit
attribute [local go_sem ↓] Go.wp_at_zero Go.wp_at_succ
theorem grown_low {w wr w' : World} {row : Option Nat} (h : Below w.heap.size w wr) (hg : wr.grownBy w' row) (hr : ∀ g, row = some g → w.heap.size ≤ g) : Below w.heap.size w w' :=
  ⟨hg.os.trans h.os, hg.tape.trans h.tape, hg.output.trans h.output, Nat.le_trans h.size hg.size, fun b hb => by
    rw [hg.block b (Nat.lt_of_lt_of_le hb h.size) (fun e => by have := hr b e.symm; omega)]; exact h.block b hb⟩

theorem flat_at {sz : Nat} : ∀ (l : List (List Value)), (∀ e ∈ l, e.length = sz) → ∀ i j, j < sz → l.flatten[i * sz + j]? = (l[i]?).bind (·[j]?)
  | [], _, i, j, _ => by simp
  | e :: l, h, 0, j, hj => by
    have he := h e (by simp)
    rw [List.flatten_cons, Nat.zero_mul, Nat.zero_add, List.getElem?_append_left (by omega)]; rfl
  | e :: l, h, i + 1, j, hj => by
    have he := h e (by simp)
    have e1 : (i + 1) * sz + j = e.length + (i * sz + j) := by rw [he, Nat.succ_mul]; omega
    rw [List.flatten_cons, e1, List.getElem?_append_right (by omega), Nat.add_sub_cancel_left, flat_at l (fun x hx => h x (by simp [hx])) i j hj]; rfl
theorem wpList_append_run {P : Program} {w : World} {ops : Array Oper} {rest : List Oper} {o : Oper} {a : Act} {Q : Exit → Act → World → Prop} (hgd : o.guard = none) (s x : Operand) (t : TypeId)
    (ho : o.op = .call { callee := .builtin .append, args := #[s, x], argTypes := #[t, t] }) (v1 v2 v' : Value) (w' : World) (hs : a.eval s = v1) (hx : a.eval x = v2)
    (hrun : ∀ ty, (Builtin.append_ #[t, t] ty #[v1, v2]).run P w = .ok v' w') (h : wpList P ops Q rest (a.put o.dst v') w') : wpList P ops Q (o :: rest) a w := by
  refine wpList_plain hgd fun K hK => ?_
  unfold Oper.wp
  simp [execOp, ho, resolve, invoke, builtin, hs, hx, hrun, Result.andThen]
  exact hK _ _ h

theorem run_append_empty {P : Program} {w : World} (t ty e : TypeId) (i : TypeInfo) (ht : P.underlying t = some (.slice e)) (hi : P.info? e = some i) (A : Option Addr) (c : Nat) :
    (Builtin.append_ #[t, t] ty #[.slice none 0 0, .slice A 0 c]).run P w = .ok (.slice none 0 0) w := by
  cases A with
  | none => simp [Builtin.append_, run_underlying ht, sizeOf, typeInfo, hi, Builtin.lenOf, Builtin.firstCells]
  | some a =>
    have hf := run_firstCells_some (P := P) w i.size 0 a 0 c [] (by simp) (by simp)
    simp [Builtin.append_, run_underlying ht, sizeOf, typeInfo, hi, Builtin.lenOf, hf]

/-- The cells, as they stand. -/
def raw (w : World) (b o m : Nat) : List Value := (List.range m).map fun j => (w.cell? ⟨b, o + j, none⟩).getD (.bool false)
theorem raw_length (w : World) (b o m : Nat) : (raw w b o m).length = m := by simp [raw]
theorem raw_at {w : World} {b o m : Nat} (h : ∀ j, j < m → (w.cell? ⟨b, o + j, none⟩).isSome = true) {j : Nat} (hj : j < m) : (raw w b o m)[j]? = w.cell? ⟨b, o + j, none⟩ := by
  have := h j hj
  rw [Option.isSome_iff_exists] at this
  obtain ⟨u, hu⟩ := this
  simp [raw, hj, hu]
theorem raw_cell {w : World} {b o m : Nat} (h : ∀ j, j < m → (w.cell? ⟨b, o + j, none⟩).isSome = true) (j : Nat) (u : Value) (hu : (raw w b o m)[j]? = some u) : w.cell? ((⟨b, o, none⟩ : Addr).add j) = some u := by
  have hj : j < m := by
    have := (List.getElem?_eq_some_iff.1 hu).1
    rwa [raw_length] at this
  rw [raw_at h hj] at hu
  rw [← hu]
  unfold Addr.add
  by_cases h0 : j = 0
  · subst h0; rfl
  · rw [if_neg h0]

/-- The slice A', in w', is that of A, in w, made anew. -/
def Cloned (w : World) (A : Option Addr) (n sz E : Nat) (w' : World) (A' : Option Addr) : Prop :=
  (n = 0 ∧ w' = w ∧ A' = none) ∨
  (0 < n ∧ ∃ b o cs, A = some ⟨b, o, none⟩ ∧ A' = some ⟨w.heap.size, 0, none⟩ ∧ w' = w.drew.alloc (.cells cs E) ∧ ∀ j, j < n * sz → cs[j]? = w.cell? ⟨b, o + j, none⟩)

/-- The elements' cells are there. -/
def There (w : World) (A : Option Addr) (n sz : Nat) : Prop := n = 0 ∨ ∃ b o, A = some ⟨b, o, none⟩ ∧ ∀ j, j < n * sz → (w.cell? ⟨b, o + j, none⟩).isSome = true

theorem run_fresh {P : Program} (w : World) (t e : TypeId) (i : TypeInfo) (z : Value) (ht : P.underlying t = some (.slice e)) (hi : P.info? e = some i) (hz : i.zero = some z) (A : Option Addr) (n c : Nat)
    (hth : There w A n i.size) (hn : n ≤ 1000) (hby : i.bytes ≤ 1000) :
    ∃ A' c' w', (∀ ty, (Builtin.append_ #[t, t] ty #[.slice none 0 0, .slice A n c]).run P w = .ok (.slice A' n c') w') ∧ Cloned w A n i.size e w' A' ∧ n ≤ c' := by
  by_cases h0 : n = 0
  · subst h0
    exact ⟨none, 0, w, fun ty => run_append_empty t ty e i ht hi A c, Or.inl ⟨rfl, rfl, rfl⟩, Nat.le_refl _⟩
  · rcases hth with h | ⟨b, o, rfl, hc⟩
    · exact absurd h h0
    · have hm : n * i.bytes ≤ 1000 * 1000 := Nat.mul_le_mul hn hby
      refine ⟨_, _, _, fun ty => run_append_nil w t ty e i z ht hi hz ⟨b, o, none⟩ n c (raw w b o (n * i.size)) (raw_length _ _ _ _) (raw_cell hc) (by omega) (by omega) (by omega), Or.inr ⟨by omega, b, o, _, rfl, rfl, rfl, fun j hj => ?_⟩, grownCap_ge _ _ _ _⟩
      rw [Array.getElem?_append_left (by simpa [raw_length] using hj), List.getElem?_toArray, raw_at hc hj]

theorem infI3 : (Tryd.prog.info? 3).map (fun i => (i.zero, i.size, i.bytes)) = some (some (.int .i64 0), 1, 8) := by kernel_rfl
theorem infoM : (Tryd.prog.info? 58).map (fun i => (i.zero, i.size, i.bytes)) = some (some (.agg #[.int .i64 0, .int .i64 0, .int .i64 0, .int .i64 0, .int .i64 0, .slice none 0 0]), 6, 64) := by kernel_rfl
/-- Numbers made anew. -/
theorem fresh_ints (ok : Nat → Prop) (w : World) (A : Option Addr) (c : Nat) (l : List Int) (h : Ints ok w (.slice A l.length c) l) (hl : l.length ≤ 1000) :
    ∃ A' c' w', (∀ ty, (Builtin.append_ #[27, 27] ty #[.slice none 0 0, .slice A l.length c]).run Tryd.prog w = .ok (.slice A' l.length c') w') ∧ Ints (fun b => w.heap.size ≤ b) w' (.slice A' l.length c') l ∧ Below w.heap.size w w' := by
  obtain ⟨i0, hi0, hz0, hz1, hz2⟩ := info_parts infI3
  have hth : There w A l.length 1 := by
    by_cases h0 : l.length = 0
    · exact Or.inl h0
    · obtain ⟨b, o, rfl, _, hlt, hc⟩ := h.at (by omega)
      refine Or.inr ⟨b, o, rfl, fun j hj => ?_⟩
      obtain ⟨x, hx⟩ := at_lt (l := l) (k := j) (by omega)
      have := hc j x hx
      unfold rInt at this
      rw [Nat.mul_one] at this
      rw [this]; rfl
  obtain ⟨A', c', w', hrun, hcl, hcc⟩ := run_fresh (P := Tryd.prog) w 27 3 i0 _ Tryd.underlying27 hi0 hz0 A l.length c (by rw [hz1]; exact hth) hl (by omega)
  rw [hz1] at hcl
  refine ⟨A', c', w', hrun, ?_, ?_⟩
  · rcases hcl with ⟨h0, rfl, rfl⟩ | ⟨h0, b, o, cs, rfl, rfl, rfl, hcs⟩
    · exact ⟨_, _, rfl, by omega, hcc, Or.inl (List.length_eq_zero_iff.1 h0)⟩
    · obtain ⟨b', o', e, _, hlt, hc⟩ := h.at (by omega)
      cases e
      refine ⟨_, _, rfl, by omega, hcc, Or.inr ⟨w.heap.size, 0, rfl, Nat.le_refl _, by simp, fun k x hx => ?_⟩⟩
      have hk := (List.getElem?_eq_some_iff.1 hx).1
      have h1 := hc k x hx
      unfold rInt at *
      rw [Nat.mul_one] at h1
      rw [Nat.zero_add, Nat.mul_one, cell_of_row _ _ _ _ _ _ (heap_new2 (w := w.drew) (n := w.heap.size) rfl), hcs k (by omega)]
      exact h1
  · rcases hcl with ⟨_, rfl, _⟩ | ⟨_, b, o, cs, _, _, rfl, _⟩
    · exact bRefl _
    · exact bAlloc (bRefl w).drew _

/-- A message's cells. -/
def mrow (m : PMsg) (u : Value) : List Value := [.int .i64 m.id.f, .int .i64 m.id.n, .int .i64 m.id.c, .int .i64 m.nt.to, .int .i64 m.nt.hd, u]
/-- Messages in a row of the call's own; each one's arguments elsewhere, in blocks of which P says yes. -/
structure MT (P : Nat → Prop) (base : Nat) (w : World) (v : Value) (l : List PMsg) (us : List Value) : Prop where
  own : w.ownsRow base 58 6 v l.length ((List.zipWith mrow l us).flatten)
  len : us.length = l.length
  rd : ∀ (k : Nat) (n : PMsg) (u : Value), l[k]? = some n → us[k]? = some u → Ints (fun b => P b ∧ v.ownBlock ≠ some b) w u n.nt.args
section
variable {P : Nat → Prop} {base : Nat} {w w1 w' : World} {v : Value} {l : List PMsg} {us : List Value}
theorem MT.same (h : MT P base w v l us) (hz : w.heap.size ≤ w'.heap.size) (hs : ∀ b, b < w.heap.size → P b ∨ v.ownBlock = some b → w'.heap[b]? = w.heap[b]?) : MT P base w' v l us :=
  ⟨own_block h.own fun g hg hlt => hs g hlt (Or.inr hg), h.len, fun k n u hn hu => (h.rd k n u hn hu).same ⟨hz, fun b hb hlt => hs b hlt (Or.inl hb.1)⟩⟩
theorem MT.below (h : MT P base w v l us) (hb : Below w.heap.size w w') : MT P base w' v l us := h.same hb.size fun b hlt _ => hb.block b hlt
theorem MT.form (h : MT P base w v l us) : ∃ A c, v = .slice A l.length c := by
  obtain ⟨h1, h2⟩ := h.own
  rcases h2 with ⟨rfl, h2⟩ | ⟨g, cap, cur, rfl, _⟩
  · exact ⟨none, 0, by rw [h2]⟩
  · exact ⟨_, cap, rfl⟩
theorem MT.nil (P : Nat → Prop) (base : Nat) (w : World) : MT P base w (.slice none 0 0) [] [] :=
  ⟨⟨rfl, Or.inl ⟨rfl, rfl⟩⟩, rfl, fun k n u hn => by simp at hn⟩
theorem zip_len : ∀ (l : List PMsg) (us : List Value), ∀ e ∈ List.zipWith mrow l us, e.length = 6
  | [], _, e, he => by simp at he
  | _ :: _, [], e, he => by simp at he
  | n :: l, u :: us, e, he => by
    rw [List.zipWith_cons_cons, List.mem_cons] at he
    rcases he with rfl | he
    · rfl
    · exact zip_len l us e he
/-- Messages ms (their arguments at xs) are appended. -/
theorem MT.push {g cap m : Nat} {ms : List PMsg} {xs : List Value} (h : MT P base w v l us) (hm : ms.length = m) (hx : xs.length = ms.length)
    (ho : w'.ownsRow base 58 6 (.slice (some ⟨g, 0, none⟩) (l.length + m) cap) (l.length + m) ((List.zipWith mrow l us).flatten ++ (List.zipWith mrow ms xs).flatten))
    (hg : w.grownBy w' v.ownBlock) (hat : v.ownBlock = some g ∨ g = w.heap.size) (hu : ∀ (k : Nat) (n : PMsg) (u : Value), ms[k]? = some n → xs[k]? = some u → Ints (fun b => P b ∧ v.ownBlock ≠ some b) w u n.nt.args) :
    MT P base w' (.slice (some ⟨g, 0, none⟩) (l.length + m) cap) (l ++ ms) (us ++ xs) := by
  have hge : ∀ b, (Value.slice (some ⟨g, 0, none⟩) (l.length + m) cap).ownBlock = some b → b = g := fun b hb => (Option.some.inj hb).symm
  have key : ∀ (n : PMsg) (u : Value), Ints (fun b => P b ∧ v.ownBlock ≠ some b) w u n.nt.args → Ints (fun b => P b ∧ (Value.slice (some ⟨g, 0, none⟩) (l.length + m) cap).ownBlock ≠ some b) w' u n.nt.args := fun n u h1 =>
    h1.lt.imp (fun b hb => ⟨hb.1.1, fun e => by
      have := hge b e
      subst this
      rcases hat with hat | hat
      · exact hb.1.2 hat
      · have := hb.2; omega⟩) hg.size fun b o x hb hlt hr => (World.cell?_of_block (w := w) (hg.block b hlt (fun e => hb.1.2 e.symm))).trans hr
  refine ⟨?_, by simp [h.len, hx], fun k n' u' hn hu' => ?_⟩
  · rw [List.length_append, hm, List.zipWith_append (by rw [h.len]), List.flatten_append]
    exact ho
  · by_cases hk : k < l.length
    · rw [List.getElem?_append_left hk] at hn
      rw [List.getElem?_append_left (by rw [h.len]; exact hk)] at hu'
      exact key _ _ (h.rd k n' u' hn hu')
    · rw [List.getElem?_append_right (by omega)] at hn
      rw [List.getElem?_append_right (by rw [h.len]; omega), h.len] at hu'
      exact key _ _ (hu _ n' u' hn hu')
theorem MT.msgs (h : MT P base w v l us) (hl : l.length ≤ 1000000) : Msgs (fun b => base ≤ b ∧ v.ownBlock = some b) P w v l := by
  obtain ⟨h1, h2⟩ := h.own
  rcases h2 with ⟨rfl, h2⟩ | ⟨g, cap, cur, rfl, hb, hh, h3, h4, h5, h6⟩
  · have : l = [] := by cases l with | nil => rfl | cons _ _ => simp at h2
    subst this; exact ⟨_, _, rfl, by simp, by simp, Or.inl rfl⟩
  · refine ⟨_, cap, rfl, by omega, h3, Or.inr ⟨g, 0, rfl, ⟨hb, rfl⟩, (Array.getElem?_eq_some_iff.1 hh).1, fun k n hn => ?_⟩⟩
    have hk := (List.getElem?_eq_some_iff.1 hn).1
    obtain ⟨u, hu⟩ := at_lt (l := us) (k := k) (by rw [h.len]; exact hk)
    have hz : (List.zipWith mrow l us)[k]? = some (mrow n u) := by rw [List.getElem?_zipWith, hn, hu]
    have hcell : ∀ j, j < l.length * 6 → w.cell? ⟨g, j, none⟩ = ((List.zipWith mrow l us).flatten)[j]? := fun j hj => by
      rw [cell_of_row _ _ _ _ _ _ hh, ← h6, List.getElem?_take, if_pos hj]; simp
    have hc : ∀ j, j < 6 → w.cell? ⟨g, 0 + k * 6 + j, none⟩ = (mrow n u)[j]? := fun j hj => by
      rw [Nat.zero_add, hcell _ (by omega), flat_at _ (zip_len l us) k j hj, hz]; rfl
    exact ⟨hc 0 (by omega), hc 1 (by omega), hc 2 (by omega), hc 3 (by omega), hc 4 (by omega), u, hc 5 (by omega), (h.rd k n u hn hu).weak fun b hb => hb.1⟩
theorem MT.msgs2 (h : MT P base w v l us) (hl : l.length ≤ 1000000) : Msgs (fun b => base ≤ b ∧ v.ownBlock = some b) (fun b => P b ∧ v.ownBlock ≠ some b) w v l := by
  obtain ⟨h1, h2⟩ := h.own
  rcases h2 with ⟨rfl, h2⟩ | ⟨g, cap, cur, rfl, hb, hh, h3, h4, h5, h6⟩
  · have : l = [] := by cases l with | nil => rfl | cons _ _ => simp at h2
    subst this; exact ⟨_, _, rfl, by simp, by simp, Or.inl rfl⟩
  · refine ⟨_, cap, rfl, by omega, h3, Or.inr ⟨g, 0, rfl, ⟨hb, rfl⟩, (Array.getElem?_eq_some_iff.1 hh).1, fun k n hn => ?_⟩⟩
    have hk := (List.getElem?_eq_some_iff.1 hn).1
    obtain ⟨u, hu⟩ := at_lt (l := us) (k := k) (by rw [h.len]; exact hk)
    have hz : (List.zipWith mrow l us)[k]? = some (mrow n u) := by rw [List.getElem?_zipWith, hn, hu]
    have hcell : ∀ j, j < l.length * 6 → w.cell? ⟨g, j, none⟩ = ((List.zipWith mrow l us).flatten)[j]? := fun j hj => by
      rw [cell_of_row _ _ _ _ _ _ hh, ← h6, List.getElem?_take, if_pos hj]; simp
    have hc : ∀ j, j < 6 → w.cell? ⟨g, 0 + k * 6 + j, none⟩ = (mrow n u)[j]? := fun j hj => by
      rw [Nat.zero_add, hcell _ (by omega), flat_at _ (zip_len l us) k j hj, hz]; rfl
    exact ⟨hc 0 (by omega), hc 1 (by omega), hc 2 (by omega), hc 3 (by omega), hc 4 (by omega), u, hc 5 (by omega), h.rd k n u hn hu⟩
/-- New blocks: the list's own; others. -/
def nO (N : Nat) (u : Value) : Nat → Prop := fun b => N ≤ b ∧ u.ownBlock = some b
def nI (N : Nat) (u : Value) : Nat → Prop := fun b => N ≤ b ∧ u.ownBlock ≠ some b
theorem nO.le {N M : Nat} {u : Value} (h : N ≤ M) : ∀ b, nO M u b → nO N u b := fun _ hb => ⟨Nat.le_trans h hb.1, hb.2⟩
theorem nI.le {N M : Nat} {u : Value} (h : N ≤ M) : ∀ b, nI M u b → nI N u b := fun _ hb => ⟨Nat.le_trans h hb.1, hb.2⟩
end

set_option maxHeartbeats 1000000 in
set_option maxRecDepth 100000 in
theorem another_any (ok : Nat → Prop) (w : World) (v : Value) (m : PMsg) (h : MsgV ok w v m) (hl : m.nt.args.length ≤ 1000) :
    Calls Tryd.prog 138 #[v] w fun e w' => ∃ u, e = .returned (mVal m u) ∧ Ints (fun b => w.heap.size ≤ b) w' u m.nt.args ∧ Below w.heap.size w w' := by
  obtain ⟨c, rfl, hr⟩ := h
  obtain ⟨A, d, rfl, hlen⟩ := hr.form
  have hbb : Below w.heap.size w ((w.alloc (.cells #[.int .i64 m.id.f, .int .i64 m.id.n, .int .i64 m.id.c, .int .i64 m.nt.to, .int .i64 m.nt.hd, .slice A m.nt.args.length d] 58)).alloc (.cells #[.int .i64 0, .int .i64 0, .int .i64 0, .int .i64 0, .int .i64 0, .slice none 0 0] 58)) := bAlloc (bAlloc (bRefl w) _) _
  obtain ⟨A1, d1, w1, hrun, hI, hb1⟩ := fresh_ints ok _ A d m.nt.args (hr.below hbb) hl
  have k0 : w1.heap[w.heap.size]? = some (.cells #[.int .i64 m.id.f, .int .i64 m.id.n, .int .i64 m.id.c, .int .i64 m.nt.to, .int .i64 m.nt.hd, .slice A m.nt.args.length d] 58) := (hb1.block _ (by first | (simp; done) | (simp; omega))).trans ((Below.heap_alloc _ _ _ (by first | (simp; done) | (simp; omega))).trans (heap_new _ _))
  have k1 : w1.heap[w.heap.size + 1]? = some (.cells #[.int .i64 0, .int .i64 0, .int .i64 0, .int .i64 0, .int .i64 0, .slice none 0 0] 58) := (hb1.block _ (by first | (simp; done) | (simp; omega))).trans (heap_new2 (by simp))
  have xf : ∀ j, w1.frozen? ⟨w.heap.size, j, none⟩ = false := fun j => by simp [World.frozen?, k0]
  have yf : ∀ j, w1.frozen? ⟨w.heap.size + 1, j, none⟩ = false := fun j => by simp [World.frozen?, k1]
  obtain ⟨x0, x1, x2, x3, x4, x5⟩ := blk6 k0
  obtain ⟨y0, y1, y2, y3, y4, y5⟩ := blk6 k1
  have HI : Hid (Ints (fun b => ((w.alloc (.cells #[.int .i64 m.id.f, .int .i64 m.id.n, .int .i64 m.id.c, .int .i64 m.nt.to, .int .i64 m.nt.hd, .slice A m.nt.args.length d] 58)).alloc (.cells #[.int .i64 0, .int .i64 0, .int .i64 0, .int .i64 0, .int .i64 0, .slice none 0 0] 58)).heap.size ≤ b) w1 (.slice A1 m.nt.args.length d1) m.nt.args) := hI
  have HB : Hid (Below w.heap.size w w1) := bTrans hbb hb1
  have HR : Hid (∀ ty, (Builtin.append_ #[27, 27] ty #[.slice none 0 0, .slice A m.nt.args.length d]).run Tryd.prog ((w.alloc (.cells #[.int .i64 m.id.f, .int .i64 m.id.n, .int .i64 m.id.c, .int .i64 m.nt.to, .int .i64 m.nt.hd, .slice A m.nt.args.length d] 58)).alloc (.cells #[.int .i64 0, .int .i64 0, .int .i64 0, .int .i64 0, .int .i64 0, .slice none 0 0] 58)) = .ok (.slice A1 m.nt.args.length d1) w1) := hrun
  clear hrun hI hb1 hbb k0 k1 hr
  go_enter Tryd.func138, Tryd.ntmps138
  go_wp2_with (at_builtin; refine wpList_append_run rfl _ _ 27 rfl _ _ _ _ rfl rfl HR.out ?_)
  refine bodyPost_ret (v := mVal m (.slice A1 m.nt.args.length d1)) (by simp [results, Tryd.results138, go_sem, *]) rfl ⟨_, rfl, ?_, ?_⟩
  · refine Ints.weak (ok := fun b => w.heap.size + 1 + 1 ≤ b) (Ints.same (w := w1) (HI.out.weak fun b hb => by simpa using hb) ?_) fun b hb => by omega
    refine ⟨by simp, fun b hb _ => ?_⟩
    repeat (refine (Below.heap_setCell _ _ _ _ (fun e => by first | (have e' : b = w.heap.size := e; omega) | (have e' : b = w.heap.size + 1 := e; omega))).trans ?_)
    rfl
  · repeat (refine Below.setCell ?_ (by first | (simp; done) | (simp; omega)) _)
    exact HB.out
end Go.Proofs.YtgdloonpemaijaaDoor
