/-
  MailActs: whatever is put and taken, it stays in order, and has just what was put and not taken. No conditions.
-/
import Derived.Test.YtjdkbgeehjihfaaMp
import Derived.Test.YtjdkbgeehjihfaaOpen
namespace Go.Proofs.Ytjdkbgeehjihfaa
open Go.RowKit
attribute [local go_sem ↓] Go.wp_at_zero Go.wp_at_succ fieldM subA_rule
attribute [local go_sem] subA_rule2
theorem Acts.below {ok inn : Nat → Prop} {w w' : World} {v : Value} {l : List PAct} (h : Acts ok inn w v l) (hb : Below w.heap.size w w') : Acts ok inn w' v l :=
  h.imp (fun _ h => h) hb.size fun b _ _ _ hlt ⟨h0, h1, h2, h3, h4, h5, c, h6, h7⟩ =>
    ⟨(hb.cell (p := ⟨b, _, none⟩) hlt).trans h0, (hb.cell (p := ⟨b, _, none⟩) hlt).trans h1, (hb.cell (p := ⟨b, _, none⟩) hlt).trans h2, (hb.cell (p := ⟨b, _, none⟩) hlt).trans h3, (hb.cell (p := ⟨b, _, none⟩) hlt).trans h4, (hb.cell (p := ⟨b, _, none⟩) hlt).trans h5, c, (hb.cell (p := ⟨b, _, none⟩) hlt).trans h6, h7.below hb⟩
theorem Acts.cell {w wr : World} {A : Option Addr} {n c : Nat} {l : List PAct} (h : Acts anyB anyB w (.slice A n c) l) (hb : Below w.heap.size w wr) {k : Nat} (hk : k < l.length) :
    ∃ b o x v, A = some ⟨b, o, none⟩ ∧ l[k]? = some x ∧ b < wr.heap.size ∧ wr.cell? ⟨b, o + k * 7, none⟩ = some (.int .i64 x.kind) ∧ wr.cell? ⟨b, o + k * 7 + 1, none⟩ = some (.int .i64 x.m.id.f) ∧ wr.cell? ⟨b, o + k * 7 + 2, none⟩ = some (.int .i64 x.m.id.n) ∧ wr.cell? ⟨b, o + k * 7 + 3, none⟩ = some (.int .i64 x.m.id.c) ∧
      wr.cell? ⟨b, o + k * 7 + 4, none⟩ = some (.int .i64 x.m.nt.to) ∧ wr.cell? ⟨b, o + k * 7 + 5, none⟩ = some (.int .i64 x.m.nt.hd) ∧ wr.cell? ⟨b, o + k * 7 + 6, none⟩ = some v ∧ Ints (fun b => b < w.heap.size) wr v x.m.nt.args := by
  obtain ⟨x, hx⟩ := at_lt hk
  obtain ⟨b, o, rfl, _, hlt, hc⟩ := h.at (by omega)
  obtain ⟨h0, h1, h2, h3, h4, h5, v, h6, h7⟩ := hc k x hx
  exact ⟨b, o, x, v, rfl, hx, Nat.lt_of_lt_of_le hlt hb.size, (hb.cell (p := ⟨b, _, none⟩) hlt).trans h0, (hb.cell (p := ⟨b, _, none⟩) hlt).trans h1, (hb.cell (p := ⟨b, _, none⟩) hlt).trans h2, (hb.cell (p := ⟨b, _, none⟩) hlt).trans h3, (hb.cell (p := ⟨b, _, none⟩) hlt).trans h4, (hb.cell (p := ⟨b, _, none⟩) hlt).trans h5, (hb.cell (p := ⟨b, _, none⟩) hlt).trans h6, h7.lt2.below hb⟩
/-- The law's memory: what is there now, and what was put in and not taken. -/
structure AK (w : World) (vN vI : Value) (N I : List PMsg) (wr : World) : Prop where
  low : Below w.heap.size w wr
  mt : ∃ us, MT (fun b => b < w.heap.size) w.heap.size wr vI I us
  rn : Msgs (fun b => vI.ownBlock ≠ some b) (fun b => vI.ownBlock ≠ some b) wr vN N
/-- .. as plain lists. -/
structure AP (N I : List PMsg) (n : Nat) : Prop where
  pm : N.Perm I
  so : srt N = true
  ln : N.length ≤ n
  sh : ∀ x ∈ N, x.nt.args.length ≤ 6
section
variable {w wr w1 w' : World} {vN vI : Value} {N I : List PMsg} {n : Nat}
theorem AK.below (h : AK w vN vI N I wr) (hb : Below wr.heap.size wr w1) : AK w vN vI N I w1 :=
  ⟨bTrans h.low hb, h.mt.elim fun us hm => ⟨us, hm.below hb⟩, h.rn.below hb⟩
theorem AK.ri (h : AK w vN vI N I wr) (hl : I.length ≤ 1000000) : Msgs anyB (fun b => b < w.heap.size) wr vI I := h.mt.elim fun _ hm => (hm.msgs hl).weak (fun _ _ => trivial) fun _ h => h
theorem AK.new (h : AK w vN vI N I wr) (hb : Below wr.heap.size wr w1) {N' : List PMsg} {v' : Value} (hm : Msgs (fun b => wr.heap.size ≤ b) (fun b => wr.heap.size ≤ b) w1 v' N') : AK w v' vI N' I w1 :=
  ⟨bTrans h.low hb, h.mt.elim fun us hm => ⟨us, hm.below hb⟩, by
    obtain ⟨us, h2⟩ := h.mt
    have key : ∀ b, wr.heap.size ≤ b → vI.ownBlock ≠ some b := fun b hb e => by have := (own_lt h2.own e).2; omega
    exact hm.weak key key⟩
/-- The list of what was put in has grown: old row, or a new one. -/
theorem AK.grow (h : AK w vN vI N I wr) {I' : List PMsg} {v' : Value} (ha : MA (fun b => b < w.heap.size) w.heap.size wr vI I' v' w') : AK w vN v' N I' w' := by
  obtain ⟨hm, hg, hat⟩ := ha
  obtain ⟨us, h2⟩ := h.mt
  have low := h2.low h.low hg
  refine ⟨low, hm, ?_⟩
  have h3 := h.rn
  have key : ∀ b, (vI.ownBlock ≠ some b ∧ b < wr.heap.size) → v'.ownBlock ≠ some b := fun b hb e => by
    rcases hat with hat | hat
    · exact hb.1 (hat ▸ e)
    · rw [e] at hat
      have : b = wr.heap.size := Option.some.inj hat
      omega
  have hs : Same (fun b => vI.ownBlock ≠ some b) wr w' := ⟨hg.size, fun b hb hlt => hg.block b hlt (fun e => hb e.symm)⟩
  obtain ⟨A, c, rfl, h4, h5, h6⟩ := h3
  refine ⟨A, c, rfl, h4, h5, ?_⟩
  rcases h6 with h6 | ⟨b, o, rfl, hb, hlt, hc⟩
  · exact Or.inl h6
  · refine Or.inr ⟨b, o, rfl, key b ⟨hb, hlt⟩, Nat.lt_of_lt_of_le hlt hg.size, fun k x hx => ?_⟩
    obtain ⟨q0, q1, q2, q3, q4, u, q5, q6⟩ := hc k x hx
    exact ⟨(hs.cell hb hlt).trans q0, (hs.cell hb hlt).trans q1, (hs.cell hb hlt).trans q2, (hs.cell hb hlt).trans q3, (hs.cell hb hlt).trans q4, u, (hs.cell hb hlt).trans q5, (Sl.lt q6).imp key hg.size fun b' o' y hb' hlt' hr => (hs.cell hb'.1 hlt').trans hr⟩
/-- .. a new row altogether. -/
theorem AK.anew (h : AK w vN vI N I wr) (hb : Below wr.heap.size wr w1) {I' : List PMsg} {v' : Value} {us : List Value} (hm : MT (fun b => b < w.heap.size) wr.heap.size w1 v' I' us) : AK w vN v' N I' w1 := by
  refine ⟨bTrans h.low hb, ⟨us, ?_, hm.len, hm.rd⟩, ?_⟩
  · obtain ⟨h1, h2⟩ := hm.own
    exact ⟨h1, h2.imp id fun ⟨g, cap, cur, a, b, c⟩ => ⟨g, cap, cur, a, Nat.le_trans h.low.size b, c⟩⟩
  · have key : ∀ b, b < wr.heap.size → v'.ownBlock ≠ some b := fun b hb e => by have := (own_lt hm.own e).1; omega
    have h3 := (h.rn.lt2.below hb)
    obtain ⟨A, c, e, h4, h5, h6⟩ := h.rn
    subst e
    refine ⟨A, c, rfl, h4, h5, ?_⟩
    rcases h6 with h6 | ⟨b, o, rfl, hb1, hlt, hc⟩
    · exact Or.inl h6
    · refine Or.inr ⟨b, o, rfl, key b hlt, Nat.lt_of_lt_of_le hlt hb.size, fun k x hx => ?_⟩
      obtain ⟨q0, q1, q2, q3, q4, u, q5, q6⟩ := hc k x hx
      exact ⟨(hb.cell (p := ⟨b, _, none⟩) hlt).trans q0, (hb.cell (p := ⟨b, _, none⟩) hlt).trans q1, (hb.cell (p := ⟨b, _, none⟩) hlt).trans q2, (hb.cell (p := ⟨b, _, none⟩) hlt).trans q3, (hb.cell (p := ⟨b, _, none⟩) hlt).trans q4, u, (hb.cell (p := ⟨b, _, none⟩) hlt).trans q5, ((Ints.lt2 q6).below hb).weak key⟩
theorem AP.fnd (h : AP N I n) (d : PID) : fnd I d = -1 ↔ fnd N d = -1 := by
  rw [fnd_iff, fnd_iff]
  exact ⟨fun k x hx => k x (h.pm.mem_iff.1 hx), fun k x hx => k x (h.pm.mem_iff.2 hx)⟩
theorem AP.len (h : AP N I n) : N.length = I.length := h.pm.length_eq
theorem AP.few (h : AP N I n) (hn : n ≤ 40) : Few N := ⟨by have := h.ln; omega, fun x hx => by have := h.sh x hx; omega⟩
theorem AP.more (h : AP N I n) {n' : Nat} (hn : n ≤ n') : AP N I n' := ⟨h.pm, h.so, Nat.le_trans h.ln hn, h.sh⟩
theorem AP.put (h : AP N I n) {m : PMsg} (hf : Ytjdkbgeehjihfaa.fnd N m.id = -1) (hm : m.nt.args.length ≤ 6) : AP (putP N m) (I ++ [m]) (n + 1) :=
  ⟨(put_perm N m).trans ((h.pm.cons m).trans (List.perm_append_singleton m I).symm), put_srt h.so hf, by rw [put_len]; have := h.ln; omega, fun x hx => by
    rcases put_mem.1 hx with rfl | hx
    · exact hm
    · exact h.sh x hx⟩
theorem AP.eq (h : AP N I n) {j k : Nat} {x y : PMsg} (hx : N[j]? = some x) (hy : I[k]? = some y) (e : x.id = y.id) : x = y :=
  (Once.of_srt h.so).eq (List.mem_of_getElem? hx) (h.pm.mem_iff.2 (List.mem_of_getElem? hy)) e
theorem AP.cut (h : AP N I n) {j k : Nat} {x : PMsg} (hx : N[j]? = some x) (hy : I[k]? = some x) : AP (cutP N j) (cutP I k) n :=
  ⟨((cut_perm hx).symm.trans (h.pm.trans (cut_perm hy))).cons_inv, cut_srt h.so, by have := h.ln; have := cut_len hx; omega, fun y hy' => h.sh y ((cut_perm hx).mem_iff.2 (List.mem_cons_of_mem _ hy'))⟩
end
theorem AP.nil : AP [] [] 0 := ⟨List.Perm.refl _, rfl, by simp, fun x hx => by cases hx⟩
end Go.Proofs.Ytjdkbgeehjihfaa
