/-
  world.Send. Conditions: the world is not too great, notes are few and short.
-/
import Derived.Test.YtjdnedmhffakjaaDoorW8
namespace Go.Proofs.YtjdnedmhffakjaaDoor
open Go.RowKit
/-- One note. -/
def stepN (p : PPrg) (n0 f : Int) (na : Nat) (x : PWld) (i : Nat) (n : PNte) : PWld :=
  if inB n.to 0 ((p.acs.length : Int) - 1) = true ∧ n.to < (na : Int) then postP p x ⟨⟨f, wrap64 (n0 + i), 0⟩, n⟩ n.to.toNat else x
def sendT (p : PPrg) (n0 f : Int) (na : Nat) (x0 : PWld) (ns : List PNte) : Nat → PWld
  | 0 => x0
  | k + 1 => stepN p n0 f na (sendT p n0 f na x0 ns k) k (ns.getD k default)
def firstP (x : PWld) (f : Int) (n : Nat) : Int := if f = -1 then 0 else wrap64 (sentP x f - n)
def sendP (p : PPrg) (x : PWld) (f : Int) (ns : List PNte) : PWld :=
  if inB f (-1) ((x.acts.length : Int) - 1) = true then sendT p (firstP x f ns.length) f x.acts.length x ns ns.length else x
section
variable {p : PPrg} {n0 f : Int} {na : Nat} {x x0 : PWld} {ns : List PNte} {m : PMsg} {k : Nat}
theorem post_acts : (postP p x m k).acts.length = x.acts.length := by unfold postP; split <;> simp
theorem post_used : (postP p x m k).used = x.used := by unfold postP; split <;> rfl
theorem putP_len (l : List PMsg) (m : PMsg) : (putP l m).length = l.length + 1 := by unfold putP; rw [List.length_append, List.length_cons, List.length_take, List.length_drop]; have := plc_le l m.id; omega
theorem putP_mem {l : List PMsg} {m y : PMsg} (h : y ∈ putP l m) : y = m ∨ y ∈ l := by
  unfold putP at h
  rcases List.mem_append.1 h with h | h
  · exact Or.inr (List.mem_of_mem_take h)
  · rcases List.mem_cons.1 h with h | h
    · exact Or.inl h
    · exact Or.inr (List.mem_of_mem_drop h)
theorem post_mail : (postP p x m k).mail.length ≤ x.mail.length + 1 ∧ ∀ y ∈ (postP p x m k).mail, y = m ∨ y ∈ x.mail := by
  unfold postP
  split
  · exact ⟨by show (putP x.mail m).length ≤ _; rw [putP_len]; exact Nat.le_refl _, fun y hy => putP_mem hy⟩
  · exact ⟨by simp, fun y hy => Or.inr hy⟩
theorem step_acts {i : Nat} {n : PNte} : (stepN p n0 f na x i n).acts.length = x.acts.length := by unfold stepN; split; exact post_acts; rfl
theorem step_used {i : Nat} {n : PNte} : (stepN p n0 f na x i n).used = x.used := by unfold stepN; split; exact post_used; rfl
theorem step_mail {i : Nat} {n : PNte} : (stepN p n0 f na x i n).mail.length ≤ x.mail.length + 1 ∧ ∀ y ∈ (stepN p n0 f na x i n).mail, y.nt = n ∨ y ∈ x.mail := by
  unfold stepN
  split
  · exact ⟨post_mail.1, fun y hy => (post_mail.2 y hy).imp (fun e => by rw [e]) id⟩
  · exact ⟨by omega, fun y hy => Or.inr hy⟩
theorem send_acts : ∀ k, (sendT p n0 f na x0 ns k).acts.length = x0.acts.length
  | 0 => rfl
  | k + 1 => by rw [sendT, step_acts]; exact send_acts k
theorem send_used : ∀ k, (sendT p n0 f na x0 ns k).used = x0.used
  | 0 => rfl
  | k + 1 => by rw [sendT, step_used]; exact send_used k
theorem send_mail : ∀ k, (sendT p n0 f na x0 ns k).mail.length ≤ x0.mail.length + k
  | 0 => Nat.le_refl _
  | k + 1 => by rw [sendT]; have := (@step_mail p n0 f na (sendT p n0 f na x0 ns k) k (ns.getD k default)).1; have := send_mail k; omega
theorem send_args {L : Nat} (hx : ∀ y ∈ x0.mail, y.nt.args.length ≤ L) (hn : ∀ n ∈ ns, n.args.length ≤ L) : ∀ k, ∀ y ∈ (sendT p n0 f na x0 ns k).mail, y.nt.args.length ≤ L
  | 0 => hx
  | k + 1 => by
    intro y hy
    rw [sendT] at hy
    rcases step_mail.2 y hy with h | h
    · rw [h, List.getD_eq_getElem?_getD]
      cases e : ns[k]? with
      | none => exact Nat.zero_le _
      | some n => exact hn n (List.mem_of_getElem? e)
    · exact send_args hx hn k y h
theorem step_at {i : Nat} {n : PNte} (h : ns[i]? = some n) : sendT p n0 f na x0 ns (i + 1) = stepN p n0 f na (sendT p n0 f na x0 ns i) i n := by rw [sendT, List.getD_eq_getElem?_getD, h]; rfl
end
theorem WN.toPW {N lo hi : Nat} {W : World} {a m : Value} {x : PWld} (h : WN N lo hi W a m x) (hN : N ≤ W.heap.size) : PW N W.heap.size lo hi (W.alloc (.cells #[a, m, .int .i64 x.used.drop, .int .i64 x.used.dup, .int .i64 x.used.time, .int .i64 x.used.crash] 34)) a m x := by
  have hh := h.hi
  have hb : Below W.heap.size W (W.alloc (.cells #[a, m, .int .i64 x.used.drop, .int .i64 x.used.dup, .int .i64 x.used.time, .int .i64 x.used.crash] 34)) := bAlloc (bRefl _) _
  refine ⟨heap_new _ _, ?_, h.mail.below hb, by omega, h.le, Nat.le_trans h.hi hb.size, hN⟩
  obtain ⟨A, c, rfl, h2, h3⟩ := h.acts
  refine ⟨A, c, rfl, h2, ?_⟩
  rcases h3 with h3 | ⟨g, e, hg, hr⟩
  · exact Or.inl h3
  · exact Or.inr ⟨g, e, ⟨hg.1, hr.lt, hg.2⟩, (hr.ltP.weak fun _ b hb => ⟨⟨hb.1.1.1, hb.2, hb.1.1.2⟩, hb.1.2⟩).below hb⟩
theorem three_new (w : World) (X Y Z : Obj) : (((w.alloc X).alloc Y).alloc Z).heap[w.heap.size]? = some X ∧ (((w.alloc X).alloc Y).alloc Z).heap[w.heap.size + 1]? = some Y ∧ (((w.alloc X).alloc Y).alloc Z).heap[w.heap.size + 2]? = some Z ∧ (((w.alloc X).alloc Y).alloc Z).heap.size = w.heap.size + 3 := by
  have h := two_new w X Y
  refine ⟨?_, ?_, ?_, by simp⟩
  · rw [Below.heap_alloc _ _ _ (by simp; omega)]; exact h.1
  · rw [Below.heap_alloc _ _ _ (by simp)]; exact h.2.1
  · exact heap_new2 (by simp)
theorem lowBlk {N b : Nat} {w w' : World} {X : Obj} (h : w.heap[b]? = some X) (hb : Below N w w') (hN : b < N) : w'.heap[b]? = some X := (hb.block b hN).trans h
/-- What stands between two notes. -/
structure SN (w1 : World) (bo n3 : Nat) (P Y : Obj) (x : PWld) (wr : World) : Prop where
  pw : ∃ a m lo hi, PW w1.heap.size bo lo hi wr a m x
  bp : wr.heap[n3]? = some P
  bw : wr.heap[n3 + 1]? = some Y
  br : wr.heap[n3 + 2]? = some zW
  low : Below w1.heap.size w1 wr
theorem SN.next {w1 : World} {bo n3 : Nat} {P Y : Obj} {x x' : PWld} {wr wa wb : World} (h : SN w1 bo n3 P Y x wr) (hz : w1.heap.size = n3 + 3) (ha : Below wr.heap.size wr wa) (hp : ∃ a m lo hi, PW w1.heap.size bo lo hi wb a m x') (hb : Below w1.heap.size wa wb) : SN w1 bo n3 P Y x' wb :=
  have e : Below w1.heap.size wr wb := (ha.mono h.low.size).trans hb
  ⟨hp, lowBlk h.bp e (by omega), lowBlk h.bw e (by omega), lowBlk h.br e (by omega), h.low.trans e⟩
theorem SN.below {w1 : World} {bo n3 : Nat} {P Y : Obj} {x : PWld} {wr wa : World} (h : SN w1 bo n3 P Y x wr) (ha : Below wr.heap.size wr wa) : SN w1 bo n3 P Y x wa :=
  let ⟨a, m, lo, hi, hp⟩ := h.pw
  ⟨⟨a, m, lo, hi, hp.below ha⟩, boxAt h.bp ha, boxAt h.bw ha, boxAt h.br ha, bTrans h.low ha⟩
end Go.Proofs.YtjdnedmhffakjaaDoor
