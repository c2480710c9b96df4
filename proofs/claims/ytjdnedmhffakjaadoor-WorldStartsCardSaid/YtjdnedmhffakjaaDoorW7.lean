/-
  world.post: one message on its way, or counted. Conditions: the receiver is an actor of the program and of the world; the world is the caller's own, in new memory, and not too great.
-/
import Derived.Test.YtjdnedmhffakjaaDoorW6
namespace Go.Proofs.YtjdnedmhffakjaaDoor
open Go.RowKit
/-- Where the locals of a world in the box bo may lie. -/
def Qp (N bo lo hi : Nat) : Nat → Prop := fun b => N ≤ b ∧ b < bo ∧ ¬ (lo ≤ b ∧ b < hi)
/-- A world of the caller's own, in the box bo. -/
structure PW (N bo lo hi : Nat) (W : World) (a m : Value) (x : PWld) : Prop where
  box : W.heap[bo]? = some (.cells #[a, m, .int .i64 x.used.drop, .int .i64 x.used.dup, .int .i64 x.used.time, .int .i64 x.used.crash] 34)
  acts : LV (Qp N bo lo hi) W a x.acts
  mail : Msgs (Qm lo hi m) (Qi lo hi m) W m x.mail
  nb : ¬ (lo ≤ bo ∧ bo < hi)
  le : N ≤ lo
  hi : hi ≤ W.heap.size
  bo : N ≤ bo
section
variable {N bo lo hi : Nat} {W W' : World} {a m : Value} {x : PWld}
theorem PW.below (h : PW N bo lo hi W a m x) (hb : Below W.heap.size W W') : PW N bo lo hi W' a m x := ⟨boxAt h.box hb, h.acts.below hb, h.mail.below hb, h.nb, h.le, Nat.le_trans h.hi hb.size, h.bo⟩
theorem PW.wn (h : PW N bo lo hi W a m x) : WN N lo hi W a m x := by
  refine ⟨?_, h.mail, h.le, h.hi⟩
  obtain ⟨A, c, rfl, h2, h3⟩ := h.acts
  exact ⟨A, c, rfl, h2, h3.imp id fun ⟨g, e, hg, hr⟩ => ⟨g, e, ⟨hg.1, hg.2.2⟩, hr.weak fun _ b hb => ⟨⟨hb.1.1, hb.1.2.2⟩, hb.2⟩⟩⟩
theorem PW.blt (h : PW N bo lo hi W a m x) : bo < W.heap.size := (Array.getElem?_eq_some_iff.1 h.box).1
/-- Other messages in the box, made anew at W0. -/
theorem PW.setMail {W0 : World} {m' : Value} {ml : List PMsg} (h : PW N bo lo hi W0 a m x) (hb : Below W0.heap.size W0 W) (hm : Msgs (Qm W0.heap.size W.heap.size m') (Qi W0.heap.size W.heap.size m') W m' ml) :
    PW N bo W0.heap.size W.heap.size (W.setCell ⟨bo, 1, none⟩ m') a m' { x with mail := ml } := by
  have hbl := h.blt
  have hz := hb.size
  have hN : N ≤ W0.heap.size := by have := h.bo; omega
  have hS : Same (fun d => d ≠ bo) W (W.setCell ⟨bo, 1, none⟩ m') := setCell_same fun _ h => h
  refine ⟨(setCell_heap (boxAt h.box hb)).trans (by simp), ?_, hm.same (hS.weak ?_) (hS.weak ?_), by omega, hN, by simp [World.setCell], h.bo⟩
  · obtain ⟨A, c, rfl, h2, h3⟩ := h.acts
    refine ⟨A, c, rfl, h2, ?_⟩
    rcases h3 with h3 | ⟨g, e, hg, hr⟩
    · exact Or.inl h3
    · have hg1 : N ≤ g ∧ g < bo ∧ ¬ (lo ≤ g ∧ g < hi) := hg
      have hgl := hr.lt
      refine Or.inr ⟨g, e, ⟨hg1.1, hg1.2.1, by omega⟩, LR.weak (P := fun _ b => (Qp N bo lo hi b ∧ b ≠ g) ∧ b < W0.heap.size) (LR.same (hr.ltP.below hb) hS.size (hS.block g ?_ ?_) fun _ b hb hl => hS.block b ?_ hl) fun _ b hb => ?_⟩
      · show g ≠ bo; omega
      · omega
      · have : N ≤ b ∧ b < bo ∧ ¬ (lo ≤ b ∧ b < hi) := hb.1.1; show b ≠ bo; omega
      · have : N ≤ b ∧ b < bo ∧ ¬ (lo ≤ b ∧ b < hi) := hb.1.1; exact ⟨⟨this.1, this.2.1, by have := hb.2; omega⟩, hb.1.2⟩
  · intro b hb; have := hb.1.1; show b ≠ bo; omega
  · intro b hb; have := hb.1.1; show b ≠ bo; omega
/-- A number of the k-th local is stored. -/
theorem PW.setAct {g c k i off : Nat} {y y' : PLoc} {v : Value} (h : PW N bo lo hi W (.slice (some ⟨g, 0, none⟩) x.acts.length c) m x) (hy : x.acts[k]? = some y) (ho : off = k * 5 + i) (hi5 : i < 5) (hi0 : i ≠ 0) (hr0 : y'.regs = y.regs)
    (h1 : (i = 1 ∧ v = .bool y'.armed) ∨ (i ≠ 1 ∧ y'.armed = y.armed)) (h2 : (i = 2 ∧ v = .int .i64 y'.down) ∨ (i ≠ 2 ∧ y'.down = y.down))
    (h3 : (i = 3 ∧ v = .int .i64 y'.sent) ∨ (i ≠ 3 ∧ y'.sent = y.sent)) (h4 : (i = 4 ∧ v = .int .i64 y'.over) ∨ (i ≠ 4 ∧ y'.over = y.over)) :
    PW N bo lo hi (W.setCell ⟨g, off, none⟩ v) (.slice (some ⟨g, 0, none⟩) x.acts.length c) m { x with acts := x.acts.set k y' } := by
  obtain ⟨A, c', e, hc, hl⟩ := h.acts
  simp only [Value.slice.injEq] at e
  obtain ⟨rfl, _, rfl⟩ := e
  obtain ⟨g', e, hg, hr⟩ : ∃ g', (some ⟨g, 0, none⟩ : Option Addr) = some ⟨g', 0, none⟩ ∧ Qp N bo lo hi g' ∧ LR g' (fun _ b => Qp N bo lo hi b ∧ b ≠ g') W x.acts := by
    rcases hl with ⟨_, h2⟩ | h2
    · cases h2
    · exact h2
  cases e
  have hg1 : N ≤ g ∧ g < bo ∧ ¬ (lo ≤ g ∧ g < hi) := hg
  have hS : Same (fun d => d ≠ g) W (W.setCell ⟨g, off, none⟩ v) := setCell_same fun _ h => h
  have key := hr.put (P' := fun _ b => Qp N bo lo hi b ∧ b ≠ g) hy ho hi5 (fun _ _ hb => hb.2) (fun _ hb => hb.2) (fun _ _ _ hb => hb) (Or.inr ⟨hi0, hr0, fun _ hb => hb⟩) h1 h2 h3 h4
  refine ⟨?_, ⟨_, c, by rw [List.length_set], by simpa using hc, Or.inr ⟨g, rfl, hg, key⟩⟩, h.mail.same (hS.weak ?_) (hS.weak ?_), h.nb, h.le, by simpa [World.setCell] using h.hi, h.bo⟩
  · have hne : bo ≠ g := by omega
    exact (Below.heap_setCell W ⟨g, off, none⟩ v bo hne).trans h.box
  · intro b hb; have := hb.1; show b ≠ g; omega
  · intro b hb; have := hb.1; show b ≠ g; omega
theorem PW.row (h : PW N bo lo hi W a m x) (hk : 0 < x.acts.length) : ∃ g c, a = .slice (some ⟨g, 0, none⟩) x.acts.length c ∧ N ≤ g ∧ g ≠ bo ∧ LR g (fun _ b => Qp N bo lo hi b ∧ b ≠ g) W x.acts := by
  obtain ⟨A, c, rfl, hc, ⟨e, _⟩ | ⟨g, rfl, hg, hr⟩⟩ := h.acts
  · rw [e] at hk; simp at hk
  · have hg1 : N ≤ g ∧ g < bo ∧ ¬ (lo ≤ g ∧ g < hi) := hg
    exact ⟨g, c, rfl, hg1.1, by omega, hr⟩
end
def capP (p : PPrg) (k : Nat) : Int := (p.acs.getD k default).cap
def roomB (p : PPrg) (x : PWld) (m : PMsg) (k : Nat) : Bool := decide ((toN x.mail m.nt.to : Int) < capP p k) && decide (fnd x.mail m.id = -1)
/-- What comes of a message to the k-th actor. -/
def postP (p : PPrg) (x : PWld) (m : PMsg) (k : Nat) : PWld :=
  if roomB p x m k = true then { x with mail := putP x.mail m } else { x with acts := x.acts.set k { x.acts.getD k default with over := wrap64 ((x.acts.getD k default).over + 1) } }
theorem cap_at {p : PPrg} {k : Nat} {a : PAct} (h : p.acs[k]? = some a) : capP p k = a.cap := by unfold capP; rw [List.getD_eq_getElem?_getD, h]; rfl
theorem getD_at {α : Type} [Inhabited α] {l : List α} {k : Nat} {a : α} (h : l[k]? = some a) : l.getD k default = a := by rw [List.getD_eq_getElem?_getD, h]; rfl
end Go.Proofs.YtjdnedmhffakjaaDoor
