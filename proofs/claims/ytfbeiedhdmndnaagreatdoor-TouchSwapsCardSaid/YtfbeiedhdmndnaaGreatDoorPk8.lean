/-
  What comes of an event (chapter 11), as plain data.
-/
import Derived.Test.YtfbeiedhdmndnaaGreatDoorPk5
import Derived.Test.YtfbeiedhdmndnaaGreatDoorPk6
import Derived.Test.YtfbeiedhdmndnaaGreatDoorPk7
import Derived.Test.YtfbeiedhdmndnaaGreatDoorPk2
import Derived.Deep.RegionHeld3
import Derived.Deep.DrawnRows
import Derived.Deep.RegionLaw
import Derived.Deep.AppendLies
import Derived.OwnWalk
namespace Go.Proofs.YtfbeiedhdmndnaaGreatDoor
open Go.RowKit
def mayQ (p : PPrg) (who : Int) (l : PLoc) (h : Int) (args : List Int) : Bool := decide ((0 ≤ who ∧ who < p.acs.length) ∧ (0 ≤ h ∧ h < p.hs.length) ∧ (args.length : Int) = argsOf p.hs h ∧ l.regs.length ≤ 8 ∧ l.down = 0)
def runQ (p : PPrg) (who : Int) (l : PLoc) (h : Int) (args : List Int) : PRes := if mayQ p who l h args = true then fin l (rnR p who l h args) else ⟨⟨[], false, 0, 0, 0⟩, [], 0⟩
theorem runP_Q {p : PPrg} (hf : fc p = 0) (who : Int) (l : PLoc) (h : Int) (args : List Int) : runP p who l h args = runQ p who l h args := by
 unfold runP runQ
 by_cases hm : mayP p who l h args
 ·have hq : mayQ p who l h args = true := decide_eq_true hm.2
  rw [if_pos hq]
  exact @if_pos _ (Classical.propDecidable _) hm _ _ _
 ·have hq : ¬ mayQ p who l h args = true := fun e => hm ⟨hf, of_decide_eq_true e⟩
  rw [if_neg hq]
  exact @if_neg _ (Classical.propDecidable _) hm _ _ _
abbrev RunF := Int → PLoc → Int → List Int → PRes
def tookP (x : PWld) (d : PID) : PWld := { x with mail := cutP x.mail (fnd x.mail d).toNat }
def msgOf (x : PWld) (d : PID) : PMsg := x.mail.getD (fnd x.mail d).toNat msg0
def locAt (x : PWld) (k : Nat) : PLoc := x.acts.getD k default
def setL (x : PWld) (k : Nat) (y : PLoc) : PWld := { x with acts := x.acts.set k y }
def ranW (R : RunF) (p : PPrg) (x : PWld) (who hd : Int) (args : List Int) : PWld :=
 sendP p (setL x who.toNat (R who (locAt x who.toNat) hd args).loc) who (R who (locAt x who.toNat) hd args).notes
def calmP (x : PWld) (k : Nat) : PWld := setL { x with used := { x.used with time := wrap64 (x.used.time + 1) } } k { locAt x k with armed := false }
def crashP (x : PWld) (k : Nat) : PWld := setL { x with used := { x.used with crash := wrap64 (x.used.crash + 1) } } k { locAt x k with down := 1 }
def dropP (x : PWld) (d : PID) : PWld := tookP { x with used := { x.used with drop := wrap64 (x.used.drop + 1) } } d
def dupM (x : PWld) (d : PID) : PMsg := { msgOf x d with id := { (msgOf x d).id with c := wrap64 (x.used.dup + 1) } }
def dupP (p : PPrg) (x : PWld) (d : PID) : PWld := postG p { x with used := { x.used with dup := wrap64 (x.used.dup + 1) } } (dupM x d)
def tmOf (p : PPrg) (k : Nat) : Int := (p.acs.getD k default).timer
def doG (R : RunF) (p : PPrg) (x : PWld) (e : PEv) : PWld :=
 if e.kind = 1 then ranW R p (tookP x e.id) (msgOf x e.id).nt.to (msgOf x e.id).nt.hd (msgOf x e.id).nt.args
 else if e.kind = 2 then dropP x e.id
 else if e.kind = 3 then dupP p x e.id
 else if e.kind = 4 then ranW R p (calmP x e.who.toNat) e.who (tmOf p e.who.toNat) []
 else if e.kind = 5 then crashP x e.who.toNat
 else x
noncomputable def doP (p : PPrg) (x : PWld) (e : PEv) : PWld := doG (runP p) p x e
def hdlW (x : PWld) (e : PEv) : PWld := if e.kind = 4 then calmP x e.who.toNat else tookP x e.id
def hdlWho (x : PWld) (e : PEv) : Int := if e.kind = 4 then e.who else (msgOf x e.id).nt.to
def hdlR (R : RunF) (p : PPrg) (x : PWld) (e : PEv) : PRes :=
 if e.kind = 4 then R e.who (locAt (calmP x e.who.toNat) e.who.toNat) (tmOf p e.who.toNat) [] else R (msgOf x e.id).nt.to (locAt (tookP x e.id) (msgOf x e.id).nt.to.toNat) (msgOf x e.id).nt.hd (msgOf x e.id).nt.args
theorem doG_hdl {R : RunF} {p : PPrg} {x : PWld} {e : PEv} (h : e.kind = 1 ∨ e.kind = 4) : doG R p x e = sendP p (setL (hdlW x e) (hdlWho x e).toNat (hdlR R p x e).loc) (hdlWho x e) (hdlR R p x e).notes := by
 unfold doG hdlW hdlWho hdlR ranW
 rcases h with h | h
 ·simp only [h, ↓reduceIte, Int.reduceEq]
 ·simp only [h, ↓reduceIte, Int.reduceEq]
theorem doG_2 {R : RunF} {p : PPrg} {x : PWld} {e : PEv} (h : e.kind = 2) : doG R p x e = dropP x e.id := by unfold doG; simp only [h, ↓reduceIte, Int.reduceEq]
theorem doG_3 {R : RunF} {p : PPrg} {x : PWld} {e : PEv} (h : e.kind = 3) : doG R p x e = dupP p x e.id := by unfold doG; simp only [h, ↓reduceIte, Int.reduceEq]
theorem doG_5 {R : RunF} {p : PPrg} {x : PWld} {e : PEv} (h : e.kind = 5) : doG R p x e = crashP x e.who.toNat := by unfold doG; simp only [h, ↓reduceIte, Int.reduceEq]
end Go.Proofs.YtfbeiedhdmndnaaGreatDoor
namespace Go.Proofs.YtfbeiedhdmndnaaGreatDoor
open Go.RowKit
structure Ex (Z : Nat → Prop) (w w' : World) : Prop where
 os : w'.os = w.os
 tape : w'.tape = w.tape
 output : w'.output = w.output
 size : w.heap.size ≤ w'.heap.size
 block : ∀ b, b < w.heap.size → ¬ Z b → w'.heap[b]? = w.heap[b]?
section
variable {Z Z' : Nat → Prop} {a w w' c : World} {N b o : Nat}
theorem Ex.of (h : Below w.heap.size w w') : Ex Z w w' := ⟨h.os, h.tape, h.output, h.size, fun b hb _ => h.block b hb⟩
theorem Ex.trans (h : Ex Z a w) (k : Ex Z w c) : Ex Z a c := ⟨k.os.trans h.os, k.tape.trans h.tape, k.output.trans h.output, Nat.le_trans h.size k.size, fun d hd hz => (k.block d (Nat.lt_of_lt_of_le hd h.size) hz).trans (h.block d hd hz)⟩
theorem Ex.more (h : Ex Z a w) (k : Below w.heap.size w c) : Ex Z a c := h.trans (Ex.of k)
theorem Ex.set (h : Ex Z a w) (hb : Z b) (v : Value) : Ex Z a (w.setCell ⟨b, o, none⟩ v) :=
 h.trans ⟨rfl, rfl, rfl, by simp [World.setCell], fun d _ hz => Below.heap_setCell _ _ _ _ (fun e => hz (by have e' : d = b := e; rw [e']; exact hb))⟩
theorem Ex.setN (h : Ex Z a w) (hb : a.heap.size ≤ b) (v : Value) : Ex Z a (w.setCell ⟨b, o, none⟩ v) :=
 ⟨h.os, h.tape, h.output, by have := h.size; simpa [World.setCell] using this, fun d hd hz => (Below.heap_setCell _ _ _ _ (by show d ≠ b; omega)).trans (h.block d hd hz)⟩
theorem Ex.below (h : Ex Z w w') (hN : N ≤ w.heap.size) (hz : ∀ b, b < N → ¬ Z b) : Below N w w' := ⟨h.os, h.tape, h.output, h.size, fun b hb => h.block b (by omega) (hz b hb)⟩
theorem Ex.weak (h : Ex Z w w') (k : ∀ b, Z b → Z' b) : Ex Z' w w' := ⟨h.os, h.tape, h.output, h.size, fun b hb hz => h.block b hb (fun e => hz (k b e))⟩
theorem Ex.same (h : Ex Z w w') : Same (fun b => ¬ Z b) w w' := ⟨h.size, fun b hz hb => h.block b hb hz⟩
theorem Ex.box (h : Ex Z w w') {X : Obj} (hb : w.heap[b]? = some X) (hz : ¬ Z b) : w'.heap[b]? = some X := (h.block b (Array.getElem?_eq_some_iff.1 hb).1 hz).trans hb
theorem Ex.refl (w : World) : Ex Z w w := Ex.of (bRefl w)
theorem Ex.drew (h : Ex Z a w) : Ex Z a w.drew := ⟨h.os, h.tape, h.output, h.size, h.block⟩
end
structure BW (Q : Nat → Prop) (bo : Nat) (W : World) (a m : Value) (x : PWld) : Prop where
 box : W.heap[bo]? = some (.cells #[a, m, .int .i64 x.used.drop, .int .i64 x.used.dup, .int .i64 x.used.time, .int .i64 x.used.crash] 32)
 acts : LV (fun b => Q b ∧ b ≠ bo) W a x.acts
 mail : Msgs (fun b => Q b ∧ b ≠ bo ∧ a.ownBlock ≠ some b) (fun b => Q b ∧ b ≠ bo ∧ a.ownBlock ≠ some b) W m x.mail
theorem LV.weakQ {Q Q' : Nat → Prop} {w : World} {u : Value} {l : List PLoc} (h : LV Q w u l) (k : ∀ b, Q b → Q' b) : LV Q' w u l := by
 obtain ⟨A, c, rfl, h2, h3⟩ := h
 exact ⟨A, c, rfl, h2, h3.imp id fun ⟨g, e, hg, hr⟩ => ⟨g, e, k g hg, hr.weak fun _ b hb => ⟨k b hb.1, hb.2⟩⟩⟩
theorem LV.own {Q : Nat → Prop} {w : World} {u : Value} {l : List PLoc} (h : LV Q w u l) {g : Nat} (e : u.ownBlock = some g) : Q g ∧ g < w.heap.size := by
 obtain ⟨A, c, rfl, _, ⟨_, rfl⟩ | ⟨g', rfl, h1, h2⟩⟩ := h
 ·cases e
 ·cases e; exact ⟨h1, h2.lt⟩
theorem LV.sameQ {Q : Nat → Prop} {w w' : World} {u : Value} {l : List PLoc} (h : LV Q w u l) (s : Same Q w w') : LV Q w' u l := by
 obtain ⟨A, c, rfl, h2, h3⟩ := h
 exact ⟨A, c, rfl, h2, h3.imp id fun ⟨g, e, hg, hr⟩ => ⟨g, e, hg, hr.same s.size (s.block g hg hr.lt) fun _ b hb hl => s.block b hb.1 hl⟩⟩
theorem LV.ltQ {Q : Nat → Prop} {w : World} {u : Value} {l : List PLoc} (h : LV Q w u l) : LV (fun b => Q b ∧ b < w.heap.size) w u l := by
 obtain ⟨A, c, rfl, h2, h3⟩ := h
 exact ⟨A, c, rfl, h2, h3.imp id fun ⟨g, e, hg, hr⟩ => ⟨g, e, ⟨hg, hr.lt⟩, hr.ltP.weak fun _ b hb => ⟨⟨hb.1.1, hb.2⟩, hb.1.2⟩⟩⟩
def WldA (ok : Nat → Prop) (w : World) (v : Value) (x : PWld) : Prop := ∃ a b, v = wVal x.used a b ∧ Locs ok ok w a x.acts ∧ Msgs ok ok w b x.mail
theorem WldA.wld {ok : Nat → Prop} {w : World} {v : Value} {x : PWld} (h : WldA ok w v x) : WldV w v x := let ⟨a, b, h1, h2, h3⟩ := h; ⟨a, b, h1, h2.any2, h3.any2⟩
theorem WldA.same {ok : Nat → Prop} {w w' : World} {v : Value} {x : PWld} (h : WldA ok w v x) (s : Same ok w w') : WldA ok w' v x := let ⟨a, b, h1, h2, h3⟩ := h; ⟨a, b, h1, h2.same s s, h3.same s s⟩
theorem WldA.below {ok : Nat → Prop} {w w' : World} {v : Value} {x : PWld} (h : WldA ok w v x) (hb : Below w.heap.size w w') : WldA ok w' v x := h.same (Same.all hb)
theorem WldA.weak {ok ok' : Nat → Prop} {w : World} {v : Value} {x : PWld} (h : WldA ok w v x) (k : ∀ b, ok b → ok' b) : WldA ok' w v x := let ⟨a, b, h1, h2, h3⟩ := h; ⟨a, b, h1, h2.weak k k, h3.weak k k⟩
theorem wldNA {B N lo hi : Nat} {w : World} {a m : Value} {x : PWld} (h : WN N lo hi w a m x) (hl : x.acts.length ≤ 1000) (hN : B ≤ N) : WldA (fun b => B ≤ b) w (wVal x.used a m) x :=
 have hle := h.le
 ⟨a, m, rfl, (h.acts.locs hl).weak (fun b hb => Nat.le_trans hN hb.1) (fun b hb => Nat.le_trans hN hb.1), h.mail.weak (fun b hb => by have := hb.1.1; omega) (fun b hb => by have := hb.1.1; omega)⟩
section
variable {N bo lo hi : Nat} {Q Q' : Nat → Prop} {W W' W0 : World} {a m m' : Value} {x : PWld}
theorem PW.bw (h : PW N bo lo hi W a m x) : BW (fun b => N ≤ b) bo W a m x := by
 have hnb := h.nb
 have hle := h.le
 refine ⟨h.box, h.acts.weakQ fun _ hb => ⟨hb.1, hb.2.1⟩, h.mail.weak (fun _ hb => ⟨?_, ?_, ?_⟩) (fun _ hb => ⟨?_, ?_, ?_⟩)⟩
 ·have := hb.1; omega
 ·rintro rfl; exact hnb hb.1
 ·intro e; exact (h.acts.own e).1.2.2 hb.1
 ·have := hb.1; omega
 ·rintro rfl; exact hnb hb.1
 ·intro e; exact (h.acts.own e).1.2.2 hb.1
theorem BW.weak (h : BW Q bo W a m x) (k : ∀ b, Q b → Q' b) : BW Q' bo W a m x := ⟨h.box, h.acts.weakQ fun b hb => ⟨k b hb.1, hb.2⟩, h.mail.weak (fun b hb => ⟨k b hb.1, hb.2⟩) (fun b hb => ⟨k b hb.1, hb.2⟩)⟩
theorem BW.lt (h : BW Q bo W a m x) : BW (fun b => Q b ∧ b < W.heap.size) bo W a m x := ⟨h.box, h.acts.ltQ.weakQ fun _ hb => ⟨⟨hb.1.1, hb.2⟩, hb.1.2⟩, h.mail.ltAll.weak (fun _ hb => ⟨⟨hb.1.1, hb.2⟩, hb.1.2⟩) (fun _ hb => ⟨⟨hb.1.1, hb.2⟩, hb.1.2⟩)⟩
theorem BW.blt (h : BW Q bo W a m x) : bo < W.heap.size := (Array.getElem?_eq_some_iff.1 h.box).1
theorem BW.same (h : BW Q bo W a m x) (s : Same (fun b => Q b ∨ b = bo) W W') : BW Q bo W' a m x :=
 ⟨(s.block bo (Or.inr rfl) h.blt).trans h.box, h.acts.sameQ (s.weak fun _ hb => Or.inl hb.1), h.mail.same (s.weak fun _ hb => Or.inl hb.1) (s.weak fun _ hb => Or.inl hb.1)⟩
theorem BW.below (h : BW Q bo W a m x) (hb : Below W.heap.size W W') : BW Q bo W' a m x := h.same (Same.all hb)
theorem BW.frozen (h : BW Q bo W a m x) : ∀ o, W.frozen? ⟨bo, o, none⟩ = false := fun _ => heap_frozen h.box
theorem BW.wld (h : BW Q bo W a m x) (hl : x.acts.length ≤ 1000) : WldV W (wVal x.used a m) x := ⟨a, m, rfl, (h.acts.locs hl).any2, h.mail.any2⟩
theorem BW.wldA {B : Nat} (h : BW Q bo W a m x) (hl : x.acts.length ≤ 1000) (k : ∀ b, Q b → B ≤ b) : WldA (fun b => B ≤ b) W (wVal x.used a m) x :=
 ⟨a, m, rfl, (h.acts.locs hl).weak (fun b hb => k b hb.1) (fun b hb => k b hb.1), h.mail.weak (fun b hb => k b hb.1) (fun b hb => k b hb.1)⟩
theorem BW.setMail {Q1 : Nat → Prop} {ml : List PMsg} (h : BW Q bo W0 a m x) (hb : Below W0.heap.size W0 W) (hm : Msgs Q1 Q1 W m' ml) (hq : ∀ b, Q1 b → W0.heap.size ≤ b ∧ Q b) :
  BW Q bo (W.setCell ⟨bo, 1, none⟩ m') a m' { x with mail := ml } := by
 have hbl := h.blt
 have hS : Same (fun d => d ≠ bo) W (W.setCell ⟨bo, 1, none⟩ m') := setCell_same fun _ h => h
 have hone : ∀ b, Q1 b → Q b ∧ b ≠ bo ∧ a.ownBlock ≠ some b := fun b hb => ⟨(hq b hb).2, by have := (hq b hb).1; omega, fun e => by have := (h.acts.own e).2; have := (hq b hb).1; omega⟩
 exact ⟨(setCell_heap (boxAt h.box hb)).trans (by simp), (h.acts.below hb).sameQ (hS.weak fun _ hb => hb.2), (hm.weak hone hone).same (hS.weak fun _ hb => hb.2.1) (hS.weak fun _ hb => hb.2.1)⟩
theorem BW.setUsed {i : Nat} {v : Value} {u : PBud} (h : BW Q bo W a m x) (hc : (#[a, m, .int .i64 x.used.drop, .int .i64 x.used.dup, .int .i64 x.used.time, .int .i64 x.used.crash] : Array Value).setIfInBounds i v = #[a, m, .int .i64 u.drop, .int .i64 u.dup, .int .i64 u.time, .int .i64 u.crash]) :
  BW Q bo (W.setCell ⟨bo, i, none⟩ v) a m { x with used := u } := by
 have hS : Same (fun d => d ≠ bo) W (W.setCell ⟨bo, i, none⟩ v) := setCell_same fun _ h => h
 exact ⟨(setCell_heap h.box).trans (by rw [hc]), h.acts.sameQ (hS.weak fun _ hb => hb.2), h.mail.same (hS.weak fun _ hb => hb.2.1) (hS.weak fun _ hb => hb.2.1)⟩
theorem BW.row (h : BW Q bo W a m x) (hk : 0 < x.acts.length) : ∃ g c, a = .slice (some ⟨g, 0, none⟩) x.acts.length c ∧ Q g ∧ g ≠ bo ∧ LR g (fun _ b => (Q b ∧ b ≠ bo) ∧ b ≠ g) W x.acts := by
 obtain ⟨A, c, rfl, hc, ⟨e, _⟩ | ⟨g, rfl, hg, hr⟩⟩ := h.acts
 ·rw [e] at hk; simp at hk
 ·exact ⟨g, c, rfl, hg.1, hg.2, hr⟩
theorem BW.rowSet {g c : Nat} {l : List PLoc} (h : BW Q bo W (.slice (some ⟨g, 0, none⟩) x.acts.length c) m x) (hS : Same (fun d => d ≠ g) W W') (hl : l.length = x.acts.length) (k : LR g (fun _ b => (Q b ∧ b ≠ bo) ∧ b ≠ g) W' l) :
  BW Q bo W' (.slice (some ⟨g, 0, none⟩) x.acts.length c) m { x with acts := l } := by
 obtain ⟨A, c', e, hc, hlr⟩ := h.acts
 simp only [Value.slice.injEq] at e
 obtain ⟨rfl, _, rfl⟩ := e
 have hg := (h.acts.own (g := g) rfl).1
 refine ⟨?_, ⟨_, c, by rw [hl], by show l.length ≤ c; omega, Or.inr ⟨g, rfl, hg, k⟩⟩, h.mail.same (hS.weak ?_) (hS.weak ?_)⟩
 ·exact (hS.block bo (fun e => hg.2 e.symm) h.blt).trans h.box
 ·rintro b ⟨_, _, hb⟩ rfl; exact hb rfl
 ·rintro b ⟨_, _, hb⟩ rfl; exact hb rfl
theorem BW.lr {g c : Nat} (h : BW Q bo W (.slice (some ⟨g, 0, none⟩) x.acts.length c) m x) : LR g (fun _ b => (Q b ∧ b ≠ bo) ∧ b ≠ g) W x.acts := by
 obtain ⟨A, c', e, hc, ⟨_, h2⟩ | ⟨g', h2, h3, h4⟩⟩ := h.acts
 ·cases e; cases h2
 ·simp only [Value.slice.injEq] at e
  obtain ⟨rfl, _, rfl⟩ := e
  cases h2
  exact h4
theorem BW.setAct {g c k i off : Nat} {y y' : PLoc} {v : Value} (h : BW Q bo W (.slice (some ⟨g, 0, none⟩) x.acts.length c) m x) (hy : x.acts[k]? = some y) (ho : off = k * 5 + i) (hi5 : i < 5) (hi0 : i ≠ 0) (hr0 : y'.regs = y.regs)
  (h1 : (i = 1 ∧ v = .bool y'.armed) ∨ (i ≠ 1 ∧ y'.armed = y.armed)) (h2 : (i = 2 ∧ v = .int .i64 y'.down) ∨ (i ≠ 2 ∧ y'.down = y.down))
  (h3 : (i = 3 ∧ v = .int .i64 y'.sent) ∨ (i ≠ 3 ∧ y'.sent = y.sent)) (h4 : (i = 4 ∧ v = .int .i64 y'.over) ∨ (i ≠ 4 ∧ y'.over = y.over)) :
  BW Q bo (W.setCell ⟨g, off, none⟩ v) (.slice (some ⟨g, 0, none⟩) x.acts.length c) m (setL x k y') :=
 h.rowSet (setCell_same fun _ h => h) (by rw [List.length_set]) (h.lr.put (P' := fun _ b => (Q b ∧ b ≠ bo) ∧ b ≠ g) hy ho hi5 (fun _ _ hb => hb.2) (fun _ hb => hb.2) (fun _ _ _ hb => hb) (Or.inr ⟨hi0, hr0, fun _ hb => hb⟩) h1 h2 h3 h4)
end
abbrev put5 (w : World) (g o : Nat) (a0 a1 a2 a3 a4 : Value) : World := ((((w.setCell ⟨g, o, none⟩ a0).setCell ⟨g, o + 1, none⟩ a1).setCell ⟨g, o + 2, none⟩ a2).setCell ⟨g, o + 3, none⟩ a3).setCell ⟨g, o + 4, none⟩ a4
theorem BW.setLoc {Q : Nat → Prop} {bo g c k : Nat} {W : World} {m cr : Value} {x : PWld} {y y' : PLoc} (h : BW Q bo W (.slice (some ⟨g, 0, none⟩) x.acts.length c) m x) (hy : x.acts[k]? = some y) (hi : Ints (fun b => (Q b ∧ b ≠ bo) ∧ b ≠ g) W cr y'.regs) :
  BW Q bo (put5 W g (k * 5) cr (.bool y'.armed) (.int .i64 y'.down) (.int .i64 y'.sent) (.int .i64 y'.over)) (.slice (some ⟨g, 0, none⟩) x.acts.length c) m (setL x k y') := by
 have hr := h.lr
 have hkl := (List.getElem?_eq_some_iff.1 hy).1
 have hS1 : ∀ (w : World) (o : Nat) (v : Value), Same (fun d => d ≠ g) w (w.setCell ⟨g, o, none⟩ v) := fun w o v => setCell_same fun _ h => h
 have hS : Same (fun d => d ≠ g) W (put5 W g (k * 5) cr (.bool y'.armed) (.int .i64 y'.down) (.int .i64 y'.sent) (.int .i64 y'.over)) := ((((hS1 _ _ _).trans (hS1 _ _ _)).trans (hS1 _ _ _)).trans (hS1 _ _ _)).trans (hS1 _ _ _)
 have k0 := hr.put (P' := fun _ b => (Q b ∧ b ≠ bo) ∧ b ≠ g) (i := 0) (off := k * 5) (x' := { y with regs := y'.regs }) (v := cr) hy rfl (by omega) (fun _ _ hb => hb.2) (fun _ hb => hb.2) (fun _ _ _ hb => hb) (Or.inl ⟨rfl, hi⟩) (Or.inr ⟨by omega, rfl⟩) (Or.inr ⟨by omega, rfl⟩) (Or.inr ⟨by omega, rfl⟩) (Or.inr ⟨by omega, rfl⟩)
 have g0 : ∀ z : PLoc, (x.acts.set k z)[k]? = some z := fun z => List.getElem?_set_self hkl
 have k1 := k0.put (P' := fun _ b => (Q b ∧ b ≠ bo) ∧ b ≠ g) (i := 1) (x' := { y with regs := y'.regs, armed := y'.armed }) (v := .bool y'.armed) (g0 _) rfl (by omega) (fun _ _ hb => hb.2) (fun _ hb => hb.2) (fun _ _ _ hb => hb) (Or.inr ⟨by omega, rfl, fun _ hb => hb⟩) (Or.inl ⟨rfl, rfl⟩) (Or.inr ⟨by omega, rfl⟩) (Or.inr ⟨by omega, rfl⟩) (Or.inr ⟨by omega, rfl⟩)
 rw [List.set_set] at k1
 have k2 := k1.put (P' := fun _ b => (Q b ∧ b ≠ bo) ∧ b ≠ g) (i := 2) (x' := { y with regs := y'.regs, armed := y'.armed, down := y'.down }) (v := .int .i64 y'.down) (g0 _) rfl (by omega) (fun _ _ hb => hb.2) (fun _ hb => hb.2) (fun _ _ _ hb => hb) (Or.inr ⟨by omega, rfl, fun _ hb => hb⟩) (Or.inr ⟨by omega, rfl⟩) (Or.inl ⟨rfl, rfl⟩) (Or.inr ⟨by omega, rfl⟩) (Or.inr ⟨by omega, rfl⟩)
 rw [List.set_set] at k2
 have k3 := k2.put (P' := fun _ b => (Q b ∧ b ≠ bo) ∧ b ≠ g) (i := 3) (x' := { y with regs := y'.regs, armed := y'.armed, down := y'.down, sent := y'.sent }) (v := .int .i64 y'.sent) (g0 _) rfl (by omega) (fun _ _ hb => hb.2) (fun _ hb => hb.2) (fun _ _ _ hb => hb) (Or.inr ⟨by omega, rfl, fun _ hb => hb⟩) (Or.inr ⟨by omega, rfl⟩) (Or.inr ⟨by omega, rfl⟩) (Or.inl ⟨rfl, rfl⟩) (Or.inr ⟨by omega, rfl⟩)
 rw [List.set_set] at k3
 have k4 := k3.put (P' := fun _ b => (Q b ∧ b ≠ bo) ∧ b ≠ g) (i := 4) (x' := y') (v := .int .i64 y'.over) (g0 _) rfl (by omega) (fun _ _ hb => hb.2) (fun _ hb => hb.2) (fun _ _ _ hb => hb) (Or.inr ⟨by omega, rfl, fun _ hb => hb⟩) (Or.inr ⟨by omega, rfl⟩) (Or.inr ⟨by omega, rfl⟩) (Or.inr ⟨by omega, rfl⟩) (Or.inl ⟨rfl, rfl⟩)
 rw [List.set_set] at k4
 exact h.rowSet hS (by rw [List.length_set]) k4
end Go.Proofs.YtfbeiedhdmndnaaGreatDoor
namespace Go.Proofs.YtfbeiedhdmndnaaGreatDoor
open Go.RowKit
abbrev zM : Obj := .cells #[.int .i64 0, .int .i64 0, .int .i64 0, .int .i64 0, .int .i64 0, .slice none 0 0] 90
structure TK (W : World) (l : List PMsg) (y : PMsg) (mb : Nat) (u u2 : Value) (wc : World) : Prop where
 box : wc.heap[mb]? = some (.cells #[.int .i64 y.id.f, .int .i64 y.id.n, .int .i64 y.id.c, .int .i64 y.nt.to, .int .i64 y.nt.hd, u2] 90)
 ml : Msgs (fun b => W.heap.size + 2 ≤ b) (fun b => W.heap.size + 2 ≤ b) wc u l
 ar : Ints (fun b => W.heap.size + 2 ≤ b) wc u2 y.nt.args
 low : Below W.heap.size W wc
 res : wc.heap[W.heap.size + 1]? = some zM
 mb : W.heap.size + 2 ≤ mb
section
variable {W w1 w2 : World} {l : List PMsg} {y : PMsg} {u u2 : Value}
theorem tk_a (h0 : Below W.heap.size W w1) (hr : w1.heap[W.heap.size + 1]? = some zM) (hs : w1.heap.size = W.heap.size + 2) (hu : Msgs (fun b => w1.drew.heap.size ≤ b) (fun b => w1.drew.heap.size ≤ b) w2 u l) (hu2 : Ints (fun b => w1.drew.heap.size ≤ b) w2 u2 y.nt.args) (hb : Below w1.drew.heap.size w1.drew w2) :
  TK W l y w2.heap.size u u2 (w2.alloc (.cells #[.int .i64 y.id.f, .int .i64 y.id.n, .int .i64 y.id.c, .int .i64 y.nt.to, .int .i64 y.nt.hd, u2] 90)) := by
 have z1 := hb.size
 change w1.heap.size ≤ _ at z1
 have hA : Below w2.heap.size w2 (w2.alloc (.cells #[.int .i64 y.id.f, .int .i64 y.id.n, .int .i64 y.id.c, .int .i64 y.nt.to, .int .i64 y.nt.hd, u2] 90)) := bAlloc (bRefl _) _
 have hk : ∀ b, w1.drew.heap.size ≤ b → W.heap.size + 2 ≤ b := fun b (hb : w1.heap.size ≤ b) => by omega
 exact ⟨heap_new _ _, (hu.weak hk hk).below hA, (hu2.weak hk).below hA, bTrans (bTrans h0 (undrew hb)) hA, boxAt (boxAt hr (undrew hb)) hA, by omega⟩
theorem tk_b (h0 : Below W.heap.size W w1) (hr : w1.heap[W.heap.size + 1]? = some zM) (hs : w1.heap.size = W.heap.size + 2) (hu : Msgs (fun b => (w1.alloc zM).drew.heap.size ≤ b) (fun b => (w1.alloc zM).drew.heap.size ≤ b) w2 u l) (hu2 : Ints (fun b => (w1.alloc zM).drew.heap.size ≤ b) w2 u2 y.nt.args) (hb : Below (w1.alloc zM).drew.heap.size (w1.alloc zM).drew w2) :
  TK W l y w1.heap.size u u2 (put6 w2 w1.heap.size (.int .i64 y.id.f) (.int .i64 y.id.n) (.int .i64 y.id.c) (.int .i64 y.nt.to) (.int .i64 y.nt.hd) u2) := by
 have hbu : Below (w1.alloc zM).heap.size (w1.alloc zM) w2 := undrew hb
 have z1 := hbu.size
 have z2 : (w1.alloc zM).heap.size = w1.heap.size + 1 := by simp
 have hk : ∀ b, (w1.alloc zM).drew.heap.size ≤ b → w1.heap.size + 1 ≤ b := fun b (hb : (w1.alloc zM).heap.size ≤ b) => by omega
 have hS : Same (fun b => w1.heap.size + 1 ≤ b) w2 (put6 w2 w1.heap.size (.int .i64 y.id.f) (.int .i64 y.id.n) (.int .i64 y.id.c) (.int .i64 y.nt.to) (.int .i64 y.nt.hd) u2) := put6_same.weak fun b hb => by show b ≠ w1.heap.size; omega
 have hq : ∀ b, w1.heap.size + 1 ≤ b → W.heap.size + 2 ≤ b := fun b hb => by omega
 have hbx : w2.heap[w1.heap.size]? = some zM := (hbu.block _ (by omega)).trans (heap_new _ _)
 exact ⟨put6_heap hbx, (Msgs.same (hu.weak hk hk) hS hS).weak hq hq, (Ints.same (hu2.weak hk) hS).weak hq, put6_below (bTrans (bTrans h0 (bAlloc (bRefl _) _)) hbu) (by omega), (put6_same.block (W.heap.size + 1) (by show _ ≠ _; omega) (by omega)).trans (boxAt hr (bTrans (bAlloc (bRefl _) _) hbu)), by omega⟩
end
set_option maxHeartbeats 4000000 in
set_option maxRecDepth 100000 in
theorem stake_any (Q : Nat → Prop) (bo : Nat) (W : World) (a mv : Value) (x : PWld) (d : PID) (k : Nat) (y : PMsg) (hQ : ∀ b, W.heap.size ≤ b → Q b) (h : BW Q bo W a mv x) (hf : fnd x.mail d = k) (hy : x.mail[k]? = some y) (hF : Few x.mail) :
  Calls Tryz.prog 40 #[.pointer (some ⟨bo, 0, none⟩), dV d] W fun e w' => ∃ u m', e = .returned (mVal y u) ∧ BW Q bo w' a m' { x with mail := cutP x.mail k } ∧ Ints (fun b => W.heap.size ≤ b) w' u y.nt.args ∧ Ex (fun b => b = bo) W w' := by
 obtain ⟨B, dd, rfl, hlm⟩ := h.mail.form
 have hblt := h.blt
 have HB := hid_mk h
 have HM := hid_mk h.mail.any2
 have HQ := hid_mk (And.intro hf (And.intro hy hF))
 have HQQ := hid_mk hQ
 have hA := two_new W (.cells #[.int .i64 d.f, .int .i64 d.n, .int .i64 d.c] 34) zM
 clear h hf hy hF hQ
 go_enter Tryz.func40, Tryz.ntmps40
 go_wp2_with fail
 go_cut [5, 6] (fun i5 i6 wc => ∃ mb u u2, i5 = u ∧ i6 = .pointer (some ⟨mb, 0, none⟩) ∧ TK W (cutP x.mail k) y mb u u2 wc)
 case first =>
  have HL : Below W.heap.size W ((W.alloc (.cells #[.int .i64 d.f, .int .i64 d.n, .int .i64 d.c] 34)).alloc zM) := bAlloc (bAlloc (bRefl _) _) _
  generalize ((W.alloc (.cells #[.int .i64 d.f, .int .i64 d.n, .int .i64 d.c] 34)).alloc zM) = w1 at hA HL ⊢
  obtain ⟨p0, p1, p2⟩ := blk3 hA.1
  obtain ⟨b0, b1, b2, b3, b4, b5⟩ := blk6 (boxAt HB.out.box HL)
  have hz := hA.2.2
  have HR := hid_mk hA.2.1
  have HZ := hid_mk hz
  have hbb := HL
  have z1 : W.heap.size < w1.heap.size := by omega
  have z2 : bo < w1.heap.size := by omega
  have z3 : bo < w1.heap.size + 1 := by omega
  have z4 : W.heap.size < w1.heap.size + 1 := by omega
  have n1 : ¬ bo = w1.heap.size := by omega
  have n2 : ¬ w1.heap.size = bo := by omega
  have n3 : ¬ W.heap.size = w1.heap.size := by omega
  have n4 : ¬ w1.heap.size = W.heap.size := by omega
  clear hA hz
  go_region_held3 (fun w' => w'.cell? ⟨bo, 1, none⟩ = some (.slice B x.mail.length dd) ∧ w'.cell? ⟨W.heap.size, 0, none⟩ = some (.int .i64 d.f) ∧ w'.cell? ⟨W.heap.size, 1, none⟩ = some (.int .i64 d.n) ∧ w'.cell? ⟨W.heap.size, 2, none⟩ = some (.int .i64 d.c)) (go_keep)
   (first
    | (go_at_call 76; refine (take_there _ _ x.mail d (HM.out.below (by first | exact hbb | exact hbb.drew | exact bAlloc hbb _ | exact (bAlloc hbb _).drew | exact bAlloc hbb.drew _)) k y HQ.out.1 HQ.out.2.1 HQ.out.2.2).mono ?_; rintro e w2 ⟨u, u2, rfl, hu, hu2, hb2⟩; obtain ⟨D1, e1, rfl, _⟩ := hu.form; obtain ⟨D2, e2, rfl, _⟩ := hu2.form; obtain ⟨hc2, hf2, hy2⟩ := (by first | exact olds (undrew hb2) | exact olds hb2); have hj2 := hb2.size; have HU := hid_mk hu; have HU2 := hid_mk hu2; have HB2 := hid_mk hb2; have x1 : W.heap.size < w2.heap.size := (by (try simp at hj2); omega); have x2 : bo < w2.heap.size := (by (try simp at hj2); omega); have x3 : w1.heap.size ≤ w2.heap.size := (by (try simp at hj2); omega); have n5 : ¬ bo = w2.heap.size := (by omega); have n6 : ¬ W.heap.size = w2.heap.size := (by omega); have n7 : ¬ w2.heap.size = bo := (by omega); have n8 : ¬ w2.heap.size = W.heap.size := (by omega); clear hu hu2 hb2))
  all_goals (go_wp2_with fail; go_meet)
  all_goals first
   | with_reducible exact ⟨_, _, _, rfl, rfl, tk_a HL HR.out HZ.out HU.out HU2.out HB2.out⟩
   | with_reducible exact ⟨_, _, _, rfl, rfl, tk_b HL HR.out HZ.out HU.out HU2.out HB2.out⟩
 case rest =>
  obtain ⟨mb, u, u2, rfl, rfl, tk⟩ := hcut
  obtain ⟨D1, e1, rfl, _⟩ := tk.ml.form
  obtain ⟨D2, e2, rfl, _⟩ := tk.ar.form
  obtain ⟨b0, b1, b2, b3, b4, b5⟩ := blk6 (boxAt HB.out.box tk.low)
  obtain ⟨m0, m1, m2, m3, m4, m5⟩ := blk6 tk.box
  obtain ⟨r0, r1, r2, r3, r4, r5⟩ := blk6 tk.res
  have fz : ∀ o, wc.frozen? ⟨bo, o, none⟩ = false := fun o => heap_frozen (boxAt HB.out.box tk.low)
  have fr : ∀ o, wc.frozen? ⟨W.heap.size + 1, o, none⟩ = false := fun o => heap_frozen tk.res
  have hmb := tk.mb
  have hmw : mb < wc.heap.size := (Array.getElem?_eq_some_iff.1 tk.box).1
  have n1 : ¬ bo = mb := by omega
  have n2 : ¬ mb = bo := by omega
  have n3 : ¬ bo = W.heap.size + 1 := by omega
  have n4 : ¬ W.heap.size + 1 = bo := by omega
  have n5 : ¬ mb = W.heap.size + 1 := by omega
  have n6 : ¬ W.heap.size + 1 = mb := by omega
  have HT := hid_mk tk
  clear hA tk hmb
  go_wp2
  refine bodyPost_ret (v := mVal y (.slice D2 y.nt.args.length e2)) (by simp [results, Tryz.results40, go_sem, r0, r1, r2, r3, r4, r5]) rfl ⟨_, .slice D1 (cutP x.mail k).length e1, rfl, ?_, ?_, ?_⟩
  ·have h1 : BW (fun b => Q b ∧ b ≠ W.heap.size + 1) bo W a _ x := HB.out.lt.weak fun b hb => ⟨hb.1, by have := hb.2; omega⟩
   have h2 := h1.setMail (Q1 := fun b => W.heap.size + 2 ≤ b) HT.out.low HT.out.ml (fun b hb => ⟨by omega, HQQ.out b (by omega), by omega⟩)
   exact (h2.same (put6_same.weak fun b hb => by
    rcases hb with hb | hb
    ·exact hb.2
    ·show b ≠ W.heap.size + 1; omega)).weak fun _ hb => hb.1
  ·have h1 : Same (fun b => W.heap.size + 2 ≤ b) wc (wc.setCell ⟨bo, 1, none⟩ (.slice D1 (cutP x.mail k).length e1)) := setCell_same fun b hb => by omega
   exact Ints.weak (Ints.same (Ints.same HT.out.ar h1) (put6_same.weak fun b hb => by have hb' : W.heap.size + 2 ≤ b := hb; show b ≠ W.heap.size + 1; omega)) fun b hb => by have hb' : W.heap.size + 2 ≤ b := hb; show W.heap.size ≤ b; omega
  ·have h1 : Ex (fun b => b = bo) W (wc.setCell ⟨bo, 1, none⟩ (.slice D1 (cutP x.mail k).length e1)) := Ex.set (Z := fun b => b = bo) (Ex.of HT.out.low) rfl _
   exact (((((h1.setN (by omega) _).setN (by omega) _).setN (by omega) _).setN (by omega) _).setN (by omega) _).setN (by omega) _
end Go.Proofs.YtfbeiedhdmndnaaGreatDoor
namespace Go.Proofs.YtfbeiedhdmndnaaGreatDoor
open Go.RowKit

structure FX where
 a1 : Value
 a2 : Value
 a3 : Value
 fuel : Int
 who : Int
 va : Value
 vc : Value
 vr : Value
 down : Int
 sent : Int
 over : Int
def rv (x : FX) (ar : Bool) (vn : Value) (sk : List Int) (d a s : Int) : Nat → Value
 | 0 => x.a1
 | 1 => x.a2
 | 2 => x.a3
 | 3 => .int .i64 x.fuel
 | 4 => .int .i64 x.who
 | 5 => x.va
 | 6 => x.vc
 | 7 => x.vr
 | 8 => .bool ar
 | 9 => .int .i64 x.down
 | 10 => .int .i64 x.sent
 | 11 => .int .i64 x.over
 | 12 => vn
 | 21 => .int .i64 d
 | 22 => .int .i64 a
 | 23 => .int .i64 s
 | j => .int .i64 (sk.getD (j - 13) 0)
theorem rv_sk {x : FX} {ar : Bool} {vn : Value} {sk : List Int} {d a s : Int} {j : Nat} (hj : j < 8) : rv x ar vn sk d a s (13 + j) = .int .i64 (sk.getD j 0) := by
 match j, hj with
 | 0, _ => rfl
 | 1, _ => rfl
 | 2, _ => rfl
 | 3, _ => rfl
 | 4, _ => rfl
 | 5, _ => rfl
 | 6, _ => rfl
 | 7, _ => rfl

def RG (w0 : World) (B : Nat) (w : World) (v : Value) (l : List Int) : Prop :=
 ∃ A c, v = .slice A l.length c ∧ l.length ≤ 8 ∧ l.length ≤ c ∧ (l = [] ∨ ∃ (b : Nat) (cur : Array Value), A = some ⟨b, 0, none⟩ ∧ w0.heap.size ≤ b ∧ b ≠ B ∧ w.heap[b]? = some (.cells cur 3) ∧ ∀ (k : Nat) (x : Int), l[k]? = some x → cur[k]? = some (Value.int .i64 x))
def hb (v : Value) : Option Nat := match v with | .slice (some a) (_ + 1) _ => some a.block | _ => none
theorem RG.hb {w0 w : World} {B : Nat} {v : Value} {l : List Int} (h : RG w0 B w v l) {b : Nat} (e : hb v = some b) : w0.heap.size ≤ b ∧ b ≠ B ∧ b < w.heap.size := by
 obtain ⟨A, c, rfl, _, _, h⟩ := h
 rcases h with rfl | ⟨b', cur, rfl, h1, h2, h3, _⟩
 ·cases A <;> cases e
 ·cases l with
  | nil => cases e
  | cons _ _ =>
   have e' : b' = b := Option.some.inj e
   subst e'
   exact ⟨h1, h2, (Array.getElem?_eq_some_iff.1 h3).1⟩
theorem RG.same {w0 w w' : World} {B : Nat} {v : Value} {l : List Int} (h : RG w0 B w v l) (hs : ∀ b, YtfbeiedhdmndnaaGreatDoor.hb v = some b → w'.heap[b]? = w.heap[b]?) : RG w0 B w' v l := by
 obtain ⟨A, c, rfl, hl, hcp, h⟩ := h
 refine ⟨A, c, rfl, hl, hcp, ?_⟩
 rcases h with rfl | ⟨b, cur, rfl, h1, h2, h3, h4⟩
 ·exact Or.inl rfl
 ·cases l with
  | nil => exact Or.inl rfl
  | cons _ _ => exact Or.inr ⟨b, cur, rfl, h1, h2, (hs b rfl).trans h3, h4⟩
theorem RG.form {w0 w : World} {B : Nat} {v : Value} {l : List Int} (h : RG w0 B w v l) : ∃ A c, v = .slice A l.length c ∧ l.length ≤ 8 := let ⟨A, c, h1, h2, _⟩ := h; ⟨A, c, h1, h2⟩
theorem RG.cell {w0 w : World} {B : Nat} {A : Option Addr} {n c : Nat} {l : List Int} (h : RG w0 B w (.slice A n c) l) {k : Nat} (hk : k < l.length) :
  ∃ b x, A = some ⟨b, 0, none⟩ ∧ YtfbeiedhdmndnaaGreatDoor.hb (.slice A n c) = some b ∧ l[k]? = some x ∧ b < w.heap.size ∧ b ≠ B ∧ w.cell? ⟨b, k, none⟩ = some (.int .i64 x) ∧ ∀ j, w.frozen? ⟨b, j, none⟩ = false := by
 obtain ⟨A', c', e, _, _, h⟩ := h
 cases e
 obtain ⟨x, hx⟩ := at_lt hk
 rcases h with rfl | ⟨b, cur, rfl, h1, h2, h3, h4⟩
 ·cases hx
 ·cases l with
  | nil => cases hx
  | cons _ _ => exact ⟨b, x, rfl, rfl, hx, (Array.getElem?_eq_some_iff.1 h3).1, h2, by simp [World.cell?, h3, h4 _ _ hx], fun j => by simp [World.frozen?, h3]⟩
theorem RG.set {w0 w : World} {B : Nat} {A : Option Addr} {n c b k : Nat} {l : List Int} (h : RG w0 B w (.slice A n c) l) (hA : A = some ⟨b, 0, none⟩) (hk : k < l.length) (y : Int) : RG w0 B (w.setCell ⟨b, k, none⟩ (.int .i64 y)) (.slice A n c) (l.set k y) := by
 obtain ⟨A', c', e, hl, hcp, h⟩ := h
 cases e
 refine ⟨A, c, by rw [List.length_set], by rw [List.length_set]; exact hl, by rw [List.length_set]; exact hcp, ?_⟩
 rcases h with rfl | ⟨b', cur, rfl, h1, h2, h3, h4⟩
 ·simp at hk
 ·cases hA
  refine Or.inr ⟨b, cur.setIfInBounds k (.int .i64 y), rfl, h1, h2, setCell_heap h3, fun j x hx => ?_⟩
  obtain ⟨z, hz⟩ := at_lt hk
  have hkc := (Array.getElem?_eq_some_iff.1 (h4 k z hz)).1
  by_cases e : k = j
  ·subst e
   rw [List.getElem?_set_self hk] at hx
   cases hx
   rw [Array.getElem?_setIfInBounds_self_of_lt hkc]
  ·rw [List.getElem?_set_ne e] at hx
   rw [Array.getElem?_setIfInBounds_ne e]
   exact h4 j x hx
theorem RG.ints {w0 w : World} {B : Nat} {v : Value} {l : List Int} (h : RG w0 B w v l) : Ints (fun b => w0.heap.size ≤ b) w v l := by
 obtain ⟨A, c, rfl, hl, hcp, h⟩ := h
 refine ⟨A, c, rfl, by omega, hcp, ?_⟩
 rcases h with rfl | ⟨b, cur, rfl, h1, h2, h3, h4⟩
 ·exact Or.inl rfl
 ·exact Or.inr ⟨b, 0, rfl, h1, (Array.getElem?_eq_some_iff.1 h3).1, fun k x hx => by
   show w.cell? ⟨b, 0 + k * 1, none⟩ = _
   rw [Nat.zero_add, Nat.mul_one]
   simp [World.cell?, h3, h4 _ _ hx]⟩

structure NT (w0 : World) (ex : Nat → Prop) (w : World) (v : Value) (l : List PNte) (us : List Value) : Prop where
 own : w.ownsRow w0.heap.size 79 3 v l.length ((List.zipWith (fun (n : PNte) u => [Value.int .i64 n.to, Value.int .i64 n.hd, u]) l us).flatten)
 len : us.length = l.length
 rd : ∀ (k : Nat) (n : PNte) (u : Value), l[k]? = some n → us[k]? = some u → Ints (fun b => w0.heap.size ≤ b ∧ ¬ ex b ∧ v.ownBlock ≠ some b) w u n.args
 nx : ∀ g, v.ownBlock = some g → ¬ ex g
theorem NT.same {w0 w w' : World} {ex : Nat → Prop} {v : Value} {l : List PNte} {us : List Value} (h : NT w0 ex w v l us) (hz : w.heap.size ≤ w'.heap.size) (hs : ∀ b, b < w.heap.size → ¬ ex b → w'.heap[b]? = w.heap[b]?) : NT w0 ex w' v l us :=
 ⟨own_block h.own fun g hg hlt => hs g hlt (h.nx g hg), h.len, fun k n u hn hu => (h.rd k n u hn hu).same ⟨hz, fun b hb hlt => hs b hlt hb.2.1⟩, h.nx⟩
theorem NT.form {w0 w : World} {ex : Nat → Prop} {v : Value} {l : List PNte} {us : List Value} (h : NT w0 ex w v l us) : ∃ A c, v = .slice A l.length c := by
 obtain ⟨h1, h2⟩ := h.own
 rcases h2 with ⟨rfl, h2⟩ | ⟨g, cap, cur, rfl, _⟩
 ·exact ⟨none, 0, by rw [h2]⟩
 ·exact ⟨_, cap, rfl⟩
theorem NT.nil (w0 w : World) (ex : Nat → Prop) : NT w0 ex w (.slice none 0 0) [] [] :=
 ⟨⟨rfl, Or.inl ⟨rfl, rfl⟩⟩, rfl, fun k n u hn => by simp at hn, fun g hg => by cases hg⟩
theorem NT.push {w0 w w1 w' : World} {ex : Nat → Prop} {v : Value} {l : List PNte} {us : List Value} {g cap : Nat} {n : PNte} {u : Value} (h : NT w0 ex w v l us) (hz : w0.heap.size ≤ w.heap.size) (hb1 : Below w.heap.size w w1)
  (hex : ∀ b, ex b → b < w.heap.size)
  (ho : w'.ownsRow w0.heap.size 79 3 (.slice (some ⟨g, 0, none⟩) (l.length + 1) cap) (l.length + 1) ((List.zipWith (fun (n : PNte) u => [Value.int .i64 n.to, Value.int .i64 n.hd, u]) l us).flatten ++ [Value.int .i64 n.to, Value.int .i64 n.hd, u]))
  (hg : w1.grownBy w' v.ownBlock) (hat : v.ownBlock = some g ∨ g = w1.heap.size) (hu : Ints (fun b => w.heap.size ≤ b) w1 u n.args) :
  NT w0 ex w' (.slice (some ⟨g, 0, none⟩) (l.length + 1) cap) (l ++ [n]) (us ++ [u]) := by
 have hs := hb1.size
 have hge : ∀ b, (Value.slice (some ⟨g, 0, none⟩) (l.length + 1) cap).ownBlock = some b → b = g := fun b hb => (Option.some.inj hb).symm
 refine ⟨?_, by simp [h.len], fun k n' u' hn hu' => ?_, fun b hb => ?_⟩
 ·rw [List.length_append, List.length_singleton]
  rw [List.zipWith_append (by rw [h.len]), List.flatten_append]
  simpa using ho
 ·by_cases hk : k < l.length
  ·rw [List.getElem?_append_left hk] at hn
   rw [List.getElem?_append_left (by rw [h.len]; exact hk)] at hu'
   have h1 := (h.rd k n' u' hn hu').lt
   refine (h1.imp (fun b hb => ⟨hb.1.1, hb.1.2.1, fun e => ?_⟩) (Nat.le_trans hs hg.size) fun b o x hb hlt hr => ?_)
   ·have := hge b e
    subst this
    rcases hat with hat | hat
    ·exact hb.1.2.2 hat
    ·have := hb.2; omega
   ·have e1 := hg.block b (by omega) (fun e => hb.1.2.2 e.symm)
    have e2 := hb1.block b hlt
    exact (World.cell?_of_block (w := w) (e1.trans e2)).trans hr
  ·have hk2 : k = l.length := by have := (List.getElem?_eq_some_iff.1 hn).1; simp at this; omega
   subst hk2
   rw [List.getElem?_append_right (by omega)] at hn
   rw [List.getElem?_append_right (by rw [h.len]; omega)] at hu'
   simp [h.len] at hn hu'
   subst hn hu'
   refine hu.lt.imp (fun b hb => ⟨by omega, fun e => ?_, fun e => ?_⟩) hg.size fun b o x hb hlt hr => ?_
   ·have := hex b e; omega
   ·have := hge b e
    subst this
    rcases hat with hat | hat
    ·have := (own_lt h.own hat).2; omega
    ·have := hb.2; omega
   ·refine (World.cell?_of_block (w := w1) (hg.block b hlt (fun e => ?_))).trans hr
    have := (own_lt h.own e.symm).2; omega
 ·have := hge b hb
  subst this
  rcases hat with hat | hat
  ·exact h.nx _ hat
  ·intro e; have := hex _ e; omega
theorem zip_lenV : ∀ (l : List PNte) (us : List Value), ∀ e ∈ List.zipWith (fun (n : PNte) u => [Value.int .i64 n.to, Value.int .i64 n.hd, u]) l us, e.length = 3
 | [], _, e, he => by simp at he
 | _ :: _, [], e, he => by simp at he
 | n :: l, u :: us, e, he => by
  rw [List.zipWith_cons_cons, List.mem_cons] at he
  rcases he with rfl | he
  ·rfl
  ·exact zip_lenV l us e he
theorem NT.ntes {w0 w : World} {ex : Nat → Prop} {v : Value} {l : List PNte} {us : List Value} (h : NT w0 ex w v l us) (hl : l.length ≤ 1000000) : Ntes (fun b => w0.heap.size ≤ b) (fun b => w0.heap.size ≤ b) w v l := by
 obtain ⟨h1, h2⟩ := h.own
 rcases h2 with ⟨rfl, h2⟩ | ⟨g, cap, cur, rfl, hb, hh, h3, h4, h5, h6⟩
 ·have : l = [] := by cases l with | nil => rfl | cons _ _ => simp at h2
  subst this; exact ⟨_, _, rfl, by simp, by simp, Or.inl rfl⟩
 ·refine ⟨_, cap, rfl, by omega, h3, Or.inr ⟨g, 0, rfl, hb, (Array.getElem?_eq_some_iff.1 hh).1, fun k n hn => ?_⟩⟩
  have hk := (List.getElem?_eq_some_iff.1 hn).1
  obtain ⟨u, hu⟩ := at_lt (l := us) (k := k) (by rw [h.len]; exact hk)
  have hz : (List.zipWith (fun (n : PNte) u => [Value.int .i64 n.to, Value.int .i64 n.hd, u]) l us)[k]? = some [Value.int .i64 n.to, Value.int .i64 n.hd, u] := by
   rw [List.getElem?_zipWith, hn, hu]
  have hcell : ∀ j, j < l.length * 3 → w.cell? ⟨g, j, none⟩ = ((List.zipWith (fun (n : PNte) u => [Value.int .i64 n.to, Value.int .i64 n.hd, u]) l us).flatten)[j]? := fun j hj => by
   rw [cell_of_row _ _ _ _ _ _ hh, ← h6, List.getElem?_take, if_pos hj]; simp
  have hc : ∀ j, j < 3 → w.cell? ⟨g, 0 + k * 3 + j, none⟩ = [Value.int .i64 n.to, Value.int .i64 n.hd, u][j]? := fun j hj => by
   rw [Nat.zero_add, hcell _ (by omega), flat_at _ (zip_lenV l us) k j hj, hz]; rfl
  exact ⟨hc 0 (by omega), hc 1 (by omega), u, hc 2 (by omega), (h.rd k n u hn hu).imp (fun b hb => hb.1) (Nat.le_refl _) fun _ _ _ _ _ h => h⟩

structure RM (w0 : World) (B : Nat) (x : FX) (vn : Value) (us : List Value) (sk : List Int) (s : MS) (w : World) : Prop where
 low : Below w0.heap.size w0 w
 row : w.rowIs B 147 24 (rv x s.armed vn sk s.st.length s.pc s.steps)
 base : w0.heap.size ≤ B
 skl : sk.length = 8
 stk : sk.take s.st.length = s.st.reverse
 st8 : s.st.length ≤ 8
 regs : RG w0 B w x.vr s.regs
 nts : NT w0 (fun b => b = B ∨ hb x.vr = some b) w vn s.notes us
section
variable {w0 w w1 w' : World} {B : Nat} {x : FX} {vn : Value} {us : List Value} {sk : List Int} {s : MS}
theorem RM.lt (h : RM w0 B x vn us sk s w) : B < w.heap.size := h.row.lt
theorem RM.below (h : RM w0 B x vn us sk s w) (hb : Below w.heap.size w w1) : RM w0 B x vn us sk s w1 :=
 ⟨bTrans h.low hb, h.row.of_block (hb.block B h.lt), h.base, h.skl, h.stk, h.st8, h.regs.same fun b e => hb.block b (h.regs.hb e).2.2, h.nts.same hb.size fun b hlt _ => hb.block b hlt⟩
theorem RM.setB (h : RM w0 B x vn us sk s w) (j : Nat) (u : Value) (s' : MS) (sk' : List Int) (hr : s'.regs = s.regs) (hn : s'.notes = s.notes) (hl : sk'.length = 8) (ht : sk'.take s'.st.length = s'.st.reverse) (h8 : s'.st.length ≤ 8)
  (hv : ∀ i, i < 24 → (if i = j then u else rv x s.armed vn sk s.st.length s.pc s.steps i) = rv x s'.armed vn sk' s'.st.length s'.pc s'.steps i) : RM w0 B x vn us sk' s' (w.setCell ⟨B, j, none⟩ u) := by
 have hne : ∀ b, b ≠ B → (w.setCell ⟨B, j, none⟩ u).heap[b]? = w.heap[b]? := fun b hb => Below.heap_setCell _ _ _ _ (fun e => hb (by have e' : b = B := e; exact e'))
 refine ⟨h.low.setCell h.base _, (h.row.set j u).congr hv, h.base, hl, ht, h8, ?_, ?_⟩
 ·rw [hr]; exact h.regs.same fun b e => hne b (h.regs.hb e).2.1
 ·rw [hn]; exact h.nts.same (by simp) fun b _ hb => hne b (fun e => hb (Or.inl e))
theorem RM.c (h : RM w0 B x vn us sk s w) (i : Nat) (hi : i < 24) : w.cell? ⟨B, i, none⟩ = some (rv x s.armed vn sk s.st.length s.pc s.steps i) := h.row.cell hi
theorem RM.fz (h : RM w0 B x vn us sk s w) (i : Nat) : w.frozen? ⟨B, i, none⟩ = false := h.row.frozen i
theorem RM.sc (h : RM w0 B x vn us sk s w) {j : Nat} (hj : j < 8) : w.cell? ⟨B, 13 + j, none⟩ = some (.int .i64 (sk.getD j 0)) := by rw [h.c _ (by omega), rv_sk hj]
end
end Go.Proofs.YtfbeiedhdmndnaaGreatDoor
namespace Go.Proofs.YtfbeiedhdmndnaaGreatDoor
open Go.RowKit

theorem ret_two {a b c d : Int} (h : a = c) (k : b = d) : Ending.returned (.tuple #[.int .i64 a, .int .i64 b]) = .returned (.tuple #[.int .i64 c, .int .i64 d]) := by rw [h, k]
theorem ret_one {a c : Int} {b d : Bool} (h : a = c) (k : b = d) : Ending.returned (.tuple #[.int .i64 a, .bool b]) = .returned (.tuple #[.int .i64 c, .bool d]) := by rw [h, k]

theorem truth_any (b : Bool) (w : World) : Calls Tryz.prog 177 #[.bool b] w fun e w' => e = .returned (.int .i64 (tr b)) ∧ w' = w := by
 cases b
 all_goals
  go_enter Tryz.func177, Tryz.ntmps177
  go_wp2
  go_ret
  exact ⟨rfl, rfl⟩
theorem divide_nought (op a : Int) (w : World) : Calls Tryz.prog 181 #[.int .i64 op, .int .i64 a, .int .i64 0] w fun e w' => e = .returned (.tuple #[.int .i64 0, .int .i64 3]) ∧ w' = w := by
 go_enter Tryz.func181, Tryz.ntmps181
 go_wp2
 go_ret2
 exact ⟨rfl, rfl⟩
theorem divide_div (a b : Int) (hb : b ≠ 0) (w : World) : Calls Tryz.prog 181 #[.int .i64 12, .int .i64 a, .int .i64 b] w fun e w' => e = .returned (.tuple #[.int .i64 (wrap64 (a.tdiv b)), .int .i64 0]) ∧ w' = w := by
 go_enter Tryz.func181, Tryz.ntmps181
 go_wp2
 go_ret2
 exact ⟨rfl, rfl⟩
theorem divide_mod (a b : Int) (hb : b ≠ 0) (w : World) : Calls Tryz.prog 181 #[.int .i64 13, .int .i64 a, .int .i64 b] w fun e w' => e = .returned (.tuple #[.int .i64 (a.tmod b), .int .i64 0]) ∧ w' = w := by
 go_enter Tryz.func181, Tryz.ntmps181
 go_wp2
 go_ret2
 exact ⟨rfl, rfl⟩
set_option maxHeartbeats 400000 in
theorem two_add (a b : Int) (w : World) : Calls Tryz.prog 176 #[.int .i64 9, .int .i64 a, .int .i64 b] w fun e w' => e = .returned (.tuple #[.int .i64 (tw 9 a b), .int .i64 (dn 9 b)]) ∧ w' = w := by
 go_enter Tryz.func176, Tryz.ntmps176
 go_wp2
 go_ret2
 exact ⟨ret_two rfl rfl, rfl⟩

set_option maxHeartbeats 400000 in
theorem two_sub (a b : Int) (w : World) : Calls Tryz.prog 176 #[.int .i64 10, .int .i64 a, .int .i64 b] w fun e w' => e = .returned (.tuple #[.int .i64 (tw 10 a b), .int .i64 (dn 10 b)]) ∧ w' = w := by
 go_enter Tryz.func176, Tryz.ntmps176
 go_wp2
 go_ret2
 exact ⟨ret_two rfl rfl, rfl⟩

set_option maxHeartbeats 400000 in
theorem two_mul (a b : Int) (w : World) : Calls Tryz.prog 176 #[.int .i64 11, .int .i64 a, .int .i64 b] w fun e w' => e = .returned (.tuple #[.int .i64 (tw 11 a b), .int .i64 (dn 11 b)]) ∧ w' = w := by
 go_enter Tryz.func176, Tryz.ntmps176
 go_wp2
 go_ret2
 exact ⟨ret_two rfl rfl, rfl⟩

set_option maxHeartbeats 400000 in
theorem two_div0 (a : Int) (w : World) : Calls Tryz.prog 176 #[.int .i64 12, .int .i64 a, .int .i64 0] w fun e w' => e = .returned (.tuple #[.int .i64 (tw 12 a 0), .int .i64 (dn 12 0)]) ∧ w' = w := by
 go_enter Tryz.func176, Tryz.ntmps176
 go_wp2_with (go_at_call 181; refine (divide_nought _ _ _).mono ?_; rintro e w' ⟨rfl, rfl⟩)
 go_ret2
 exact ⟨ret_two rfl rfl, rfl⟩

set_option maxHeartbeats 400000 in
theorem two_div (a b : Int) (hb : b ≠ 0) (w : World) : Calls Tryz.prog 176 #[.int .i64 12, .int .i64 a, .int .i64 b] w fun e w' => e = .returned (.tuple #[.int .i64 (tw 12 a b), .int .i64 (dn 12 b)]) ∧ w' = w := by
 go_enter Tryz.func176, Tryz.ntmps176
 go_wp2_with (go_at_call 181; refine (divide_div _ _ hb _).mono ?_; rintro e w' ⟨rfl, rfl⟩)
 go_ret2
 exact ⟨ret_two (tw_div hb).symm (dn_div hb).symm, rfl⟩

set_option maxHeartbeats 400000 in
theorem two_mod0 (a : Int) (w : World) : Calls Tryz.prog 176 #[.int .i64 13, .int .i64 a, .int .i64 0] w fun e w' => e = .returned (.tuple #[.int .i64 (tw 13 a 0), .int .i64 (dn 13 0)]) ∧ w' = w := by
 go_enter Tryz.func176, Tryz.ntmps176
 go_wp2_with (go_at_call 181; refine (divide_nought _ _ _).mono ?_; rintro e w' ⟨rfl, rfl⟩)
 go_ret2
 exact ⟨ret_two rfl rfl, rfl⟩

set_option maxHeartbeats 400000 in
theorem two_mod (a b : Int) (hb : b ≠ 0) (w : World) : Calls Tryz.prog 176 #[.int .i64 13, .int .i64 a, .int .i64 b] w fun e w' => e = .returned (.tuple #[.int .i64 (tw 13 a b), .int .i64 (dn 13 b)]) ∧ w' = w := by
 go_enter Tryz.func176, Tryz.ntmps176
 go_wp2_with (go_at_call 181; refine (divide_mod _ _ hb _).mono ?_; rintro e w' ⟨rfl, rfl⟩)
 go_ret2
 exact ⟨ret_two (tw_mod hb).symm (dn_mod hb).symm, rfl⟩

set_option maxHeartbeats 400000 in
theorem two_eq (a b : Int) (w : World) : Calls Tryz.prog 176 #[.int .i64 15, .int .i64 a, .int .i64 b] w fun e w' => e = .returned (.tuple #[.int .i64 (tw 15 a b), .int .i64 (dn 15 b)]) ∧ w' = w := by
 go_enter Tryz.func176, Tryz.ntmps176
 go_wp2_with (go_at_call 177; refine (truth_any _ _).mono ?_; rintro e w' ⟨rfl, rfl⟩)
 go_ret2
 exact ⟨ret_two rfl rfl, rfl⟩

set_option maxHeartbeats 400000 in
theorem two_less (a b : Int) (w : World) : Calls Tryz.prog 176 #[.int .i64 16, .int .i64 a, .int .i64 b] w fun e w' => e = .returned (.tuple #[.int .i64 (tw 16 a b), .int .i64 (dn 16 b)]) ∧ w' = w := by
 go_enter Tryz.func176, Tryz.ntmps176
 go_wp2_with (go_at_call 177; refine (truth_any _ _).mono ?_; rintro e w' ⟨rfl, rfl⟩)
 go_ret2
 exact ⟨ret_two rfl rfl, rfl⟩

set_option maxHeartbeats 400000 in
theorem two_and (a b : Int) (w : World) : Calls Tryz.prog 176 #[.int .i64 17, .int .i64 a, .int .i64 b] w fun e w' => e = .returned (.tuple #[.int .i64 (tw 17 a b), .int .i64 (dn 17 b)]) ∧ w' = w := by
 by_cases ha : a = 0 <;> by_cases hb : b = 0
 all_goals
  first | subst ha | skip
  first | subst hb | skip
  go_enter Tryz.func176, Tryz.ntmps176
  go_wp2_with (go_at_call 177; refine (truth_any _ _).mono ?_; rintro e w' ⟨rfl, rfl⟩)
  go_ret2
  exact ⟨ret_two (by rw [tw_and]; try exact congrArg tr (by simp [*])) rfl, rfl⟩

set_option maxHeartbeats 400000 in
theorem two_or (a b : Int) (w : World) : Calls Tryz.prog 176 #[.int .i64 18, .int .i64 a, .int .i64 b] w fun e w' => e = .returned (.tuple #[.int .i64 (tw 18 a b), .int .i64 (dn 18 b)]) ∧ w' = w := by
 by_cases ha : a = 0 <;> by_cases hb : b = 0
 all_goals
  first | subst ha | skip
  first | subst hb | skip
  go_enter Tryz.func176, Tryz.ntmps176
  go_wp2_with (go_at_call 177; refine (truth_any _ _).mono ?_; rintro e w' ⟨rfl, rfl⟩)
  go_ret2
  exact ⟨ret_two (by rw [tw_or]; try exact congrArg tr (by simp [*])) rfl, rfl⟩
set_option maxHeartbeats 400000 in
theorem two_else (op a b : Int) (h : op ≠ 9 ∧ op ≠ 10 ∧ op ≠ 11 ∧ op ≠ 12 ∧ op ≠ 13 ∧ op ≠ 15 ∧ op ≠ 16 ∧ op ≠ 17 ∧ op ≠ 18) (w : World) : Calls Tryz.prog 176 #[.int .i64 op, .int .i64 a, .int .i64 b] w fun e w' => e = .returned (.tuple #[.int .i64 (tw op a b), .int .i64 (dn op b)]) ∧ w' = w := by
 obtain ⟨h1, h2, h3, h4, h5, h6, h7, h8, h9⟩ := h
 have e1 : tw op a b = 0 := by simp [tw, *]
 have e2 : dn op b = 0 := by simp [dn, *]
 rw [e1, e2]
 go_enter Tryz.func176, Tryz.ntmps176
 go_wp2
 go_ret2
 exact ⟨rfl, rfl⟩
theorem two_any (op a b : Int) (w : World) : Calls Tryz.prog 176 #[.int .i64 op, .int .i64 a, .int .i64 b] w fun e w' => e = .returned (.tuple #[.int .i64 (tw op a b), .int .i64 (dn op b)]) ∧ w' = w := by
 by_cases h1 : op = 9
 ·subst h1; exact two_add a b w
 by_cases h2 : op = 10
 ·subst h2; exact two_sub a b w
 by_cases h3 : op = 11
 ·subst h3; exact two_mul a b w
 by_cases h4 : op = 12
 ·subst h4
  by_cases hb : b = 0
  ·subst hb; exact two_div0 a w
  ·exact two_div a b hb w
 by_cases h5 : op = 13
 ·subst h5
  by_cases hb : b = 0
  ·subst hb; exact two_mod0 a w
  ·exact two_mod a b hb w
 by_cases h6 : op = 15
 ·subst h6; exact two_eq a b w
 by_cases h7 : op = 16
 ·subst h7; exact two_less a b w
 by_cases h8 : op = 17
 ·subst h8; exact two_and a b w
 by_cases h9 : op = 18
 ·subst h9; exact two_or a b w
 exact two_else op a b ⟨h1, h2, h3, h4, h5, h6, h7, h8, h9⟩ w
theorem one_any (op a : Int) (w : World) : Calls Tryz.prog 161 #[.int .i64 op, .int .i64 a] w fun e w' => e = .returned (.tuple #[.int .i64 (on op a), .bool (ok op)]) ∧ w' = w := by
 by_cases h1 : op = 14
 ·subst h1
  go_enter Tryz.func161, Tryz.ntmps161
  go_wp2
  go_ret2
  exact ⟨ret_one (by rw [on_neg]) rfl, rfl⟩
 by_cases h2 : op = 19
 ·subst h2
  go_enter Tryz.func161, Tryz.ntmps161
  go_wp2_with (go_at_call 177; refine (truth_any _ _).mono ?_; rintro e w' ⟨rfl, rfl⟩)
  go_ret2
  exact ⟨ret_one rfl rfl, rfl⟩
 have e1 : on op a = 0 := by simp [on, *]
 have e2 : ok op = false := by simp [ok, *]
 rw [e1, e2]
 go_enter Tryz.func161, Tryz.ntmps161
 go_wp2
 go_ret2
 exact ⟨rfl, rfl⟩

end Go.Proofs.YtfbeiedhdmndnaaGreatDoor
namespace Go.Proofs.YtfbeiedhdmndnaaGreatDoor
open Go.RowKit
attribute [local go_sem ↓] Go.wp_at_zero Go.wp_at_succ

theorem take_set {sk st : List Int} {n : Int} (hl : sk.length = 8) (ht : sk.take st.length = st.reverse) (h8 : st.length < 8) : (sk.set st.length n).take (n :: st).length = (n :: st).reverse := by
 rw [List.length_cons, List.take_add_one, List.getElem?_set_self (by omega), List.take_set_of_le (Nat.le_refl _), ht, List.reverse_cons]
 rfl
theorem take_tail {sk st : List Int} (ht : sk.take st.length = st.reverse) : sk.take st.tail.length = st.tail.reverse := by
 cases st with
 | nil => simp
 | cons a r =>
  have := congrArg (List.take r.length) ht
  rw [List.take_take, List.reverse_cons, List.length_cons, Nat.min_eq_left (by omega), List.take_append_of_le_length (by rw [List.length_reverse]; exact Nat.le_refl _), List.take_of_length_le (l := r.reverse) (by rw [List.length_reverse]; exact Nat.le_refl _)] at this
  exact this
theorem sk_at {sk st : List Int} {j : Nat} (ht : sk.take st.length = st.reverse) (hj : j < st.length) : sk.getD (st.length - 1 - j) 0 = st.getD j 0 := by
 have h1 : (sk.take st.length)[st.length - 1 - j]? = sk[st.length - 1 - j]? := by rw [List.getElem?_take, if_pos (by omega)]
 rw [List.getD_eq_getElem?_getD, ← h1, ht, List.getElem?_reverse (by omega), List.getD_eq_getElem?_getD]
 congr 2
 omega
section
variable {w0 w : World} {B : Nat} {x : FX} {vn : Value} {us : List Value} {sk : List Int} {s : MS}
theorem rv_put {x : FX} {ar : Bool} {vn : Value} {sk : List Int} {d a st : Int} {k : Nat} {n : Int} (hk : k < 8) (hl : sk.length = 8) : ∀ i, i < 24 → (if i = 13 + k then Value.int .i64 n else rv x ar vn sk d a st i) = rv x ar vn (sk.set k n) d a st i := by
 intro i hi
 by_cases e : i = 13 + k
 ·rw [if_pos e, e, rv_sk hk, List.getD_eq_getElem?_getD, List.getElem?_set_self (by omega)]; rfl
 ·rw [if_neg e]
  by_cases h1 : 13 ≤ i ∧ i < 21
  ·obtain ⟨j, rfl⟩ : ∃ j, i = 13 + j := ⟨i - 13, by omega⟩
   rw [rv_sk (by omega), rv_sk (by omega), List.getD_eq_getElem?_getD, List.getD_eq_getElem?_getD, List.getElem?_set_ne (by omega)]
  ·have : i = 0 ∨ i = 1 ∨ i = 2 ∨ i = 3 ∨ i = 4 ∨ i = 5 ∨ i = 6 ∨ i = 7 ∨ i = 8 ∨ i = 9 ∨ i = 10 ∨ i = 11 ∨ i = 12 ∨ i = 21 ∨ i = 22 ∨ i = 23 := by omega
   rcases this with rfl | rfl | rfl | rfl | rfl | rfl | rfl | rfl | rfl | rfl | rfl | rfl | rfl | rfl | rfl | rfl <;> rfl
theorem rv_dep {x : FX} {ar : Bool} {vn : Value} {sk : List Int} {d d' a st : Int} : ∀ i, i < 24 → (if i = 21 then Value.int .i64 d' else rv x ar vn sk d a st i) = rv x ar vn sk d' a st i := by
 intro i hi
 by_cases e : i = 21
 ·rw [if_pos e, e]; rfl
 ·rw [if_neg e]
  unfold rv
  split <;> first | rfl | omega
theorem RM.put1 (h : RM w0 B x vn us sk s w) (n : Int) (h8 : s.st.length < 8) : RM w0 B x vn us (sk.set s.st.length n) s (w.setCell ⟨B, 13 + s.st.length, none⟩ (.int .i64 n)) :=
 h.setB _ _ s _ rfl rfl (by rw [List.length_set]; exact h.skl) (by rw [List.take_set_of_le (Nat.le_refl _)]; exact h.stk) h.st8 (rv_put h8 h.skl)
theorem RM.put (h : RM w0 B x vn us sk s w) (n : Int) (h8 : s.st.length < 8) : RM w0 B x vn us (sk.set s.st.length n) { s with st := n :: s.st } ((w.setCell ⟨B, 13 + s.st.length, none⟩ (.int .i64 n)).setCell ⟨B, 21, none⟩ (.int .i64 ((s.st.length : Int) + 1))) := by
 have hl : (sk.set s.st.length n).length = 8 := by rw [List.length_set]; exact h.skl
 refine (h.put1 n h8).setB _ _ { s with st := n :: s.st } _ rfl rfl hl (take_set h.skl h.stk h8) (by simp; omega) ?_
 have e : (((n :: s.st).length : Nat) : Int) = (s.st.length : Int) + 1 := by simp
 show ∀ i, i < 24 → _ = rv x s.armed vn _ (((n :: s.st).length : Nat) : Int) s.pc s.steps i
 rw [e]
 exact rv_dep
theorem RM.pop (h : RM w0 B x vn us sk s w) (h0 : 0 < s.st.length) : RM w0 B x vn us sk { s with st := s.st.tail } (w.setCell ⟨B, 21, none⟩ (.int .i64 ((s.st.length : Int) - 1))) := by
 refine h.setB _ _ { s with st := s.st.tail } _ rfl rfl h.skl (take_tail h.stk) (by have := h.st8; simp; omega) ?_
 have e : ((s.st.tail.length : Nat) : Int) = (s.st.length : Int) - 1 := by simp; omega
 show ∀ i, i < 24 → _ = rv x s.armed vn _ ((s.st.tail.length : Nat) : Int) s.pc s.steps i
 rw [e]
 exact rv_dep

set_option maxHeartbeats 400000 in
theorem put_any (h : RM w0 B x vn us sk s w) (n : Int) (h8 : s.st.length < 8) :
  Calls Tryz.prog 156 #[.pointer (some ⟨B, 0, none⟩), .int .i64 n] w fun e w' => e = .returned (.tuple #[]) ∧ ∃ sk', RM w0 B x vn us sk' { s with st := n :: s.st } w' := by
 have HN : Hid (RM w0 B x vn us (sk.set s.st.length n) { s with st := n :: s.st } ((w.setCell ⟨B, 13 + s.st.length, none⟩ (.int .i64 n)).setCell ⟨B, 21, none⟩ (.int .i64 ((s.st.length : Int) + 1)))) := h.put n h8
 have q1 : w.cell? ⟨B, 21, none⟩ = some (.int .i64 s.st.length) := h.c 21 (by omega)
 have q2 := h.sc h8
 have f1 := h.fz 21
 have f2 := h.fz (13 + s.st.length)
 have hB := h.lt
 have q3 : (w.drew.setCell ⟨B, 13 + s.st.length, none⟩ (.int .i64 n)).cell? ⟨B, 21, none⟩ = some (.int .i64 s.st.length) := ((h.below (bRefl w).drew).put1 n h8).c 21 (by omega)
 have f3 : (w.drew.setCell ⟨B, 13 + s.st.length, none⟩ (.int .i64 n)).frozen? ⟨B, 21, none⟩ = false := ((h.below (bRefl w).drew).put1 n h8).fz 21
 obtain ⟨d, hd⟩ : ∃ d, s.st.length = d := ⟨_, rfl⟩
 rw [hd] at q1 q2 f2 HN h8 q3 f3
 clear h
 go_enter Tryz.func156, Tryz.ntmps156
 go_wp2
 go_region
 go_wp2
 (try simp only [Exit.inBlock, Exit.then]); refine bodyPost_end (results_none rfl _ _ _) rfl ?_
 exact ⟨rfl, _, HN.out.below (bRefl _).drew⟩

set_option maxHeartbeats 400000 in
theorem take_any (h : RM w0 B x vn us sk s w) (h0 : 0 < s.st.length) :
  Calls Tryz.prog 157 #[.pointer (some ⟨B, 0, none⟩)] w fun e w' => e = .returned (.int .i64 (hd0 s.st)) ∧ RM w0 B x vn us sk { s with st := s.st.tail } w' ∧ ∀ b, b ≠ B → w'.heap[b]? = w.heap[b]? := by
 have HN : Hid (RM w0 B x vn us sk { s with st := s.st.tail } (w.setCell ⟨B, 21, none⟩ (.int .i64 ((s.st.length : Int) - 1)))) := h.pop h0
 have q1 : w.cell? ⟨B, 21, none⟩ = some (.int .i64 s.st.length) := h.c 21 (by omega)
 have f1 := h.fz 21
 have hB := h.lt
 have h8 := h.st8
 have HV : Hid (sk.getD (s.st.length - 1) 0 = hd0 s.st) := by
  show _ = _
  have := sk_at (j := 0) h.stk h0
  rw [Nat.sub_zero] at this
  rw [this]
  cases s.st <;> rfl
 have q2 : (w.setCell ⟨B, 21, none⟩ (.int .i64 ((s.st.length : Int) - 1))).cell? ⟨B, 13 + (s.st.length - 1), none⟩ = some (.int .i64 (sk.getD (s.st.length - 1) 0)) := (h.pop h0).sc (by omega)
 obtain ⟨d, hd⟩ : ∃ d, s.st.length = d + 1 := ⟨s.st.length - 1, by omega⟩
 rw [hd] at q1 q2 HN HV h8
 have ed : (((d + 1 : Nat) : Int) - 1) = (d : Int) := by omega
 rw [ed] at q2 HN
 rw [Nat.add_sub_cancel] at q2 HV
 have h7 : d < 8 := by omega
 clear h
 go_enter Tryz.func157, Tryz.ntmps157
 go_wp2
 go_region
 go_wp2
 go_ret
 exact ⟨ret_int HV.out, HN.out.below (bRefl _).drew, fun b hb => Below.heap_setCell _ _ _ _ (fun e => hb (by have e' : b = B := e; exact e'))⟩

set_option maxHeartbeats 400000 in
theorem load_any (h : RM w0 B x vn us sk s w) (a : Int) (h0 : 0 ≤ a) :
  Calls Tryz.prog 158 #[.pointer (some ⟨B, 0, none⟩), .int .i64 a] w fun e w' => e = .returned (.int .i64 (s.regs.getD a.toNat 0)) ∧ w' = w := by
 have q1 : w.cell? ⟨B, 7, none⟩ = some x.vr := h.c 7 (by omega)
 have hR := h.regs
 have hB := h.lt
 obtain ⟨A, c, hv, hl⟩ := hR.form
 rw [hv] at q1 hR
 obtain ⟨k, rfl⟩ := Int.eq_ofNat_of_zero_le h0
 clear h hv
 by_cases hk : k < s.regs.length
 ·obtain ⟨b, y, rfl, _, hy, hlt, hbB, q2, _⟩ := hR.cell hk
  have HV : Hid (y = s.regs.getD (k : Int).toNat 0) := by show _ = _; rw [Int.toNat_natCast, List.getD_eq_getElem?_getD, hy]; rfl
  clear hy
  go_enter Tryz.func158, Tryz.ntmps158
  go_wp2
  go_ret
  exact ⟨ret_int HV.out, rfl⟩
 ·have HV : Hid (0 = s.regs.getD (k : Int).toNat 0) := by show _ = _; rw [Int.toNat_natCast, List.getD_eq_getElem?_getD, List.getElem?_eq_none (by omega)]; rfl
  go_enter Tryz.func158, Tryz.ntmps158
  go_wp2
  go_ret
  exact ⟨ret_int HV.out, rfl⟩
theorem RM.reg (h : RM w0 B x vn us sk s w) {A : Option Addr} {n c b k : Nat} (hv : x.vr = .slice A n c) (hA : A = some ⟨b, 0, none⟩) (hk : k < s.regs.length) (y : Int) : RM w0 B x vn us sk { s with regs := s.regs.set k y } (w.setCell ⟨b, k, none⟩ (.int .i64 y)) := by
 have hR := h.regs
 rw [hv] at hR
 obtain ⟨b', z, e, hh, _, _, hbB, _⟩ := hR.cell hk
 rw [hA] at e
 cases e
 have hg := hR.hb hh
 have hne : ∀ b', b' ≠ b → (w.setCell ⟨b, k, none⟩ (.int .i64 y)).heap[b']? = w.heap[b']? := fun b' hb => Below.heap_setCell _ _ _ _ (fun e => hb (by have e' : b' = b := e; exact e'))
 refine ⟨h.low.setCell hg.1 _, h.row.setOther (by exact Ne.symm hbB) _, h.base, h.skl, h.stk, h.st8, by rw [hv]; exact hR.set hA hk y, h.nts.same (by simp) fun b' _ hb => hne b' (fun e => hb (Or.inr (by rw [hv, e]; exact hh)))⟩

set_option maxHeartbeats 400000 in
theorem store_any (h : RM w0 B x vn us sk s w) (a n : Int) (h0 : 0 ≤ a) :
  Calls Tryz.prog 159 #[.pointer (some ⟨B, 0, none⟩), .int .i64 a, .int .i64 n] w fun e w' => e = .returned (.tuple #[]) ∧ RM w0 B x vn us sk { s with regs := s.regs.set a.toNat n } w' := by
 have q1 : w.cell? ⟨B, 7, none⟩ = some x.vr := h.c 7 (by omega)
 have hR := h.regs
 have hB := h.lt
 obtain ⟨A, c, hv, hl⟩ := hR.form
 rw [hv] at q1 hR
 obtain ⟨k, rfl⟩ := Int.eq_ofNat_of_zero_le h0
 by_cases hk : k < s.regs.length
 ·obtain ⟨b, y, rfl, _, hy, hlt, hbB, q2, hf⟩ := hR.cell hk
  have HN : Hid (RM w0 B x vn us sk { s with regs := s.regs.set k n } (w.setCell ⟨b, k, none⟩ (.int .i64 n))) := h.reg hv rfl hk n
  have f2 := hf k
  clear hy h hv hR hf
  go_enter Tryz.func159, Tryz.ntmps159
  go_wp2
  (try simp only [Exit.inBlock, Exit.then]); refine bodyPost_end (results_none rfl _ _ _) rfl ?_
  exact ⟨rfl, HN.out⟩
 ·have HN : Hid (RM w0 B x vn us sk { s with regs := s.regs.set k n } w) := by
   rw [List.set_eq_of_length_le (by omega)]; exact h
  clear h hv hR
  go_enter Tryz.func159, Tryz.ntmps159
  go_wp2
  (try simp only [Exit.inBlock, Exit.then]); refine bodyPost_end (results_none rfl _ _ _) rfl ?_
  exact ⟨rfl, HN.out⟩

set_option maxHeartbeats 400000 in
theorem mtwo_any (h : RM w0 B x vn us sk s w) (op : Int) (h2 : 2 ≤ s.st.length) :
  Calls Tryz.prog 160 #[.pointer (some ⟨B, 0, none⟩), .int .i64 op] w fun e w' => e = .returned (.int .i64 (dn op (hd0 s.st))) ∧ ∃ sk', RM w0 B x vn us sk' { s with st := tw op (hd0 s.st.tail) (hd0 s.st) :: s.st.tail.tail } w' := by
 have HH : Hid (RM w0 B x vn us sk s w) := h
 have HL : Hid (2 ≤ s.st.length ∧ s.st.length ≤ 8) := ⟨h2, h.st8⟩
 clear h h2
 go_enter Tryz.func160, Tryz.ntmps160
 go_wp2_with fail
 refine (take_any HH.out (by have := HL.out; omega)).mono ?_
 rintro e w1 ⟨rfl, h1, _⟩
 have H1 : Hid (RM w0 B x vn us sk { s with st := s.st.tail } w1) := h1
 clear h1
 go_wp2_with fail
 refine (take_any H1.out (by have := HL.out; simp; omega)).mono ?_
 rintro e w2 ⟨rfl, h2, _⟩
 have H2 : Hid (RM w0 B x vn us sk { s with st := s.st.tail.tail } w2) := h2
 clear h2
 go_wp2_with fail
 refine (two_any _ _ _ _).mono ?_
 rintro e w3 ⟨rfl, rfl⟩
 go_wp2_with fail
 refine (put_any H2.out _ (by have := HL.out; simp; omega)).mono ?_
 rintro e w4 ⟨rfl, sk', h4⟩
 go_wp2
 go_ret
 exact ⟨rfl, sk', h4⟩
end
end Go.Proofs.YtfbeiedhdmndnaaGreatDoor
namespace Go.Proofs.YtfbeiedhdmndnaaGreatDoor
open Go.RowKit
attribute [local go_sem ↓] Go.wp_at_zero Go.wp_at_succ

theorem step_append_run {P : Program} {ops : Array Oper} {o : Oper} {a : Act} {w : World} {K : Act → World → Prop} {Q : Exit → Act → World → Prop} {E : Prop} (hgd : o.guard = none) (s x : Operand) (t : TypeId)
  (ho : o.op = .call { callee := .builtin .append, args := #[s, x], argTypes := #[t, t] }) (v1 v2 v' : Value) (w' : World) (hs : a.eval s = v1) (hx : a.eval x = v2)
  (hrun : ∀ ty, (Builtin.append_ #[t, t] ty #[v1, v2]).run P w = .ok v' w') (h : K (a.put o.dst v') w') : if Region.wanted o (yielded ops a.tmps) = true then Oper.wp P o a w K Q else E := by
 have hw : Region.wanted o (yielded ops a.tmps) = true := by simp [Region.wanted, hgd]
 rw [if_pos hw]
 unfold Oper.wp
 simp [execOp, ho, resolve, invoke, builtin, hs, hx, hrun, Result.andThen]
 exact h
def NewI (w : World) (w' : World) (v : Value) (l : List Int) : Prop := Ints (fun b => w.heap.size ≤ b) w' v l ∧ Below w.heap.size w w' ∧ ∃ A c, v = .slice A l.length c
theorem run_copyI (w : World) (A : Option Addr) (n c : Nat) (l : List Int) (hl : l.length = n) (hn : n ≤ 1000) (h : n = 0 ∨ ∃ b o, A = some ⟨b, o, none⟩ ∧ ∀ k y, l[k]? = some y → w.cell? ⟨b, o + k, none⟩ = some (.int .i64 y)) :
  ∃ A' c' w', (∀ ty, (Builtin.append_ #[54, 54] ty #[.slice none 0 0, .slice A n c]).run Tryz.prog w = .ok (.slice A' n c') w') ∧ NewI w w' (.slice A' n c') l := by
 obtain ⟨i0, hi0, hz0, hz1, hz2⟩ := info_parts info3
 subst hl
 by_cases h0 : l = []
 ·subst h0
  exact ⟨none, 0, w, fun ty => run_append_empty 54 ty 3 i0 Tryz.underlying54 hi0 A c, ⟨_, _, rfl, by simp, by simp, Or.inl rfl⟩, bRefl w, _, _, rfl⟩
 ·rcases h with h | ⟨b, o, rfl, hc⟩
  ·exact absurd (List.eq_nil_of_length_eq_zero h) h0
  ·have hp : 0 < l.length := List.length_pos_iff.2 h0
   have hadd : ∀ j, (⟨b, o, none⟩ : Addr).add j = ⟨b, o + j, none⟩ := fun j => by
    unfold Addr.add
    by_cases h0 : j = 0
    ·subst h0; rfl
    ·rw [if_neg h0]
   have hr := fun ty => run_append_nil w 54 ty 3 i0 _ Tryz.underlying54 hi0 hz0 ⟨b, o, none⟩ l.length c (l.map (Value.int .i64)) (by simp [hz1]) (fun j u hu => by
    rw [hadd]
    rw [List.getElem?_map] at hu
    cases hx : l[j]? with
    | none => rw [hx] at hu; cases hu
    | some y => rw [hx] at hu; cases hu; exact hc j y hx) (by omega) (by omega) (by rw [hz2]; omega)
   refine ⟨_, _, _, hr, ⟨_, _, rfl, by omega, grownCap_ge _ _ _ _, Or.inr ⟨w.heap.size, 0, rfl, Nat.le_refl _, by simp, fun k y hy => ?_⟩⟩, bAlloc (bRefl w).drew _, _, _, rfl⟩
   have hk := (List.getElem?_eq_some_iff.1 hy).1
   show World.cell? _ ⟨w.heap.size, 0 + k * 1, none⟩ = _
   rw [Nat.zero_add, Nat.mul_one]
   have hh : ∀ (cs : Array Value), (w.drew.alloc (.cells cs 3)).cell? ⟨w.heap.size, k, none⟩ = cs[k]? := fun cs => by
    have h2 : (w.drew.alloc (.cells cs 3)).heap[w.heap.size]? = some (.cells cs 3) := heap_new w.drew (.cells cs 3)
    rw [cell_of_row _ _ _ _ _ _ h2]
   rw [hh, Array.getElem?_append_left (by simpa using hk)]
   simp [hy]
section
variable {w0 w w1 w' : World} {B : Nat} {x : FX} {vn : Value} {us : List Value} {sk : List Int} {s : MS}
theorem RM.drop (h : RM w0 B x vn us sk s w) (k : Nat) (hk : k ≤ s.st.length) : RM w0 B x vn us sk { s with st := s.st.drop k } (w.setCell ⟨B, 21, none⟩ (.int .i64 ((s.st.length : Int) - k))) := by
 refine h.setB _ _ { s with st := s.st.drop k } _ rfl rfl h.skl ?_ (by have := h.st8; simp; omega) ?_
 ·show sk.take (s.st.drop k).length = (s.st.drop k).reverse
  have := congrArg (List.take (s.st.drop k).length) h.stk
  rw [List.take_take, Nat.min_eq_left (by simp)] at this
  rw [this]
  have e : s.st.reverse = (s.st.drop k).reverse ++ (s.st.take k).reverse := by rw [← List.reverse_append, List.take_append_drop]
  rw [e, List.take_append_of_le_length (by rw [List.length_reverse]; exact Nat.le_refl _), List.take_of_length_le (by rw [List.length_reverse]; exact Nat.le_refl _)]
 ·have e : (((s.st.drop k).length : Nat) : Int) = (s.st.length : Int) - k := by simp; omega
  show ∀ i, i < 24 → _ = rv x s.armed vn _ (((s.st.drop k).length : Nat) : Int) s.pc s.steps i
  rw [e]
  exact rv_dep
theorem RM.sent (h : RM w0 B x vn us sk s w) {k j : Nat} {y : Int} (hk : k ≤ s.st.length) (hj : (s.st.take k).reverse[j]? = some y) : s.st.length - k + j < 8 ∧ sk.getD (s.st.length - k + j) 0 = y := by
 have hjk : j < k := by have := (List.getElem?_eq_some_iff.1 hj).1; simp at this; omega
 have h8 := h.st8
 have e : s.st.length - k + j = s.st.length - 1 - (k - 1 - j) := by omega
 refine ⟨by omega, ?_⟩
 rw [e, sk_at h.stk (by omega)]
 rw [List.getElem?_reverse (by simp; omega), List.length_take, Nat.min_eq_left hk, List.getElem?_take, if_pos (by omega)] at hj
 rw [List.getD_eq_getElem?_getD, hj]; rfl
theorem slice8 (W : World) (B m k : Nat) (hm : m < 8) (h : m + k ≤ 8) : (Instr.sliceAt 145 (.pointer (some ⟨B, 13, none⟩)) (some (.int .i64 (m : Int))) (some (.int .i64 ((m : Int) + k))) none).run Tryz.prog W = .ok (.slice (some ⟨B, 13 + m, none⟩) k (8 - m)) W := by
 have al : Tryz.prog.arrayLen 145 = 8 := by kernel_rfl
 have el : Tryz.prog.elem 145 = 3 := by kernel_rfl
 obtain ⟨i0, hi0, hz0, hz1, hz2⟩ := info_parts info3
 have hu : Tryz.prog.underlying 145 = some (.array (Tryz.prog.arrayLen 145) (Tryz.prog.elem 145)) := by rw [al, el]; exact Tryz.underlying145
 rw [run_sliceAt_array_lh W 145 ⟨B, 13, none⟩ hu .i64 .i64 (m : Int) ((m : Int) + k) (by omega) (by omega) (by rw [al]; omega)]
 have e1 : ((m : Int) + k).toNat = m + k := by omega
 have e2 : (⟨B, 13, none⟩ : Addr).add m = ⟨B, 13 + m, none⟩ := by
  unfold Addr.add
  by_cases h0 : m = 0
  ·subst h0; rfl
  ·rw [if_neg h0]
 simp [sizeOf, typeInfo, el, hi0, hz1, al, slicedAt, Result.andThen, e1, e2]
 omega
theorem rv_nt {x : FX} {ar : Bool} {vn vn' : Value} {sk : List Int} {d a st : Int} : ∀ i, i < 24 → (if i = 12 then vn' else rv x ar vn sk d a st i) = rv x ar vn' sk d a st i := by
 intro i hi
 by_cases e : i = 12
 ·rw [if_pos e, e]; rfl
 ·rw [if_neg e]
  unfold rv
  split <;> first | rfl | omega
theorem RM.push {g cap : Nat} {n : PNte} {u : Value} (h : RM w0 B x vn us sk s w) (hb1 : Below w.heap.size w w1)
  (ho : w'.ownsRow w0.heap.size 79 3 (.slice (some ⟨g, 0, none⟩) (s.notes.length + 1) cap) (s.notes.length + 1) ((List.zipWith (fun (n : PNte) u => [Value.int .i64 n.to, Value.int .i64 n.hd, u]) s.notes us).flatten ++ [Value.int .i64 n.to, Value.int .i64 n.hd, u]))
  (hg : w1.grownBy w' vn.ownBlock) (hat : vn.ownBlock = some g ∨ g = w1.heap.size) (hu : Ints (fun b => w.heap.size ≤ b) w1 u n.args) :
  RM w0 B x (.slice (some ⟨g, 0, none⟩) (s.notes.length + 1) cap) (us ++ [u]) sk { s with notes := s.notes ++ [n] } (w'.setCell ⟨B, 12, none⟩ (.slice (some ⟨g, 0, none⟩) (s.notes.length + 1) cap)) ∧ w'.cell? ⟨B, 12, none⟩ = some vn ∧ w'.frozen? ⟨B, 12, none⟩ = false ∧ B < w'.heap.size := by
 have hex : ∀ b, (b = B ∨ hb x.vr = some b) → b < w.heap.size := fun b hb => by
  rcases hb with rfl | hb
  ·exact h.lt
  ·exact (h.regs.hb hb).2.2
 have hN := h.nts.push h.low.size hb1 hex ho hg hat hu
 have hs := hb1.size
 have hBl := h.lt
 have hot : ∀ b, (b = B ∨ hb x.vr = some b) → w'.heap[b]? = w.heap[b]? := fun b hb => by
  rw [hg.block b (Nat.lt_of_lt_of_le (hex b hb) hs) (fun e => h.nts.nx b e.symm hb), hb1.block b (hex b hb)]
 have hrow : w'.rowIs B 147 24 (rv x s.armed vn sk s.st.length s.pc s.steps) := h.row.of_block (hot B (Or.inl rfl))
 have hne : ∀ b, b ≠ B → (w'.setCell ⟨B, 12, none⟩ (.slice (some ⟨g, 0, none⟩) (s.notes.length + 1) cap)).heap[b]? = w'.heap[b]? := fun b hb => Below.heap_setCell _ _ _ _ (fun e => hb (by have e' : b = B := e; exact e'))
 have hlow : Below w0.heap.size w0 w' := grown_low (bTrans h.low hb1) hg fun k hk => (own_lt h.nts.own hk).1
 refine ⟨⟨hlow.setCell h.base _, (hrow.set 12 _).congr rv_nt, h.base, h.skl, h.stk, h.st8, ?_, ?_⟩, hrow.cell (by omega), hrow.frozen 12, hrow.lt⟩
 ·exact h.regs.same fun b e => (hne b (h.regs.hb e).2.1).trans (hot b (Or.inr e))
 ·exact hN.same (by simp) fun b _ hb => hne b (fun e => hb (Or.inl e))

theorem vwithin_any (n m : Int) (w : World) : Calls Tryz.prog 129 #[.int .i64 n, .int .i64 m] w fun e w' => e = .returned (.bool (decide (0 ≤ n ∧ n < m))) ∧ w' = w := by
 by_cases h1 : 0 ≤ n <;> by_cases h2 : n < m
 all_goals
  go_enter Tryz.func129, Tryz.ntmps129
  go_wp2
  go_ret
  exact ⟨ret_b (by simp [h1, h2]), rfl⟩
end
end Go.Proofs.YtfbeiedhdmndnaaGreatDoor
