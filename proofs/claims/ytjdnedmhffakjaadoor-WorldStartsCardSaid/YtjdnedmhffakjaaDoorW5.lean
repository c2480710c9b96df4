/-
  world.Copy: another one, in new memory. Condition: the world is not too great.
-/
import Derived.Test.YtjdnedmhffakjaaDoorW4
import Derived.Deep.RegionWith
import Derived.Deep.DeepCutAuto
namespace Go.Proofs.YtjdnedmhffakjaaDoor
open Go.RowKit
theorem Msgs.ltAll {out inn : Nat → Prop} {w : World} {v : Value} {l : List PMsg} (h : Msgs out inn w v l) : Msgs (fun b => out b ∧ b < w.heap.size) (fun b => inn b ∧ b < w.heap.size) w v l :=
  h.lt.imp (fun _ h => h) (Nat.le_refl _) fun _ _ _ _ _ ⟨h1, h2, h3, h4, h5, c, h6, h7⟩ => ⟨h1, h2, h3, h4, h5, c, h6, h7.lt⟩
theorem Msgs.within {N : Nat} {w : World} {v : Value} {l : List PMsg} (h : Msgs (nO N v) (nI N v) w v l) : Msgs (Qm N w.heap.size v) (Qi N w.heap.size v) w v l :=
  h.ltAll.weak (fun _ h => ⟨⟨h.1.1, h.2⟩, h.1.2⟩) (fun _ h => ⟨⟨h.1.1, h.2⟩, h.1.2⟩)
theorem Locs.ltIn {out inn : Nat → Prop} {w : World} {v : Value} {l : List PLoc} (h : Locs out inn w v l) : Locs out (fun b => b < w.heap.size) w v l :=
  h.imp (fun _ h => h) (Nat.le_refl _) fun _ _ _ _ _ ⟨⟨c, h1, h2⟩, h3⟩ => ⟨⟨c, h1, Ints.weak h2.lt fun _ h => h.2⟩, h3⟩
abbrev zW : Obj := .cells #[.slice none 0 0, .slice none 0 0, .int .i64 0, .int .i64 0, .int .i64 0, .int .i64 0] 34
/-- Behind the first statement of Copy. -/
structure CW (w : World) (x : PWld) (bo lo hi : Nat) (a m : Value) (wc : World) : Prop where
  box : wc.heap[bo]? = some (.cells #[a, m, .int .i64 x.used.drop, .int .i64 x.used.dup, .int .i64 x.used.time, .int .i64 x.used.crash] 34)
  la : LF (w.heap.size + 2) (fun b => b < w.heap.size) wc a x.acts
  res : wc.heap[w.heap.size + 1]? = some zW
  lm : Msgs (Qm lo hi m) (Qi lo hi m) wc m x.mail
  own : ∀ g, a.ownBlock = some g → ¬ (lo ≤ g ∧ g < hi) ∧ g ≠ bo
  le : w.heap.size + 2 ≤ lo
  hi : hi ≤ wc.heap.size
  bo : w.heap.size + 2 ≤ bo
  low : Below w.heap.size w wc
theorem cw_mk {w w2 wc : World} {x : PWld} {bo lo hi N : Nat} {a m : Value} (la : LF N (fun b => b < w.heap.size) w2 a x.acts) (hN : w.heap.size + 2 ≤ N) (res : w2.heap[w.heap.size + 1]? = some zW) (lm : Msgs (Qm lo hi m) (Qi lo hi m) w2 m x.mail) (hS : Same (fun d => d ≠ bo) w2 wc)
    (box : wc.heap[bo]? = some (.cells #[a, m, .int .i64 x.used.drop, .int .i64 x.used.dup, .int .i64 x.used.time, .int .i64 x.used.crash] 34))
    (le : w.heap.size + 2 ≤ lo) (hhi : hi ≤ w2.heap.size) (hbo : w.heap.size + 2 ≤ bo) (hbm : ¬ (lo ≤ bo ∧ bo < hi)) (own : ∀ g, a.ownBlock = some g → ¬ (lo ≤ g ∧ g < hi) ∧ g ≠ bo) (low : Below w.heap.size w wc) : CW w x bo lo hi a m wc := by
  refine ⟨box, ?_, (hS.block _ (by omega) (Array.getElem?_eq_some_iff.1 res).1).trans res, lm.same (hS.weak ?_) (hS.weak ?_), own, le, Nat.le_trans hhi hS.size, hbo, low⟩
  · obtain ⟨A, c, rfl, h2, h3⟩ := la
    refine ⟨A, c, rfl, h2, h3.imp id fun ⟨g, e, hg, hr⟩ => ⟨g, e, Nat.le_trans hN hg, hr.same hS.size (hS.block g ?_ hr.lt) fun _ b hb hl => hS.block b ?_ hl⟩⟩
    · subst e; exact (own g rfl).2
    · show b ≠ bo; omega
  · rintro b ⟨h, _⟩ rfl; exact hbm h
  · rintro b ⟨h, _⟩ rfl; exact hbm h
/-- A struct of six cells, stored. -/
abbrev put6 (w : World) (b : Nat) (a0 a1 a2 a3 a4 a5 : Value) : World := (((((w.setCell ⟨b, 0, none⟩ a0).setCell ⟨b, 1, none⟩ a1).setCell ⟨b, 2, none⟩ a2).setCell ⟨b, 3, none⟩ a3).setCell ⟨b, 4, none⟩ a4).setCell ⟨b, 5, none⟩ a5
theorem put6_heap {w : World} {b : Nat} {a0 a1 a2 a3 a4 a5 z0 z1 z2 z3 z4 z5 : Value} {T : TypeId} (h : w.heap[b]? = some (.cells #[z0, z1, z2, z3, z4, z5] T)) : (put6 w b a0 a1 a2 a3 a4 a5).heap[b]? = some (.cells #[a0, a1, a2, a3, a4, a5] T) := by
  have h1 := setCell_heap (i := 0) (v := a0) h
  have h2 := setCell_heap (i := 1) (v := a1) h1
  have h3 := setCell_heap (i := 2) (v := a2) h2
  have h4 := setCell_heap (i := 3) (v := a3) h3
  have h5 := setCell_heap (i := 4) (v := a4) h4
  have h6 := setCell_heap (i := 5) (v := a5) h5
  exact h6.trans (by simp)
theorem put6_same {w : World} {b : Nat} {a0 a1 a2 a3 a4 a5 : Value} : Same (fun d => d ≠ b) w (put6 w b a0 a1 a2 a3 a4 a5) :=
  (((((setCell_same fun _ h => h).trans (setCell_same fun _ h => h)).trans (setCell_same fun _ h => h)).trans (setCell_same fun _ h => h)).trans (setCell_same fun _ h => h)).trans (setCell_same fun _ h => h)
theorem put6_below {B : Nat} {a w : World} {b : Nat} {a0 a1 a2 a3 a4 a5 : Value} (h : Below B a w) (hb : B ≤ b) : Below B a (put6 w b a0 a1 a2 a3 a4 a5) :=
  (((((h.setCell (p := ⟨b, 0, none⟩) hb _).setCell (p := ⟨b, 1, none⟩) hb _).setCell (p := ⟨b, 2, none⟩) hb _).setCell (p := ⟨b, 3, none⟩) hb _).setCell (p := ⟨b, 4, none⟩) hb _).setCell (p := ⟨b, 5, none⟩) hb _
theorem LF.own {N : Nat} {inn : Nat → Prop} {w : World} {u : Value} {l : List PLoc} (h : LF N inn w u l) {g : Nat} (e : u.ownBlock = some g) : N ≤ g ∧ g < w.heap.size := by
  obtain ⟨A, c, rfl, _, ⟨_, rfl⟩ | ⟨g', rfl, h1, h2⟩⟩ := h
  · cases e
  · cases e; exact ⟨h1, h2.lt⟩
section
variable {w w0 w1 w2 : World} {x : PWld} {a m : Value}
theorem way_a (h0 : Below w.heap.size w w0) (hr : w0.heap[w.heap.size + 1]? = some zW) (hs : w0.heap.size = w.heap.size + 2) (lf : LF w0.drew.heap.size (fun b => b < w.heap.size) w1 a x.acts) (hb1 : Below w0.drew.heap.size w0.drew w1) (hm : Msgs (Qm w1.heap.size w2.heap.size m) (Qi w1.heap.size w2.heap.size m) w2 m x.mail) (hb2 : Below w1.heap.size w1 w2) :
    CW w x w2.heap.size w1.heap.size w2.heap.size a m (w2.alloc (.cells #[a, m, .int .i64 x.used.drop, .int .i64 x.used.dup, .int .i64 x.used.time, .int .i64 x.used.crash] 34)) := by
  have z0 := h0.size
  have z1 := hb1.size
  have z2 := hb2.size
  change w0.heap.size ≤ _ at z1
  refine cw_mk (lf.below hb2) (by show _ ≤ w0.heap.size; omega) (boxAt (boxAt hr (undrew hb1)) hb2) hm (Same.all (bAlloc (bRefl _) _)) (heap_new _ _) (by omega) (Nat.le_refl _) (by omega) (by omega) (fun g e => ?_) (bAlloc (bTrans (bTrans h0.drew hb1) hb2) _)
  have := lf.own e
  omega
theorem way_b (h0 : Below w.heap.size w w0) (hr : w0.heap[w.heap.size + 1]? = some zW) (hs : w0.heap.size = w.heap.size + 2) (lf : LF w0.drew.heap.size (fun b => b < w.heap.size) w1 a x.acts) (hb1 : Below w0.drew.heap.size w0.drew w1) (hm : Msgs (Qm (w1.alloc zW).heap.size w2.heap.size m) (Qi (w1.alloc zW).heap.size w2.heap.size m) w2 m x.mail) (hb2 : Below (w1.alloc zW).heap.size (w1.alloc zW) w2) :
    CW w x w1.heap.size (w1.alloc zW).heap.size w2.heap.size a m (put6 w2 w1.heap.size a m (.int .i64 x.used.drop) (.int .i64 x.used.dup) (.int .i64 x.used.time) (.int .i64 x.used.crash)) := by
  have z0 := h0.size
  have z1 := hb1.size
  have z2 := hb2.size
  have z3 : (w1.alloc zW).heap.size = w1.heap.size + 1 := by simp
  change w0.heap.size ≤ _ at z1
  have hbox : w2.heap[w1.heap.size]? = some zW := (hb2.block _ (by omega)).trans (heap_new _ _)
  refine cw_mk (lf.below (bTrans (bAlloc (bRefl _) _) hb2)) (by show _ ≤ w0.heap.size; omega) (boxAt (boxAt hr (undrew hb1)) (bTrans (bAlloc (bRefl _) _) hb2)) hm put6_same (put6_heap hbox) (by omega) (Nat.le_refl _) (by omega) (by omega) (fun g e => ?_) (put6_below (bTrans (bAlloc (bTrans h0.drew hb1) _) hb2) (by omega))
  have := lf.own e
  omega
theorem way_c (h0 : Below w.heap.size w w0) (hr : w0.heap[w.heap.size + 1]? = some zW) (hs : w0.heap.size = w.heap.size + 2) (lf : LF (w0.alloc zW).drew.heap.size (fun b => b < w.heap.size) w1 a x.acts) (hb1 : Below (w0.alloc zW).drew.heap.size (w0.alloc zW).drew w1) (hm : Msgs (Qm w1.heap.size w2.heap.size m) (Qi w1.heap.size w2.heap.size m) w2 m x.mail) (hb2 : Below w1.heap.size w1 w2) :
    CW w x w0.heap.size w1.heap.size w2.heap.size a m (put6 w2 w0.heap.size a m (.int .i64 x.used.drop) (.int .i64 x.used.dup) (.int .i64 x.used.time) (.int .i64 x.used.crash)) := by
  have z0 := h0.size
  have z1 := hb1.size
  have z2 := hb2.size
  have z3 : (w0.alloc zW).drew.heap.size = w0.heap.size + 1 := by show (w0.alloc zW).heap.size = _; simp
  have hbox : w2.heap[w0.heap.size]? = some zW := (hb2.block _ (by omega)).trans ((hb1.block _ (by omega)).trans (heap_new w0 zW))
  refine cw_mk (lf.below hb2) (by omega) (boxAt (boxAt hr (bTrans (bAlloc (bRefl _) _) (undrew hb1))) hb2) hm put6_same (put6_heap hbox) (by omega) (Nat.le_refl _) (by omega) (by omega) (fun g e => ?_) (put6_below (bTrans (bTrans (bAlloc h0 _).drew hb1) hb2) (by omega))
  have := lf.own e
  omega
end
/-- Behind k rounds of Copy's loop. -/
structure CK (w : World) (x : PWld) (bo lo hi k : Nat) (A : Option Addr) (c : Nat) (m : Value) (wr : World) : Prop where
  box : wr.heap[bo]? = some (.cells #[.slice A x.acts.length c, m, .int .i64 x.used.drop, .int .i64 x.used.dup, .int .i64 x.used.time, .int .i64 x.used.crash] 34)
  len : x.acts.length ≤ c
  la : (x.acts = [] ∧ A = none) ∨ ∃ g, A = some ⟨g, 0, none⟩ ∧ Qa (w.heap.size + 2) lo hi g ∧ g ≠ bo ∧ LR g (fun j b => b ≠ g ∧ (j < k → Qa (w.heap.size + 2) lo hi b)) wr x.acts
  res : wr.heap[w.heap.size + 1]? = some zW
  lm : Msgs (Qm lo hi m) (Qi lo hi m) wr m x.mail
  le : w.heap.size + 2 ≤ lo
  hi : hi ≤ wr.heap.size
  bo : w.heap.size + 2 ≤ bo
  low : Below w.heap.size w wr
section
variable {w wr w1 : World} {x : PWld} {bo lo hi k c : Nat} {a m : Value} {A : Option Addr}
theorem CW.start (h : CW w x bo lo hi a m wr) : ∃ A c, a = .slice A x.acts.length c ∧ CK w x bo lo hi 0 A c m wr := by
  obtain ⟨A, c, rfl, h2, h3⟩ := h.la
  refine ⟨A, c, rfl, h.box, h2, h3.imp id fun ⟨g, e, hg, hr⟩ => ⟨g, e, ⟨hg, ?_⟩, ?_, hr.weak fun j b hb => ⟨by omega, fun hj => by omega⟩⟩, h.res, h.lm, h.le, h.hi, h.bo, h.low⟩
  · subst e; exact (h.own g rfl).1
  · subst e; exact (h.own g rfl).2
/-- A round: registers made anew (at w1), stored. -/
theorem CK.next {g d : Nat} {D : Option Addr} {y : PLoc} (h : CK w x bo lo hi k (some ⟨g, 0, none⟩) c m wr) (hy : x.acts[k]? = some y) (hi1 : Ints (fun b => wr.drew.heap.size ≤ b) w1 (.slice D y.regs.length d) y.regs) (hb : Below wr.drew.heap.size wr.drew w1) :
    CK w x bo lo hi (k + 1) (some ⟨g, 0, none⟩) c m (w1.setCell ⟨g, k * 5, none⟩ (.slice D y.regs.length d)) := by
  have hb' : Below wr.heap.size wr w1 := undrew hb
  obtain ⟨g', e, hg, hgb, hr⟩ : ∃ g', (some ⟨g, 0, none⟩ : Option Addr) = some ⟨g', 0, none⟩ ∧ Qa (w.heap.size + 2) lo hi g' ∧ g' ≠ bo ∧ LR g' (fun j b => b ≠ g' ∧ (j < k → Qa (w.heap.size + 2) lo hi b)) wr x.acts := by
    rcases h.la with ⟨_, h2⟩ | h2
    · cases h2
    · exact h2
  cases e
  have hgl := hr.lt
  have hlow := (Array.getElem?_eq_some_iff.1 h.box).1
  have hbo := h.bo
  have hhi := h.hi
  have key : LR g (fun j b => b ≠ g ∧ (j < k + 1 → Qa (w.heap.size + 2) lo hi b)) (w1.setCell ⟨g, k * 5, none⟩ (.slice D y.regs.length d)) (x.acts.set k y) :=
    (hr.below hb').put (i := 0) hy rfl (by omega) (fun _ b hb => hb.1) (fun b hb => hb.1) (fun j hj b hb => ⟨hb.1, fun h => hb.2 (by omega)⟩)
      (Or.inl ⟨rfl, Ints.weak hi1 fun b (hb : wr.heap.size ≤ b) => ⟨by omega, fun _ => ⟨by omega, by omega⟩⟩⟩) (Or.inr ⟨by omega, rfl⟩) (Or.inr ⟨by omega, rfl⟩) (Or.inr ⟨by omega, rfl⟩) (Or.inr ⟨by omega, rfl⟩)
  rw [set_self hy] at key
  have hS : ∀ (ok : Nat → Prop), (∀ b, ok b → b ≠ g) → Same ok w1 (w1.setCell ⟨g, k * 5, none⟩ (.slice D y.regs.length d)) := fun ok hk => setCell_same hk
  refine ⟨?_, h.len, Or.inr ⟨g, rfl, hg, hgb, key⟩, ?_, (h.lm.below hb').same (hS _ ?_) (hS _ ?_), h.le, ?_, h.bo, ?_⟩
  · rw [Below.heap_setCell _ _ _ _ (fun e => hgb e.symm)]; exact boxAt h.box hb'
  · have hg1 : w.heap.size + 2 ≤ g := hg.1
    have hg2 : w.heap.size + 1 ≠ g := by omega
    exact (Below.heap_setCell w1 ⟨g, k * 5, none⟩ (.slice D y.regs.length d) (w.heap.size + 1) hg2).trans (boxAt h.res hb')
  · rintro b ⟨h1, _⟩ rfl; exact hg.2 h1
  · rintro b ⟨h1, _⟩ rfl; exact hg.2 h1
  · have := hb'.size; simp [World.setCell]; omega
  · exact (bTrans h.low hb').setCell (p := ⟨g, _, none⟩) (by have := hg.1; show w.heap.size ≤ g; omega) _
theorem CK.done (h : CK w x bo lo hi k A c m wr) (hk : ¬ k < x.acts.length) : WN (w.heap.size + 2) lo hi wr (.slice A x.acts.length c) m x := by
  refine ⟨⟨A, c, rfl, h.len, h.la.imp id fun ⟨g, e, hg, _, hr⟩ => ⟨g, e, hg, ⟨hr.row, fun j y hy => ?_⟩⟩⟩, h.lm, h.le, h.hi⟩
  have hj := (List.getElem?_eq_some_iff.1 hy).1
  obtain ⟨⟨v, h1, h2⟩, h3⟩ := hr.rd j y hy
  exact ⟨⟨v, h1, Ints.weak h2 fun b hb => ⟨hb.2 (by omega), hb.1⟩⟩, h3⟩
end
theorem WN.mono {N M lo hi : Nat} {w : World} {a m : Value} {x : PWld} (h : WN N lo hi w a m x) (hM : M ≤ N) : WN M lo hi w a m x := by
  obtain ⟨A, c, rfl, h2, h3⟩ := h.acts
  exact ⟨⟨A, c, rfl, h2, h3.imp id fun ⟨g, e, hg, hr⟩ => ⟨g, e, ⟨Nat.le_trans hM hg.1, hg.2⟩, hr.weak fun _ b hb => ⟨⟨Nat.le_trans hM hb.1.1, hb.1.2⟩, hb.2⟩⟩⟩, h.mail, Nat.le_trans hM h.le, h.hi⟩
/-- What is stored ahead of it does not turn it. -/
theorem WN.far {N lo hi rb : Nat} {w w' : World} {a m : Value} {x : PWld} (h : WN N lo hi w a m x) (hS : Same (fun d => d ≠ rb) w w') (hrb : rb < N) : WN N lo hi w' a m x := by
  have hle := h.le
  refine ⟨?_, h.mail.same (hS.weak ?_) (hS.weak ?_), h.le, Nat.le_trans h.hi hS.size⟩
  · obtain ⟨A, c, rfl, h2, h3⟩ := h.acts
    refine ⟨A, c, rfl, h2, ?_⟩
    rcases h3 with h3 | ⟨g, e, hg, hr⟩
    · exact Or.inl h3
    · refine Or.inr ⟨g, e, hg, hr.same hS.size (hS.block g ?_ hr.lt) fun _ b hb hl => hS.block b ?_ hl⟩
      · have := hg.1; show g ≠ rb; omega
      · have := hb.1.1; show b ≠ rb; omega
  · intro b hb; have := hb.1.1; show b ≠ rb; omega
  · intro b hb; have := hb.1.1; show b ≠ rb; omega
end Go.Proofs.YtjdnedmhffakjaaDoor
