/-
  What is known of a copy of a program while it is made: which blocks are the copy's own, what they read as, and that each round keeps it. No conditions.
-/
import Derived.Test.YtlpeiiejkpkpjaaDoorClone
namespace Go.Proofs.YtlpeiiejkpkpjaaDoor
open Go.RowKit

section
variable {out out' i i' : Nat → Prop} {w : World} {v : Value}
theorem Sl.okMono {α : Type} {sz : Nat} {R : World → Nat → Nat → α → Prop} {l : List α} (h : Sl sz R out w v l) (k : ∀ b, out b → b < w.heap.size → out' b) : Sl sz R out' w v l := by
  obtain ⟨A, c, rfl, hl, h⟩ := h
  refine ⟨A, c, rfl, hl, h.imp id ?_⟩
  rintro ⟨b, o, rfl, hb, hlt, hc⟩
  exact ⟨b, o, rfl, k b hb hlt, hlt, hc⟩
theorem Hnds.mono {l : List PHnd} (h : Hnds out i w v l) (k : ∀ b, out b → b < w.heap.size → out' b) (k' : ∀ b, i b → b < w.heap.size → i' b) : Hnds out' i' w v l :=
  (h.imp (R' := rHnd i') (fun _ h => h) (Nat.le_refl _) fun _ _ _ _ _ ⟨h1, c, h2, h3⟩ => ⟨h1, c, h2, h3.okMono k'⟩).okMono k
theorem Acts.mono {l : List PAct} (h : Acts out i w v l) (k : ∀ b, out b → b < w.heap.size → out' b) (k' : ∀ b, i b → b < w.heap.size → i' b) : Acts out' i' w v l :=
  (h.imp (R' := rAct i') (fun _ h => h) (Nat.le_refl _) fun _ _ _ _ _ ⟨⟨c, h1, h2⟩, h3⟩ => ⟨⟨c, h1, h2.okMono k'⟩, h3⟩).okMono k
theorem Ntes.mono {l : List PNte} (h : Ntes out i w v l) (k : ∀ b, out b → b < w.heap.size → out' b) (k' : ∀ b, i b → b < w.heap.size → i' b) : Ntes out' i' w v l :=
  (h.imp (R' := rNte i') (fun _ h => h) (Nat.le_refl _) fun _ _ _ _ _ ⟨h1, h2, c, h3, h4⟩ => ⟨h1, h2, c, h3, h4.okMono k'⟩).okMono k
end

theorem Same.trans {ok : Nat → Prop} {a b c : World} (h : Same ok a b) (k : Same ok b c) : Same ok a c :=
  ⟨Nat.le_trans h.size k.size, fun d hd hl => (k.block d hd (Nat.lt_of_lt_of_le hl h.size)).trans (h.block d hd hl)⟩
theorem setCell_heap {w : World} {b i : Nat} {v : Value} {c : Array Value} {T : TypeId} (h : w.heap[b]? = some (.cells c T)) : (w.setCell ⟨b, i, none⟩ v).heap[b]? = some (.cells (c.setIfInBounds i v) T) := by
  simp [World.setCell, Array.getElem?_modify, h]

def inn (w : World) (C : Nat) : Nat → Prop := fun b => b < w.heap.size ∨ C ≤ b

/-- The blocks of a copy: handlers in [p1, q1), actors in [p2, q2), notes in [p3, q3), the copy itself in bo; all that is ahead of C. -/
structure CB (w : World) (bo p1 q1 p2 q2 p3 q3 C : Nat) : Prop where
  a0 : w.heap.size + 2 ≤ p1
  a1 : p1 ≤ q1
  a2 : q1 ≤ p2
  a3 : p2 ≤ q2
  a4 : q2 ≤ p3
  a5 : p3 ≤ q3
  a6 : q3 ≤ C
  b0 : w.heap.size + 2 ≤ bo
  b1 : bo < C
  n1 : bo < p1 ∨ q1 ≤ bo
  n2 : bo < p2 ∨ q2 ≤ bo
  n3 : bo < p3 ∨ q3 ≤ bo

structure CI (w : World) (p : PPrg) (bo p1 q1 p2 q2 p3 q3 C : Nat) (A1 A2 A3 : Option Addr) (d1 d2 d3 k1 k2 k3 : Nat) (wr : World) : Prop where
  low : Below w.heap.size w wr
  plain : Plain w.heap.size wr
  top : C ≤ wr.heap.size
  res : wr.heap[w.heap.size + 1]? = some (.cells #[.slice none 0 0, .slice none 0 0, .slice none 0 0, .int .i64 0] 26)
  out : wr.heap[bo]? = some (.cells #[.slice A1 p.hs.length d1, .slice A2 p.acs.length d2, .slice A3 p.bs.length d3, .int .i64 p.fuel] 26)
  hh : Hnds (In p1 q1) (inn w C) wr (.slice A1 p.hs.length d1) p.hs
  ha : Acts (In p2 q2) (inn w C) wr (.slice A2 p.acs.length d2) p.acs
  hn : Ntes (In p3 q3) (inn w C) wr (.slice A3 p.bs.length d3) p.bs
  n1 : NewAt C A1 2 1 k1 wr
  n2 : NewAt C A2 4 0 k2 wr
  n3 : NewAt C A3 3 2 k3 wr
  l1 : k1 ≤ p.hs.length
  l2 : k2 ≤ p.acs.length
  l3 : k3 ≤ p.bs.length

theorem below_same {bo : Nat} {a b c : World} (h : Below a.heap.size a b) (k : Same (fun d => d ≠ bo) b c) : Same (fun d => d ≠ bo) a c := (Same.all h).trans k

/-- The start, behind the three lists and the copy itself. -/
theorem ci_mk {w W1 w1 W2 w2 W3 w3 wf : World} {p : PPrg} {A1 A2 A3 B1 B2 B3 : Option Addr} {c1 c2 c3 d1 d2 d3 bo : Nat} {x : Obj}
    (h1 : Hnds anyB anyB w (.slice A1 p.hs.length c1) p.hs) (h2 : Acts anyB anyB w (.slice A2 p.acs.length c2) p.acs) (h3 : Ntes anyB anyB w (.slice A3 p.bs.length c3) p.bs)
    (bW1 : Below (w.heap.size + 2) ((w.alloc x).alloc (.cells #[.slice none 0 0, .slice none 0 0, .slice none 0 0, .int .i64 0] 26)) W1) (cl1 : Cloned W1 A1 p.hs.length 2 31 w1 B1) (bW2 : Below w1.heap.size w1 W2) (cl2 : Cloned W2 A2 p.acs.length 4 41 w2 B2) (bW3 : Below w2.heap.size w2 W3) (cl3 : Cloned W3 A3 p.bs.length 3 43 w3 B3)
    (sf : Same (fun d => d ≠ bo) w3 wf) (hlow : Below w.heap.size w wf) (pl : Plain w.heap.size wf)
    (out : wf.heap[bo]? = some (.cells #[.slice B1 p.hs.length d1, .slice B2 p.acs.length d2, .slice B3 p.bs.length d3, .int .i64 p.fuel] 26))
    (hbo : w.heap.size + 2 ≤ bo) (hbo2 : bo < wf.heap.size) (m1 : bo < W1.heap.size ∨ w1.heap.size ≤ bo) (m2 : bo < W2.heap.size ∨ w2.heap.size ≤ bo) (m3 : bo < W3.heap.size ∨ w3.heap.size ≤ bo) :
    CB w bo W1.heap.size w1.heap.size W2.heap.size w2.heap.size W3.heap.size w3.heap.size wf.heap.size ∧
    CI w p bo W1.heap.size w1.heap.size W2.heap.size w2.heap.size W3.heap.size w3.heap.size wf.heap.size B1 B2 B3 d1 d2 d3 0 0 0 wf := by
  have z1 : w.heap.size + 2 ≤ W1.heap.size := by have := bW1.size; simpa using this
  have z2 := cl1.below.size
  have z3 := bW2.size
  have z4 := cl2.below.size
  have z5 := bW3.size
  have z6 := cl3.below.size
  have z7 := sf.size
  have cb : CB w bo W1.heap.size w1.heap.size W2.heap.size w2.heap.size W3.heap.size w3.heap.size wf.heap.size := ⟨z1, z2, z3, z4, z5, z6, z7, hbo, hbo2, m1, m2, m3⟩
  have y0 : Below w.heap.size w ((w.alloc x).alloc (.cells #[.slice none 0 0, .slice none 0 0, .slice none 0 0, .int .i64 0] 26)) := bAlloc (bAlloc (bRefl w) _) _
  have y1 : Below w.heap.size w W1 := y0.trans (bW1.mono (by omega))
  have y2 := bTrans (bTrans y1 cl1.below) bW2
  have y3 := bTrans (bTrans y2 cl2.below) bW3
  have k1 : Same (fun d => d ≠ bo) w1 wf := below_same (bTrans (bTrans (bTrans bW2 cl2.below) bW3) cl3.below) sf
  have k2 : Same (fun d => d ≠ bo) w2 wf := below_same (bTrans bW3 cl3.below) sf
  have g1 := Sl.cloned (c' := d1) (Rdr.hnd (fun b => b < w.heap.size)) ((h1.mono (fun _ h _ => h) (fun b _ h => h)).below y1) cl1
  have g2 := Sl.cloned (c' := d2) (Rdr.act (fun b => b < w.heap.size)) ((h2.mono (fun _ h _ => h) (fun b _ h => h)).below y2) cl2
  have g3 := Sl.cloned (c' := d3) (Rdr.nte (fun b => b < w.heap.size)) ((h3.mono (fun _ h _ => h) (fun b _ h => h)).below y3) cl3
  refine ⟨cb, hlow, pl, Nat.le_refl _, ?_, out, ?_, ?_, ?_, NewAt.zero, NewAt.zero, NewAt.zero, by omega, by omega, by omega⟩
  · have e0 : ((w.alloc x).alloc (.cells #[.slice none 0 0, .slice none 0 0, .slice none 0 0, .int .i64 0] 26)).heap[w.heap.size + 1]? = some (.cells #[.slice none 0 0, .slice none 0 0, .slice none 0 0, .int .i64 0] 26) := by
      show (((w.heap.push x).push _))[w.heap.size + 1]? = _
      rw [Array.getElem?_push, if_pos (by simp)]
    have e1 : W1.heap[w.heap.size + 1]? = some (.cells #[.slice none 0 0, .slice none 0 0, .slice none 0 0, .int .i64 0] 26) := (bW1.block _ (by omega)).trans e0
    have e2 : Same (fun d => d ≠ bo) W1 wf := below_same cl1.below k1
    exact (e2.block _ (by omega) (by omega)).trans e1
  · exact ((Hnds.same g1 (k1.weak (by intro b hb; unfold In at hb; have := cb.n1; omega)) (k1.weak (by intro b hb; omega))).mono (fun _ h _ => h) (fun b h _ => Or.inl h))
  · exact ((Acts.same g2 (k2.weak (by intro b hb; unfold In at hb; have := cb.n2; omega)) (k2.weak (by intro b hb; omega))).mono (fun _ h _ => h) (fun b h _ => Or.inl h))
  · exact ((Ntes.same g3 (sf.weak (by intro b hb; unfold In at hb; have := cb.n3; omega)) (sf.weak (by intro b hb; omega))).mono (fun _ h _ => h) (fun b h _ => Or.inl h))

section
variable {w wr w1 : World} {p : PPrg} {bo p1 q1 p2 q2 p3 q3 C : Nat} {A1 A2 A3 : Option Addr} {d1 d2 d3 k1 k2 k3 : Nat}

/-- New memory behind keeps it. -/
theorem CI.below (h : CI w p bo p1 q1 p2 q2 p3 q3 C A1 A2 A3 d1 d2 d3 k1 k2 k3 wr) (cb : CB w bo p1 q1 p2 q2 p3 q3 C) (hb : Below wr.heap.size wr w1) (hp : Plain w.heap.size w1) :
    CI w p bo p1 q1 p2 q2 p3 q3 C A1 A2 A3 d1 d2 d3 k1 k2 k3 w1 := by
  have := h.top
  have := cb.b1
  have := cb.b0
  exact ⟨bTrans h.low hb, hp, Nat.le_trans h.top hb.size, (hb.block _ (by omega)).trans h.res, (hb.block _ (by omega)).trans h.out, h.hh.below hb, h.ha.below hb, h.hn.below hb,
    h.n1.same h.hh h.l1 (Same.all hb), h.n2.same h.ha h.l2 (Same.all hb), h.n3.same h.hn h.l3 (Same.all hb), h.l1, h.l2, h.l3⟩

theorem CI.drew (h : CI w p bo p1 q1 p2 q2 p3 q3 C A1 A2 A3 d1 d2 d3 k1 k2 k3 wr) : CI w p bo p1 q1 p2 q2 p3 q3 C A1 A2 A3 d1 d2 d3 k1 k2 k3 wr.drew :=
  ⟨h.low.drew, h.plain, h.top, h.res, h.out, h.hh, h.ha, h.hn, h.n1, h.n2, h.n3, h.l1, h.l2, h.l3⟩

/-- One handler's code is stored. -/
theorem CI.step1 {b o c n c' : Nat} {x : PHnd} {V A' : Option Addr} (h : CI w p bo p1 q1 p2 q2 p3 q3 C (some ⟨b, o, none⟩) A2 A3 d1 d2 d3 k1 k2 k3 wr) (cb : CB w bo p1 q1 p2 q2 p3 q3 C) (hx : p.hs[k1]? = some x)
    (hv : Code (inn w C) wr (.slice V n c) x.code) (cl : Cloned wr V x.code.length 2 38 w1 A') :
    CI w p bo p1 q1 p2 q2 p3 q3 C (some ⟨b, o, none⟩) A2 A3 d1 d2 d3 (k1 + 1) k2 k3 (w1.setCell ⟨b, o + k1 * 2 + 1, none⟩ (.slice A' x.code.length c')) := by
  have h' := h.below cb cl.below (h.plain.cloned cl)
  have hk := (List.getElem?_eq_some_iff.1 hx).1
  obtain ⟨b', o', hA, hok, hlt, hc⟩ := h.hh.at (by omega)
  simp only [Option.some.injEq, Addr.mk.injEq, and_true] at hA
  obtain ⟨rfl, rfl⟩ := hA
  have ht := h.top
  have g := Sl.cloned (c' := c') Rdr.ins hv cl
  have g' : Code (inn w C) w1 (.slice A' x.code.length c') x.code := g.okMono fun d hd _ => Or.inr (by unfold In at hd; omega)
  obtain ⟨_, u, hu, _⟩ := hc k1 x hx
  have hu1 : w1.cell? ⟨b, o + k1 * 2 + 1, none⟩ = some u := (cl.below.cell (p := ⟨b, _, none⟩) hlt).trans hu
  obtain ⟨c0, c1, c2, c3, c4, c5, c6, c7, c8, c9, c10, c11⟩ := cb
  unfold In at hok
  have ne2 : ∀ d, In p2 q2 d → d ≠ b := fun d hd => by unfold In at hd; omega
  have ne3 : ∀ d, In p3 q3 d → d ≠ b := fun d hd => by unfold In at hd; omega
  have nei : ∀ d, inn w C d → d ≠ b := fun d hd => by unfold inn at hd; omega
  exact ⟨h'.low.setCell (by simp; omega) _, h'.plain.setCell _ _, by simpa [World.setCell] using h'.top, (Below.heap_setCell _ _ _ _ (by simp; omega)).trans h'.res, (Below.heap_setCell _ _ _ _ (by simp; omega)).trans h'.out,
    h'.hh.store hx nei g', Acts.same h'.ha (setCell_same ne2) (setCell_same nei), Ntes.same h'.hn (setCell_same ne3) (setCell_same nei),
    h'.n1.next (by omega) (newer_cloned cl ht) (Option.isSome_iff_exists.2 ⟨u, hu1⟩), h'.n2.same h'.ha h'.l2 (setCell_same ne2), h'.n3.same h'.hn h'.l3 (setCell_same ne3), by omega, h'.l2, h'.l3⟩

theorem CI.step2 {b o c n c' : Nat} {x : PAct} {V A' : Option Addr} (h : CI w p bo p1 q1 p2 q2 p3 q3 C A1 (some ⟨b, o, none⟩) A3 d1 d2 d3 k1 k2 k3 wr) (cb : CB w bo p1 q1 p2 q2 p3 q3 C) (hx : p.acs[k2]? = some x)
    (hv : Ints (inn w C) wr (.slice V n c) x.regs) (cl : Cloned wr V x.regs.length 1 3 w1 A') :
    CI w p bo p1 q1 p2 q2 p3 q3 C A1 (some ⟨b, o, none⟩) A3 d1 d2 d3 k1 (k2 + 1) k3 (w1.setCell ⟨b, o + k2 * 4, none⟩ (.slice A' x.regs.length c')) := by
  have h' := h.below cb cl.below (h.plain.cloned cl)
  have hk := (List.getElem?_eq_some_iff.1 hx).1
  obtain ⟨b', o', hA, hok, hlt, hc⟩ := h.ha.at (by omega)
  simp only [Option.some.injEq, Addr.mk.injEq, and_true] at hA
  obtain ⟨rfl, rfl⟩ := hA
  have ht := h.top
  have g := Sl.cloned (c' := c') Rdr.int hv cl
  have g' : Ints (inn w C) w1 (.slice A' x.regs.length c') x.regs := g.okMono fun d hd _ => Or.inr (by unfold In at hd; omega)
  obtain ⟨⟨u, hu, _⟩, _⟩ := hc k2 x hx
  have hu1 : w1.cell? ⟨b, o + k2 * 4, none⟩ = some u := (cl.below.cell (p := ⟨b, _, none⟩) hlt).trans hu
  obtain ⟨c0, c1, c2, c3, c4, c5, c6, c7, c8, c9, c10, c11⟩ := cb
  unfold In at hok
  have ne1 : ∀ d, In p1 q1 d → d ≠ b := fun d hd => by unfold In at hd; omega
  have ne3 : ∀ d, In p3 q3 d → d ≠ b := fun d hd => by unfold In at hd; omega
  have nei : ∀ d, inn w C d → d ≠ b := fun d hd => by unfold inn at hd; omega
  exact ⟨h'.low.setCell (by simp; omega) _, h'.plain.setCell _ _, by simpa [World.setCell] using h'.top, (Below.heap_setCell _ _ _ _ (by simp; omega)).trans h'.res, (Below.heap_setCell _ _ _ _ (by simp; omega)).trans h'.out,
    Hnds.same h'.hh (setCell_same ne1) (setCell_same nei), h'.ha.store hx nei g', Ntes.same h'.hn (setCell_same ne3) (setCell_same nei),
    h'.n1.same h'.hh h'.l1 (setCell_same ne1), h'.n2.next (by omega) (newer_cloned cl ht) (Option.isSome_iff_exists.2 ⟨u, hu1⟩), h'.n3.same h'.hn h'.l3 (setCell_same ne3), h'.l1, by omega, h'.l3⟩

theorem CI.step3 {b o c n c' : Nat} {x : PNte} {V A' : Option Addr} (h : CI w p bo p1 q1 p2 q2 p3 q3 C A1 A2 (some ⟨b, o, none⟩) d1 d2 d3 k1 k2 k3 wr) (cb : CB w bo p1 q1 p2 q2 p3 q3 C) (hx : p.bs[k3]? = some x)
    (hv : Ints (inn w C) wr (.slice V n c) x.args) (cl : Cloned wr V x.args.length 1 3 w1 A') :
    CI w p bo p1 q1 p2 q2 p3 q3 C A1 A2 (some ⟨b, o, none⟩) d1 d2 d3 k1 k2 (k3 + 1) (w1.setCell ⟨b, o + k3 * 3 + 2, none⟩ (.slice A' x.args.length c')) := by
  have h' := h.below cb cl.below (h.plain.cloned cl)
  have hk := (List.getElem?_eq_some_iff.1 hx).1
  obtain ⟨b', o', hA, hok, hlt, hc⟩ := h.hn.at (by omega)
  simp only [Option.some.injEq, Addr.mk.injEq, and_true] at hA
  obtain ⟨rfl, rfl⟩ := hA
  have ht := h.top
  have g := Sl.cloned (c' := c') Rdr.int hv cl
  have g' : Ints (inn w C) w1 (.slice A' x.args.length c') x.args := g.okMono fun d hd _ => Or.inr (by unfold In at hd; omega)
  obtain ⟨_, _, u, hu, _⟩ := hc k3 x hx
  have hu1 : w1.cell? ⟨b, o + k3 * 3 + 2, none⟩ = some u := (cl.below.cell (p := ⟨b, _, none⟩) hlt).trans hu
  obtain ⟨c0, c1, c2, c3, c4, c5, c6, c7, c8, c9, c10, c11⟩ := cb
  unfold In at hok
  have ne1 : ∀ d, In p1 q1 d → d ≠ b := fun d hd => by unfold In at hd; omega
  have ne2 : ∀ d, In p2 q2 d → d ≠ b := fun d hd => by unfold In at hd; omega
  have nei : ∀ d, inn w C d → d ≠ b := fun d hd => by unfold inn at hd; omega
  exact ⟨h'.low.setCell (by simp; omega) _, h'.plain.setCell _ _, by simpa [World.setCell] using h'.top, (Below.heap_setCell _ _ _ _ (by simp; omega)).trans h'.res, (Below.heap_setCell _ _ _ _ (by simp; omega)).trans h'.out,
    Hnds.same h'.hh (setCell_same ne1) (setCell_same nei), Acts.same h'.ha (setCell_same ne2) (setCell_same nei), h'.hn.store hx nei g',
    h'.n1.same h'.hh h'.l1 (setCell_same ne1), h'.n2.same h'.ha h'.l2 (setCell_same ne2), h'.n3.next (by omega) (newer_cloned cl ht) (Option.isSome_iff_exists.2 ⟨u, hu1⟩), h'.l1, h'.l2, by omega⟩
end

/-- A program that was made anew behind B: its lists' blocks are apart, its parts' lists lie in C and on; all may be written. -/
structure PNew (B : Nat) (w : World) (v : Value) (p : PPrg) : Prop where
  ex : ∃ p1 q1 p2 q2 p3 q3 C A1 A2 A3 d1 d2 d3, v = .agg #[.slice A1 p.hs.length d1, .slice A2 p.acs.length d2, .slice A3 p.bs.length d3, .int .i64 p.fuel] ∧ B ≤ p1 ∧ p1 ≤ q1 ∧ q1 ≤ p2 ∧ p2 ≤ q2 ∧ q2 ≤ p3 ∧ p3 ≤ q3 ∧ q3 ≤ C ∧
    Hnds (In p1 q1) (fun b => C ≤ b) w (.slice A1 p.hs.length d1) p.hs ∧ Acts (In p2 q2) (fun b => C ≤ b) w (.slice A2 p.acs.length d2) p.acs ∧ Ntes (In p3 q3) (fun b => C ≤ b) w (.slice A3 p.bs.length d3) p.bs
  plain : Plain B w

theorem PNew.prg {B : Nat} {w : World} {v : Value} {p : PPrg} (h : PNew B w v p) : PrgV w v p := by
  obtain ⟨⟨p1, q1, p2, q2, p3, q3, C, A1, A2, A3, d1, d2, d3, rfl, _, _, _, _, _, _, _, h1, h2, h3⟩, _⟩ := h
  exact ⟨_, _, _, rfl, h1.mono (fun _ _ _ => trivial) (fun _ _ _ => trivial), h2.mono (fun _ _ _ => trivial) (fun _ _ _ => trivial), h3.mono (fun _ _ _ => trivial) (fun _ _ _ => trivial)⟩
end Go.Proofs.YtlpeiiejkpkpjaaDoor
