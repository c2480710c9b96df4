/-
  The reference's Run between two instructions, over a frame that is not written out: what the variables hold, what lies in memory. No conditions. The reference's Run: each instruction's piece does what the document says. No conditions. The reference's Run: whichever instruction it is; a round; all of them. Conditions: the handler was checked; the machine stands at its first instruction. What a handler's run can make, plainly: how many notes, how long they are; the registers stay as many. No conditions. The reference's Run: what comes of it. No conditions. VmRuns, where the reference's Run comes to what Run comes to. Conditions: that; and the table of the instructions is in the world.
-/
import Derived.Test.YtfbeiedhdmndnaaDoorQk12
import Derived.Test.YtfbeiedhdmndnaaDoorQk8
import Derived.Test.YtfbeiedhdmndnaaDoorQk10
import Derived.Deep.RegionHeld3
namespace Go.Proofs.YtfbeiedhdmndnaaDoor
open Go.RowKit
/-- What the variables hold. -/
structure Fm (who : Int) (va vc : Value) (P0 Rb Bn Bf : Nat) (vs vn : Value) (k pc : Nat) (a : Act) : Prop where
  sz : a.tmps.size = 330
  df : a.defers = []
  t1 : a.tmps[1]? = some (.int .i64 who)
  t4 : a.tmps[4]? = some va
  t5 : a.tmps[5]? = some (.pointer (some ⟨P0, 0, none⟩))
  t10 : a.tmps[10]? = some (.pointer (some ⟨Rb, 0, none⟩))
  t11 : a.tmps[11]? = some vc
  t12 : a.tmps[12]? = some (.pointer (some ⟨Bn, 0, none⟩))
  t13 : a.tmps[13]? = some (.pointer (some ⟨Bf, 0, none⟩))
  t14 : a.tmps[14]? = some vn
  t15 : a.tmps[15]? = some vs
  t16 : a.tmps[16]? = some (.int .i64 (k : Int))
  t17 : a.tmps[17]? = some (.int .i64 (pc : Int))
section
variable {who : Int} {va vc vs vn vs' vn' : Value} {P0 Rb Bn Bf k pc k' pc' : Nat} {a b : Act}
theorem Fm.upto (h : Fm who va vc P0 Rb Bn Bf vs vn k pc a) (hs : b.tmps.size = 330) (hd : b.defers = a.defers) (ht : ∀ t, t < 18 → b.tmps[t]? = a.tmps[t]?) : Fm who va vc P0 Rb Bn Bf vs vn k pc b :=
  ⟨hs, hd.trans h.df, (ht _ (by decide)).trans h.t1, (ht _ (by decide)).trans h.t4, (ht _ (by decide)).trans h.t5, (ht _ (by decide)).trans h.t10, (ht _ (by decide)).trans h.t11, (ht _ (by decide)).trans h.t12, (ht _ (by decide)).trans h.t13, (ht _ (by decide)).trans h.t14, (ht _ (by decide)).trans h.t15, (ht _ (by decide)).trans h.t16, (ht _ (by decide)).trans h.t17⟩
theorem Fm.ag (h : Fm who va vc P0 Rb Bn Bf vs vn k pc a) (hb : Ag a b) : Fm who va vc P0 Rb Bn Bf vs vn k pc b := h.upto hb.1 hb.2.1 fun t ht => hb.2.2 t (by omega)
theorem Fm.of_vs (h : Fm who va vc P0 Rb Bn Bf vs vn k pc a) (hb : Vs a b) : Fm who va vc P0 Rb Bn Bf vs vn k pc b := h.upto hb.1 hb.2.1 fun t ht => hb.2.2 t (by omega)
theorem Fm.stay (h : Fm who va vc P0 Rb Bn Bf vs vn k pc a) (hb : Stay a b) (h14 : b.tmps[14]? = some vn') (h15 : b.tmps[15]? = some vs') (h17 : b.tmps[17]? = some (.int .i64 (pc' : Int))) : Fm who va vc P0 Rb Bn Bf vs' vn' k pc' b :=
  ⟨hb.1, hb.2.1.trans h.df, (hb.2.2 _ (by decide)).trans h.t1, (hb.2.2 _ (by decide)).trans h.t4, (hb.2.2 _ (by decide)).trans h.t5, (hb.2.2 _ (by decide)).trans h.t10, (hb.2.2 _ (by decide)).trans h.t11, (hb.2.2 _ (by decide)).trans h.t12, (hb.2.2 _ (by decide)).trans h.t13, h14, h15, (hb.2.2 _ (by decide)).trans h.t16, h17⟩
theorem Fm.hd (h : Fm who va vc P0 Rb Bn Bf vs vn k pc a) (hb : Hd a b) (h16 : b.tmps[16]? = some (.int .i64 (k' : Int))) (h17 : b.tmps[17]? = some (.int .i64 (pc' : Int))) : Fm who va vc P0 Rb Bn Bf vs vn k' pc' b :=
  ⟨hb.1, hb.2.1.trans h.df, (hb.2.2 _ (by decide)).trans h.t1, (hb.2.2 _ (by decide)).trans h.t4, (hb.2.2 _ (by decide)).trans h.t5, (hb.2.2 _ (by decide)).trans h.t10, (hb.2.2 _ (by decide)).trans h.t11, (hb.2.2 _ (by decide)).trans h.t12, (hb.2.2 _ (by decide)).trans h.t13, (hb.2.2 _ (by decide)).trans h.t14, (hb.2.2 _ (by decide)).trans h.t15, h16, h17⟩
end
theorem rvl (x : Int) (r : List Int) : (x :: r).reverse.length = r.length + 1 := by simp
theorem rvl2 (x y : Int) (r : List Int) : (y :: x :: r).reverse.length = r.length + 2 := by simp
theorem rv0 (x : Int) (r : List Int) : (x :: r).reverse[r.length]? = some x := by
  rw [List.reverse_cons, List.getElem?_append_right (by simp), List.length_reverse, Nat.sub_self]; rfl
theorem rv1 (x y : Int) (r : List Int) : (y :: x :: r).reverse[r.length + 1]? = some y := rv0 y (x :: r)
theorem rv2 (x y : Int) (r : List Int) : (y :: x :: r).reverse[r.length]? = some x := by
  rw [List.reverse_cons, List.getElem?_append_left (by simp)]; exact rv0 x r
theorem rvt (x : Int) (r : List Int) : (x :: r).reverse.take r.length = r.reverse := by
  rw [List.reverse_cons, List.take_append_of_le_length (by simp), List.take_of_length_le (by simp)]
theorem rvt2 (x y : Int) (r : List Int) : (y :: x :: r).reverse.take r.length = r.reverse := by
  rw [List.reverse_cons, List.take_append_of_le_length (by simp), rvt]
theorem rvd {tt : Int} {r : List Int} {ar : Nat} (h : ar ≤ r.length) : ((tt :: r).reverse.drop (r.length - ar)).take ar = (r.take ar).reverse := by
  rw [List.reverse_cons, List.drop_append_of_le_length (by simp), List.take_append_of_le_length (by simp; omega), List.drop_reverse, Nat.sub_sub_self h, List.take_of_length_le (by simp; omega)]
theorem rvc {tt : Int} {r : List Int} {ar : Nat} (_h : ar ≤ r.length) : (r.drop ar).reverse = (tt :: r).reverse.take (r.length - ar) := by
  rw [List.reverse_cons, List.take_append_of_le_length (by simp), List.reverse_drop]
/-- What is known when an instruction was read: the frame, the memory, the instruction in its box. -/
structure Rd (w0 w1 : World) (who : Int) (va vc : Value) (Bn Bf gR gF : Nat) (l : PLoc) (vr vs vn vf : Value) (us : List Value) (pcs : Array Value) (s : MS) (C : Nat) (i : PIns) (a : Act) (w : World) : Prop where
  fm : Fm who va vc w0.heap.size (w0.heap.size + 2) Bn Bf vs vn s.steps s.pc a
  rs : RS w1 Bn gR l vr vs vn us s w
  ff : FF w0 Bf gF l vf pcs w
  t18 : a.tmps[18]? = some (.pointer (some ⟨C, 0, none⟩))
  t19 : a.tmps[19]? = some (.int .i64 (s.st.length : Int))
  t76 : a.tmps[76]? = some (.int .i64 i.op)
  c0 : w.cell? ⟨C, 0, none⟩ = some (.int .i64 i.op)
  c1 : w.cell? ⟨C, 1, none⟩ = some (.int .i64 i.a)
  lt : C < w.heap.size
  nn : vn.ownBlock ≠ some C
  low : w1.heap.size ≤ C
section
variable {w0 w1 w W : World} {who : Int} {va vc vs vn vr vf : Value} {Bn Bf gR gF C : Nat} {l : PLoc} {us : List Value} {pcs : Array Value} {s : MS} {i : PIns} {a b : Act}
theorem Rd.ag (h : Rd w0 w1 who va vc Bn Bf gR gF l vr vs vn vf us pcs s C i a w) (hb : Ag a b) : Rd w0 w1 who va vc Bn Bf gR gF l vr vs vn vf us pcs s C i b w :=
  ⟨h.fm.ag hb, h.rs, h.ff, (hb.2.2 _ (by decide)).trans h.t18, (hb.2.2 _ (by decide)).trans h.t19, (hb.2.2 _ (by decide)).trans h.t76, h.c0, h.c1, h.lt, h.nn, h.low⟩
/-- The registers: a row of the run's own. -/
theorem RS.regs {n : Nat} {x : Int} (h : RS w1 Bn gR l vr vs vn us s w) (hx : s.regs[n]? = some x) : ∃ cR, vr = .slice (some ⟨gR, 0, none⟩) s.regs.length cR ∧ w.cell? ⟨gR, n, none⟩ = some (.int .i64 x) ∧ w.frozen? ⟨gR, n, none⟩ = false := by
  obtain ⟨A, c, rfl⟩ := h.rg.form
  obtain ⟨g, hA, _, _, h1, h2, _⟩ := h.rg.cell hx
  have hg : g = gR := by have := h.rb; rw [hA] at this; exact Option.some.inj this
  subst hg
  exact ⟨c, by rw [hA], h1, h2 n⟩
theorem RS.vreg (h : RS w1 Bn gR l vr vs vn us s w) : ∃ A cR, vr = .slice A s.regs.length cR := h.rg.form
theorem RS.now0 (h : RS w1 Bn gR l vr vs vn us s w) : w.cell? ⟨Bn, 0, none⟩ = some vr := h.now.cell (i := 0) (by decide)
theorem RS.now1 (h : RS w1 Bn gR l vr vs vn us s w) : w.cell? ⟨Bn, 1, none⟩ = some (.bool s.armed) := h.now.cell (i := 1) (by decide)
theorem RS.nowf (h : RS w1 Bn gR l vr vs vn us s w) (j : Nat) : w.frozen? ⟨Bn, j, none⟩ = false := by
  obtain ⟨c, hc, _⟩ := h.now
  simp [World.frozen?, hc]
theorem OwnIV.blk {base n c : Nat} {A : Option Addr} {L : List Int} {x : Int} {k : Nat} (h : OwnIV base w (.slice A n c) L) (hx : L[k]? = some x) : ∃ b, (Value.slice A n c).ownBlock = Option.some b := by
  obtain ⟨g, rfl, _⟩ := h.cell hx
  exact ⟨g, rfl⟩
/-- What is to be shown where the run falls. -/
def FinQ (w0 : World) (l : PLoc) (vf : Value) (Q : Exit → Act → World → Prop) (d : Int) (k : Nat) : Prop :=
  ∀ (b : Act) (W : World), b.defers = [] → b.tmps[10]? = some (.pointer (some ⟨w0.heap.size + 2, 0, none⟩)) → W.heap[w0.heap.size + 2]? = some (.cells #[vf, .bool l.armed, .int .i64 d, .int .i64 l.sent, .int .i64 l.over, .slice none 0 0, .int .i64 (k : Int)] 37) →
    Ints anyB W vf l.regs → Below w0.heap.size w0 W → Q .ret b W
theorem put7_hp {b : Nat} {a0 a1 a2 a3 a4 a5 a6 x0 x1 x2 x3 x4 x5 x6 : Value} {T : TypeId} (h : w.heap[b]? = some (.cells #[x0, x1, x2, x3, x4, x5, x6] T)) : (put7 w b a0 a1 a2 a3 a4 a5 a6).heap[b]? = some (.cells #[a0, a1, a2, a3, a4, a5, a6] T) := by
  have h1 := setCell_heap (i := 0) (v := a0) h
  have h2 := setCell_heap (i := 1) (v := a1) h1
  have h3 := setCell_heap (i := 2) (v := a2) h2
  have h4 := setCell_heap (i := 3) (v := a3) h3
  have h5 := setCell_heap (i := 4) (v := a4) h4
  have h6 := setCell_heap (i := 5) (v := a5) h5
  have h7 := setCell_heap (i := 6) (v := a6) h6
  exact h7.trans (by simp)
theorem put7_low {b N : Nat} {a0 a1 a2 a3 a4 a5 a6 : Value} (h : Below N w0 w) (hb : N ≤ b) : Below N w0 (put7 w b a0 a1 a2 a3 a4 a5 a6) :=
  ((((((h.setCell (p := ⟨b, 0, none⟩) hb a0).setCell (p := ⟨b, 1, none⟩) hb a1).setCell (p := ⟨b, 2, none⟩) hb a2).setCell (p := ⟨b, 3, none⟩) hb a3).setCell (p := ⟨b, 4, none⟩) hb a4).setCell (p := ⟨b, 5, none⟩) hb a5).setCell (p := ⟨b, 6, none⟩) hb a6
/-- What falls: the result is written. -/
theorem fall_q {Q : Exit → Act → World → Prop} {d : Int} {k : Nat} (hq : FinQ w0 l vf Q d k) (hf : FF w0 Bf gF l vf pcs w) (hl : l.regs.length ≤ 1000000) (hW : Same (fun b => b ≠ Bf) w W) (hB : Below w0.heap.size w0 W) (hb : b.defers = []) (h10 : b.tmps[10]? = some (.pointer (some ⟨w0.heap.size + 2, 0, none⟩))) :
    Q .ret b (put7 W (w0.heap.size + 2) vf (.bool l.armed) (.int .i64 d) (.int .i64 l.sent) (.int .i64 l.over) (.slice none 0 0) (.int .i64 (k : Int))) := by
  have hlt : ∀ {b : Nat} {o : Obj}, w.heap[b]? = some o → b < w.heap.size := fun e => (Array.getElem?_eq_some_iff.1 e).1
  have hne := hf.ne
  have hr := (hW.block _ (by show w0.heap.size + 2 ≠ Bf; omega) (hlt hf.rs)).trans hf.rs
  have hi : Ints (fun b => b ≠ Bf ∧ b ≠ w0.heap.size + 2) w vf l.regs := (hf.fr.ints hl).imp (fun b hb => by
    have h1 := hb.2
    rw [hf.fb] at h1
    have h2 : gF = b := Option.some.inj h1
    omega) (Nat.le_refl _) fun _ _ _ _ _ h => h
  have hi2 : Ints (fun b => b ≠ w0.heap.size + 2) W vf l.regs := (hi.same (hW.weak fun b hb => hb.1)).imp (fun b hb => hb.2) (Nat.le_refl _) fun _ _ _ _ _ h => h
  exact hq b _ hb h10 (put7_hp hr) (hi2.same put7_same).any (put7_low hB (by omega))
theorem fall_1 {Q : Exit → Act → World → Prop} {d : Int} {k : Nat} {z : Value} (hq : FinQ w0 l vf Q d k) (hf : FF w0 Bf gF l vf pcs w) (hl : l.regs.length ≤ 1000000) (hb : b.defers = []) (h10 : b.tmps[10]? = some (.pointer (some ⟨w0.heap.size + 2, 0, none⟩))) :
    Q .ret b (put7 (w.setCell ⟨Bf, 2, none⟩ z) (w0.heap.size + 2) vf (.bool l.armed) (.int .i64 d) (.int .i64 l.sent) (.int .i64 l.over) (.slice none 0 0) (.int .i64 (k : Int))) :=
  fall_q hq hf hl ⟨by simp, fun b hb _ => Below.heap_setCell _ _ _ _ (fun e => hb (by have e' : b = Bf := e; exact e'))⟩ (hf.low.setCell (p := ⟨Bf, 2, none⟩) (by show w0.heap.size ≤ Bf; have := hf.ne; omega) z) hb h10
theorem fall_2 {Q : Exit → Act → World → Prop} {d : Int} {k : Nat} {z : Value} (hq : FinQ w0 l vf Q d k) (hf : FF w0 Bf gF l vf pcs w) (hl : l.regs.length ≤ 1000000) (hb : b.defers = []) (h10 : b.tmps[10]? = some (.pointer (some ⟨w0.heap.size + 2, 0, none⟩))) :
    Q .ret b (put7 (w.setCell ⟨Bf, 2, none⟩ z).drew (w0.heap.size + 2) vf (.bool l.armed) (.int .i64 d) (.int .i64 l.sent) (.int .i64 l.over) (.slice none 0 0) (.int .i64 (k : Int))) :=
  fall_q hq hf hl ⟨by simp [World.drew], fun b hb _ => Below.heap_setCell _ _ _ _ (fun e => hb (by have e' : b = Bf := e; exact e'))⟩ ((hf.low.setCell (p := ⟨Bf, 2, none⟩) (by show w0.heap.size ≤ Bf; have := hf.ne; omega) z).drew) hb h10
theorem FF.f_cells (hf : FF w0 Bf gF l vf pcs w) : w.cell? ⟨Bf, 0, none⟩ = some vf ∧ w.cell? ⟨Bf, 1, none⟩ = some (.bool l.armed) ∧ w.cell? ⟨Bf, 2, none⟩ = some (.int .i64 l.down) ∧ w.cell? ⟨Bf, 3, none⟩ = some (.int .i64 l.sent) ∧ w.cell? ⟨Bf, 4, none⟩ = some (.int .i64 l.over) ∧ ∀ o, w.frozen? ⟨Bf, o, none⟩ = false := by
  have h := hf.fl
  refine ⟨?_, ?_, ?_, ?_, ?_, fun o => by simp [World.frozen?, h]⟩ <;> exact cell_of_row _ _ _ _ _ _ h
theorem FF.r_cells (hf : FF w0 Bf gF l vf pcs w) : w.cell? ⟨w0.heap.size + 2, 0, none⟩ = some (.slice none 0 0) ∧ w.cell? ⟨w0.heap.size + 2, 1, none⟩ = some (.bool false) ∧ w.cell? ⟨w0.heap.size + 2, 2, none⟩ = some (.int .i64 0) ∧ w.cell? ⟨w0.heap.size + 2, 3, none⟩ = some (.int .i64 0) ∧ w.cell? ⟨w0.heap.size + 2, 4, none⟩ = some (.int .i64 0) ∧ w.cell? ⟨w0.heap.size + 2, 5, none⟩ = some (.slice none 0 0) ∧ w.cell? ⟨w0.heap.size + 2, 6, none⟩ = some (.int .i64 0) ∧ ∀ o, w.frozen? ⟨w0.heap.size + 2, o, none⟩ = false := by
  have h := hf.rs
  refine ⟨?_, ?_, ?_, ?_, ?_, ?_, ?_, fun o => by simp [World.frozen?, h]⟩ <;> exact cell_of_row _ _ _ _ _ _ h
theorem FF.vform (hf : FF w0 Bf gF l vf pcs w) : ∃ F cF, vf = .slice F l.regs.length cF := hf.fr.form
end
end Go.Proofs.YtfbeiedhdmndnaaDoor
namespace Go.Proofs.YtfbeiedhdmndnaaDoor
open Go.RowKit
theorem stp_steps {p : PPrg} {who : Int} {args : List Int} {n : Nat} {i : PIns} {s : MS} : (stp p who args n i s).2.steps = s.steps := by
  unfold stp
  split <;> first | rfl | (split <;> rfl)
section
variable {w0 w1 w : World} {who : Int} {va vc vs vn vr vf : Value} {Bn Bf gR gF C : Nat} {l : PLoc} {us : List Value} {pcs : Array Value} {a : Act} {Q : Exit → Act → World → Prop} {R st r : List Int} {am : Bool} {ns : List PNte} {pc k : Nat} {x y z : Int}
/-- What is to be shown where the run goes on. -/
def OnQ (w0 w1 : World) (who : Int) (va vc : Value) (Bn Bf gR : Nat) (l : PLoc) (vr : Value) (Q : Exit → Act → World → Prop) (s : MS) : Prop :=
  ∀ (b : Act) (W : World) (vs' vn' : Value) (us' : List Value), Fm who va vc w0.heap.size (w0.heap.size + 2) Bn Bf vs' vn' s.steps s.pc b → RS w1 Bn gR l vr vs' vn' us' s W → Q .normal b W
theorem g1 (h : Rd w0 w1 who va vc Bn Bf gR gF l vr vs vn vf us pcs ⟨R, am, ns, st, pc, k⟩ C ⟨1, z⟩ a w) (hl : st.length ≤ 100) (H : OnQ w0 w1 who va vc Bn Bf gR l vr Q ⟨R, am, ns, z :: st, pc, k⟩) : sw.wp Tryd.prog Q a w := by
  refine sw_1 h.fm.sz h.t76 fun b hb => ?_
  have h := h.ag hb
  obtain ⟨A, cs, rfl⟩ := h.rs.st.form
  refine lf1_any h.fm.sz h.fm.t15 h.t18 h.c1 h.rs.st (by rw [List.length_reverse]; exact hl) h.rs.sz fun b' Ax cx W' hi st h14 h15 h17 => ?_
  exact H b' W' _ _ _ (h.fm.stay st (h14.trans h.fm.t14) h15 (h17.trans h.fm.t17)) ((h.rs.below (bAlloc (bRefl _) _)).push hi)
theorem g2 (h : Rd w0 w1 who va vc Bn Bf gR gF l vr vs vn vf us pcs ⟨R, am, ns, x :: r, pc, k⟩ C ⟨2, z⟩ a w) (hl : r.length ≤ 100) (H : OnQ w0 w1 who va vc Bn Bf gR l vr Q ⟨R, am, ns, r, pc, k⟩) : sw.wp Tryd.prog Q a w := by
  refine sw_2 h.fm.sz h.t76 fun b hb => ?_
  have h := h.ag hb
  obtain ⟨A, cs, rfl⟩ := h.rs.st.form
  obtain ⟨g, _, _, _, _, _, hc⟩ := h.rs.st.cell (rv0 x r)
  have hc' : (x :: r).reverse.length ≤ cs := hc
  have e := rvl x r
  refine lf2_any (m := r.length) (A := A) (cs := cs) h.fm.sz (by rw [← e]; exact h.fm.t15) (h.t19.trans (by simp)) hl (by omega) fun b' st h14 h15 h17 => ?_
  exact H b' _ _ _ _ (h.fm.stay st (h14.trans h.fm.t14) h15 (h17.trans h.fm.t17)) (h.rs.cut (by simp) (rvt x r).symm)
theorem g3 (h : Rd w0 w1 who va vc Bn Bf gR gF l vr vs vn vf us pcs ⟨R, am, ns, x :: r, pc, k⟩ C ⟨3, z⟩ a w) (hl : r.length ≤ 90) (H : OnQ w0 w1 who va vc Bn Bf gR l vr Q ⟨R, am, ns, x :: x :: r, pc, k⟩) : sw.wp Tryd.prog Q a w := by
  refine sw_3 h.fm.sz h.t76 fun b hb => ?_
  have h := h.ag hb
  obtain ⟨A, cs, rfl⟩ := h.rs.st.form
  obtain ⟨g, hA, _, _, hx, _, hc⟩ := h.rs.st.cell (rv0 x r)
  have e := rvl x r
  refine lf3_any (m := r.length) h.fm.sz h.fm.t15 (h.t19.trans (by simp)) hA e hx h.rs.st (by rw [e]; omega) h.rs.sz fun b' Ax cx W' hi st h14 h15 h17 => ?_
  exact H b' W' _ _ _ (h.fm.stay st (h14.trans h.fm.t14) h15 (h17.trans h.fm.t17)) ((h.rs.below (bAlloc (bRefl _) _)).push hi)
theorem g4 (h : Rd w0 w1 who va vc Bn Bf gR gF l vr vs vn vf us pcs ⟨R, am, ns, y :: x :: r, pc, k⟩ C ⟨4, z⟩ a w) (hl : r.length ≤ 90) (H : OnQ w0 w1 who va vc Bn Bf gR l vr Q ⟨R, am, ns, x :: y :: r, pc, k⟩) : sw.wp Tryd.prog Q a w := by
  refine sw_4 h.fm.sz h.t76 fun b hb => ?_
  have h := h.ag hb
  obtain ⟨A, cs, rfl⟩ := h.rs.st.form
  obtain ⟨g, hA, _, _, hx, _, hc⟩ := h.rs.st.cell (rv2 x y r)
  obtain ⟨g', hA', _, _, hy, _, _⟩ := h.rs.st.cell (rv1 x y r)
  have hg : g' = g := by rw [hA] at hA'; cases hA'; rfl
  subst hg
  have e := rvl2 x y r
  have hc' : (y :: x :: r).reverse.length ≤ cs := hc
  refine lf4_any (st := (y :: x :: r).reverse) (m := r.length) (cs := cs) (A := A) h.fm.sz (by rw [← e]; exact h.fm.t15) (h.t19.trans (by simp; omega)) hA e hx hy h.rs.st (by omega) (by omega) fun b' Ax cx W' ho hb' st h14 h15 h17 => ?_
  have ho' : OwnIV w.heap.size W' (.slice Ax (r.length + 2) cx) (x :: y :: r).reverse := by
    rw [rvt2] at ho
    have e2 : (x :: y :: r).reverse = r.reverse ++ [y, x] := by simp
    rw [e2]; exact ho
  exact H b' W' _ _ _ (h.fm.stay st (h14.trans h.fm.t14) h15 (h17.trans h.fm.t17)) (h.rs.anew hb' ho' (ho'.blk (rv2 y x r)))
theorem g5 {kk : Nat} (h : Rd w0 w1 who va vc Bn Bf gR gF l vr vs vn vf us pcs ⟨R, am, ns, st, pc, k⟩ C ⟨5, (kk : Int)⟩ a w) (hl : st.length ≤ 100) (H : OnQ w0 w1 who va vc Bn Bf gR l vr Q ⟨R, am, ns, R.getD kk 0 :: st, pc, k⟩) : sw.wp Tryd.prog Q a w := by
  refine sw_5 h.fm.sz h.t76 fun b hb => ?_
  have h := h.ag hb
  obtain ⟨A, cs, rfl⟩ := h.rs.st.form
  by_cases hk : kk < R.length
  · obtain ⟨x, hx⟩ := at_lt hk
    have e : R.getD kk 0 = x := by rw [List.getD_eq_getElem?_getD, hx]; rfl
    rw [e] at H
    obtain ⟨cR, rfl, hcx, _⟩ := h.rs.regs (n := kk) (x := x) hx
    refine lf5_in (gR := gR) h.fm.sz h.fm.t15 h.t18 h.fm.t12 h.c1 h.rs.now0 rfl hcx hk h.rs.st (by rw [List.length_reverse]; exact hl) h.rs.sz fun b' Ax cx W' hi st h14 h15 h17 => ?_
    exact H b' W' _ _ _ (h.fm.stay st (h14.trans h.fm.t14) h15 (h17.trans h.fm.t17)) ((h.rs.below (bAlloc (bRefl _) _)).push hi)
  · have e : R.getD kk 0 = 0 := by rw [List.getD_eq_getElem?_getD, List.getElem?_eq_none (by omega)]; rfl
    rw [e] at H
    obtain ⟨AR, cR, rfl⟩ := h.rs.vreg
    refine lf5_out (n := R.length) h.fm.sz h.fm.t15 h.t18 h.fm.t12 h.c1 h.rs.now0 hk h.rs.st (by rw [List.length_reverse]; exact hl) h.rs.sz fun b' Ax cx W' hi st h14 h15 h17 => ?_
    exact H b' W' _ _ _ (h.fm.stay st (h14.trans h.fm.t14) h15 (h17.trans h.fm.t17)) ((h.rs.below (bAlloc (bRefl _) _)).push hi)
theorem g6 {kk : Nat} (h : Rd w0 w1 who va vc Bn Bf gR gF l vr vs vn vf us pcs ⟨R, am, ns, x :: r, pc, k⟩ C ⟨6, (kk : Int)⟩ a w) (hl : r.length ≤ 100) (H : OnQ w0 w1 who va vc Bn Bf gR l vr Q ⟨R.set kk x, am, ns, r, pc, k⟩) : sw.wp Tryd.prog Q a w := by
  refine sw_6 h.fm.sz h.t76 fun b hb => ?_
  have h := h.ag hb
  obtain ⟨A, cs, rfl⟩ := h.rs.st.form
  obtain ⟨g, hA, hgb, _, hx, _, hc⟩ := h.rs.st.cell (rv0 x r)
  have hc' : (x :: r).reverse.length ≤ cs := hc
  have e := rvl x r
  have hlow := h.low
  have hlt := h.rs.lts
  by_cases hk : kk < R.length
  · obtain ⟨y, hy⟩ := at_lt hk
    obtain ⟨cR, rfl, hcy, hfy⟩ := h.rs.regs (n := kk) (x := y) hy
    refine lf6_in (gR := gR) (g := g) (m := r.length) (A := A) (cs := cs) h.fm.sz (by rw [← e]; exact h.fm.t15) h.t18 (h.t19.trans (by simp)) h.fm.t12 hA h.c1 h.rs.now0 hx rfl hcy hfy hk hlt.2.2 (by omega) (by omega) hl (by omega) fun b' n st h14 h15 h17 => ?_
    refine H b' _ _ _ _ (h.fm.stay st (h14.trans h.fm.t14) h15 (h17.trans h.fm.t17)) (((h.rs.reg hk x).cut (m := r.length) (st' := r) ?_ ?_).below (bDrewN (bRefl _) n))
    · simp
    · exact (rvt x r).symm
  · have e2 : R.set kk x = R := List.set_eq_of_length_le (by omega)
    rw [e2] at H
    obtain ⟨AR, cR, rfl⟩ := h.rs.vreg
    refine lf6_out (g := g) (m := r.length) (A := A) (cs := cs) (n := R.length) h.fm.sz (by rw [← e]; exact h.fm.t15) h.t18 (h.t19.trans (by simp)) h.fm.t12 hA h.c1 h.rs.now0 hk hl (by omega) fun b' n st h14 h15 h17 => ?_
    refine H b' _ _ _ _ (h.fm.stay st (h14.trans h.fm.t14) h15 (h17.trans h.fm.t17)) ((h.rs.cut (m := r.length) (st' := r) ?_ ?_).below (bDrewN (bRefl _) n))
    · simp
    · exact (rvt x r).symm
theorem g7 {kk : Nat} {args : List Int} (h : Rd w0 w1 who va vc Bn Bf gR gF l vr vs vn vf us pcs ⟨R, am, ns, st, pc, k⟩ C ⟨7, (kk : Int)⟩ a w) (hl : st.length ≤ 100) (ha : Ints anyB w0 va args) (hk : kk < args.length) (H : OnQ w0 w1 who va vc Bn Bf gR l vr Q ⟨R, am, ns, args.getD kk 0 :: st, pc, k⟩) : sw.wp Tryd.prog Q a w := by
  refine sw_7 h.fm.sz h.t76 fun b hb => ?_
  have h := h.ag hb
  obtain ⟨A, cs, rfl⟩ := h.rs.st.form
  obtain ⟨A4, c4, rfl, _⟩ := ha.form
  obtain ⟨b4, o4, x, rfl, hx, hcx⟩ := ha.cell h.ff.low hk
  have e : args.getD kk 0 = x := by rw [List.getD_eq_getElem?_getD, hx]; rfl
  rw [e] at H
  refine lf7_any (g := b4) (o := o4) (k := kk) h.fm.sz h.fm.t15 h.t18 h.c1 h.fm.t4 hk (by have := hcx; simpa [rInt, Nat.mul_one] using this) h.rs.st (by rw [List.length_reverse]; exact hl) h.rs.sz fun b' Ax cx W' hi st h14 h15 h17 => ?_
  exact H b' W' _ _ _ (h.fm.stay st (h14.trans h.fm.t14) h15 (h17.trans h.fm.t17)) ((h.rs.below (bAlloc (bRefl _) _)).push hi)
theorem g8 (h : Rd w0 w1 who va vc Bn Bf gR gF l vr vs vn vf us pcs ⟨R, am, ns, st, pc, k⟩ C ⟨8, z⟩ a w) (hl : st.length ≤ 100) (H : OnQ w0 w1 who va vc Bn Bf gR l vr Q ⟨R, am, ns, who :: st, pc, k⟩) : sw.wp Tryd.prog Q a w := by
  refine sw_8 h.fm.sz h.t76 fun b hb => ?_
  have h := h.ag hb
  obtain ⟨A, cs, rfl⟩ := h.rs.st.form
  refine lf8_any h.fm.sz h.fm.t15 h.fm.t1 h.rs.st (by rw [List.length_reverse]; exact hl) h.rs.sz fun b' Ax cx W' hi st h14 h15 h17 => ?_
  exact H b' W' _ _ _ (h.fm.stay st (h14.trans h.fm.t14) h15 (h17.trans h.fm.t17)) ((h.rs.below (bAlloc (bRefl _) _)).push hi)
theorem g14 {op : Int} (ho : op = 14 ∨ op = 19) (h : Rd w0 w1 who va vc Bn Bf gR gF l vr vs vn vf us pcs ⟨R, am, ns, x :: r, pc, k⟩ C ⟨op, z⟩ a w) (hl : r.length ≤ 90) (H : OnQ w0 w1 who va vc Bn Bf gR l vr Q ⟨R, am, ns, on op x :: r, pc, k⟩) : sw.wp Tryd.prog Q a w := by
  have key : ∀ b, Ag a b → lf14.wp Tryd.prog Q b w := fun b hb => by
    have h := h.ag hb
    obtain ⟨A, cs, rfl⟩ := h.rs.st.form
    obtain ⟨g, hA, _, _, hx, _, hc⟩ := h.rs.st.cell (rv0 x r)
    have e := rvl x r
    have hc' : (x :: r).reverse.length ≤ cs := hc
    refine lf14_any (m := r.length) h.fm.sz h.fm.t15 h.t18 (h.t19.trans (by simp)) hA e h.c0 hx h.rs.st (by omega) (by omega) fun b' Ax cx W' ho hb' st h14 h15 h17 => ?_
    have ho' : OwnIV w.heap.size W' (.slice Ax (r.length + 1) cx) (on op x :: r).reverse := by
      rw [rvt] at ho
      rw [List.reverse_cons]; exact ho
    exact H b' W' _ _ _ (h.fm.stay st (h14.trans h.fm.t14) h15 (h17.trans h.fm.t17)) (h.rs.anew hb' ho' (ho'.blk (rv0 _ r)))
  rcases ho with rfl | rfl
  · exact sw_14 h.fm.sz h.t76 key
  · exact sw_19 h.fm.sz h.t76 key
theorem g20 {kk : Nat} (h : Rd w0 w1 who va vc Bn Bf gR gF l vr vs vn vf us pcs ⟨R, am, ns, st, pc, k⟩ C ⟨20, (kk : Int)⟩ a w) (H : OnQ w0 w1 who va vc Bn Bf gR l vr Q ⟨R, am, ns, st, kk, k⟩) : sw.wp Tryd.prog Q a w := by
  refine sw_20 h.fm.sz h.t76 fun b hb => ?_
  have h := h.ag hb
  refine lf20_any h.fm.sz h.t18 h.c1 fun b' st h14 h15 h17 => ?_
  exact H b' w _ _ _ (h.fm.stay st (h14.trans h.fm.t14) (h15.trans h.fm.t15) h17) (h.rs.pcs kk k)
theorem g21y {kk : Nat} (h : Rd w0 w1 who va vc Bn Bf gR gF l vr vs vn vf us pcs ⟨R, am, ns, 0 :: r, pc, k⟩ C ⟨21, (kk : Int)⟩ a w) (hl : r.length ≤ 100) (H : OnQ w0 w1 who va vc Bn Bf gR l vr Q ⟨R, am, ns, r, kk, k⟩) : sw.wp Tryd.prog Q a w := by
  refine sw_21 h.fm.sz h.t76 fun b hb => ?_
  have h := h.ag hb
  obtain ⟨A, cs, rfl⟩ := h.rs.st.form
  obtain ⟨g, hA, _, _, hx, _, hc⟩ := h.rs.st.cell (rv0 0 r)
  have hc' : ((0 : Int) :: r).reverse.length ≤ cs := hc
  have e := rvl 0 r
  refine lf21_yes (m := r.length) (A := A) (cs := cs) h.fm.sz (by rw [← e]; exact h.fm.t15) h.t18 (h.t19.trans (by simp)) hA hx h.c1 hl (by omega) fun b' st h14 h15 h17 => ?_
  exact H b' _ _ _ _ (h.fm.stay st (h14.trans h.fm.t14) h15 h17) ((h.rs.cut (st' := r) (by simp) (rvt 0 r).symm).pcs kk k)
theorem g21n (h : Rd w0 w1 who va vc Bn Bf gR gF l vr vs vn vf us pcs ⟨R, am, ns, x :: r, pc, k⟩ C ⟨21, z⟩ a w) (hl : r.length ≤ 100) (h0 : x ≠ 0) (H : OnQ w0 w1 who va vc Bn Bf gR l vr Q ⟨R, am, ns, r, pc, k⟩) : sw.wp Tryd.prog Q a w := by
  refine sw_21 h.fm.sz h.t76 fun b hb => ?_
  have h := h.ag hb
  obtain ⟨A, cs, rfl⟩ := h.rs.st.form
  obtain ⟨g, hA, _, _, hx, _, hc⟩ := h.rs.st.cell (rv0 x r)
  have hc' : (x :: r).reverse.length ≤ cs := hc
  have e := rvl x r
  refine lf21_no (m := r.length) (A := A) (cs := cs) h.fm.sz (by rw [← e]; exact h.fm.t15) (h.t19.trans (by simp)) hA hx h0 hl (by omega) fun b' st h14 h15 h17 => ?_
  exact H b' _ _ _ _ (h.fm.stay st (h14.trans h.fm.t14) h15 (h17.trans h.fm.t17)) (h.rs.cut (by simp) (rvt x r).symm)
theorem g23 {p : PPrg} {A2 : Option Addr} {c2 : Nat} {a0 a2 a3 : Value} (h : Rd w0 w1 who va vc Bn Bf gR gF l vr vs vn vf us #[a0, .slice A2 p.acs.length c2, a2, a3] ⟨R, am, ns, st, pc, k⟩ C ⟨23, z⟩ a w) (hp : Acts anyB anyB w0 (.slice A2 p.acs.length c2) p.acs) (hw : 0 ≤ who ∧ who < p.acs.length) (H : OnQ w0 w1 who va vc Bn Bf gR l vr Q ⟨R, am || tmr p who != -1, ns, st, pc, k⟩) : sw.wp Tryd.prog Q a w := by
  refine sw_23 h.fm.sz h.t76 fun b hb => ?_
  have h := h.ag hb
  cases am with
  | true =>
    refine lf23_t h.fm.sz h.fm.t12 h.rs.now1 (h.rs.nowf 1) fun b' st h14 h15 h17 => ?_
    exact H b' _ _ _ _ (h.fm.stay st (h14.trans h.fm.t14) (h15.trans h.fm.t15) (h17.trans h.fm.t17)) (h.rs.arm true)
  | false =>
    obtain ⟨j, rfl⟩ := Int.eq_ofNat_of_zero_le hw.1
    have hj : j < p.acs.length := by omega
    obtain ⟨b2, o2, ac, v2, rfl, hac, hz, _, _, q3, _⟩ := hp.cell h.ff.low hj
    have hpb := cell_of_row w _ 1 _ _ _ h.ff.pb
    have e : tmr p (j : Int) = ac.timer := by unfold tmr; rw [Int.toNat_natCast, hac]; rfl
    rw [e] at H
    refine lf23_f (j := j) h.fm.sz h.fm.t12 h.fm.t5 h.fm.t1 hpb q3 hj h.rs.now1 (h.rs.nowf 1) fun b' st h14 h15 h17 => ?_
    exact H b' _ _ _ _ (h.fm.stay st (h14.trans h.fm.t14) (h15.trans h.fm.t15) (h17.trans h.fm.t17)) (h.rs.arm _)
theorem g24 (h : Rd w0 w1 who va vc Bn Bf gR gF l vr vs vn vf us pcs ⟨R, am, ns, st, pc, k⟩ C ⟨24, z⟩ a w) (H : OnQ w0 w1 who va vc Bn Bf gR l vr Q ⟨R, false, ns, st, pc, k⟩) : sw.wp Tryd.prog Q a w := by
  refine sw_24 h.fm.sz h.t76 fun b hb => ?_
  have h := h.ag hb
  refine lf24_any h.fm.sz h.fm.t12 h.rs.now1 (h.rs.nowf 1) fun b' st h14 h15 h17 => ?_
  exact H b' _ _ _ _ (h.fm.stay st (h14.trans h.fm.t14) (h15.trans h.fm.t15) (h17.trans h.fm.t17)) (h.rs.arm false)
theorem g25 {Ac : Option Addr} {n c : Nat} (h : Rd w0 w1 who va (.slice Ac n c) Bn Bf gR gF l vr vs vn vf us pcs ⟨R, am, ns, st, pc, k⟩ C ⟨25, z⟩ a w) (H : OnQ w0 w1 who va (.slice Ac n c) Bn Bf gR l vr Q ⟨R, am, ns, st, n, k⟩) : sw.wp Tryd.prog Q a w := by
  refine sw_25 h.fm.sz h.t76 fun b hb => ?_
  have h := h.ag hb
  refine lf25_any h.fm.sz h.fm.t11 fun b' st h14 h15 h17 => ?_
  exact H b' w _ _ _ (h.fm.stay st (h14.trans h.fm.t14) (h15.trans h.fm.t15) h17) (h.rs.pcs n k)
theorem gtwo_on {op : Int} (ho : 9 ≤ op ∧ op ≤ 18 ∧ op ≠ 14) (h : Rd w0 w1 who va vc Bn Bf gR gF l vr vs vn vf us pcs ⟨R, am, ns, y :: x :: r, pc, k⟩ C ⟨op, z⟩ a w) (hl : r.length ≤ 90) (hd : dn op y = 0) (H : OnQ w0 w1 who va vc Bn Bf gR l vr Q ⟨R, am, ns, tw op x y :: r, pc, k⟩) : sw.wp Tryd.prog Q a w := by
  refine sw_two h.fm.sz h.t76 ho fun b hb => ?_
  have h := h.ag hb
  obtain ⟨A, cs, rfl⟩ := h.rs.st.form
  obtain ⟨g, hA, _, _, hx, _, hc⟩ := h.rs.st.cell (rv2 x y r)
  obtain ⟨g', hA', _, _, hy, _, _⟩ := h.rs.st.cell (rv1 x y r)
  have hg : g' = g := by rw [hA] at hA'; cases hA'; rfl
  subst hg
  have e := rvl2 x y r
  have hc' : (y :: x :: r).reverse.length ≤ cs := hc
  refine two_on (m := r.length) h.fm.sz h.fm.t15 h.t18 (h.t19.trans (by simp; omega)) hA e h.c0 hx hy hd h.rs.st (by omega) (by omega) fun b' Ax cx W' ho hb' st h14 h15 h17 => ?_
  have ho' : OwnIV w.heap.size W' (.slice Ax (r.length + 1) cx) (tw op x y :: r).reverse := by
    rw [rvt2] at ho
    rw [List.reverse_cons]; exact ho
  exact H b' W' _ _ _ (h.fm.stay st (h14.trans h.fm.t14) h15 (h17.trans h.fm.t17)) (h.rs.anew hb' ho' (ho'.blk (rv0 _ r)))
theorem gtwo_down {op : Int} (ho : 9 ≤ op ∧ op ≤ 18 ∧ op ≠ 14) (h : Rd w0 w1 who va vc Bn Bf gR gF l vr vs vn vf us pcs ⟨R, am, ns, y :: x :: r, pc, k⟩ C ⟨op, z⟩ a w) (hl : r.length ≤ 90) (hd : dn op y ≠ 0) (hlr : l.regs.length ≤ 1000000) (H : FinQ w0 l vf Q (dn op y) k) : sw.wp Tryd.prog Q a w := by
  refine sw_two h.fm.sz h.t76 ho fun b hb => ?_
  have h := h.ag hb
  obtain ⟨A, cs, rfl⟩ := h.rs.st.form
  obtain ⟨F, cF, rfl⟩ := h.ff.vform
  obtain ⟨g, hA, _, _, hx, _, hc⟩ := h.rs.st.cell (rv2 x y r)
  obtain ⟨g', hA', _, _, hy, _, _⟩ := h.rs.st.cell (rv1 x y r)
  have hg : g' = g := by rw [hA] at hA'; cases hA'; rfl
  subst hg
  have e := rvl2 x y r
  obtain ⟨f0, f1, f2, f3, f4, ff⟩ := h.ff.f_cells
  obtain ⟨r0, r1, r2, r3, r4, r5, r6, rf⟩ := h.ff.r_cells
  refine two_down (m := r.length) h.fm.sz h.fm.t15 h.t18 (h.t19.trans (by simp; omega)) hA e h.c0 hx hy hd h.fm.t13 h.fm.t16 h.fm.t10 (by have := h.ff.ne; omega) f0 f1 f2 f3 f4 ff r0 r1 r2 r3 r4 r5 r6 rf (by omega) fun b' hdf h10 => ?_
  exact fall_2 H h.ff hlr (hdf.trans h.fm.df) h10
theorem g22no {p : PPrg} {A1 A2 : Option Addr} {c1 c2 kk : Nat} {a2 a3 : Value} {tt : Int} (h : Rd w0 w1 who va vc Bn Bf gR gF l vr vs vn vf us #[.slice A1 p.hs.length c1, .slice A2 p.acs.length c2, a2, a3] ⟨R, am, ns, tt :: r, pc, k⟩ C ⟨22, (kk : Int)⟩ a w) (hp : Hnds anyB anyB w0 (.slice A1 p.hs.length c1) p.hs) (hk : kk < p.hs.length) (hl : r.length ≤ 90) (hz : ¬ (0 ≤ tt ∧ tt < p.acs.length)) (hlr : l.regs.length ≤ 1000000) (H : FinQ w0 l vf Q 4 k) : sw.wp Tryd.prog Q a w := by
  refine sw_22 h.fm.sz h.t76 fun b hb => ?_
  have h := h.ag hb
  obtain ⟨A, cs, rfl⟩ := h.rs.st.form
  obtain ⟨F, cF, rfl⟩ := h.ff.vform
  obtain ⟨g, hA, _, _, hx, _, hc⟩ := h.rs.st.cell (rv0 tt r)
  have e := rvl tt r
  obtain ⟨f0, f1, f2, f3, f4, ff⟩ := h.ff.f_cells
  obtain ⟨r0, r1, r2, r3, r4, r5, r6, rf⟩ := h.ff.r_cells
  obtain ⟨b1, o1, hy, v1, rfl, _, _, q1, q2, _⟩ := hp.cell h.ff.low hk
  have p0 := cell_of_row w _ 0 _ _ _ h.ff.pb
  have p1 := cell_of_row w _ 1 _ _ _ h.ff.pb
  by_cases hn : tt < 0
  · refine lf22_neg (m := r.length) (k := kk) (A := A) (cs := cs) h.fm.sz (by rw [← e]; exact h.fm.t15) h.t18 (h.t19.trans (by simp)) h.fm.t5 hA hx h.c1 p0 q1 hk hn h.fm.t13 h.fm.t16 h.fm.t10 (by have := h.ff.ne; omega) f0 f1 f2 f3 f4 ff r0 r1 r2 r3 r4 r5 r6 rf (by omega) fun b' hdf h10 => ?_
    exact fall_1 H h.ff hlr (hdf.trans h.fm.df) h10
  · refine lf22_big (m := r.length) (k := kk) (A := A) (cs := cs) h.fm.sz (by rw [← e]; exact h.fm.t15) h.t18 (h.t19.trans (by simp)) h.fm.t5 hA hx h.c1 p0 p1 q1 hk hn (by omega) h.fm.t13 h.fm.t16 h.fm.t10 (by have := h.ff.ne; omega) f0 f1 f2 f3 f4 ff r0 r1 r2 r3 r4 r5 r6 rf (by omega) fun b' hdf h10 => ?_
    exact fall_1 H h.ff hlr (hdf.trans h.fm.df) h10
theorem g22on {p : PPrg} {A1 A2 : Option Addr} {c1 c2 kk tt ar : Nat} {a2 a3 : Value} {hd : PHnd} (h : Rd w0 w1 who va vc Bn Bf gR gF l vr vs vn vf us #[.slice A1 p.hs.length c1, .slice A2 p.acs.length c2, a2, a3] ⟨R, am, ns, (tt : Int) :: r, pc, k⟩ C ⟨22, (kk : Int)⟩ a w) (hp : Hnds anyB anyB w0 (.slice A1 p.hs.length c1) p.hs) (hk : p.hs[kk]? = some hd) (har : hd.args = (ar : Int)) (hl : r.length ≤ 90) (hle : ar ≤ r.length) (hz : tt < p.acs.length) (hnl : ns.length ≤ 1000) (H : OnQ w0 w1 who va vc Bn Bf gR l vr Q ⟨R, am, ns ++ [⟨(tt : Int), (kk : Int), (r.take ar).reverse⟩], r.drop ar, pc, k⟩) : sw.wp Tryd.prog Q a w := by
  refine sw_22 h.fm.sz h.t76 fun b hb => ?_
  have h := h.ag hb
  obtain ⟨A, cs, rfl⟩ := h.rs.st.form
  obtain ⟨An, cn, rfl⟩ := h.rs.nt.form
  obtain ⟨g, hA, _, _, hx, _, hc⟩ := h.rs.st.cell (rv0 (tt : Int) r)
  have e := rvl (tt : Int) r
  have hc' : ((tt : Int) :: r).reverse.length ≤ cs := hc
  have hkl := (List.getElem?_eq_some_iff.1 hk).1
  obtain ⟨b1, o1, hy, v1, rfl, hy1, _, q1, q2, _⟩ := hp.cell h.ff.low hkl
  obtain rfl : hy = hd := Option.some.inj (hy1.symm.trans hk)
  rw [har] at q1
  have p0 := cell_of_row w _ 0 _ _ _ h.ff.pb
  have p1 := cell_of_row w _ 1 _ _ _ h.ff.pb
  have hrs : RS w1 Bn gR l vr (.slice A (r.length + 1) cs) (.slice An ns.length cn) us ⟨R, am, ns, (tt : Int) :: r, pc, k⟩ w := by rw [← e]; exact h.rs
  refine lf22_on (m := r.length) (k := kk) (A := A) (cs := cs) (tt := tt) (ar := ar) (s := ⟨R, am, ns, (tt : Int) :: r, pc, k⟩) h.fm.sz (by rw [← e]; exact h.fm.t15) h.t18 (h.t19.trans (by simp)) h.fm.t14 h.fm.t5 hA hx h.c1 h.lt p0 p1 q1 hkl h.nn hz hle (by omega) (by omega) rfl hrs hnl fun b' u Ax cx W' hna st h14 h15 h17 => ?_
  have hna' : RS w1 Bn gR l vr (.slice A (r.length + 1) cs) (.slice Ax (ns.length + 1) cx) (us ++ [u]) ⟨R, am, ns ++ [⟨(tt : Int), (kk : Int), (r.take ar).reverse⟩], (tt : Int) :: r, pc, k⟩ W' := by
    rw [← rvd (tt := (tt : Int)) hle]; exact hna
  refine H b' W' _ _ _ (h.fm.stay st h14 h15 (h17.trans h.fm.t17)) (hna'.cut (m := r.length - ar) (st' := r.drop ar) ?_ (rvc hle))
  show r.length - ar ≤ ((tt : Int) :: r).length
  simp; omega
end
end Go.Proofs.YtfbeiedhdmndnaaDoor
namespace Go.Proofs.YtfbeiedhdmndnaaDoor
open Go.RowKit
section
variable {w0 w1 w : World} {who : Int} {va vs vn vr vf : Value} {Bn Bf gR gF C : Nat} {l : PLoc} {us : List Value} {a : Act} {Q : Exit → Act → World → Prop} {p : PPrg} {args : List Int} {y : PHnd} {A1 A2 Ac : Option Addr} {c1 c2 cc : Nat} {a2 a3 : Value} {s : MS}
/-- What lies ahead of the run: the program, the arguments. -/
structure Cx (w0 : World) (p : PPrg) (who : Int) (args : List Int) (va : Value) (y : PHnd) (A1 A2 Ac : Option Addr) (c1 c2 cc : Nat) : Prop where
  hs : Hnds anyB anyB w0 (.slice A1 p.hs.length c1) p.hs
  acs : Acts anyB anyB w0 (.slice A2 p.acs.length c2) p.acs
  args : Ints anyB w0 va args
  who : 0 ≤ who ∧ who < p.acs.length
  code : Code anyB w0 (.slice Ac y.code.length cc) y.code
theorem one_more {α : Type} {st : List α} (h : 1 ≤ (st.length : Int)) : ∃ x r, st = x :: r := by
  cases st with
  | nil => simp at h
  | cons x r => exact ⟨x, r, rfl⟩
theorem two_more {α : Type} {st : List α} (h : 2 ≤ (st.length : Int)) : ∃ y x r, st = y :: x :: r := by
  match st, h with
  | y :: x :: r, _ => exact ⟨y, x, r, rfl⟩
theorem sw_two_any {op z : Int} {R st : List Int} {am : Bool} {ns : List PNte} {pc k : Nat} {pcs : Array Value} (ho : 9 ≤ op ∧ op ≤ 18 ∧ op ≠ 14) (h : Rd w0 w1 who va (.slice Ac y.code.length cc) Bn Bf gR gF l vr vs vn vf us pcs ⟨R, am, ns, st, pc, k⟩ C ⟨op, z⟩ a w)
    (hlr : l.regs.length ≤ 1000000) (k1 : (2 : Int) ≤ st.length) (k2 : (st.length : Int) - 2 + 1 ≤ 8)
    (e : stp p who args y.code.length ⟨op, z⟩ ⟨R, am, ns, st, pc, k⟩ = (dn op (hd0 st), ⟨R, am, ns, tw op (hd0 st.tail) (hd0 st) :: st.tail.tail, pc, k⟩))
    (Hon : (stp p who args y.code.length ⟨op, z⟩ ⟨R, am, ns, st, pc, k⟩).1 = 0 → OnQ w0 w1 who va (.slice Ac y.code.length cc) Bn Bf gR l vr Q (stp p who args y.code.length ⟨op, z⟩ ⟨R, am, ns, st, pc, k⟩).2)
    (Hdn : (stp p who args y.code.length ⟨op, z⟩ ⟨R, am, ns, st, pc, k⟩).1 ≠ 0 → FinQ w0 l vf Q (stp p who args y.code.length ⟨op, z⟩ ⟨R, am, ns, st, pc, k⟩).1 k) : sw.wp Tryd.prog Q a w := by
  rw [e] at Hon Hdn
  obtain ⟨u, x, r, rfl⟩ := two_more k1
  have hr : r.length ≤ 90 := by simp at k2; omega
  by_cases hd : dn op u = 0
  · exact gtwo_on ho h hr hd (Hon hd)
  · exact gtwo_down ho h hr hd hlr (Hdn hd)
set_option maxHeartbeats 1000000 in
theorem sw_any {i : PIns} (h : Rd w0 w1 who va (.slice Ac y.code.length cc) Bn Bf gR gF l vr vs vn vf us #[.slice A1 p.hs.length c1, .slice A2 p.acs.length c2, a2, a3] s C i a w) (ok : OkS p args y.code s i) (cx : Cx w0 p who args va y A1 A2 Ac c1 c2 cc) (hnl : s.notes.length ≤ 1000) (hlr : l.regs.length ≤ 1000000)
    (Hon : (stp p who args y.code.length i s).1 = 0 → OnQ w0 w1 who va (.slice Ac y.code.length cc) Bn Bf gR l vr Q (stp p who args y.code.length i s).2)
    (Hdn : (stp p who args y.code.length i s).1 ≠ 0 → FinQ w0 l vf Q (stp p who args y.code.length i s).1 s.steps) : sw.wp Tryd.prog Q a w := by
  obtain ⟨op, z⟩ := i
  obtain ⟨R, am, ns, st, pc, k⟩ := s
  have q1 := ok.ok.1
  have q2 := ok.ok.2
  unfold lft at q2
  rcases op_cases ok.vl with e | e | e | e | e | e | e | e | e | e | e | e | e | e | e | e | e | e | e | e | e | e | e | e | e
  · have e' : op = 1 := e
    subst e'
    have k2 : (st.length : Int) - 0 + 1 ≤ 8 := q2
    exact g1 h (by omega) (Hon rfl)
  · have e' : op = 2 := e
    subst e'
    have k1 : (1 : Int) ≤ st.length := q1
    have k2 : (st.length : Int) - 1 + 0 ≤ 8 := q2
    obtain ⟨x, r, rfl⟩ := one_more k1
    exact g2 h (by simp at k2; omega) (Hon rfl)
  · have e' : op = 3 := e
    subst e'
    have k1 : (1 : Int) ≤ st.length := q1
    have k2 : (st.length : Int) - 1 + 2 ≤ 8 := q2
    obtain ⟨x, r, rfl⟩ := one_more k1
    exact g3 h (by simp at k2; omega) (Hon rfl)
  · have e' : op = 4 := e
    subst e'
    have k1 : (2 : Int) ≤ st.length := q1
    have k2 : (st.length : Int) - 2 + 2 ≤ 8 := q2
    obtain ⟨u, x, r, rfl⟩ := two_more k1
    exact g4 h (by simp at k2; omega) (Hon rfl)
  · have e' : op = 5 := e
    subst e'
    have k2 : (st.length : Int) - 0 + 1 ≤ 8 := q2
    obtain ⟨kk, rfl⟩ := Int.eq_ofNat_of_zero_le (ok.reg (Or.inl rfl)).1
    exact g5 h (by omega) (Hon rfl)
  · have e' : op = 6 := e
    subst e'
    have k1 : (1 : Int) ≤ st.length := q1
    have k2 : (st.length : Int) - 1 + 0 ≤ 8 := q2
    obtain ⟨kk, rfl⟩ := Int.eq_ofNat_of_zero_le (ok.reg (Or.inr rfl)).1
    obtain ⟨x, r, rfl⟩ := one_more k1
    exact g6 h (by simp at k2; omega) (Hon rfl)
  · have e' : op = 7 := e
    subst e'
    have k2 : (st.length : Int) - 0 + 1 ≤ 8 := q2
    have ha := ok.arg rfl
    have ha1 : 0 ≤ z := ha.1
    obtain ⟨kk, rfl⟩ := Int.eq_ofNat_of_zero_le ha1
    have ha2 : (kk : Int) < args.length := ha.2
    exact g7 h (by omega) cx.args (by omega) (Hon rfl)
  · have e' : op = 8 := e
    subst e'
    have k2 : (st.length : Int) - 0 + 1 ≤ 8 := q2
    exact g8 h (by omega) (Hon rfl)
  · have e' : op = 9 := e
    subst e'
    exact sw_two_any (by decide) h hlr q1 q2 rfl Hon Hdn
  · have e' : op = 10 := e
    subst e'
    exact sw_two_any (by decide) h hlr q1 q2 rfl Hon Hdn
  · have e' : op = 11 := e
    subst e'
    exact sw_two_any (by decide) h hlr q1 q2 rfl Hon Hdn
  · have e' : op = 12 := e
    subst e'
    exact sw_two_any (by decide) h hlr q1 q2 rfl Hon Hdn
  · have e' : op = 13 := e
    subst e'
    exact sw_two_any (by decide) h hlr q1 q2 rfl Hon Hdn
  · have e' : op = 14 := e
    subst e'
    have k1 : (1 : Int) ≤ st.length := q1
    have k2 : (st.length : Int) - 1 + 1 ≤ 8 := q2
    obtain ⟨x, r, rfl⟩ := one_more k1
    exact g14 (Or.inl rfl) h (by simp at k2; omega) (Hon rfl)
  · have e' : op = 15 := e
    subst e'
    exact sw_two_any (by decide) h hlr q1 q2 rfl Hon Hdn
  · have e' : op = 16 := e
    subst e'
    exact sw_two_any (by decide) h hlr q1 q2 rfl Hon Hdn
  · have e' : op = 17 := e
    subst e'
    exact sw_two_any (by decide) h hlr q1 q2 rfl Hon Hdn
  · have e' : op = 18 := e
    subst e'
    exact sw_two_any (by decide) h hlr q1 q2 rfl Hon Hdn
  · have e' : op = 19 := e
    subst e'
    have k1 : (1 : Int) ≤ st.length := q1
    have k2 : (st.length : Int) - 1 + 1 ≤ 8 := q2
    obtain ⟨x, r, rfl⟩ := one_more k1
    exact g14 (Or.inr rfl) h (by simp at k2; omega) (Hon rfl)
  · have e' : op = 20 := e
    subst e'
    have ht := ok.tgt (Or.inl rfl)
    have ht1 : 0 ≤ z := ht.1
    obtain ⟨kk, rfl⟩ := Int.eq_ofNat_of_zero_le ht1
    exact g20 h (Hon rfl)
  · have e' : op = 21 := e
    subst e'
    have k1 : (1 : Int) ≤ st.length := q1
    have k2 : (st.length : Int) - 1 + 0 ≤ 8 := q2
    have ht := ok.tgt (Or.inr rfl)
    have ht1 : 0 ≤ z := ht.1
    obtain ⟨kk, rfl⟩ := Int.eq_ofNat_of_zero_le ht1
    obtain ⟨x, r, rfl⟩ := one_more k1
    have hr : r.length ≤ 100 := by simp at k2; omega
    by_cases hz : x = 0
    · subst hz
      exact g21y h hr (Hon rfl)
    · have e : stp p who args y.code.length ⟨21, (kk : Int)⟩ ⟨R, am, ns, x :: r, pc, k⟩ = (0, ⟨R, am, ns, r, pc, k⟩) := by show ((0 : Int), (⟨R, am, ns, r, if x = 0 then kk else pc, k⟩ : MS)) = _; rw [if_neg hz]
      rw [e] at Hon
      exact g21n h hr hz (Hon rfl)
  · have e' : op = 22 := e
    subst e'
    have k1 : 1 + argsOf p.hs z ≤ st.length := q1
    have k2 : (st.length : Int) - (1 + argsOf p.hs z) + 0 ≤ 8 := q2
    obtain ⟨s1, s2⟩ := ok.snd rfl
    have s1' : 0 ≤ z ∧ z < p.hs.length := s1
    have s2' : 0 ≤ argsOf p.hs z ∧ argsOf p.hs z ≤ 4 := s2
    obtain ⟨kk, rfl⟩ := Int.eq_ofNat_of_zero_le s1'.1
    obtain ⟨hd, hhd⟩ := at_lt (l := p.hs) (k := kk) (by omega)
    obtain ⟨ar, har⟩ := Int.eq_ofNat_of_zero_le s2'.1
    obtain ⟨tt, r, rfl⟩ := one_more (by omega : 1 ≤ (st.length : Int))
    have hr : r.length ≤ 90 := by simp at k2; omega
    have hle : ar ≤ r.length := by simp at k1; omega
    by_cases hz : 0 ≤ tt ∧ tt < p.acs.length
    · have e : stp p who args y.code.length ⟨22, (kk : Int)⟩ ⟨R, am, ns, tt :: r, pc, k⟩ = (0, ⟨R, am, ns ++ [⟨tt, (kk : Int), (r.take (argsOf p.hs kk).toNat).reverse⟩], r.drop (argsOf p.hs kk).toNat, pc, k⟩) := if_pos hz
      rw [e, har] at Hon
      obtain ⟨tn, rfl⟩ := Int.eq_ofNat_of_zero_le hz.1
      exact g22on h cx.hs hhd (by rw [← argsOf_at hhd, har]) hr hle (by omega) hnl (Hon rfl)
    · have e : stp p who args y.code.length ⟨22, (kk : Int)⟩ ⟨R, am, ns, tt :: r, pc, k⟩ = (4, ⟨R, am, ns, r, pc, k⟩) := if_neg hz
      rw [e] at Hdn
      exact g22no h cx.hs (by omega) hr hz hlr (Hdn (show (4 : Int) ≠ 0 by decide))
  · have e' : op = 23 := e
    subst e'
    exact g23 h cx.acs cx.who (Hon rfl)
  · have e' : op = 24 := e
    subst e'
    exact g24 h (Hon rfl)
  · have e' : op = 25 := e
    subst e'
    exact g25 h (Hon rfl)
end
theorem lin_seq : lin = .seq (cAV lin) (.seq (cAV (cBV lin)) (.seq (cAV (cBV (cBV lin))) (.seq (cAV (cBV (cBV (cBV lin)))) (.seq (cAV (cBV (cBV (cBV (cBV lin))))) (.seq (cAV (cBV (cBV (cBV (cBV (cBV lin)))))) (.block 2 sw)))))) := rfl
theorem lbody_seq : lbody = .seq (cAV lbody) (.block 1 lin) := rfl
section
variable {w0 w1 w : World} {who : Int} {va vs vn vr vf : Value} {Bn Bf gR gF : Nat} {l : PLoc} {us : List Value} {a : Act} {Q : Exit → Act → World → Prop} {p : PPrg} {args : List Int} {y : PHnd} {A1 A2 Ac : Option Addr} {c1 c2 cc : Nat} {a2 : Value} {s : MS} {R : Int × MS}
/-- What is to be shown where the run comes to its end. -/
def EndQ (w0 w1 : World) (who : Int) (va vc : Value) (Bn Bf gR : Nat) (l : PLoc) (vr : Value) (Q : Exit → Act → World → Prop) (R : Int × MS) : Prop :=
  ∀ (b : Act) (W : World) (vs' vn' : Value) (us' : List Value) (s : MS), R = (0, s) → s.notes.length ≤ 1000 → Fm who va vc w0.heap.size (w0.heap.size + 2) Bn Bf vs' vn' s.steps s.pc b → RS w1 Bn gR l vr vs' vn' us' s W → Q (.exit 0) b W
/-- A round. -/
theorem lbody_any {ld : List Int} (fm : Fm who va (.slice Ac y.code.length cc) w0.heap.size (w0.heap.size + 2) Bn Bf vs vn s.steps s.pc a) (rs : RS w1 Bn gR l vr vs vn us s w) (ff : FF w0 Bf gF l vf #[.slice A1 p.hs.length c1, .slice A2 p.acs.length c2, a2, .int .i64 p.fuel] w) (cx : Cx w0 p who args va y A1 A2 Ac c1 c2 cc)
    (hL : LI p args who y.code R s) (hsf : s.steps ≤ p.fuel.toNat) (hf : 0 ≤ p.fuel ∧ p.fuel ≤ 256) (_hpc : s.pc ≤ y.code.length) (hx : chkH p.hs.length y = 0) (hO : OkH p.hs) (ha : (args.length : Int) = y.args) (hg : Good p.hs y.code ld) (hcl : y.code.length ≤ 64) (hlr : l.regs.length ≤ 1000000)
    (Hon : ∀ (s' : MS) (b : Act) (W : World) (vs' vn' : Value) (us' : List Value), LI p args who y.code R s' → s'.steps = s.steps + 1 → s.steps < p.fuel.toNat → s'.pc ≤ y.code.length → Fm who va (.slice Ac y.code.length cc) w0.heap.size (w0.heap.size + 2) Bn Bf vs' vn' s'.steps s'.pc b → RS w1 Bn gR l vr vs' vn' us' s' W → Q .normal b W)
    (Hdn : R.1 ≠ 0 → FinQ w0 l vf Q R.1 R.2.steps) (Hend : EndQ w0 w1 who va (.slice Ac y.code.length cc) Bn Bf gR l vr Q R) : lbody.wp Tryd.prog Q a w := by
  have hpf := cell_of_row w _ 3 _ _ _ ff.pb
  have hnl : s.notes.length ≤ 1000 := by have := hL.nl; omega
  rw [lbody_seq]
  by_cases hlt : s.pc < y.code.length
  · refine lb_in fm.sz fm.t11 fm.t17 hlt fun b hb => ?_
    have fm := fm.of_vs hb
    refine wp_block ?_
    obtain ⟨As, cs, rfl⟩ := rs.st.form
    obtain ⟨F, cF, rfl⟩ := ff.vform
    rw [lin_seq]
    by_cases hst : p.fuel ≤ (s.steps : Int)
    · have hR : R = (2, s) := by
        have := hL.eq
        rw [← this, show p.fuel.toNat - s.steps = 0 by omega, rn_out hlt]
      obtain ⟨f0, f1, f2, f3, f4, ffz⟩ := ff.f_cells
      obtain ⟨r0, r1, r2, r3, r4, r5, r6, rf⟩ := ff.r_cells
      refine lin_out fm.sz fm.t5 hpf hst fm.t13 fm.t16 fm.t10 (by have := ff.ne; omega) f0 f1 f2 f3 f4 ffz r0 r1 r2 r3 r4 r5 r6 rf fun b' hdf h10 => ?_
      have hd := Hdn (by rw [hR]; show (2 : Int) ≠ 0; decide)
      rw [hR] at hd
      exact fall_1 (Q := Q) hd ff hlr (hdf.trans fm.df) h10
    · obtain ⟨b1, o1, i, rfl, hi, q0, q1⟩ := cx.code.cell ff.low hlt
      have ok0 := oks_of hx hO ha hg (hL.rch hlt) hi
      have ok : OkS p args y.code { s with pc := s.pc + 1, steps := s.steps + 1 } i := ⟨ok0.ok, ok0.vl, ok0.reg, ok0.arg, ok0.tgt, ok0.snd⟩
      refine lin_go (k := s.st.reverse.length) (A := As) (cs := cs) fm.sz fm.t5 fm.t11 fm.t15 fm.t16 fm.t17 hpf (by omega) hlt q0 q1 (by omega) (by omega) fun b' hd h16 h17 h18 h19 h76 => ?_
      refine wp_block ?_
      have hbA : Below w.heap.size w (w.alloc (.cells #[.int .i64 i.op, .int .i64 i.a] 68)) := bAlloc (bRefl w) _
      have hC := heap_new w (.cells #[.int .i64 i.op, .int .i64 i.a] 68)
      have rd : Rd w0 w1 who va (.slice (some ⟨b1, o1, none⟩) y.code.length cc) Bn Bf gR gF l vr (.slice As s.st.reverse.length cs) vn (.slice F l.regs.length cF) us #[.slice A1 p.hs.length c1, .slice A2 p.acs.length c2, a2, .int .i64 p.fuel] { s with pc := s.pc + 1, steps := s.steps + 1 } w.heap.size i b' (w.alloc (.cells #[.int .i64 i.op, .int .i64 i.a] 68)) := by
        refine ⟨fm.hd hd h16 h17, (rs.below hbA).pcs (s.pc + 1) (s.steps + 1), ff.below hbA, h18, ?_, h76, cell_of_row _ _ 0 _ _ _ hC, cell_of_row _ _ 1 _ _ _ hC, by simp, fun e => ?_, rs.sz⟩
        · rw [h19, List.length_reverse]
        · have := (own_lt rs.nt.own e).2; omega
      refine sw_any rd ok cx hnl hlr (fun h0 => ?_) fun h0 => ?_
      · obtain ⟨n1, n2, n3⟩ := hL.next hx hO ha hg hi (by omega) h0
        intro b2 W vs' vn' us' fm2 rs2
        exact Hon _ b2 W vs' vn' us' n1 n2 (by omega) n3 fm2 rs2
      · have hR : R = stp p who args y.code.length i { s with pc := s.pc + 1, steps := s.steps + 1 } := by
          have := hL.eq
          rw [← this, show p.fuel.toNat - s.steps = (p.fuel.toNat - (s.steps + 1)) + 1 by omega, rn_down hlt hi h0]
        have hd := Hdn (by rw [hR]; exact h0)
        rw [hR, stp_steps] at hd
        exact hd
  · refine lb_out fm.sz fm.t11 fm.t17 hlt fun b hb => ?_
    have hR : R = (0, s) := by
      have := hL.eq
      rw [← this, rn_end hlt]
    exact Hend b w vs vn us s hR hnl (fm.of_vs hb) rs
/-- All of them. -/
theorem loop_any {ld : List Int} (fm : Fm who va (.slice Ac y.code.length cc) w0.heap.size (w0.heap.size + 2) Bn Bf vs vn s.steps s.pc a) (rs : RS w1 Bn gR l vr vs vn us s w) (ff : FF w0 Bf gF l vf #[.slice A1 p.hs.length c1, .slice A2 p.acs.length c2, a2, .int .i64 p.fuel] w1) (hne : (w0.heap.size + 2 < Bn ∧ Bn ≠ Bf ∧ Bn ≠ gF) ∧ (w0.heap.size + 2 < gR ∧ gR ≠ Bf ∧ gR ≠ gF)) (cx : Cx w0 p who args va y A1 A2 Ac c1 c2 cc)
    (hL : LI p args who y.code R s) (hsf : s.steps ≤ p.fuel.toNat) (hf : 0 ≤ p.fuel ∧ p.fuel ≤ 256) (hpc : s.pc ≤ y.code.length) (hx : chkH p.hs.length y = 0) (hO : OkH p.hs) (ha : (args.length : Int) = y.args) (hg : Good p.hs y.code ld) (hcl : y.code.length ≤ 64) (hlr : l.regs.length ≤ 1000000)
    (Hdn : R.1 ≠ 0 → FinQ w0 l vf Q R.1 R.2.steps) (Hend : EndQ w0 w1 who va (.slice Ac y.code.length cc) Bn Bf gR l vr Q R) : (Go.Code.loop lbody).wp Tryd.prog Q a w := by
  refine wp_loop_ghost (fun n a w => ∃ (s : MS) (vs vn : Value) (us : List Value), n = p.fuel.toNat - s.steps ∧ s.steps ≤ p.fuel.toNat ∧ s.pc ≤ y.code.length ∧ Fm who va (.slice Ac y.code.length cc) w0.heap.size (w0.heap.size + 2) Bn Bf vs vn s.steps s.pc a ∧ RS w1 Bn gR l vr vs vn us s w ∧ LI p args who y.code R s) _ ⟨s, vs, vn, us, rfl, hsf, hpc, fm, rs, hL⟩ ?_
  rintro n a w ⟨s, vs, vn, us, rfl, hsf, hpc, fm, rs, hL⟩
  refine lbody_any fm rs (ff.of_rs rs hne.1 hne.2) cx hL hsf hf hpc hx hO ha hg hcl hlr (fun s' b W vs' vn' us' h1 h2 h3 h4 h5 h6 => ?_) (fun h0 => ?_) ?_
  · exact ⟨_, by rw [h2]; omega, s', vs', vn', us', rfl, by omega, h4, h5, h6, h1⟩
  · exact Hdn h0
  · exact Hend
end
end Go.Proofs.YtfbeiedhdmndnaaDoor
namespace Go.Proofs.YtfbeiedhdmndnaaDoor
open Go.RowKit
/-- The state behind an instruction, against the one ahead of it. -/
structure SB (s t : MS) : Prop where
  regs : t.regs.length = s.regs.length
  nl : t.notes.length ≤ s.notes.length + 1
  st : t.st.length ≤ s.st.length + 2
  steps : t.steps = s.steps
  ar : ∀ n ∈ t.notes, n ∈ s.notes ∨ n.args.length ≤ s.st.length
theorem stp_b (p : PPrg) (who : Int) (args : List Int) (len : Nat) (i : PIns) (s : MS) : SB s (stp p who args len i s).2 := by
  unfold stp
  split <;> (try split) <;> refine ⟨?_, ?_, ?_, ?_, ?_⟩ <;> dsimp only <;> (try (intro n hn; first | exact Or.inl hn | (rcases List.mem_append.1 hn with hn | hn; exact Or.inl hn; rw [List.mem_singleton] at hn; subst hn; right; simp; omega))) <;> (try simp) <;> (try omega)
structure JB (s : MS) : Prop where
  nl : s.notes.length ≤ s.steps
  st : s.st.length ≤ 2 * s.steps
  ar : ∀ n ∈ s.notes, n.args.length ≤ 2 * s.steps
theorem rn_b (p : PPrg) (who : Int) (args : List Int) (code : List PIns) : ∀ (f : Nat) (s : MS), JB s → (rn p who args code f s).2.regs.length = s.regs.length ∧ JB (rn p who args code f s).2 ∧ (rn p who args code f s).2.steps ≤ s.steps + f
  | 0, s, h => by
    unfold rn
    split <;> exact ⟨rfl, h, Nat.le_refl _⟩
  | f + 1, s, h => by
    rw [rn]
    by_cases hp : s.pc < code.length
    · rw [if_pos hp]
      have hb := stp_b p who args code.length (code.getD s.pc default) { s with pc := s.pc + 1, steps := s.steps + 1 }
      generalize stp p who args code.length (code.getD s.pc default) { s with pc := s.pc + 1, steps := s.steps + 1 } = r at hb ⊢
      have hst : r.2.steps = s.steps + 1 := hb.steps
      have hj : JB r.2 := by
        have h1 : r.2.notes.length ≤ s.notes.length + 1 := hb.nl
        have h2 : r.2.st.length ≤ s.st.length + 2 := hb.st
        refine ⟨by have := h.nl; omega, by have := h.st; omega, fun n hn => ?_⟩
        rcases hb.ar n hn with h3 | h3
        · have := h.ar n h3; omega
        · have h3' : n.args.length ≤ s.st.length := h3
          have := h.st; omega
      show (if r.1 = 0 then rn p who args code f r.2 else r).2.regs.length = _ ∧ JB (if r.1 = 0 then rn p who args code f r.2 else r).2 ∧ (if r.1 = 0 then rn p who args code f r.2 else r).2.steps ≤ _
      split
      · obtain ⟨h1, h2, h3⟩ := rn_b p who args code f r.2 hj
        exact ⟨h1.trans hb.regs, h2, by omega⟩
      · exact ⟨hb.regs, hj, by omega⟩
    · rw [if_neg hp]; exact ⟨rfl, h, by show s.steps ≤ s.steps + (f + 1); omega⟩
end Go.Proofs.YtfbeiedhdmndnaaDoor
namespace Go.Proofs.YtfbeiedhdmndnaaDoor
open Go.RowKit
attribute [local go_sem ↓] Go.wp_at_zero Go.wp_at_succ
theorem rmayI (ok oka : Nat → Prop) (w : World) (v vl va : Value) (p : PPrg) (who : Int) (l : PLoc) (h : Int) (args : List Int) (hp : PrgV w v p) (hl : LocV ok w vl l) (ha : Ints oka w va args) (b : Bool) (hb : mayBV p who l h args = b) :
    Calls Tryd.prog 9 #[v, .int .i64 who, vl, .int .i64 h, va] w fun e w' => e = .returned (.bool b) ∧ Below w.heap.size w w' := hb ▸ rmay_any ok oka w v vl va p who l h args hp hl ha
/-- The three boxes of the call: program, state, result. -/
def bx3r (w : World) (x y : Array Value) : World := ((w.alloc (.cells x 26)).alloc (.cells y 29)).alloc (.cells #[.slice none 0 0, .bool false, .int .i64 0, .int .i64 0, .int .i64 0, .slice none 0 0, .int .i64 0] 37)
theorem bx3r_below (w : World) (x y : Array Value) : Below w.heap.size w (bx3r w x y) := bAlloc (bAlloc (bAlloc (bRefl w) _) _) _
theorem bx3r_size (w : World) (x y : Array Value) : (bx3r w x y).heap.size = w.heap.size + 3 := by simp [bx3r]
theorem bx3r_0 (w : World) (x y : Array Value) : (bx3r w x y).heap[w.heap.size]? = some (.cells x 26) := by
  unfold bx3r
  rw [Below.heap_alloc _ _ _ (by simp; omega), Below.heap_alloc _ _ _ (by simp)]; exact heap_new _ _
theorem bx3r_1 (w : World) (x y : Array Value) : (bx3r w x y).heap[w.heap.size + 1]? = some (.cells y 29) := by
  unfold bx3r
  rw [Below.heap_alloc _ _ _ (by simp)]; exact heap_new2 (by simp)
theorem bx3r_2 (w : World) (x y : Array Value) : (bx3r w x y).heap[w.heap.size + 2]? = some (.cells #[.slice none 0 0, .bool false, .int .i64 0, .int .i64 0, .int .i64 0, .slice none 0 0, .int .i64 0] 37) := by
  unfold bx3r
  exact heap_new2 (by simp)
set_option maxHeartbeats 1000000 in
set_option maxRecDepth 100000 in
theorem rrun_no (ok oka : Nat → Prop) (w : World) (v vl va : Value) (p : PPrg) (who : Int) (l : PLoc) (h : Int) (args : List Int) (hp : PrgV w v p) (hl : LocV ok w vl l) (ha : Ints oka w va args) (hm : ¬ mayP p who l h args) :
    Calls Tryd.prog 12 #[v, .int .i64 who, vl, .int .i64 h, va] w fun e w' => ∃ u, e = .returned u ∧ ResV anyB w' u (runP p who l h args) ∧ Below w.heap.size w w' := by
  have HP : Hid (PrgV w v p) := hp
  have HV : Hid (LocV ok w vl l) := hl
  have HA : Hid (Ints oka w va args) := ha
  have HM : Hid (mayBV p who l h args = false) := mayB_no hm
  have HR : Hid (runP p who l h args = ⟨⟨[], false, 0, 0, 0⟩, [], 0⟩) := by show _ = _; unfold runP; exact @if_neg _ (Classical.propDecidable _) hm _ _ _
  obtain ⟨v1, v2, v3, rfl, h1, h2, h3⟩ := hp
  obtain ⟨A1, c1, rfl, hl1⟩ := h1.form
  obtain ⟨A2, c2, rfl, hl2⟩ := h2.form
  obtain ⟨A3, c3, rfl, hl3⟩ := h3.form
  obtain ⟨vr, rfl, hr⟩ := hl
  obtain ⟨A4, c4, rfl, hl4⟩ := hr.form
  obtain ⟨A5, c5, rfl, hl5⟩ := ha.form
  clear h1 h2 h3 hr ha hm
  go_enter Tryd.func12, Tryd.ntmps12
  go_wp2_with fail
  have HB := bx3r_below w #[.slice A1 p.hs.length c1, .slice A2 p.acs.length c2, .slice A3 p.bs.length c3, .int .i64 p.fuel] #[.slice A4 l.regs.length c4, .bool l.armed, .int .i64 l.down, .int .i64 l.sent, .int .i64 l.over]
  refine (rmayI ok oka (bx3r w #[.slice A1 p.hs.length c1, .slice A2 p.acs.length c2, .slice A3 p.bs.length c3, .int .i64 p.fuel] #[.slice A4 l.regs.length c4, .bool l.armed, .int .i64 l.down, .int .i64 l.sent, .int .i64 l.over]) _ _ _ p who l h args (HP.out.below HB) (HV.out.below HB) (HA.out.below HB) _ HM.out).mono ?_
  rintro e w1 ⟨rfl, hb1⟩
  have hs1 := hb1.size
  rw [bx3r_size] at hs1
  obtain ⟨x0, x1, x2, x3, x4, x5, x6, xf⟩ := blk7 ((hb1.block _ (by rw [bx3r_size]; omega)).trans (bx3r_2 w _ _))
  have HB1 : Hid (Below w.heap.size w w1) := bTrans HB hb1
  clear hb1 HB
  have f0 := xf 0
  have f1 := xf 1
  have f2 := xf 2
  have f3 := xf 3
  have f4 := xf 4
  have f5 := xf 5
  have f6 := xf 6
  clear xf
  go_wp2
  refine bodyPost_ret (v := .agg #[.slice none 0 0, .bool false, .int .i64 0, .int .i64 0, .int .i64 0, .slice none 0 0, .int .i64 0]) (by simp [results, Tryd.results12, go_sem, *]) rfl ⟨_, rfl, ?_, ?_⟩
  · rw [HR.out]; exact ⟨_, _, rfl, ⟨_, _, rfl, by simp, by simp, Or.inl rfl⟩, ⟨_, _, rfl, by simp, by simp, Or.inl rfl⟩⟩
  · repeat (refine Below.setCell ?_ (by first | (simp; done) | (simp; omega)) _)
    exact HB1.out
/-- A list of numbers made anew behind a box: where it lies, and what stays. -/
theorem anew_I {w2 W : World} {N : Nat} {X : Obj} {l : List Int} {v' : Value} (hN : w2.heap.size = N) (h : IAV N ((w2.alloc X).alloc (.cells #[] 3)) (.slice (some ⟨N + 1, 0, none⟩) 0 0) l v' W) :
    OwnIV N W v' l ∧ Below w2.heap.size w2 W ∧ W.heap[N]? = some X ∧ ∃ g, v'.ownBlock = some g ∧ N < g ∧ g < W.heap.size := by
  subst hN
  obtain ⟨h1, h2, h3⟩ := h
  have hr : ∀ g, (Value.slice (some ⟨w2.heap.size + 1, 0, none⟩) 0 0).ownBlock = some g → g = w2.heap.size + 1 := fun g e => (Option.some.inj e).symm
  refine ⟨h1, grown_low (bAlloc (bAlloc (bRefl w2) _) _) h2 fun g e => by have := hr g e; omega, ?_, ?_⟩
  · rw [h2.block _ (by simp; omega) (fun e => by have := hr _ e.symm; omega)]
    exact ((bAlloc (bRefl _) _).block _ (by simp)).trans (heap_new _ _)
  · rcases h3 with h3 | h3
    · exact ⟨w2.heap.size + 1, h3, by omega, (own_lt h1 h3).2⟩
    · exact ⟨w2.heap.size + 1 + 1, by rw [h3]; simp, by omega, (own_lt h1 (by rw [h3]; simp)).2⟩
theorem OwnIV.setO {base b j : Nat} {w : World} {v y : Value} {l : List Int} (h : OwnIV base w v l) (hn : v.ownBlock ≠ some b) : OwnIV base (w.setCell ⟨b, j, none⟩ y) v l :=
  h.same fun g hg => Below.heap_setCell _ _ _ _ (fun e => hn (by have e' : g = b := e; rw [← e']; exact hg))
theorem OwnIV.base {b b' : Nat} {w : World} {v : Value} {l : List Int} (h : OwnIV b w v l) (hb : b' ≤ b) : OwnIV b' w v l :=
  ⟨h.1, h.2.imp id fun ⟨g, cap, cur, a1, a2, a3⟩ => ⟨g, cap, cur, a1, Nat.le_trans hb a2, a3⟩⟩
theorem rsetup {w w2 W3 W5 : World} {l : PLoc} {v4 v6 v7 : Value} {g3 g5 : Nat} {pc : Array Value} (hB2 : Below w.heap.size w w2) (hs2 : w.heap.size + 3 ≤ w2.heap.size) (K0 : w2.heap[w.heap.size]? = some (.cells pc 26))
    (K2 : w2.heap[w.heap.size + 2]? = some (.cells #[.slice none 0 0, .bool false, .int .i64 0, .int .i64 0, .int .i64 0, .slice none 0 0, .int .i64 0] 37))
    (HO3 : OwnIV w2.heap.size W3 v6 l.regs) (HB3 : Below w2.heap.size w2 W3) (HX3 : W3.heap[w2.heap.size]? = some (.cells #[v4, .bool l.armed, .int .i64 l.down, .int .i64 l.sent, .int .i64 l.over] 29)) (eg3 : v6.ownBlock = some g3) (hg3 : w2.heap.size < g3) (hg3' : g3 < W3.heap.size)
    (HO5 : OwnIV W3.heap.size W5 v7 l.regs) (HB5 : Below (W3.setCell ⟨w2.heap.size, 0, none⟩ v6).heap.size (W3.setCell ⟨w2.heap.size, 0, none⟩ v6) W5) (HX5 : W5.heap[W3.heap.size]? = some (.cells #[v4, .bool l.armed, .int .i64 l.down, .int .i64 l.sent, .int .i64 l.over] 29)) (eg5 : v7.ownBlock = some g5) (hg5 : W3.heap.size < g5) (hg5' : g5 < W5.heap.size) :
    RS (W5.setCell ⟨W3.heap.size, 0, none⟩ v7) w2.heap.size g3 l v6 (.slice none 0 0) (.slice none 0 0) [] (ms0 l) (W5.setCell ⟨W3.heap.size, 0, none⟩ v7) ∧ FF w W3.heap.size g5 l v7 pc (W5.setCell ⟨W3.heap.size, 0, none⟩ v7) := by
  have s4 : (W3.setCell ⟨w2.heap.size, 0, none⟩ v6).heap.size = W3.heap.size := by simp
  have s5 : W3.heap.size ≤ W5.heap.size := by have := HB5.size; omega
  have s6 : (W5.setCell ⟨W3.heap.size, 0, none⟩ v7).heap.size = W5.heap.size := by simp
  have b5 : ∀ b, b ≠ W3.heap.size → (W5.setCell ⟨W3.heap.size, 0, none⟩ v7).heap[b]? = W5.heap[b]? := fun b hb => Below.heap_setCell _ _ _ _ (fun e => hb (by have e' : b = W3.heap.size := e; exact e'))
  have b3 : ∀ b, b < W3.heap.size → b ≠ w2.heap.size → W5.heap[b]? = W3.heap[b]? := fun b hb hn => (HB5.block b (by omega)).trans (Below.heap_setCell _ _ _ _ (fun e => hn (by have e' : b = w2.heap.size := e; exact e')))
  have hz := HB3.size
  have hn : (W5.setCell ⟨W3.heap.size, 0, none⟩ v7).heap[w2.heap.size]? = some (.cells #[v6, .bool l.armed, .int .i64 l.down, .int .i64 l.sent, .int .i64 l.over] 29) := by
    rw [b5 _ (by omega), HB5.block _ (by omega), setCell_heap HX3]; rfl
  have low : Below w.heap.size w (W5.setCell ⟨W3.heap.size, 0, none⟩ v7) :=
    (((bTrans hB2 HB3).setCell (p := ⟨w2.heap.size, 0, none⟩) (by show w.heap.size ≤ w2.heap.size; omega) v6).trans (HB5.mono (by omega))).setCell (p := ⟨W3.heap.size, 0, none⟩) (by show w.heap.size ≤ W3.heap.size; omega) v7
  refine ⟨⟨Nat.le_refl _, ⟨rfl, rfl, rfl⟩, fun _ _ _ _ => rfl, ⟨_, hn, rfl, fun i hi => ?_⟩, ⟨by omega, by omega, by omega⟩, (HO3.same fun g hg => ?_).base (Nat.zero_le _), eg3, ⟨rfl, Or.inl ⟨rfl, rfl⟩⟩, NT.nil _ _ _⟩, ⟨low, ?_, ?_, ?_, (HO5.same fun g hg => ?_).base (by omega), eg5, by omega, by omega, by omega⟩⟩
  · match i, hi with
    | 0, _ => rfl
    | 1, _ => rfl
    | 2, _ => rfl
    | 3, _ => rfl
    | 4, _ => rfl
  · rw [eg3] at hg
    cases hg
    exact (b5 g3 (by omega)).trans (b3 g3 hg3' (by omega))
  · exact (b5 _ (by omega)).trans ((b3 _ (by omega) (by omega)).trans ((HB3.block _ (by omega)).trans K0))
  · exact (b5 _ (by omega)).trans ((b3 _ (by omega) (by omega)).trans ((HB3.block _ (by omega)).trans K2))
  · rw [setCell_heap HX5]; rfl
  · rw [eg5] at hg
    cases hg
    exact b5 g5 (by omega)
theorem Ints.setO {b j : Nat} {ok : Nat → Prop} {w : World} {v y : Value} {l : List Int} (h : Ints ok w v l) (hn : ∀ c, ok c → c ≠ b) : Ints ok (w.setCell ⟨b, j, none⟩ y) v l :=
  h.same ⟨by simp, fun c hc _ => Below.heap_setCell _ _ _ _ (fun e => hn c hc (by have e' : c = b := e; exact e'))⟩
theorem Ntes.setO {b j : Nat} {ok inn : Nat → Prop} {w : World} {v y : Value} {l : List PNte} (h : Ntes ok inn w v l) (ho : ∀ c, ok c → c ≠ b) (hn : ∀ c, inn c → c ≠ b) : Ntes ok inn (w.setCell ⟨b, j, none⟩ y) v l :=
  h.same ⟨by simp, fun c hc _ => Below.heap_setCell _ _ _ _ (fun e => ho c hc (by have e' : c = b := e; exact e'))⟩ ⟨by simp, fun c hc _ => Below.heap_setCell _ _ _ _ (fun e => hn c hc (by have e' : c = b := e; exact e'))⟩
set_option maxHeartbeats 1000000 in
theorem rres_run {b : Act} {W : World} {B : Nat} {x0 x1 x2 x3 x4 x5 x6 : Value} (h10 : b.tmps[10]? = some (.pointer (some ⟨B, 0, none⟩))) (hc : W.heap[B]? = some (.cells #[x0, x1, x2, x3, x4, x5, x6] 37)) : (results Tryd.f12 b.tmps).run Tryd.prog W = .ok (.agg #[x0, x1, x2, x3, x4, x5, x6]) W := by
  obtain ⟨q0, q1, q2, q3, q4, q5, q6, qf⟩ := blk7 hc
  simp [results, Tryd.results12, go_sem, *]
set_option maxHeartbeats 16000000 in
set_option maxRecDepth 100000 in
theorem rrun_yes (ok oka : Nat → Prop) (w : World) (v vl va : Value) (p : PPrg) (who : Int) (l : PLoc) (h : Int) (args : List Int) (hp : PrgV w v p) (hl : LocV ok w vl l) (ha : Ints oka w va args) (hm : mayP p who l h args) :
    Calls Tryd.prog 12 #[v, .int .i64 who, vl, .int .i64 h, va] w fun e w' => ∃ u, e = .returned u ∧ ResV anyB w' u (runP p who l h args) ∧ Below w.heap.size w w' := by
  have HP : Hid (PrgV w v p) := hp
  have HV : Hid (LocV ok w vl l) := hl
  have HA : Hid (Ints oka w va args) := ha
  have HM : Hid (mayBV p who l h args = true) := mayB_yes hm
  have HR : Hid (runP p who l h args = fin l (rnR p who l h args)) := by show _ = _; unfold runP; exact @if_pos _ (Classical.propDecidable _) hm _ _ _
  obtain ⟨v1, v2, v3, rfl, h1, h2, h3⟩ := hp
  obtain ⟨A1, c1, rfl, hl1⟩ := h1.form
  obtain ⟨A2, c2, rfl, hl2⟩ := h2.form
  obtain ⟨A3, c3, rfl, hl3⟩ := h3.form
  obtain ⟨vr, rfl, hr⟩ := hl
  obtain ⟨A4, c4, rfl, hl4⟩ := hr.form
  obtain ⟨A5, c5, rfl, hl5⟩ := ha.form
  obtain ⟨m0, m1, m2, m3, m4, m5⟩ := hm
  obtain ⟨k, rfl⟩ := Int.eq_ofNat_of_zero_le m2.1
  obtain ⟨b1, o1, y, u1, rfl, hy, hz1, q1, q2, hcd⟩ := h1.cell (bRefl w) (k := k) (by omega)
  obtain ⟨Ac, cc, rfl, hlc⟩ := hcd.form
  have hzb : b1 < w.heap.size := hz1
  have hk : k < p.hs.length := by omega
  have HY : Hid (chkH p.hs.length y = 0 ∧ OkH p.hs ∧ (args.length : Int) = y.args ∧ Good p.hs y.code (dl p.hs y.code)) := by
    obtain ⟨f1, f2⟩ := fc_parts m0
    have hmem := List.mem_of_getElem? hy
    exact ⟨chk_hs f1 y hmem, (chk_ok f1).1, by rw [m3, argsOf_at hy], dp_some (f2 y hmem)⟩
  have hfuel := chk_fuel (fc_parts m0).1
  obtain ⟨fu, hfu⟩ := Int.eq_ofNat_of_zero_le (show 0 ≤ p.fuel by omega)
  have HF : Hid (p.fuel.toNat = fu ∧ fu ≤ 256 ∧ p.fuel = fu) := ⟨by rw [hfu]; exact Int.toNat_natCast fu, by omega, hfu⟩
  have HC : Hid (rnR p who l (k : Int) args = rn p who args y.code p.fuel.toNat (ms0 l)) := by show _ = _; unfold rnR; rw [fcode_at hy]
  have HW : Hid (0 ≤ who ∧ who < p.acs.length) := m1
  have H8 : Hid (l.regs.length ≤ 8) := m4
  have HD : Hid (l.down = 0) := m5
  have HCD : Hid (Code anyB w (.slice Ac y.code.length cc) y.code) := hcd.any
  have HH1 : Hid (Hnds anyB anyB w (.slice (some ⟨b1, o1, none⟩) p.hs.length c1) p.hs) := h1
  have HH2 : Hid (Acts anyB anyB w (.slice A2 p.acs.length c2) p.acs) := h2
  have HVI : Hid (Ints ok w (.slice A4 l.regs.length c4) l.regs) := hr
  have HAR : Hid (Ints anyB w (.slice A5 args.length c5) args) := ha.any
  have hcl : y.code.length ≤ 64 := by
    have hx := HY.out.1
    unfold chkH at hx
    by_cases e0 : 0 ≤ y.args ∧ y.args ≤ 4
    · rw [if_pos e0] at hx
      by_cases e1 : y.code.length ≤ 64
      · exact e1
      · rw [if_neg e1] at hx; cases hx
    · rw [if_neg e0] at hx; cases hx
  clear h1 h2 h3 hr ha m0 m1 m2 m3 m4 m5 hy hcd hz1 hfuel hfu
  go_enter Tryd.func12, Tryd.ntmps12
  go_wp2_with fail
  have HB := bx3r_below w #[.slice (some ⟨b1, o1, none⟩) p.hs.length c1, .slice A2 p.acs.length c2, .slice A3 p.bs.length c3, .int .i64 p.fuel] #[.slice A4 l.regs.length c4, .bool l.armed, .int .i64 l.down, .int .i64 l.sent, .int .i64 l.over]
  refine (rmayI ok oka (bx3r w #[.slice (some ⟨b1, o1, none⟩) p.hs.length c1, .slice A2 p.acs.length c2, .slice A3 p.bs.length c3, .int .i64 p.fuel] #[.slice A4 l.regs.length c4, .bool l.armed, .int .i64 l.down, .int .i64 l.sent, .int .i64 l.over]) _ _ _ p who l k args (HP.out.below HB) (HV.out.below HB) (HA.out.below HB) _ HM.out).mono ?_
  rintro e w2 ⟨rfl, hb2⟩
  have hs2 := hb2.size
  rw [bx3r_size] at hs2
  have K0 : Hid (w2.heap[w.heap.size]? = some (.cells #[.slice (some ⟨b1, o1, none⟩) p.hs.length c1, .slice A2 p.acs.length c2, .slice A3 p.bs.length c3, .int .i64 p.fuel] 26)) := (hb2.block _ (by rw [bx3r_size]; omega)).trans (bx3r_0 w _ _)
  have K1 : Hid (w2.heap[w.heap.size + 1]? = some (.cells #[.slice A4 l.regs.length c4, .bool l.armed, .int .i64 l.down, .int .i64 l.sent, .int .i64 l.over] 29)) := (hb2.block _ (by rw [bx3r_size]; omega)).trans (bx3r_1 w _ _)
  have K2 : Hid (w2.heap[w.heap.size + 2]? = some (.cells #[.slice none 0 0, .bool false, .int .i64 0, .int .i64 0, .int .i64 0, .slice none 0 0, .int .i64 0] 37)) := (hb2.block _ (by rw [bx3r_size]; omega)).trans (bx3r_2 w _ _)
  obtain ⟨p0, p1, p2, p3, pf⟩ := blk4V K0.out
  obtain ⟨y0, y1, y2, y3, y4, yf⟩ := blk5V K1.out
  have HB2 : Hid (Below w.heap.size w w2) := bTrans HB hb2
  have q2' := (HB2.out.cell (p := ⟨b1, o1 + k * 2 + 1, none⟩) hzb).trans q2
  have hzb2 : b1 < w2.heap.size := by omega
  have HV2 : Hid (Ints anyB w2 (.slice A4 l.regs.length c4) l.regs) := Ints.below HVI.out.any HB2.out
  clear hb2 HB q1 q2 HP HV HA HM pf yf
  have hzl : w.heap.size + 1 < w2.heap.size := by omega
  have hzl2 : w.heap.size + 1 < w2.heap.size + 1 := by omega
  have hl8 : l.regs.length ≤ 1000 := by have := H8.out; omega
  go_wp2_with (first
    | (at_builtin; refine appIV (base := w2.heap.size) (a := []) rfl _ _ rfl (OwnIV.empty (by exact heap_new2 (by simp)) (by simp)) rfl rfl (HV2.out.below (by exact bAlloc (bAlloc (bRefl _) _) _)) (by first | (simp; done) | (simp; omega)) (by first | (simp; done) | (simp; omega)) ?_; rintro A6 c6 W3 hia; simp only [List.nil_append, List.length_nil, Nat.zero_add] at hia ⊢; obtain ⟨ho3, hb3, hx3, g3, eg3, hg3, hg3'⟩ := anew_I rfl hia; clear hia; obtain ⟨t0, t1, t2, t3, t4, tf⟩ := blk5V hx3; have hz3 : w2.heap.size < W3.heap.size := (by omega); have tf0 := tf 0; clear tf; replace y0 := (hb3.cell (p := ⟨w.heap.size + 1, 0, none⟩) (by show w.heap.size + 1 < _; omega)).trans y0; replace y1 := (hb3.cell (p := ⟨w.heap.size + 1, 1, none⟩) (by show w.heap.size + 1 < _; omega)).trans y1; replace y2 := (hb3.cell (p := ⟨w.heap.size + 1, 2, none⟩) (by show w.heap.size + 1 < _; omega)).trans y2; replace y3 := (hb3.cell (p := ⟨w.heap.size + 1, 3, none⟩) (by show w.heap.size + 1 < _; omega)).trans y3; replace y4 := (hb3.cell (p := ⟨w.heap.size + 1, 4, none⟩) (by show w.heap.size + 1 < _; omega)).trans y4; have hzl3 : w.heap.size + 1 < W3.heap.size := (by omega); have hzl4 : w.heap.size + 1 < W3.heap.size + 1 := (by omega); have n31 : ¬ (w.heap.size + 1 = w2.heap.size) := (by omega); have n32 : ¬ (w2.heap.size = w.heap.size + 1) := (by omega); have HO3 : Hid (OwnIV w2.heap.size W3 (.slice A6 l.regs.length c6) l.regs) := ho3; have HB3 : Hid (Below w2.heap.size w2 W3) := hb3; have HX3 : Hid (W3.heap[w2.heap.size]? = some (.cells #[.slice A4 l.regs.length c4, .bool l.armed, .int .i64 l.down, .int .i64 l.sent, .int .i64 l.over] 29)) := hx3; have HV3 : Hid (Ints (fun b => b < w2.heap.size) (W3.setCell ⟨w2.heap.size, 0, none⟩ (.slice A6 l.regs.length c6)) (.slice A4 l.regs.length c4) l.regs) := (Ints.same (Ints.below ((Sl.lt HV2.out).imp (fun b hb => hb.2) (Nat.le_refl _) fun _ _ _ _ _ h => h) hb3) ⟨by simp, fun b hb _ => Below.heap_setCell _ _ _ _ (fun e => by have e' : b = w2.heap.size := e; omega)⟩); clear ho3 hb3 hx3)
    | (at_builtin; refine appIV (base := W3.heap.size) (a := []) rfl _ _ rfl (OwnIV.empty (by exact heap_new2 (by simp)) (by simp)) rfl rfl (HV3.out.below (by exact bAlloc (bAlloc (bRefl _) _) _)) (by first | (simp; done) | (simp; omega)) (by first | (simp; done) | (simp; omega)) ?_; rintro A7 c7 W5 hia; simp only [List.nil_append, List.length_nil, Nat.zero_add] at hia ⊢; obtain ⟨ho5, hb5, hx5, g5, eg5, hg5, hg5'⟩ := anew_I (by simp) hia; clear hia; obtain ⟨f0, f1, f2, f3, f4, ff⟩ := blk5V hx5; have hz5 : W3.heap.size < W5.heap.size := (by omega); have ff0 := ff 0; clear ff; have HO5 : Hid (OwnIV W3.heap.size W5 (.slice A7 l.regs.length c7) l.regs) := ho5; have HB5 : Hid (Below (W3.setCell ⟨w2.heap.size, 0, none⟩ (.slice A6 l.regs.length c6)).heap.size (W3.setCell ⟨w2.heap.size, 0, none⟩ (.slice A6 l.regs.length c6)) W5) := hb5; have HX5 : Hid (W5.heap[W3.heap.size]? = some (.cells #[.slice A4 l.regs.length c4, .bool l.armed, .int .i64 l.down, .int .i64 l.sent, .int .i64 l.over] 29)) := hx5; clear ho5 hb5 hx5))
  have HS := rsetup HB2.out hs2 K0.out K2.out HO3.out HB3.out HX3.out eg3 hg3 hg3' HO5.out HB5.out HX5.out eg5 hg5 hg5'
  generalize W5.setCell ⟨W3.heap.size, 0, none⟩ (.slice A7 l.regs.length c7) = w1 at HS ⊢
  have HRS : Hid (RS w1 w2.heap.size g3 l (.slice A6 l.regs.length c6) (.slice none 0 0) (.slice none 0 0) [] (ms0 l) w1) := HS.1
  have HFF : Hid (FF w W3.heap.size g5 l (.slice A7 l.regs.length c7) #[.slice (some ⟨b1, o1, none⟩) p.hs.length c1, .slice A2 p.acs.length c2, .slice A3 p.bs.length c3, .int .i64 p.fuel] w1) := HS.2
  have HNE : Hid ((w.heap.size + 2 < w2.heap.size ∧ w2.heap.size ≠ W3.heap.size ∧ w2.heap.size ≠ g5) ∧ (w.heap.size + 2 < g3 ∧ g3 ≠ W3.heap.size ∧ g3 ≠ g5)) := ⟨⟨by omega, by omega, by omega⟩, ⟨by omega, by omega, by omega⟩⟩
  clear HS K0 K1 K2 HO3 HB3 HX3 HO5 HB5 HX5 p0 p1 p2 p3 y0 y1 y2 y3 y4 t0 t1 t2 t3 t4 f0 f1 f2 f3 f4 tf0 ff0 n31 n32 hzl hzl2 hzl3 hzl4 HV2 HV3 q2' hzb2
  rename_i Q' K hK
  have HLR : l.regs.length ≤ 1000000 := by omega
  refine loop_any (w0 := w) (w1 := w1) (who := who) (va := .slice A5 args.length c5) (Ac := Ac) (cc := cc) (y := y) (p := p) (args := args) (A1 := some ⟨b1, o1, none⟩) (c1 := c1) (A2 := A2) (c2 := c2) (a2 := .slice A3 p.bs.length c3) (Bn := w2.heap.size) (Bf := W3.heap.size) (gR := g3) (gF := g5) (l := l) (vr := .slice A6 l.regs.length c6) (vf := .slice A7 l.regs.length c7) (vs := .slice none 0 0) (vn := .slice none 0 0) (us := []) (s := ms0 l) (R := rnR p who l k args) (ld := dl p.hs y.code)
    ⟨rfl, rfl, rfl, rfl, rfl, rfl, rfl, rfl, rfl, rfl, rfl, rfl, rfl⟩ HRS.out HFF.out HNE.out ⟨HH1.out, HH2.out, HAR.out, HW.out, HCD.out⟩ ⟨fun _ => Rch.start, HC.out.symm, Nat.zero_le _⟩ (Nat.zero_le _) ⟨by have := HF.out; omega, by have := HF.out; omega⟩ (Nat.zero_le _) HY.out.1 HY.out.2.1 HY.out.2.2.1 HY.out.2.2.2 hcl HLR ?_ ?_
  · intro h0 b W hd h10 hcell hints hlow
    show bodyPost Tryd.prog Tryd.f12 (fun e w' => ∃ u, e = .returned u ∧ ResV anyB w' u (runP p who l k args) ∧ Below w.heap.size w w') .ret b W
    refine bodyPost_ret (rres_run h10 hcell) hd ⟨_, rfl, ?_, hlow⟩
    rw [HR.out]
    unfold fin
    rw [if_neg h0]
    exact ⟨_, _, rfl, hints, ⟨_, _, rfl, by simp, by simp, Or.inl rfl⟩⟩
  · intro b W vs' vn' us' s hR hnl fm rs
    have hK2 := hK b W
    show K b W
    refine hK2 ?_
    show tl.wp Tryd.prog Q' b W
    have ff := HFF.out.of_rs rs HNE.out.1 HNE.out.2
    obtain ⟨r0, r1, r2, r3, r4, r5, r6, rf⟩ := ff.r_cells
    obtain ⟨An, cn, rfl⟩ := rs.nt.form
    have hrl : s.regs.length ≤ 1000000 := by
      obtain ⟨h1, _, _⟩ := rn_b p who args y.code p.fuel.toNat (ms0 l) ⟨Nat.le_refl _, Nat.zero_le _, fun n hn => by cases hn⟩
      rw [← HC.out, hR] at h1
      have h2 : s.regs.length = l.regs.length := h1
      omega
    have hlt := rs.lts
    have hne := HNE.out
    have hz1 := ff.low.size
    refine tl_go (Bf := w2.heap.size) (Rb := w.heap.size + 2) (An := An) (nn := s.notes.length) (cn := cn) (sp := (s.steps : Int)) (fz := wrap64 (l.sent + s.notes.length)) fm.sz fm.t12 fm.t14 fm.t16 fm.t10 (by omega) rs.now0 rs.now1 (rs.now.cell (i := 2) (by decide)) (rs.now.cell (i := 3) (by decide)) (rs.now.cell (i := 4) (by decide)) (fun o => rs.nowf o) r0 r1 r2 r3 r4 r5 r6 rf (by rw [IntKind.wrap_i64, wrap64]) fun b' hdf h10 => ?_
    have hb1 : (W.setCell ⟨w2.heap.size, 3, none⟩ (.int .i64 (wrap64 (l.sent + s.notes.length)))).heap[w.heap.size + 2]? = W.heap[w.heap.size + 2]? := Below.heap_setCell _ _ _ _ (fun e => by have e' : w.heap.size + 2 = w2.heap.size := e; omega)
    refine bodyPost_ret (rres_run h10 (put7_hp (hb1.trans ff.rs))) (hdf.trans fm.df) ⟨_, rfl, ?_, put7_low (ff.low.setCell (p := ⟨w2.heap.size, 3, none⟩) (by show w.heap.size ≤ w2.heap.size; omega) _) (by omega)⟩
    rw [HR.out, hR]
    have hi : Ints (fun b => b ≠ w2.heap.size ∧ b ≠ w.heap.size + 2) W (.slice A6 l.regs.length c6) s.regs := (rs.rg.ints hrl).imp (fun b hb => by
      have h1 := hb.2
      rw [rs.rb] at h1
      have h2 : g3 = b := Option.some.inj h1
      omega) (Nat.le_refl _) fun _ _ _ _ _ h => h
    have hn := (rs.nt.ntes (by omega))
    have hS1 : Same (fun b => b ≠ w2.heap.size) W (W.setCell ⟨w2.heap.size, 3, none⟩ (.int .i64 (wrap64 (l.sent + s.notes.length)))) := ⟨by simp, fun b hb _ => Below.heap_setCell _ _ _ _ (fun e => hb (by have e' : b = w2.heap.size := e; exact e'))⟩
    have hi1 : Ints (fun b => b ≠ w.heap.size + 2) (W.setCell ⟨w2.heap.size, 3, none⟩ (.int .i64 (wrap64 (l.sent + s.notes.length)))) (.slice A6 l.regs.length c6) s.regs := (hi.same (hS1.weak fun b hb => hb.1)).imp (fun b hb => hb.2) (Nat.le_refl _) fun _ _ _ _ _ h => h
    have hi2 := (hi1.same (put7_same (b := w.heap.size + 2) (a0 := .slice A6 l.regs.length c6) (a1 := .bool s.armed) (a2 := .int .i64 l.down) (a3 := .int .i64 (wrap64 (l.sent + s.notes.length))) (a4 := .int .i64 l.over) (a5 := .slice An s.notes.length cn) (a6 := .int .i64 (s.steps : Int)))).any
    have hS2 : Same (fun b => w1.heap.size ≤ b) W (put7 (W.setCell ⟨w2.heap.size, 3, none⟩ (.int .i64 (wrap64 (l.sent + s.notes.length)))) (w.heap.size + 2) (.slice A6 l.regs.length c6) (.bool s.armed) (.int .i64 l.down) (.int .i64 (wrap64 (l.sent + s.notes.length))) (.int .i64 l.over) (.slice An s.notes.length cn) (.int .i64 (s.steps : Int))) :=
      ⟨by simp, fun b hb hlt2 => (put7_same.block b (by show b ≠ w.heap.size + 2; omega) (by simpa using hlt2)).trans (hS1.block b (by show b ≠ w2.heap.size; omega) hlt2)⟩
    exact ⟨_, _, rfl, hi2, (hn.same hS2 hS2).imp (fun _ _ => trivial) (Nat.le_refl _) fun _ _ _ _ _ ⟨a1, a2, c, a3, a4⟩ => ⟨a1, a2, c, a3, a4.any⟩⟩
/-- What the reference's Run comes to. -/
theorem rrun_any (ok oka : Nat → Prop) (w : World) (v vl va : Value) (p : PPrg) (who : Int) (l : PLoc) (h : Int) (args : List Int) (hp : PrgV w v p) (hl : LocV ok w vl l) (ha : Ints oka w va args) :
    Calls Tryd.prog 12 #[v, .int .i64 who, vl, .int .i64 h, va] w fun e w' => ∃ u, e = .returned u ∧ ResV anyB w' u (runP p who l h args) ∧ Below w.heap.size w w' := by
  by_cases hm : mayP p who l h args
  · exact rrun_yes ok oka w v vl va p who l h args hp hl ha hm
  · exact rrun_no ok oka w v vl va p who l h args hp hl ha hm
end Go.Proofs.YtfbeiedhdmndnaaDoor
namespace Go.Proofs.YtfbeiedhdmndnaaDoor
open Go.RowKit
attribute [local go_sem ↓] Go.wp_at_zero Go.wp_at_succ
/-- What the reference's Run is to come to. -/
def RunsAs : Prop := ∀ (ok oka : Nat → Prop) (w : World) (v vl va : Value) (p : PPrg) (who : Int) (l : PLoc) (h : Int) (args : List Int), PrgV w v p → LocV ok w vl l → Ints oka w va args →
    Calls Tryd.prog 12 #[v, .int .i64 who, vl, .int .i64 h, va] w fun e w' => ∃ u, e = .returned u ∧ ResV anyB w' u (runP p who l h args) ∧ Below w.heap.size w w'
/-- What the law's last statement knows. -/
structure VK (ok oka : Nat → Prop) (w0 : World) (pc lc : Array Value) (va : Value) (p : PPrg) (l : PLoc) (args : List Int) (w : World) : Prop where
  low : Below w0.heap.size w0 w
  tab : Tab w
  prg : PrgV w (.agg pc) p
  loc : LocV ok w (.agg lc) l
  arg : Ints oka w va args
  bp : w.heap[w0.heap.size]? = some (.cells pc 26)
  bl : w.heap[w0.heap.size + 1]? = some (.cells lc 29)
section
variable {ok oka : Nat → Prop} {w0 w w' : World} {pc lc : Array Value} {va : Value} {p : PPrg} {l : PLoc} {args : List Int}
theorem VK.lt (h : VK ok oka w0 pc lc va p l args w) : w0.heap.size < w.heap.size ∧ w0.heap.size + 1 < w.heap.size := ⟨(Array.getElem?_eq_some_iff.1 h.bp).1, (Array.getElem?_eq_some_iff.1 h.bl).1⟩
theorem VK.below (h : VK ok oka w0 pc lc va p l args w) (hb : Below w.heap.size w w') : VK ok oka w0 pc lc va p l args w' :=
  ⟨bTrans h.low hb, h.tab.below hb, h.prg.below hb, h.loc.below hb, h.arg.below hb, (hb.block _ h.lt.1).trans h.bp, (hb.block _ h.lt.2).trans h.bl⟩
theorem VK.drew (h : VK ok oka w0 pc lc va p l args w) : VK ok oka w0 pc lc va p l args w.drew := h.below (bRefl w).drew
theorem midK {W : World} (_ : Below W.heap.size W w') (h : VK ok oka w0 pc lc va p l args W) : VK ok oka w0 pc lc va p l args W := h
end
theorem VK.cells {ok oka : Nat → Prop} {w0 w : World} {a0 a1 a2 a3 b0 b1 b2 b3 b4 va : Value} {p : PPrg} {l : PLoc} {args : List Int} (h : VK ok oka w0 #[a0, a1, a2, a3] #[b0, b1, b2, b3, b4] va p l args w) :
    (w.cell? ⟨w0.heap.size, 0, none⟩ = some a0 ∧ w.cell? ⟨w0.heap.size, 1, none⟩ = some a1 ∧ w.cell? ⟨w0.heap.size, 2, none⟩ = some a2 ∧ w.cell? ⟨w0.heap.size, 3, none⟩ = some a3 ∧ ∀ j, w.frozen? ⟨w0.heap.size, j, none⟩ = false) ∧
    (w.cell? ⟨w0.heap.size + 1, 0, none⟩ = some b0 ∧ w.cell? ⟨w0.heap.size + 1, 1, none⟩ = some b1 ∧ w.cell? ⟨w0.heap.size + 1, 2, none⟩ = some b2 ∧ w.cell? ⟨w0.heap.size + 1, 3, none⟩ = some b3 ∧ w.cell? ⟨w0.heap.size + 1, 4, none⟩ = some b4 ∧ ∀ j, w.frozen? ⟨w0.heap.size + 1, j, none⟩ = false) := ⟨blk4V h.bp, blk5V h.bl⟩
theorem beqB (a : Bool) : (a == a) = true := by cases a <;> rfl
set_option maxHeartbeats 8000000 in
set_option maxRecDepth 100000 in
theorem runs_of (hRR : RunsAs) (ok oka : Nat → Prop) (w : World) (v vl va : Value) (p : PPrg) (who : Int) (l : PLoc) (h : Int) (args : List Int) (ht : Tab w) (hp : PrgV w v p) (hl : LocV ok w vl l) (ha : Ints oka w va args) :
    Calls Tryd.prog 3 #[v, .int .i64 who, vl, .int .i64 h, va] w fun e w' => e = .returned (.bool true) ∧ Below w.heap.size w w' := by
  have HRR : Hid RunsAs := hRR
  have hp0 := hp
  have hl0 := hl
  have ha0 := ha
  obtain ⟨v1, v2, v3, rfl, h1, h2, h3⟩ := hp
  obtain ⟨A1, c1, rfl, _⟩ := h1.form
  obtain ⟨A2, c2, rfl, _⟩ := h2.form
  obtain ⟨A3, c3, rfl, _⟩ := h3.form
  obtain ⟨vr, rfl, hr⟩ := hl
  obtain ⟨A4, c4, rfl, _⟩ := hr.form
  obtain ⟨A5, c5, rfl, _⟩ := ha.form
  have hb := bAlloc (bAlloc (bRefl w) (.cells #[.slice A1 p.hs.length c1, .slice A2 p.acs.length c2, .slice A3 p.bs.length c3, .int .i64 p.fuel] 26)) (.cells #[.slice A4 l.regs.length c4, .bool l.armed, .int .i64 l.down, .int .i64 l.sent, .int .i64 l.over] 29)
  have vk : VK ok oka w #[.slice A1 p.hs.length c1, .slice A2 p.acs.length c2, .slice A3 p.bs.length c3, .int .i64 p.fuel] #[.slice A4 l.regs.length c4, .bool l.armed, .int .i64 l.down, .int .i64 l.sent, .int .i64 l.over] (.slice A5 args.length c5) p l args ((w.alloc (.cells #[.slice A1 p.hs.length c1, .slice A2 p.acs.length c2, .slice A3 p.bs.length c3, .int .i64 p.fuel] 26)).alloc (.cells #[.slice A4 l.regs.length c4, .bool l.armed, .int .i64 l.down, .int .i64 l.sent, .int .i64 l.over] 29)) :=
    ⟨hb, ht.below hb, hp0.below hb, hl0.below hb, ha0.below hb, ((bAlloc (bRefl _) _).block _ (by simp)).trans (heap_new _ _), heap_new2 (by simp)⟩
  clear hb ht hp0 hl0 ha0 h1 h2 h3 hr ha hRR
  obtain ⟨mb, hmb⟩ : ∃ mb, mayBV p who l h args = mb := ⟨_, rfl⟩
  have HMB : Hid (mayBV p who l h args = mb) := hmb
  clear hmb
  by_cases hs : small p = true ∧ l.regs.length ≤ 10 ∧ args.length ≤ 6
  · obtain ⟨s1, s2, s3⟩ := hs
    have s2' : ¬ ((10 : Int) < l.regs.length) := by omega
    have s3' : ¬ ((6 : Int) < args.length) := by omega
    go_enter Tryd.func3, Tryd.ntmps3
    go_wp2_with fail
    refine (small_any _ _ p vk.prg).mono ?_
    rintro e w1 ⟨rfl, hb⟩
    replace vk := vk.below hb
    clear hb
    obtain ⟨⟨x0, x1, x2, x3, -⟩, ⟨y0, y1, y2, y3, y4, -⟩⟩ := vk.cells
    have hzp := vk.lt.1
    have hzl := vk.lt.2
    have e1 := beqB mb
    have hq : Below w.heap.size w w := bRefl w
    have hj : Below w.heap.size w w := bRefl w
    go_wp2_with fail
    go_region_held3 (fun w' => w'.cell? ⟨w.heap.size, 0, none⟩ = some (.slice A1 p.hs.length c1) ∧ w'.cell? ⟨w.heap.size, 1, none⟩ = some (.slice A2 p.acs.length c2) ∧ w'.cell? ⟨w.heap.size, 2, none⟩ = some (.slice A3 p.bs.length c3) ∧ w'.cell? ⟨w.heap.size, 3, none⟩ = some (.int .i64 p.fuel) ∧ w'.cell? ⟨w.heap.size + 1, 0, none⟩ = some (.slice A4 l.regs.length c4) ∧ w'.cell? ⟨w.heap.size + 1, 1, none⟩ = some (.bool l.armed) ∧ w'.cell? ⟨w.heap.size + 1, 2, none⟩ = some (.int .i64 l.down) ∧ w'.cell? ⟨w.heap.size + 1, 3, none⟩ = some (.int .i64 l.sent) ∧ w'.cell? ⟨w.heap.size + 1, 4, none⟩ = some (.int .i64 l.over)) (go_keep)
      (first
        | (go_at_call 8; refine (may_is ok oka _ _ _ _ p who l h args (VK.tab (by first | exact vk | exact vk.drew)) (VK.prg (by first | exact vk | exact vk.drew)) (VK.loc (by first | exact vk | exact vk.drew)) (VK.arg (by first | exact vk | exact vk.drew)) mb HMB.out).mono ?_; rintro e wn ⟨rfl, hb⟩; replace vk := (midK hb (by first | exact vk | exact vk.drew)).below hb; clear hb; obtain ⟨⟨x0, x1, x2, x3, -⟩, ⟨y0, y1, y2, y3, y4, -⟩⟩ := vk.cells; have hzp := vk.lt.1; have hzl := vk.lt.2)
        | (go_at_call 9; refine (rmayI ok oka _ _ _ _ p who l h args (VK.prg (by first | exact vk | exact vk.drew)) (VK.loc (by first | exact vk | exact vk.drew)) (VK.arg (by first | exact vk | exact vk.drew)) mb HMB.out).mono ?_; rintro e wn ⟨rfl, hb⟩; replace vk := (midK hb (by first | exact vk | exact vk.drew)).below hb; clear hb; obtain ⟨⟨x0, x1, x2, x3, -⟩, ⟨y0, y1, y2, y3, y4, -⟩⟩ := vk.cells; have hzp := vk.lt.1; have hzl := vk.lt.2)
        | (go_at_call 11; refine (run_any ok oka _ _ _ _ p who l h args (VK.tab (by first | exact vk | exact vk.drew)) (VK.prg (by first | exact vk | exact vk.drew)) (VK.loc (by first | exact vk | exact vk.drew)) (VK.arg (by first | exact vk | exact vk.drew))).mono ?_; rintro e wn ⟨u1, rfl, h1, hb⟩; replace vk := (midK hb (by first | exact vk | exact vk.drew)).below hb; have hq := hb; clear hb; obtain ⟨⟨x0, x1, x2, x3, -⟩, ⟨y0, y1, y2, y3, y4, -⟩⟩ := vk.cells; have hzp := vk.lt.1; have hzl := vk.lt.2)
        | (go_at_call 12; refine (HRR.out ok oka _ _ _ _ p who l h args (VK.prg (by first | exact vk | exact vk.drew)) (VK.loc (by first | exact vk | exact vk.drew)) (VK.arg (by first | exact vk | exact vk.drew))).mono ?_; rintro e wn ⟨u2, rfl, h2, hb⟩; replace vk := (midK hb (by first | exact vk | exact vk.drew)).below hb; have hj := hb; clear hb; obtain ⟨⟨x0, x1, x2, x3, -⟩, ⟨y0, y1, y2, y3, y4, -⟩⟩ := vk.cells; have hzp := vk.lt.1; have hzl := vk.lt.2)
        | (go_at_call 10; refine (lsame_anyV _ _ _ _ _ (runP p who l h args) (by first | exact h1 | exact h1.below hj | exact (h1.below hj).below (bRefl _).drew | exact h1.below (bRefl _).drew) (by first | exact h2 | exact h2.below hq | exact (h2.below hq).below (bRefl _).drew | exact h2.below (bRefl _).drew)).mono ?_; rintro e wn ⟨rfl, hb⟩; replace vk := (midK hb (by first | exact vk | exact vk.drew)).below hb; clear hb; obtain ⟨⟨x0, x1, x2, x3, -⟩, ⟨y0, y1, y2, y3, y4, -⟩⟩ := vk.cells; have hzp := vk.lt.1; have hzl := vk.lt.2)
        | (go_at_call 7; refine (awake_anyV _ (VK.tab (by first | exact vk | exact vk.drew))).mono ?_; rintro e wn ⟨rfl, hb⟩; replace vk := (midK hb (by first | exact vk | exact vk.drew)).below hb; clear hb; obtain ⟨⟨x0, x1, x2, x3, -⟩, ⟨y0, y1, y2, y3, y4, -⟩⟩ := vk.cells; have hzp := vk.lt.1; have hzl := vk.lt.2))
    all_goals
      have HL := vk.low
      go_wp2
      go_ret
      exact ⟨rfl, HL⟩
  · cases s1 : small p with
    | false =>
      go_enter Tryd.func3, Tryd.ntmps3
      go_wp2_with (first | (go_at_call 6; refine (small_any _ _ p vk.prg).mono ?_; rintro e w1 ⟨rfl, hb⟩; replace vk := vk.below hb; clear hb) | (go_at_call 7; refine (awake_anyV _ vk.tab).mono ?_; rintro e w2 ⟨rfl, hb⟩))
      go_ret
      exact ⟨rfl, bTrans vk.low hb⟩
    | true =>
      by_cases s2 : (10 : Int) < l.regs.length
      · go_enter Tryd.func3, Tryd.ntmps3
        go_wp2_with (first | (go_at_call 6; refine (small_any _ _ p vk.prg).mono ?_; rintro e w1 ⟨rfl, hb⟩; replace vk := vk.below hb; clear hb; obtain ⟨-, ⟨y0, y1, y2, y3, y4, -⟩⟩ := vk.cells; have hzl := vk.lt.2) | (go_at_call 7; refine (awake_anyV _ vk.tab).mono ?_; rintro e w2 ⟨rfl, hb⟩))
        go_ret
        exact ⟨rfl, bTrans vk.low hb⟩
      · have s3 : (6 : Int) < args.length := by
          have : ¬ args.length ≤ 6 := fun h6 => hs ⟨s1, by omega, h6⟩
          omega
        go_enter Tryd.func3, Tryd.ntmps3
        go_wp2_with (first | (go_at_call 6; refine (small_any _ _ p vk.prg).mono ?_; rintro e w1 ⟨rfl, hb⟩; replace vk := vk.below hb; clear hb; obtain ⟨-, ⟨y0, y1, y2, y3, y4, -⟩⟩ := vk.cells; have hzl := vk.lt.2) | (go_at_call 7; refine (awake_anyV _ vk.tab).mono ?_; rintro e w2 ⟨rfl, hb⟩))
        go_ret
        exact ⟨rfl, bTrans vk.low hb⟩
theorem runs_any (ok oka : Nat → Prop) (w : World) (v vl va : Value) (p : PPrg) (who : Int) (l : PLoc) (h : Int) (args : List Int) (ht : Tab w) (hp : PrgV w v p) (hl : LocV ok w vl l) (ha : Ints oka w va args) :
    Calls Tryd.prog 3 #[v, .int .i64 who, vl, .int .i64 h, va] w fun e w' => e = .returned (.bool true) ∧ Below w.heap.size w w' := runs_of rrun_any ok oka w v vl va p who l h args ht hp hl ha
end Go.Proofs.YtfbeiedhdmndnaaDoor
