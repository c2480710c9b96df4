/-
  May. Condition: the table of the instructions is in the world. The run's block, when it is made: two orders, one machine. No conditions. Run. Condition: the table of the instructions is in the world. Run, where it may. Condition: the table of the instructions is in the world. When a list is the depths, asked of it place by place; when there are none, asked of a way. No conditions. A program of one handler and two actors, and a state of two registers, as the laws make them. No conditions. What a law holds of a result that it keeps; when a program of one handler may run, and what comes of it. No conditions. The programs that the document fixes: when they may run, and what comes of them. No conditions.
-/
import Derived.Test.YtfbeiedhdmndnaaDoorQk6
import Derived.Laws.CopyOwn
import Derived.Deep.RegionHeld3
import Derived.Deep.DeepCutAuto
import Derived.Test.YtfbeiedhdmndnaaDoorQk1
namespace Go.Proofs.YtfbeiedhdmndnaaDoor
open Go.RowKit
attribute [local go_sem ↓] Go.wp_at_zero Go.wp_at_succ
open Classical in
noncomputable def mayBV (p : PPrg) (who : Int) (l : PLoc) (h : Int) (args : List Int) : Bool := decide (mayP p who l h args)
theorem mayB_yes {p : PPrg} {who : Int} {l : PLoc} {h : Int} {args : List Int} (e : mayP p who l h args) : mayBV p who l h args = true := by unfold mayBV; exact @decide_eq_true _ (Classical.propDecidable _) e
theorem mayB_no {p : PPrg} {who : Int} {l : PLoc} {h : Int} {args : List Int} (e : ¬ mayP p who l h args) : mayBV p who l h args = false := by unfold mayBV; exact @decide_eq_false _ (Classical.propDecidable _) e
theorem within_is {n m : Int} (w : World) (h : 0 ≤ n ∧ n < m) : Calls Tryd.prog 25 #[.int .i64 n, .int .i64 m] w fun e w' => e = .returned (.bool true) ∧ w' = w := by
  have := vwithin_any n m w
  rw [decide_eq_true h] at this; exact this
theorem within_isnt {n m : Int} (w : World) (h : ¬ (0 ≤ n ∧ n < m)) : Calls Tryd.prog 25 #[.int .i64 n, .int .i64 m] w fun e w' => e = .returned (.bool false) ∧ w' = w := by
  have := vwithin_any n m w
  rw [decide_eq_false h] at this; exact this

set_option maxHeartbeats 1000000 in
set_option maxRecDepth 100000 in
theorem may_anyV (ok oka : Nat → Prop) (w : World) (v vl va : Value) (p : PPrg) (who : Int) (l : PLoc) (h : Int) (args : List Int) (ht : Tab w) (hp : PrgV w v p) (hl : LocV ok w vl l) (ha : Ints oka w va args) :
    Calls Tryd.prog 8 #[v, .int .i64 who, vl, .int .i64 h, va] w fun e w' => e = .returned (.bool (mayBV p who l h args)) ∧ Below w.heap.size w w' := by
  have HP : Hid (PrgV w v p) := hp
  obtain ⟨v1, v2, v3, rfl, h1, h2, h3⟩ := hp
  obtain ⟨A1, c1, rfl, hl1⟩ := h1.form
  obtain ⟨A2, c2, rfl, hl2⟩ := h2.form
  obtain ⟨A3, c3, rfl, hl3⟩ := h3.form
  obtain ⟨vr, rfl, hr⟩ := hl
  obtain ⟨A4, c4, rfl, hl4⟩ := hr.form
  obtain ⟨A5, c5, rfl, hl5⟩ := ha.form
  have HT : Hid (Tab w) := ht
  have HB : Hid (Below w.heap.size w ((w.alloc (.cells #[.slice A1 p.hs.length c1, .slice A2 p.acs.length c2, .slice A3 p.bs.length c3, .int .i64 p.fuel] 26)).alloc (.cells #[.slice A4 l.regs.length c4, .bool l.armed, .int .i64 l.down, .int .i64 l.sent, .int .i64 l.over] 29))) := bAlloc (bAlloc (bRefl w) _) _
  clear ht h2 h3 hr ha
  by_cases e0 : fc p = 0
  · have e0' := ne0_no e0
    by_cases g0 : 0 ≤ who ∧ who < p.acs.length
    · by_cases g1 : 0 ≤ h ∧ h < p.hs.length
      · obtain ⟨k, rfl⟩ := Int.eq_ofNat_of_zero_le g1.1
        obtain ⟨b1, o1, x, u1, rfl, hx, hz1, q1, _, _⟩ := h1.cell (bRefl w) (k := k) (by omega)
        have hx2 : argsOf p.hs (k : Int) = x.args := argsOf_at hx
        have hk : k < p.hs.length := by omega
        have hzb : b1 < w.heap.size := by
          obtain ⟨b', o', e', _, hlt', _⟩ := h1.at (by omega)
          cases e'; exact hlt'
        have e1 : (decide ((args.length : Int) = x.args)) = ((args.length : Int) == x.args) := rfl
        have HM : Hid (mayBV p who l (k : Int) args = (((args.length : Int) == x.args) && decide ((l.regs.length : Int) ≤ 8) && (l.down == 0))) := by
          show _ = _
          by_cases t1 : (args.length : Int) = x.args <;> by_cases t2 : (l.regs.length : Int) ≤ 8 <;> by_cases t3 : l.down = 0
          · rw [mayB_yes ⟨e0, g0, g1, by rw [hx2]; exact t1, by omega, t3⟩]; simp [t1, t2, t3]
          all_goals (rw [mayB_no (fun m => by have m1 := m.2.2.2.1; have m2 := m.2.2.2.2.1; have m3 := m.2.2.2.2.2; rw [hx2] at m1; first | exact t1 m1 | exact t3 m3 | (exact t2 (by omega)))]; simp [t1, t2, t3])
        have HG : Hid ((0 ≤ who ∧ who < p.acs.length) ∧ (0 ≤ (k : Int) ∧ (k : Int) < p.hs.length)) := ⟨g0, g1⟩
        clear hx h1 e0 g0 g1 e1 hx2
        by_cases t1 : (args.length : Int) = x.args
        · have e1 : ((args.length : Int) == x.args) = true := by simp [t1]
          by_cases t2 : (l.regs.length : Int) ≤ 8
          · by_cases t3 : l.down = 0
            · have e3 : (l.down == 0) = true := by simp [t3]
              have HM2 : Hid (mayBV p who l (k : Int) args = true) := by show _ = _; rw [HM.out]; simp [*]
              clear HM t1 t3
              go_enter Tryd.func8, Tryd.ntmps8
              go_wp2_with fail
              refine (fcheck_any _ _ p (HT.out.below (by exact HB.out)) (HP.out.below (by exact HB.out))).mono ?_
              rintro e w1 ⟨rfl, hb1⟩
              have hc1 := bcell hb1
              have HB1 : Hid (Below w.heap.size w w1) := bTrans HB.out hb1
              have hz2 : w.heap.size + 1 < w1.heap.size := by have := hb1.size; simp at this; omega
              have q2 := (HB1.out.cell (p := ⟨b1, o1 + k * 2, none⟩) hzb).trans q1
              clear hb1
              go_wp2_with fail
              refine (within_is _ HG.out.1).mono ?_
              rintro e w2 ⟨rfl, rfl⟩
              go_wp2_with fail
              refine (within_is _ HG.out.2).mono ?_
              rintro e w2 ⟨rfl, rfl⟩
              go_wp2
              go_ret
              exact ⟨ret_b HM2.out.symm, HB1.out⟩
            · have e3 : (l.down == 0) = false := by simp [t3]
              have HM2 : Hid (mayBV p who l (k : Int) args = false) := by show _ = _; rw [HM.out]; simp [*]
              clear HM t1
              go_enter Tryd.func8, Tryd.ntmps8
              go_wp2_with fail
              refine (fcheck_any _ _ p (HT.out.below (by exact HB.out)) (HP.out.below (by exact HB.out))).mono ?_
              rintro e w1 ⟨rfl, hb1⟩
              have hc1 := bcell hb1
              have HB1 : Hid (Below w.heap.size w w1) := bTrans HB.out hb1
              have hz2 : w.heap.size + 1 < w1.heap.size := by have := hb1.size; simp at this; omega
              have q2 := (HB1.out.cell (p := ⟨b1, o1 + k * 2, none⟩) hzb).trans q1
              clear hb1
              go_wp2_with fail
              refine (within_is _ HG.out.1).mono ?_
              rintro e w2 ⟨rfl, rfl⟩
              go_wp2_with fail
              refine (within_is _ HG.out.2).mono ?_
              rintro e w2 ⟨rfl, rfl⟩
              go_wp2
              go_ret
              exact ⟨ret_b HM2.out.symm, HB1.out⟩
          · have e2 : ¬ (l.regs.length : Int) ≤ 8 := t2
            have HM2 : Hid (mayBV p who l (k : Int) args = false) := by show _ = _; rw [HM.out]; simp [*]
            clear HM t1
            go_enter Tryd.func8, Tryd.ntmps8
            go_wp2_with fail
            refine (fcheck_any _ _ p (HT.out.below (by exact HB.out)) (HP.out.below (by exact HB.out))).mono ?_
            rintro e w1 ⟨rfl, hb1⟩
            have hc1 := bcell hb1
            have HB1 : Hid (Below w.heap.size w w1) := bTrans HB.out hb1
            have hz2 : w.heap.size + 1 < w1.heap.size := by have := hb1.size; simp at this; omega
            have q2 := (HB1.out.cell (p := ⟨b1, o1 + k * 2, none⟩) hzb).trans q1
            clear hb1
            go_wp2_with fail
            refine (within_is _ HG.out.1).mono ?_
            rintro e w2 ⟨rfl, rfl⟩
            go_wp2_with fail
            refine (within_is _ HG.out.2).mono ?_
            rintro e w2 ⟨rfl, rfl⟩
            go_wp2
            go_ret
            exact ⟨ret_b HM2.out.symm, HB1.out⟩
        · have e1 : ((args.length : Int) == x.args) = false := by simp [t1]
          have HM2 : Hid (mayBV p who l (k : Int) args = false) := by show _ = _; rw [HM.out]; simp [*]
          clear HM 
          go_enter Tryd.func8, Tryd.ntmps8
          go_wp2_with fail
          refine (fcheck_any _ _ p (HT.out.below (by exact HB.out)) (HP.out.below (by exact HB.out))).mono ?_
          rintro e w1 ⟨rfl, hb1⟩
          have hc1 := bcell hb1
          have HB1 : Hid (Below w.heap.size w w1) := bTrans HB.out hb1
          have hz2 : w.heap.size + 1 < w1.heap.size := by have := hb1.size; simp at this; omega
          have q2 := (HB1.out.cell (p := ⟨b1, o1 + k * 2, none⟩) hzb).trans q1
          clear hb1
          go_wp2_with fail
          refine (within_is _ HG.out.1).mono ?_
          rintro e w2 ⟨rfl, rfl⟩
          go_wp2_with fail
          refine (within_is _ HG.out.2).mono ?_
          rintro e w2 ⟨rfl, rfl⟩
          go_wp2
          go_ret
          exact ⟨ret_b HM2.out.symm, HB1.out⟩
      · have HM : Hid (mayBV p who l h args = false) := mayB_no fun m => g1 m.2.2.1
        have HG : Hid ((0 ≤ who ∧ who < p.acs.length) ∧ ¬ (0 ≤ h ∧ h < p.hs.length)) := ⟨g0, g1⟩
        clear h1 e0 g0 g1
        go_enter Tryd.func8, Tryd.ntmps8
        go_wp2_with fail
        refine (fcheck_any _ _ p (HT.out.below (by exact HB.out)) (HP.out.below (by exact HB.out))).mono ?_
        rintro e w1 ⟨rfl, hb1⟩
        have hc1 := bcell hb1
        have HB1 : Hid (Below w.heap.size w w1) := bTrans HB.out hb1
        have hz2 : w.heap.size + 1 < w1.heap.size := by have := hb1.size; simp at this; omega
        clear hb1
        go_wp2_with fail
        refine (within_is _ HG.out.1).mono ?_
        rintro e w2 ⟨rfl, rfl⟩
        go_wp2_with fail
        refine (within_isnt _ HG.out.2).mono ?_
        rintro e w2 ⟨rfl, rfl⟩
        go_wp2
        go_ret
        exact ⟨ret_b HM.out.symm, HB1.out⟩
    · have HM : Hid (mayBV p who l h args = false) := mayB_no fun m => g0 m.2.1
      have HG : Hid (¬ (0 ≤ who ∧ who < p.acs.length)) := g0
      clear h1 e0 g0
      go_enter Tryd.func8, Tryd.ntmps8
      go_wp2_with fail
      refine (fcheck_any _ _ p (HT.out.below (by exact HB.out)) (HP.out.below (by exact HB.out))).mono ?_
      rintro e w1 ⟨rfl, hb1⟩
      have hc1 := bcell hb1
      have HB1 : Hid (Below w.heap.size w w1) := bTrans HB.out hb1
      have hz2 : w.heap.size + 1 < w1.heap.size := by have := hb1.size; simp at this; omega
      clear hb1
      go_wp2_with fail
      refine (within_isnt _ HG.out).mono ?_
      rintro e w2 ⟨rfl, rfl⟩
      go_wp2
      go_ret
      exact ⟨ret_b HM.out.symm, HB1.out⟩
  · have e0' := ne0_yes e0
    have HM : Hid (mayBV p who l h args = false) := mayB_no fun m => e0 m.1
    clear h1 e0
    go_enter Tryd.func8, Tryd.ntmps8
    go_wp2_with fail
    refine (fcheck_any _ _ p (HT.out.below (by exact HB.out)) (HP.out.below (by exact HB.out))).mono ?_
    rintro e w1 ⟨rfl, hb1⟩
    have hc1 := bcell hb1
    have HB1 : Hid (Below w.heap.size w w1) := bTrans HB.out hb1
    have hz2 : w.heap.size + 1 < w1.heap.size := by have := hb1.size; simp at this; omega
    clear hb1
    go_wp2
    go_ret
    exact ⟨ret_b HM.out.symm, HB1.out⟩
end Go.Proofs.YtfbeiedhdmndnaaDoor
namespace Go.Proofs.YtfbeiedhdmndnaaDoor
open Go.RowKit

def zsk : List Int := [0, 0, 0, 0, 0, 0, 0, 0]
/-- The cells of a run that begins. -/
def run0 (x : FX) (ar : Bool) : List Value := [x.a1, x.a2, x.a3, .int .i64 x.fuel, .int .i64 x.who, x.va, x.vc, x.vr, .bool ar, .int .i64 x.down, .int .i64 x.sent, .int .i64 x.over, .slice none 0 0, .int .i64 0, .int .i64 0, .int .i64 0, .int .i64 0, .int .i64 0, .int .i64 0, .int .i64 0, .int .i64 0, .int .i64 0, .int .i64 0, .int .i64 0]
theorem run0_rv (x : FX) (ar : Bool) : ∀ i, i < 24 → (run0 x ar)[i]? = some (rv x ar (.slice none 0 0) zsk 0 0 0 i) := by
  intro i hi
  have : i = 0 ∨ i = 1 ∨ i = 2 ∨ i = 3 ∨ i = 4 ∨ i = 5 ∨ i = 6 ∨ i = 7 ∨ i = 8 ∨ i = 9 ∨ i = 10 ∨ i = 11 ∨ i = 12 ∨ i = 13 ∨ i = 14 ∨ i = 15 ∨ i = 16 ∨ i = 17 ∨ i = 18 ∨ i = 19 ∨ i = 20 ∨ i = 21 ∨ i = 22 ∨ i = 23 := by omega
  rcases this with rfl | rfl | rfl | rfl | rfl | rfl | rfl | rfl | rfl | rfl | rfl | rfl | rfl | rfl | rfl | rfl | rfl | rfl | rfl | rfl | rfl | rfl | rfl | rfl <;> rfl
section
variable {w w2 : World} {x : FX} {l : PLoc}
theorem way_aV {z : Array Value} (hb : Below w.heap.size w w2) (hc : CL w w2 x.vr l.regs) (h8 : l.regs.length ≤ 8) : RM w w2.heap.size x (.slice none 0 0) [] zsk (ms0 l) ((w2.alloc (.cells z 77)).setRow w2.heap.size (run0 x l.armed).toArray) := by
  have hR : RG w w2.heap.size w2 x.vr l.regs := hc.rg (Nat.le_refl _) h8 (Or.inl (Nat.le_refl _))
  have hh := setRow_heap (w2.alloc (.cells z 77)) w2.heap.size z (run0 x l.armed).toArray 77 (0, 0) (heap_new _ _)
  exact ⟨below_setRow (bAlloc hb _) hb.size _, ⟨_, hh, rfl, fun i hi => by rw [List.getElem?_toArray]; exact run0_rv x l.armed i hi⟩, hb.size, rfl, rfl, by simp [ms0], hR.same fun b e => (setRow_other _ _ _ _ (hR.hb e).2.1).trans ((bAlloc (bRefl w2) _).block b (hR.hb e).2.2), NT.nil _ _ _⟩
theorem way_bV {W : World} {z : Array Value} (hW : W.heap.size = w.heap.size + 1) (hWh : W.heap[w.heap.size]? = some (.cells z 77)) (hwW : Below w.heap.size w W) (hb : Below W.heap.size W w2) (hc : CL W w2 x.vr l.regs) (h8 : l.regs.length ≤ 8) :
    RM w w.heap.size x (.slice none 0 0) [] zsk (ms0 l) (w2.setRow w.heap.size (run0 x l.armed).toArray) := by
  have hR : RG w w.heap.size w2 x.vr l.regs := (hc.rg (w0 := w) (by omega) h8 (Or.inr (by omega)))
  have hh := setRow_heap w2 w.heap.size z (run0 x l.armed).toArray 77 (0, 0) ((hb.block _ (by omega)).trans hWh)
  exact ⟨below_setRow (bTrans hwW hb) (Nat.le_refl _) _, ⟨_, hh, rfl, fun i hi => by rw [List.getElem?_toArray]; exact run0_rv x l.armed i hi⟩, Nat.le_refl _, rfl, rfl, by simp [ms0], hR.same fun b e => setRow_other _ _ _ _ (hR.hb e).2.1, NT.nil _ _ _⟩
end
/-- What comes of it, as a value. -/
def ResV (ok : Nat → Prop) (w : World) (v : Value) (r : PRes) : Prop :=
  ∃ cr cn, v = .agg #[cr, .bool r.loc.armed, .int .i64 r.loc.down, .int .i64 r.loc.sent, .int .i64 r.loc.over, cn, .int .i64 r.steps] ∧ Ints ok w cr r.loc.regs ∧ Ntes ok ok w cn r.notes
theorem ResV.below {ok : Nat → Prop} {w w' : World} {v : Value} {r : PRes} (h : ResV ok w v r) (hb : Below w.heap.size w w') : ResV ok w' v r := let ⟨a, b, h1, h2, h3⟩ := h; ⟨a, b, h1, h2.below hb, h3.below hb⟩
end Go.Proofs.YtfbeiedhdmndnaaDoor
namespace Go.Proofs.YtfbeiedhdmndnaaDoor
open Go.RowKit
attribute [local go_sem ↓] Go.wp_at_zero Go.wp_at_succ
theorem may_is (ok oka : Nat → Prop) (w : World) (v vl va : Value) (p : PPrg) (who : Int) (l : PLoc) (h : Int) (args : List Int) (ht : Tab w) (hp : PrgV w v p) (hl : LocV ok w vl l) (ha : Ints oka w va args) (b : Bool) (hb : mayBV p who l h args = b) :
    Calls Tryd.prog 8 #[v, .int .i64 who, vl, .int .i64 h, va] w fun e w' => e = .returned (.bool b) ∧ Below w.heap.size w w' := hb ▸ may_anyV ok oka w v vl va p who l h args ht hp hl ha
theorem blk4V {w : World} {b : Nat} {v0 v1 v2 v3 : Value} {t : TypeId} (h : w.heap[b]? = some (.cells #[v0, v1, v2, v3] t)) :
    w.cell? ⟨b, 0, none⟩ = some v0 ∧ w.cell? ⟨b, 1, none⟩ = some v1 ∧ w.cell? ⟨b, 2, none⟩ = some v2 ∧ w.cell? ⟨b, 3, none⟩ = some v3 ∧ ∀ j, w.frozen? ⟨b, j, none⟩ = false :=
  ⟨by rw [cell_of_row _ _ _ _ _ _ h]; rfl, by rw [cell_of_row _ _ _ _ _ _ h]; rfl, by rw [cell_of_row _ _ _ _ _ _ h]; rfl, by rw [cell_of_row _ _ _ _ _ _ h]; rfl, fun j => by simp [World.frozen?, h]⟩
theorem blk7 {w : World} {b : Nat} {v0 v1 v2 v3 v4 v5 v6 : Value} {t : TypeId} (h : w.heap[b]? = some (.cells #[v0, v1, v2, v3, v4, v5, v6] t)) :
    w.cell? ⟨b, 0, none⟩ = some v0 ∧ w.cell? ⟨b, 1, none⟩ = some v1 ∧ w.cell? ⟨b, 2, none⟩ = some v2 ∧ w.cell? ⟨b, 3, none⟩ = some v3 ∧ w.cell? ⟨b, 4, none⟩ = some v4 ∧ w.cell? ⟨b, 5, none⟩ = some v5 ∧ w.cell? ⟨b, 6, none⟩ = some v6 ∧ ∀ j, w.frozen? ⟨b, j, none⟩ = false :=
  ⟨by rw [cell_of_row _ _ _ _ _ _ h]; rfl, by rw [cell_of_row _ _ _ _ _ _ h]; rfl, by rw [cell_of_row _ _ _ _ _ _ h]; rfl, by rw [cell_of_row _ _ _ _ _ _ h]; rfl, by rw [cell_of_row _ _ _ _ _ _ h]; rfl, by rw [cell_of_row _ _ _ _ _ _ h]; rfl, by rw [cell_of_row _ _ _ _ _ _ h]; rfl, fun j => by simp [World.frozen?, h]⟩

/-- The three boxes of the call: program, state, result. -/
def bx3 (w : World) (x y : Array Value) : World := ((w.alloc (.cells x 26)).alloc (.cells y 29)).alloc (.cells #[.slice none 0 0, .bool false, .int .i64 0, .int .i64 0, .int .i64 0, .slice none 0 0, .int .i64 0] 35)
theorem bx3_below (w : World) (x y : Array Value) : Below w.heap.size w (bx3 w x y) := bAlloc (bAlloc (bAlloc (bRefl w) _) _) _
theorem bx3_size (w : World) (x y : Array Value) : (bx3 w x y).heap.size = w.heap.size + 3 := by simp [bx3]
theorem bx3_0 (w : World) (x y : Array Value) : (bx3 w x y).heap[w.heap.size]? = some (.cells x 26) := by
  unfold bx3
  rw [Below.heap_alloc _ _ _ (by simp; omega), Below.heap_alloc _ _ _ (by simp)]; exact heap_new _ _
theorem bx3_1 (w : World) (x y : Array Value) : (bx3 w x y).heap[w.heap.size + 1]? = some (.cells y 29) := by
  unfold bx3
  rw [Below.heap_alloc _ _ _ (by simp)]; exact heap_new2 (by simp)
theorem bx3_2 (w : World) (x y : Array Value) : (bx3 w x y).heap[w.heap.size + 2]? = some (.cells #[.slice none 0 0, .bool false, .int .i64 0, .int .i64 0, .int .i64 0, .slice none 0 0, .int .i64 0] 35) := by
  unfold bx3
  exact heap_new2 (by simp)

set_option maxHeartbeats 1000000 in
set_option maxRecDepth 100000 in
theorem run_no (ok oka : Nat → Prop) (w : World) (v vl va : Value) (p : PPrg) (who : Int) (l : PLoc) (h : Int) (args : List Int) (ht : Tab w) (hp : PrgV w v p) (hl : LocV ok w vl l) (ha : Ints oka w va args) (hm : ¬ mayP p who l h args) :
    Calls Tryd.prog 11 #[v, .int .i64 who, vl, .int .i64 h, va] w fun e w' => ∃ u, e = .returned u ∧ ResV (fun b => w.heap.size ≤ b) w' u (runP p who l h args) ∧ Below w.heap.size w w' := by
  have HP : Hid (PrgV w v p) := hp
  have HV : Hid (LocV ok w vl l) := hl
  have HA : Hid (Ints oka w va args) := ha
  have HM : Hid (mayBV p who l h args = false) := mayB_no hm
  have HR : Hid (runP p who l h args = ⟨⟨[], false, 0, 0, 0⟩, [], 0⟩) := by show _ = _; unfold runP; exact @if_neg _ (Classical.propDecidable _) hm _ _ _
  obtain ⟨v1, v2, v3, rfl, h1, h2, h3⟩ := hp
  obtain ⟨A1, c1, rfl, hl1⟩ := h1.form
  obtain ⟨A2, c2, rfl, hl2⟩ := h2.form
  obtain ⟨A3, c3, rfl, hl3⟩ := h3.form
  obtain ⟨vr, rfl, hr⟩ := hl
  obtain ⟨A4, c4, rfl, hl4⟩ := hr.form
  obtain ⟨A5, c5, rfl, hl5⟩ := ha.form
  have HT : Hid (Tab w) := ht
  clear ht h1 h2 h3 hr ha hm
  go_enter Tryd.func11, Tryd.ntmps11
  go_wp2_with fail
  have HB := bx3_below w #[.slice A1 p.hs.length c1, .slice A2 p.acs.length c2, .slice A3 p.bs.length c3, .int .i64 p.fuel] #[.slice A4 l.regs.length c4, .bool l.armed, .int .i64 l.down, .int .i64 l.sent, .int .i64 l.over]
  refine (may_is ok oka (bx3 w #[.slice A1 p.hs.length c1, .slice A2 p.acs.length c2, .slice A3 p.bs.length c3, .int .i64 p.fuel] #[.slice A4 l.regs.length c4, .bool l.armed, .int .i64 l.down, .int .i64 l.sent, .int .i64 l.over]) _ _ _ p who l h args (HT.out.below HB) (HP.out.below HB) (HV.out.below HB) (HA.out.below HB) _ HM.out).mono ?_
  rintro e w1 ⟨rfl, hb1⟩
  have hs1 := hb1.size
  rw [bx3_size] at hs1
  obtain ⟨x0, x1, x2, x3, x4, x5, x6, xf⟩ := blk7 ((hb1.block _ (by rw [bx3_size]; omega)).trans (bx3_2 w _ _))
  have HB1 : Hid (Below w.heap.size w w1) := bTrans HB hb1
  clear hb1 HB
  have f0 := xf 0
  have f1 := xf 1
  have f2 := xf 2
  have f3 := xf 3
  have f4 := xf 4
  have f5 := xf 5
  have f6 := xf 6
  clear xf
  go_wp2
  refine bodyPost_ret (v := .agg #[.slice none 0 0, .bool false, .int .i64 0, .int .i64 0, .int .i64 0, .slice none 0 0, .int .i64 0]) (by simp [results, Tryd.results11, go_sem, *]) rfl ⟨_, rfl, ?_, ?_⟩
  · rw [HR.out]; exact ⟨_, _, rfl, ⟨_, _, rfl, by simp, by simp, Or.inl rfl⟩, ⟨_, _, rfl, by simp, by simp, Or.inl rfl⟩⟩
  · repeat (refine Below.setCell ?_ (by first | (simp; done) | (simp; omega)) _)
    exact HB1.out
end Go.Proofs.YtfbeiedhdmndnaaDoor
namespace Go.Proofs.YtfbeiedhdmndnaaDoor
open Go.RowKit
attribute [local go_sem ↓] Go.wp_at_zero Go.wp_at_succ
theorem RG.so {w0 w : World} {B b' j : Nat} {v : Value} {l : List Int} (h : RG w0 B w v l) (hb : b' = B ∨ b' < w0.heap.size) (x : Value) : RG w0 B (w.setCell ⟨b', j, none⟩ x) v l :=
  h.same fun b e => Below.heap_setCell _ _ _ _ (fun e' => by
    have e2 : b = b' := e'
    have := h.hb e
    rcases hb with hb | hb <;> omega)
theorem NT.so {w0 w : World} {B b' j : Nat} {R : Nat → Prop} {v : Value} {l : List PNte} {us : List Value} (h : NT w0 (fun b => b = B ∨ R b) w v l us) (hb : b' = B ∨ b' < w0.heap.size) (x : Value) : NT w0 (fun b => b = B ∨ R b) (w.setCell ⟨b', j, none⟩ x) v l us := by
  have hs : ∀ b, w0.heap.size ≤ b → ¬ (b = B ∨ R b) → (w.setCell ⟨b', j, none⟩ x).heap[b]? = w.heap[b]? := fun b h0 hn => Below.heap_setCell _ _ _ _ (fun e' => by
    have e2 : b = b' := e'
    rcases hb with hb | hb
    · exact hn (Or.inl (by omega))
    · omega)
  exact ⟨own_block h.own fun g hg _ => hs g (own_lt h.own hg).1 (h.nx g hg), h.len, fun k n u hn hu => (h.rd k n u hn hu).same ⟨by simp, fun b hb _ => hs b hb.1 hb.2.1⟩, h.nx⟩
theorem NT.up {w0 w wz : World} {ex : Nat → Prop} {v : Value} {l : List PNte} {us : List Value} (h : NT w0 ex w v l us) (hzz : wz.heap.size ≤ w0.heap.size) : Ntes (fun b => wz.heap.size ≤ b) (fun b => wz.heap.size ≤ b) w v l := by
  obtain ⟨h1, h2⟩ := h.own
  rcases h2 with ⟨rfl, h2⟩ | ⟨g, cap, cur, rfl, hb, hh, h3, h4, h5, h6⟩
  · have : l = [] := by cases l with | nil => rfl | cons _ _ => simp at h2
    subst this; exact ⟨_, _, rfl, by simp, by simp, Or.inl rfl⟩
  · refine ⟨_, cap, rfl, by unfold maxLen at h4; omega, h3, Or.inr ⟨g, 0, rfl, Nat.le_trans hzz hb, (Array.getElem?_eq_some_iff.1 hh).1, fun k n hn => ?_⟩⟩
    have hk := (List.getElem?_eq_some_iff.1 hn).1
    obtain ⟨u, hu⟩ := at_lt (l := us) (k := k) (by rw [h.len]; exact hk)
    have hz : (List.zipWith (fun (n : PNte) u => [Value.int .i64 n.to, Value.int .i64 n.hd, u]) l us)[k]? = some [Value.int .i64 n.to, Value.int .i64 n.hd, u] := by
      rw [List.getElem?_zipWith, hn, hu]
    have hcell : ∀ j, j < l.length * 3 → w.cell? ⟨g, j, none⟩ = ((List.zipWith (fun (n : PNte) u => [Value.int .i64 n.to, Value.int .i64 n.hd, u]) l us).flatten)[j]? := fun j hj => by
      rw [cell_of_row _ _ _ _ _ _ hh, ← h6, List.getElem?_take, if_pos hj]; simp
    have hc : ∀ j, j < 3 → w.cell? ⟨g, 0 + k * 3 + j, none⟩ = [Value.int .i64 n.to, Value.int .i64 n.hd, u][j]? := fun j hj => by
      rw [Nat.zero_add, hcell _ (by omega), flat_at _ (zip_lenV l us) k j hj, hz]; rfl
    exact ⟨hc 0 (by omega), hc 1 (by omega), u, hc 2 (by omega), (h.rd k n u hn hu).imp (fun b hb => Nat.le_trans hzz hb.1) (Nat.le_refl _) fun _ _ _ _ _ h => h⟩
theorem fc_parts {p : PPrg} (h : fc p = 0) : chk p = 0 ∧ ∀ x ∈ p.hs, de p.hs x.code = 0 := by
  unfold fc at h
  by_cases e : chk p = 0
  · rw [if_pos e] at h; exact ⟨e, scan_zero h⟩
  · rw [if_neg e] at h; exact absurd h e
theorem chk_fuel {p : PPrg} (h : chk p = 0) : 1 ≤ p.fuel ∧ p.fuel ≤ 256 := by
  unfold chk at h
  by_cases e0 : chkC p = 0
  · unfold chkC at e0
    by_cases e1 : p.hs.length ≤ 16 ∧ p.acs.length ≤ 8 ∧ p.bs.length ≤ 16
    · rw [if_pos e1] at e0
      by_cases e2 : p.acs.length ≠ 0 ∧ (1 ≤ p.fuel ∧ p.fuel ≤ 256)
      · exact e2.2
      · rw [if_neg e2] at e0; cases e0
    · rw [if_neg e1] at e0; cases e0
  · rw [if_neg e0] at h; exact absurd h e0
theorem hid_mkV {q : Prop} (h : q) : Hid q := h
theorem s_row {w2 : World} {B a b1 o : Nat} {t0 t1 t2 t3 t4 t5 t6 t7 t8 t9 : Value} (n0 : a ≠ B) (n1 : a + 1 ≠ B) (n2 : b1 ≠ B) (vs : Array Value) (h : w2.cell? ⟨a, 0, none⟩ = some t0 ∧ w2.cell? ⟨a, 1, none⟩ = some t1 ∧ w2.cell? ⟨a, 2, none⟩ = some t2 ∧ w2.cell? ⟨a, 3, none⟩ = some t3 ∧ w2.cell? ⟨a + 1, 0, none⟩ = some t4 ∧ w2.cell? ⟨a + 1, 1, none⟩ = some t5 ∧ w2.cell? ⟨a + 1, 2, none⟩ = some t6 ∧ w2.cell? ⟨a + 1, 3, none⟩ = some t7 ∧ w2.cell? ⟨a + 1, 4, none⟩ = some t8 ∧ w2.cell? ⟨b1, o, none⟩ = some t9) :
    (w2.setRow B vs).cell? ⟨a, 0, none⟩ = some t0 ∧ (w2.setRow B vs).cell? ⟨a, 1, none⟩ = some t1 ∧ (w2.setRow B vs).cell? ⟨a, 2, none⟩ = some t2 ∧ (w2.setRow B vs).cell? ⟨a, 3, none⟩ = some t3 ∧ (w2.setRow B vs).cell? ⟨a + 1, 0, none⟩ = some t4 ∧ (w2.setRow B vs).cell? ⟨a + 1, 1, none⟩ = some t5 ∧ (w2.setRow B vs).cell? ⟨a + 1, 2, none⟩ = some t6 ∧ (w2.setRow B vs).cell? ⟨a + 1, 3, none⟩ = some t7 ∧ (w2.setRow B vs).cell? ⟨a + 1, 4, none⟩ = some t8 ∧ (w2.setRow B vs).cell? ⟨b1, o, none⟩ = some t9 := by
  obtain ⟨h0, h1, h2, h3, h4, h5, h6, h7, h8, h9⟩ := h
  exact ⟨(cell_setRow_other _ _ _ _ n0).trans h0, (cell_setRow_other _ _ _ _ n0).trans h1, (cell_setRow_other _ _ _ _ n0).trans h2, (cell_setRow_other _ _ _ _ n0).trans h3, (cell_setRow_other _ _ _ _ n1).trans h4, (cell_setRow_other _ _ _ _ n1).trans h5, (cell_setRow_other _ _ _ _ n1).trans h6, (cell_setRow_other _ _ _ _ n1).trans h7, (cell_setRow_other _ _ _ _ n1).trans h8, (cell_setRow_other _ _ _ _ n2).trans h9⟩
/-- The run's block is there. -/
def Z24 (w : World) (B : Nat) : Prop := w.heap[B]? = some (.cells #[.slice none 0 0, .slice none 0 0, .slice none 0 0, .int .i64 0, .int .i64 0, .slice none 0 0, .slice none 0 0, .slice none 0 0, .bool false, .int .i64 0, .int .i64 0, .int .i64 0, .slice none 0 0, .int .i64 0, .int .i64 0, .int .i64 0, .int .i64 0, .int .i64 0, .int .i64 0, .int .i64 0, .int .i64 0, .int .i64 0, .int .i64 0, .int .i64 0] 77)
theorem wp_store_eq {P : Program} {o : Oper} {a : Act} {w : World} {K : Act → World → Prop} {Q : Exit → Act → World → Prop} (ty : TypeId) (x y : Operand) (ho : o.op = .store ty x y)
    (g : Nat) (cells : Array Value) (hx : a.eval x = .pointer (some ⟨g, 0, none⟩)) (hy : a.eval y = .agg cells)
    (t : TypeId) (old : Array Value) (hg : w.heap[g]? = some (.cells old t (0, 0))) (hi : (P.info? ty).map (·.size) = some cells.size)
    (hold : old.size = cells.size) (h1 : cells.all (·.oneCell') = true) : o.wp P a w K Q = K (a.put o.dst undef) (w.setRow g cells) := by
  unfold Oper.wp execOp
  simp only [ho, hx, hy, Instr.storeAt, Instr.sureAddr, Sem.run_bind, Sem.run_pure, Result.andThen_ok, run_storeVar_row w g t ty old cells hg hi hold h1]
  rfl
set_option maxRecDepth 100000 in
theorem wp_store_run {ty : TypeId} {pos : String} {aft : Array Edge} {w : World} {B : Nat} {a0 : Option Addr} {n0 c0 : Nat} {a1 : Option Addr} {n1 c1 : Nat} {a2 : Option Addr} {n2 c2 : Nat} {i3 : Int} {i4 : Int} {a5 : Option Addr} {n5 c5 : Nat} {a6 : Option Addr} {n6 c6 : Nat} {a7 : Option Addr} {n7 c7 : Nat} {b8 : Bool} {i9 : Int} {i10 : Int} {i11 : Int} {a12 : Option Addr} {n12 c12 : Nat} {i13 : Int} {i14 : Int} {i15 : Int} {i16 : Int} {i17 : Int} {i18 : Int} {i19 : Int} {i20 : Int} {i21 : Int} {i22 : Int} {i23 : Int} {t0 t1 t2 t3 t4 t5 t6 t7 t8 t9 t10 t12 t13 t14 t15 t16 t17 t18 t19 t20 t21 t22 t23 t24 t25 t26 t27 t28 t29 t30 t31 t32 t34 t35 t36 t37 t38 t39 t40 t41 t42 t43 t44 t45 t46 t47 t48 t49 t50 t51 t52 t53 t54 t55 t56 t57 t58 t59 t60 : Value} {K : Act → World → Prop} {Q : Exit → Act → World → Prop} (hZ : Z24 w B) :
    Oper.wp Tryd.prog ⟨none, Op.store 77 (.tmp 11) (.tmp 33), ty, pos, aft, none⟩ { tmps := #[t0, t1, t2, t3, t4, t5, t6, t7, t8, t9, t10, .pointer (some ⟨B, 0, none⟩), t12, t13, t14, t15, t16, t17, t18, t19, t20, t21, t22, t23, t24, t25, t26, t27, t28, t29, t30, t31, t32, .agg #[.slice a0 n0 c0, .slice a1 n1 c1, .slice a2 n2 c2, .int .i64 i3, .int .i64 i4, .slice a5 n5 c5, .slice a6 n6 c6, .slice a7 n7 c7, .bool b8, .int .i64 i9, .int .i64 i10, .int .i64 i11, .slice a12 n12 c12, .int .i64 i13, .int .i64 i14, .int .i64 i15, .int .i64 i16, .int .i64 i17, .int .i64 i18, .int .i64 i19, .int .i64 i20, .int .i64 i21, .int .i64 i22, .int .i64 i23], t34, t35, t36, t37, t38, t39, t40, t41, t42, t43, t44, t45, t46, t47, t48, t49, t50, t51, t52, t53, t54, t55, t56, t57, t58, t59, t60], defers := [] } w K Q = K { tmps := #[t0, t1, t2, t3, t4, t5, t6, t7, t8, t9, t10, .pointer (some ⟨B, 0, none⟩), t12, t13, t14, t15, t16, t17, t18, t19, t20, t21, t22, t23, t24, t25, t26, t27, t28, t29, t30, t31, t32, .agg #[.slice a0 n0 c0, .slice a1 n1 c1, .slice a2 n2 c2, .int .i64 i3, .int .i64 i4, .slice a5 n5 c5, .slice a6 n6 c6, .slice a7 n7 c7, .bool b8, .int .i64 i9, .int .i64 i10, .int .i64 i11, .slice a12 n12 c12, .int .i64 i13, .int .i64 i14, .int .i64 i15, .int .i64 i16, .int .i64 i17, .int .i64 i18, .int .i64 i19, .int .i64 i20, .int .i64 i21, .int .i64 i22, .int .i64 i23], t34, t35, t36, t37, t38, t39, t40, t41, t42, t43, t44, t45, t46, t47, t48, t49, t50, t51, t52, t53, t54, t55, t56, t57, t58, t59, t60], defers := [] } (w.setRow B #[.slice a0 n0 c0, .slice a1 n1 c1, .slice a2 n2 c2, .int .i64 i3, .int .i64 i4, .slice a5 n5 c5, .slice a6 n6 c6, .slice a7 n7 c7, .bool b8, .int .i64 i9, .int .i64 i10, .int .i64 i11, .slice a12 n12 c12, .int .i64 i13, .int .i64 i14, .int .i64 i15, .int .i64 i16, .int .i64 i17, .int .i64 i18, .int .i64 i19, .int .i64 i20, .int .i64 i21, .int .i64 i22, .int .i64 i23]) := by
  have hi : (Tryd.prog.info? 77).map (·.size) = some 24 := by kernel_rfl
  exact wp_store_eq 77 (.tmp 11) (.tmp 33) rfl B #[.slice a0 n0 c0, .slice a1 n1 c1, .slice a2 n2 c2, .int .i64 i3, .int .i64 i4, .slice a5 n5 c5, .slice a6 n6 c6, .slice a7 n7 c7, .bool b8, .int .i64 i9, .int .i64 i10, .int .i64 i11, .slice a12 n12 c12, .int .i64 i13, .int .i64 i14, .int .i64 i15, .int .i64 i16, .int .i64 i17, .int .i64 i18, .int .i64 i19, .int .i64 i20, .int .i64 i21, .int .i64 i22, .int .i64 i23] rfl rfl 77 _ hZ hi rfl (by simp [Value.oneCell'])
def fxv (a1 a2 a3 va vc u : Value) (p : PPrg) (who : Int) (l : PLoc) : FX := ⟨a1, a2, a3, p.fuel, who, va, vc, u, l.down, l.sent, l.over⟩

attribute [local go_sem ↓] wp_store_run
set_option maxHeartbeats 4000000 in
set_option maxRecDepth 100000 in
theorem run_yes (ok oka : Nat → Prop) (w : World) (v vl va : Value) (p : PPrg) (who : Int) (l : PLoc) (h : Int) (args : List Int) (ht : Tab w) (hp : PrgV w v p) (hl : LocV ok w vl l) (ha : Ints oka w va args) (hm : mayP p who l h args) :
    Calls Tryd.prog 11 #[v, .int .i64 who, vl, .int .i64 h, va] w fun e w' => ∃ u, e = .returned u ∧ ResV (fun b => w.heap.size ≤ b) w' u (runP p who l h args) ∧ Below w.heap.size w w' := by
  have HP : Hid (PrgV w v p) := hp
  have HV : Hid (LocV ok w vl l) := hl
  have HA : Hid (Ints oka w va args) := ha
  have HM : Hid (mayBV p who l h args = true) := mayB_yes hm
  have HR : Hid (runP p who l h args = fin l (rnR p who l h args)) := by show _ = _; unfold runP; exact @if_pos _ (Classical.propDecidable _) hm _ _ _
  obtain ⟨v1, v2, v3, rfl, h1, h2, h3⟩ := hp
  obtain ⟨A1, c1, rfl, hl1⟩ := h1.form
  obtain ⟨A2, c2, rfl, hl2⟩ := h2.form
  obtain ⟨A3, c3, rfl, hl3⟩ := h3.form
  obtain ⟨vr, rfl, hr⟩ := hl
  obtain ⟨A4, c4, rfl, hl4⟩ := hr.form
  obtain ⟨A5, c5, rfl, hl5⟩ := ha.form
  have HT : Hid (Tab w) := ht
  obtain ⟨m0, m1, m2, m3, m4, m5⟩ := hm
  obtain ⟨k, rfl⟩ := Int.eq_ofNat_of_zero_le m2.1
  obtain ⟨b1, o1, y, u1, rfl, hy, hz1, q1, q2, hcd⟩ := h1.cell (bRefl w) (k := k) (by omega)
  obtain ⟨Ac, cc, rfl, hlc⟩ := hcd.form
  have hzb : b1 < w.heap.size := hz1
  have hk : k < p.hs.length := by omega
  have HY : Hid (chkH p.hs.length y = 0 ∧ OkH p.hs ∧ (args.length : Int) = y.args ∧ Good p.hs y.code (dl p.hs y.code)) := by
    obtain ⟨f1, f2⟩ := fc_parts m0
    have hmem := List.mem_of_getElem? hy
    exact ⟨chk_hs f1 y hmem, (chk_ok f1).1, by rw [m3, argsOf_at hy], dp_some (f2 y hmem)⟩
  have HF : Hid (0 ≤ p.fuel ∧ p.fuel ≤ 256) := by have := chk_fuel (fc_parts m0).1; exact ⟨by omega, this.2⟩
  have HC : Hid (rnR p who l (k : Int) args = rn p who args y.code p.fuel.toNat (ms0 l)) := by show _ = _; unfold rnR; rw [fcode_at hy]
  have HW : Hid (0 ≤ who ∧ who < p.acs.length) := m1
  have H8 : Hid (l.regs.length ≤ 8) := m4
  have HD : Hid (l.down = 0) := m5
  have HX : Hid (∀ u w', Below w.heap.size w w' → PX w' (fxv (.slice (some ⟨b1, o1, none⟩) p.hs.length c1) (.slice A2 p.acs.length c2) (.slice A3 p.bs.length c3) (.slice A5 args.length c5) (.slice Ac y.code.length cc) u p who l) p args y.code) :=
    fun u w' hb => ⟨h1.below hb, h2.below hb, rfl, Ints.below (ha.any) hb, Code.below (hcd.any) hb, m1⟩
  clear ht h1 h2 h3 hr ha m0 m1 m2 m3 m4 m5 hy hcd hz1
  go_enter Tryd.func11, Tryd.ntmps11
  go_wp2_with fail
  have HB := bx3_below w #[.slice (some ⟨b1, o1, none⟩) p.hs.length c1, .slice A2 p.acs.length c2, .slice A3 p.bs.length c3, .int .i64 p.fuel] #[.slice A4 l.regs.length c4, .bool l.armed, .int .i64 l.down, .int .i64 l.sent, .int .i64 l.over]
  refine (may_is ok oka (bx3 w #[.slice (some ⟨b1, o1, none⟩) p.hs.length c1, .slice A2 p.acs.length c2, .slice A3 p.bs.length c3, .int .i64 p.fuel] #[.slice A4 l.regs.length c4, .bool l.armed, .int .i64 l.down, .int .i64 l.sent, .int .i64 l.over]) _ _ _ p who l k args (HT.out.below HB) (HP.out.below HB) (HV.out.below HB) (HA.out.below HB) _ HM.out).mono ?_
  rintro e w1 ⟨rfl, hb1⟩
  have hs1 := hb1.size
  rw [bx3_size] at hs1
  obtain ⟨p0, p1, p2, p3, pf⟩ := blk4V ((hb1.block _ (by rw [bx3_size]; omega)).trans (bx3_0 w _ _))
  have K1 : Hid (w1.heap[w.heap.size + 1]? = some (.cells #[.slice A4 l.regs.length c4, .bool l.armed, .int .i64 l.down, .int .i64 l.sent, .int .i64 l.over] 29)) := (hb1.block _ (by rw [bx3_size]; omega)).trans (bx3_1 w _ _)
  obtain ⟨y0, y1, y2, y3, y4, yf⟩ := blk5V K1.out
  have K2 : Hid (w1.heap[w.heap.size + 2]? = some (.cells #[.slice none 0 0, .bool false, .int .i64 0, .int .i64 0, .int .i64 0, .slice none 0 0, .int .i64 0] 35)) := (hb1.block _ (by rw [bx3_size]; omega)).trans (bx3_2 w _ _)
  have HB1 : Hid (Below w.heap.size w w1) := bTrans HB hb1
  have HV1 : Hid (LocV ok w1 (.agg #[.slice A4 l.regs.length c4, .bool l.armed, .int .i64 l.down, .int .i64 l.sent, .int .i64 l.over]) l) := HV.out.below HB1.out
  have q2' := (HB1.out.cell (p := ⟨b1, o1 + k * 2 + 1, none⟩) hzb).trans q2
  have hzb1 : b1 < w1.heap.size := by omega
  clear hb1 HB q1 q2 HT HP HV HA HM
  go_wp2_with fail
  go_cut [11] (fun i11 wc => ∃ B u, i11 = .pointer (some ⟨B, 0, none⟩) ∧ Hid (RM w1 B (fxv (.slice (some ⟨b1, o1, none⟩) p.hs.length c1) (.slice A2 p.acs.length c2) (.slice A3 p.bs.length c3) (.slice A5 args.length c5) (.slice Ac y.code.length cc) u p who l) (.slice none 0 0) [] zsk (ms0 l) wc))
  case first =>
    have n0 : ¬ w1.heap.size = w.heap.size := by omega
    have n0' : ¬ w.heap.size = w1.heap.size := by omega
    have n1 : ¬ w1.heap.size = w.heap.size + 1 := by omega
    have n1' : ¬ w.heap.size + 1 = w1.heap.size := by omega
    have n2 : ¬ w1.heap.size = b1 := by omega
    have n2' : ¬ b1 = w1.heap.size := by omega
    have hZA : ∀ W : World, Z24 (W.alloc (.cells #[.slice none 0 0, .slice none 0 0, .slice none 0 0, .int .i64 0, .int .i64 0, .slice none 0 0, .slice none 0 0, .slice none 0 0, .bool false, .int .i64 0, .int .i64 0, .int .i64 0, .slice none 0 0, .int .i64 0, .int .i64 0, .int .i64 0, .int .i64 0, .int .i64 0, .int .i64 0, .int .i64 0, .int .i64 0, .int .i64 0, .int .i64 0, .int .i64 0] 77)) W.heap.size := fun W => heap_new W _
    go_region_held3 (fun w' => w'.cell? ⟨w.heap.size, 0, none⟩ = some (.slice (some ⟨b1, o1, none⟩) p.hs.length c1) ∧ w'.cell? ⟨w.heap.size, 1, none⟩ = some (.slice A2 p.acs.length c2) ∧ w'.cell? ⟨w.heap.size, 2, none⟩ = some (.slice A3 p.bs.length c3) ∧ w'.cell? ⟨w.heap.size, 3, none⟩ = some (.int .i64 p.fuel) ∧ w'.cell? ⟨w.heap.size + 1, 0, none⟩ = some (.slice A4 l.regs.length c4) ∧ w'.cell? ⟨w.heap.size + 1, 1, none⟩ = some (.bool l.armed) ∧ w'.cell? ⟨w.heap.size + 1, 2, none⟩ = some (.int .i64 l.down) ∧ w'.cell? ⟨w.heap.size + 1, 3, none⟩ = some (.int .i64 l.sent) ∧ w'.cell? ⟨w.heap.size + 1, 4, none⟩ = some (.int .i64 l.over) ∧ w'.cell? ⟨b1, o1 + k * 2 + 1, none⟩ = some (.slice Ac y.code.length cc)) (first | with_reducible exact HZ.out | go_keep)
      (first
        | (go_at_call 28; refine (another_anyV ok w1.drew _ l (HV1.out.below ((bRefl _).drew)) (by have := H8.out; omega)).mono ?_; rintro e w2 ⟨u, rfl, hcl, hb2⟩; obtain ⟨Au, cu, rfl⟩ := hcl.form; have hbw : Below w1.heap.size w1 w2 := undrew hb2; have hy2 := hb2.size; (try simp at hy2); have z0 := (hbw.cell (p := ⟨w.heap.size, 0, none⟩) (show w.heap.size < w1.heap.size by omega)).trans p0; have z1 := (hbw.cell (p := ⟨w.heap.size, 1, none⟩) (show w.heap.size < w1.heap.size by omega)).trans p1; have z2 := (hbw.cell (p := ⟨w.heap.size, 2, none⟩) (show w.heap.size < w1.heap.size by omega)).trans p2; have z3 := (hbw.cell (p := ⟨w.heap.size, 3, none⟩) (show w.heap.size < w1.heap.size by omega)).trans p3; have z4 := (hbw.cell (p := ⟨w.heap.size + 1, 0, none⟩) (show w.heap.size + 1 < w1.heap.size by omega)).trans y0; have z5 := (hbw.cell (p := ⟨w.heap.size + 1, 1, none⟩) (show w.heap.size + 1 < w1.heap.size by omega)).trans y1; have z6 := (hbw.cell (p := ⟨w.heap.size + 1, 2, none⟩) (show w.heap.size + 1 < w1.heap.size by omega)).trans y2; have z7 := (hbw.cell (p := ⟨w.heap.size + 1, 3, none⟩) (show w.heap.size + 1 < w1.heap.size by omega)).trans y3; have z8 := (hbw.cell (p := ⟨w.heap.size + 1, 4, none⟩) (show w.heap.size + 1 < w1.heap.size by omega)).trans y4; have z9 := (hbw.cell (p := ⟨b1, o1 + k * 2 + 1, none⟩) (show b1 < w1.heap.size by omega)).trans q2'; have aC : ∀ b o, b < w2.heap.size → (w2.alloc (.cells #[.slice none 0 0, .slice none 0 0, .slice none 0 0, .int .i64 0, .int .i64 0, .slice none 0 0, .slice none 0 0, .slice none 0 0, .bool false, .int .i64 0, .int .i64 0, .int .i64 0, .slice none 0 0, .int .i64 0, .int .i64 0, .int .i64 0, .int .i64 0, .int .i64 0, .int .i64 0, .int .i64 0, .int .i64 0, .int .i64 0, .int .i64 0, .int .i64 0] 77)).cell? ⟨b, o, none⟩ = w2.cell? ⟨b, o, none⟩ := (fun b o h => (bAlloc (bRefl w2) _).cell (p := ⟨b, o, none⟩) h); have Z := s_row (B := w2.heap.size) (by omega) (by omega) (by omega) #[.slice (some ⟨b1, o1, none⟩) p.hs.length c1, .slice A2 p.acs.length c2, .slice A3 p.bs.length c3, .int .i64 p.fuel, .int .i64 who, .slice A5 args.length c5, .slice Ac y.code.length cc, .slice Au l.regs.length cu, .bool l.armed, .int .i64 l.down, .int .i64 l.sent, .int .i64 l.over, .slice none 0 0, .int .i64 0, .int .i64 0, .int .i64 0, .int .i64 0, .int .i64 0, .int .i64 0, .int .i64 0, .int .i64 0, .int .i64 0, .int .i64 0, .int .i64 0] ⟨(aC w.heap.size 0 (by omega)).trans z0, (aC w.heap.size 1 (by omega)).trans z1, (aC w.heap.size 2 (by omega)).trans z2, (aC w.heap.size 3 (by omega)).trans z3, (aC (w.heap.size + 1) 0 (by omega)).trans z4, (aC (w.heap.size + 1) 1 (by omega)).trans z5, (aC (w.heap.size + 1) 2 (by omega)).trans z6, (aC (w.heap.size + 1) 3 (by omega)).trans z7, (aC (w.heap.size + 1) 4 (by omega)).trans z8, (aC b1 _ (by omega)).trans z9⟩; have HZ := hid_mkV Z; clear Z aC)
        | (go_at_call 28; refine (another_anyV ok (w1.alloc (.cells #[.slice none 0 0, .slice none 0 0, .slice none 0 0, .int .i64 0, .int .i64 0, .slice none 0 0, .slice none 0 0, .slice none 0 0, .bool false, .int .i64 0, .int .i64 0, .int .i64 0, .slice none 0 0, .int .i64 0, .int .i64 0, .int .i64 0, .int .i64 0, .int .i64 0, .int .i64 0, .int .i64 0, .int .i64 0, .int .i64 0, .int .i64 0, .int .i64 0] 77)).drew _ l (HV1.out.below ((bAlloc (bRefl _) _).drew)) (by have := H8.out; omega)).mono ?_; rintro e w2 ⟨u, rfl, hcl, hb2⟩; obtain ⟨Au, cu, rfl⟩ := hcl.form; have hbw : Below w1.heap.size w1 w2 := bTrans (bAlloc (bRefl w1) _).drew hb2; have hy2 := hb2.size; (try simp at hy2); have hZ : Z24 w2 w1.heap.size := (hb2.block w1.heap.size (by simp)).trans (heap_new w1 _); have z0 := (hbw.cell (p := ⟨w.heap.size, 0, none⟩) (show w.heap.size < w1.heap.size by omega)).trans p0; have z1 := (hbw.cell (p := ⟨w.heap.size, 1, none⟩) (show w.heap.size < w1.heap.size by omega)).trans p1; have z2 := (hbw.cell (p := ⟨w.heap.size, 2, none⟩) (show w.heap.size < w1.heap.size by omega)).trans p2; have z3 := (hbw.cell (p := ⟨w.heap.size, 3, none⟩) (show w.heap.size < w1.heap.size by omega)).trans p3; have z4 := (hbw.cell (p := ⟨w.heap.size + 1, 0, none⟩) (show w.heap.size + 1 < w1.heap.size by omega)).trans y0; have z5 := (hbw.cell (p := ⟨w.heap.size + 1, 1, none⟩) (show w.heap.size + 1 < w1.heap.size by omega)).trans y1; have z6 := (hbw.cell (p := ⟨w.heap.size + 1, 2, none⟩) (show w.heap.size + 1 < w1.heap.size by omega)).trans y2; have z7 := (hbw.cell (p := ⟨w.heap.size + 1, 3, none⟩) (show w.heap.size + 1 < w1.heap.size by omega)).trans y3; have z8 := (hbw.cell (p := ⟨w.heap.size + 1, 4, none⟩) (show w.heap.size + 1 < w1.heap.size by omega)).trans y4; have z9 := (hbw.cell (p := ⟨b1, o1 + k * 2 + 1, none⟩) (show b1 < w1.heap.size by omega)).trans q2'; have Z := s_row n0' n1' n2' #[.slice (some ⟨b1, o1, none⟩) p.hs.length c1, .slice A2 p.acs.length c2, .slice A3 p.bs.length c3, .int .i64 p.fuel, .int .i64 who, .slice A5 args.length c5, .slice Ac y.code.length cc, .slice Au l.regs.length cu, .bool l.armed, .int .i64 l.down, .int .i64 l.sent, .int .i64 l.over, .slice none 0 0, .int .i64 0, .int .i64 0, .int .i64 0, .int .i64 0, .int .i64 0, .int .i64 0, .int .i64 0, .int .i64 0, .int .i64 0, .int .i64 0, .int .i64 0] ⟨z0, z1, z2, z3, z4, z5, z6, z7, z8, z9⟩; have HZ := hid_mkV Z; clear Z))
    all_goals (go_wp2_with fail; go_meet)
    all_goals first
      | exact ⟨_, _, rfl, (way_aV (x := (fxv (.slice (some ⟨b1, o1, none⟩) p.hs.length c1) (.slice A2 p.acs.length c2) (.slice A3 p.bs.length c3) (.slice A5 args.length c5) (.slice Ac y.code.length cc) (.slice Au l.regs.length cu) p who l)) (l := l) (undrew hb2) hcl H8.out)⟩
      | exact ⟨_, _, rfl, (way_bV (w := w1) (W := (w1.alloc (.cells #[.slice none 0 0, .slice none 0 0, .slice none 0 0, .int .i64 0, .int .i64 0, .slice none 0 0, .slice none 0 0, .slice none 0 0, .bool false, .int .i64 0, .int .i64 0, .int .i64 0, .slice none 0 0, .int .i64 0, .int .i64 0, .int .i64 0, .int .i64 0, .int .i64 0, .int .i64 0, .int .i64 0, .int .i64 0, .int .i64 0, .int .i64 0, .int .i64 0] 77)).drew) (x := (fxv (.slice (some ⟨b1, o1, none⟩) p.hs.length c1) (.slice A2 p.acs.length c2) (.slice A3 p.bs.length c3) (.slice A5 args.length c5) (.slice Ac y.code.length cc) (.slice Au l.regs.length cu) p who l)) (l := l) (by simp) (heap_new w1 _) (bAlloc (bRefl w1) _).drew hb2 hcl H8.out)⟩
  case rest =>
    obtain ⟨B, u, rfl, hM⟩ := hcut
    have HL : Hid (LI p args who y.code (rnR p who l (k : Int) args) (ms0 l)) := by
      rw [HC.out]
      exact ⟨fun _ => Rch.start, rfl, Nat.le_refl _⟩
    go_wp2_with fail
    refine (all_any (HX.out u w1 HB1.out) hM.out HL.out (Nat.zero_le _) HF.out (Nat.zero_le _) HY.out.1 HY.out.2.1 HY.out.2.2.1 HY.out.2.2.2).mono ?_
    rintro e w3 ⟨rfl, vn, us, sk, h3⟩
    obtain ⟨R, hR⟩ : ∃ R, rnR p who l (k : Int) args = R := ⟨_, rfl⟩
    rw [hR] at h3 HR
    rw [hR]
    have HM3 := h3
    clear hM HL HC hR
    have hlow := h3.low
    have hs3 := h3.low.size
    have hB := h3.lt
    have hBb := h3.base
    obtain ⟨r0, r1, r2, r3, r4, r5, r6, rf⟩ := blk7 ((h3.low.block _ (by omega)).trans K2.out)
    have rf0 := rf 0
    have rf1 := rf 1
    have rf2 := rf 2
    have rf3 := rf 3
    have rf4 := rf 4
    have rf5 := rf 5
    have rf6 := rf 6
    have q23 : w3.cell? ⟨B, 23, none⟩ = some (.int .i64 (R.2.steps : Int)) := h3.c 23 (by omega)
    have hn0 : ¬ B = w.heap.size + 1 + 1 := by omega
    have hn0' : ¬ w.heap.size + 1 + 1 = B := by omega
    clear rf
    by_cases hd : R.1 = 0
    · have e1 : (R.1 != 0) = false := ne_no hd
      have hRg := h3.regs
      have hNt := h3.nts
      have hu : (fxv (.slice (some ⟨b1, o1, none⟩) p.hs.length c1) (.slice A2 p.acs.length c2) (.slice A3 p.bs.length c3) (.slice A5 args.length c5) (.slice Ac y.code.length cc) u p who l).vr = u := rfl
      rw [hu] at hRg hNt
      obtain ⟨Au, cu, rfl, hul⟩ := hRg.form
      obtain ⟨An, cn, rfl⟩ := hNt.form
      have q7 : w3.cell? ⟨B, 7, none⟩ = some (.slice Au R.2.regs.length cu) := h3.c 7 (by omega)
      have q8 : w3.cell? ⟨B, 8, none⟩ = some (.bool R.2.armed) := h3.c 8 (by omega)
      have q9 : w3.cell? ⟨B, 9, none⟩ = some (.int .i64 l.down) := h3.c 9 (by omega)
      have q10 : w3.cell? ⟨B, 10, none⟩ = some (.int .i64 l.sent) := h3.c 10 (by omega)
      have q11 : w3.cell? ⟨B, 11, none⟩ = some (.int .i64 l.over) := h3.c 11 (by omega)
      have q12 : w3.cell? ⟨B, 12, none⟩ = some (.slice An R.2.notes.length cn) := h3.c 12 (by omega)
      have f10 := h3.fz 10
      have HRg : Hid (RG w1 B w3 (.slice Au R.2.regs.length cu) R.2.regs) := hRg
      have HNt : Hid (NT w1 (fun b => b = B ∨ hb (.slice Au R.2.regs.length cu) = some b) w3 (.slice An R.2.notes.length cn) R.2.notes us) := hNt
      have HQ : Hid (fin l R = ⟨⟨R.2.regs, R.2.armed, l.down, wrap64 (l.sent + R.2.notes.length), l.over⟩, R.2.notes, R.2.steps⟩) := by show _ = _; unfold fin; rw [if_pos hd]
      clear h3 HM3 hRg hNt hu hd
      go_wp2
      refine bodyPost_ret (v := .agg #[.slice Au R.2.regs.length cu, .bool R.2.armed, .int .i64 l.down, .int .i64 (wrap64 (l.sent + R.2.notes.length)), .int .i64 l.over, .slice An R.2.notes.length cn, .int .i64 R.2.steps]) (by simp [results, Tryd.results11, go_sem, *]) rfl ⟨_, rfl, ?_, ?_⟩
      · rw [HR.out, HQ.out]
        refine ⟨_, _, rfl, ?_, ?_⟩
        · refine Sl.imp (ok := fun b => w1.heap.size ≤ b) (RG.ints (w0 := w1) (B := B) ?_) (fun b hb => Nat.le_trans HB1.out.size hb) (Nat.le_refl _) (fun _ _ _ _ _ h => h)
          repeat (refine RG.so ?_ (by first | exact Or.inl rfl | (exact Or.inr (by omega))) _)
          exact HRg.out
        · refine NT.up (w0 := w1) (ex := fun b => b = B ∨ hb (.slice Au R.2.regs.length cu) = some b) (us := us) ?_ HB1.out.size
          repeat (refine NT.so ?_ (by first | exact Or.inl rfl | (exact Or.inr (by omega))) _)
          exact HNt.out
      · repeat (refine Below.setCell ?_ (by first | (simp; done) | (simp; omega)) _)
        exact HB1.out.trans (hlow.mono HB1.out.size)
    · have e1 : (R.1 != 0) = true := ne_yes hd
      have HQ : Hid (fin l R = ⟨{ l with down := R.1 }, [], R.2.steps⟩) := by show _ = _; unfold fin; rw [if_neg hd]
      have HLo : Hid (Below w1.heap.size w1 w3) := hlow
      have x1 := blk5V ((hlow.block _ (by omega)).trans K1.out)
      obtain ⟨x0, x1, x2, x3, x4, _⟩ := x1
      clear h3 HM3 hd hlow
      go_wp2_with fail
      refine (another_anyV ok _ _ l (HV1.out.below HLo.out) (by have := H8.out; omega)).mono ?_
      rintro e w4 ⟨v4, rfl, hcl, hb4⟩
      obtain ⟨Au, cu, rfl⟩ := hcl.form
      have hs4 := hb4.size
      have q23' := (hb4.cell (p := ⟨B, 23, none⟩) hB).trans q23
      obtain ⟨t0, t1, t2, t3, t4, t5, t6, tf⟩ := blk7 ((hb4.block _ (by omega)).trans ((HLo.out.block _ (by omega)).trans K2.out))
      have tf0 := tf 0
      have tf1 := tf 1
      have tf2 := tf 2
      have tf3 := tf 3
      have tf4 := tf 4
      have tf5 := tf 5
      have tf6 := tf 6
      have hz2 : w.heap.size + 1 + 1 < w4.heap.size := by omega
      have hB4 : B < w4.heap.size := by omega
      have HCL : Hid (CL w3 w4 (.slice Au l.regs.length cu) l.regs) := hcl
      have HB4 : Hid (Below w.heap.size w w4) := (HB1.out.trans (HLo.out.mono HB1.out.size)).trans (hb4.mono (by omega))
      clear hcl hb4 tf r0 r1 r2 r3 r4 r5 r6 rf0 rf1 rf2 rf3 rf4 rf5 rf6 q23
      go_wp2
      refine bodyPost_ret (v := .agg #[.slice Au l.regs.length cu, .bool l.armed, .int .i64 R.1, .int .i64 l.sent, .int .i64 l.over, .slice none 0 0, .int .i64 R.2.steps]) (by simp [results, Tryd.results11, go_sem, *]) rfl ⟨_, rfl, ?_, ?_⟩
      · rw [HR.out, HQ.out]
        refine ⟨_, _, rfl, ?_, ⟨_, _, rfl, by simp, by simp, Or.inl rfl⟩⟩
        refine Sl.imp (ok := fun b => w3.heap.size ≤ b) (CL.ints (w := w3) ?_ (by have := H8.out; show l.regs.length ≤ 1000; omega)) (fun b hb => by have h1 : w3.heap.size ≤ b := hb; show w.heap.size ≤ b; omega) (Nat.le_refl _) (fun _ _ _ _ _ h => h)
        refine CL.below ?_ (bAlloc (bRefl _) _)
        repeat (refine CL.set ?_ (by omega) _)
        exact HCL.out
      · refine Below.alloc ?_ (by simp; omega) _
        repeat (refine Below.setCell ?_ (by first | (simp; done) | (simp; omega)) _)
        exact HB4.out
/-- Run. -/
theorem run_any (ok oka : Nat → Prop) (w : World) (v vl va : Value) (p : PPrg) (who : Int) (l : PLoc) (h : Int) (args : List Int) (ht : Tab w) (hp : PrgV w v p) (hl : LocV ok w vl l) (ha : Ints oka w va args) :
    Calls Tryd.prog 11 #[v, .int .i64 who, vl, .int .i64 h, va] w fun e w' => ∃ u, e = .returned u ∧ ResV (fun b => w.heap.size ≤ b) w' u (runP p who l h args) ∧ Below w.heap.size w w' := by
  by_cases hm : mayP p who l h args
  · exact run_yes ok oka w v vl va p who l h args ht hp hl ha hm
  · exact run_no ok oka w v vl va p who l h args ht hp hl ha hm
end Go.Proofs.YtfbeiedhdmndnaaDoor
namespace Go.Proofs.YtfbeiedhdmndnaaDoor

def closedAt (hs : List PHnd) (code : List PIns) (l : List Int) (k : Nat) : Bool :=
  match l[k]?, code[k]? with
  | some d, some i => if 0 ≤ d then decide (okI hs i d) && (nxt i k).all (fun j => l[j]? == some (lft hs i d)) else true
  | _, _ => true
/-- Place k (not the first) is not reached, or is from the place pr, ahead of it. -/
def soundAt (code : List PIns) (l : List Int) (k pr : Nat) : Bool :=
  l[k]? == some (-1) || (decide (pr < k) && (match l[pr]?, code[pr]? with
    | some d, some i => decide (0 ≤ d) && (nxt i pr).contains k
    | _, _ => false))
def goodB (hs : List PHnd) (code : List PIns) (l : List Int) (pr : Nat → Nat) : Bool :=
  l.length == code.length + 1 && l[0]? == some 0 && (List.range code.length).all (closedAt hs code l) && (List.range code.length).all (fun k => soundAt code l (k + 1) (pr (k + 1)))

section
variable {hs : List PHnd} {code : List PIns} {l : List Int}
theorem closedAt_dn {k : Nat} (h : closedAt hs code l k = true) : Dn hs code l k := by
  intro d i hd h0 hi
  unfold closedAt at h
  rw [hd, hi] at h
  simp only [if_pos h0, Bool.and_eq_true, decide_eq_true_eq, List.all_eq_true, beq_iff_eq] at h
  exact ⟨h.1, fun j hj => h.2 j hj⟩
theorem goodB_good {pr : Nat → Nat} (h : goodB hs code l pr = true) : Good hs code l := by
  unfold goodB at h
  simp only [Bool.and_eq_true, beq_iff_eq, List.all_eq_true, List.mem_range] at h
  obtain ⟨⟨⟨h1, h2⟩, h3⟩, h4⟩ := h
  have cl : ∀ k, Dn hs code l k := fun k => by
    by_cases hk : k < code.length
    · exact closedAt_dn (h3 k hk)
    · intro d i _ _ hi
      rw [List.getElem?_eq_none (by omega)] at hi; cases hi
  refine ⟨⟨h1, h2, fun k => ?_⟩, cl⟩
  induction k using Nat.strongRecOn with
  | _ k ih =>
    intro d hd
    match k, ih, hd with
    | 0, _, hd => rw [h2] at hd; cases hd; exact Or.inr .start
    | k + 1, ih, hd =>
      have hk : k < code.length := by have := (List.getElem?_eq_some_iff.1 hd).1; omega
      have hs := h4 k hk
      unfold soundAt at hs
      rw [Bool.or_eq_true, Bool.and_eq_true, beq_iff_eq, decide_eq_true_eq] at hs
      rcases hs with hs | ⟨hlt, hs⟩
      · rw [hd] at hs; exact Or.inl (Option.some.inj hs)
      · generalize hpr : pr (k + 1) = r at hlt hs
        cases hx : l[r]? with
        | none => rw [hx] at hs; simp at hs
        | some x =>
          cases hy : code[r]? with
          | none => rw [hx, hy] at hs; simp at hs
          | some i =>
            rw [hx, hy] at hs
            simp only [Bool.and_eq_true, decide_eq_true_eq, List.contains_iff_mem] at hs
            obtain ⟨h0, hm⟩ := hs
            obtain ⟨ho, hn⟩ := cl r x i hx h0 hy
            have hr : Rch _ code r x := (ih r hlt x hx).resolve_left (by omega)
            have e := hn _ hm
            rw [hd] at e
            rw [Option.some.inj e]
            exact Or.inr (.step hr hy ho hm)

/-- Along a way: where it ends, and with how many numbers. -/
def way (hs : List PHnd) (code : List PIns) : Nat → Int → List Nat → Option (Nat × Int)
  | k, d, [] => some (k, d)
  | k, d, j :: r =>
    match code[k]? with
    | some i => if okI hs i d ∧ j ∈ nxt i k then way hs code j (lft hs i d) r else none
    | none => none
theorem way_rch : ∀ {js : List Nat} {k : Nat} {d : Int} {e : Nat × Int}, Rch hs code k d → way hs code k d js = some e → Rch hs code e.1 e.2
  | [], k, d, e, hr, h => by simp only [way, Option.some.injEq] at h; subst h; exact hr
  | j :: r, k, d, e, hr, h => by
    unfold way at h
    cases hi : code[k]? with
    | none => rw [hi] at h; simp at h
    | some i =>
      rw [hi] at h
      simp only at h
      by_cases ho : okI hs i d ∧ j ∈ nxt i k
      · rw [if_pos ho] at h
        exact way_rch (.step hr hi ho.1 ho.2) h
      · rw [if_neg ho] at h; cases h
/-- A way to what may not be. -/
def badB (hs : List PHnd) (code : List PIns) (js : List Nat) : Bool :=
  match way hs code 0 0 js with
  | some (k, d) => (match code[k]? with | some i => !decide (okI hs i d) | none => false)
  | none => false
theorem badB_bad {js : List Nat} (h : badB hs code js = true) : Bad hs code := by
  unfold badB at h
  cases hw : way hs code 0 0 js with
  | none => rw [hw] at h; cases h
  | some e =>
    obtain ⟨k, d⟩ := e
    rw [hw] at h
    simp only at h
    cases hi : code[k]? with
    | none => rw [hi] at h; cases h
    | some i =>
      rw [hi] at h
      simp only [Bool.not_eq_true', decide_eq_false_iff_not] at h
      exact Or.inl ⟨k, d, i, way_rch .start hw, hi, h⟩
/-- Two ways to one place, with two depths. -/
def twoB (hs : List PHnd) (code : List PIns) (js js' : List Nat) : Bool :=
  match way hs code 0 0 js, way hs code 0 0 js' with
  | some (k, d), some (k', d') => decide (k = k') && !decide (d = d')
  | _, _ => false
theorem twoB_bad {js js' : List Nat} (h : twoB hs code js js' = true) : Bad hs code := by
  unfold twoB at h
  cases hw : way hs code 0 0 js with
  | none => rw [hw] at h; cases h
  | some e =>
    cases hw' : way hs code 0 0 js' with
    | none => rw [hw, hw'] at h; cases h
    | some e' =>
      obtain ⟨k, d⟩ := e
      obtain ⟨k', d'⟩ := e'
      rw [hw, hw'] at h
      simp only [Bool.and_eq_true, decide_eq_true_eq, Bool.not_eq_true', decide_eq_false_iff_not] at h
      obtain ⟨rfl, hne⟩ := h
      exact Or.inr ⟨k, d, d', way_rch .start hw, way_rch .start hw', hne⟩
end

/-- A program of one handler. -/
def hP (code : List PIns) : PPrg := ⟨[⟨0, code⟩], [⟨[0], 0, -1, false⟩], [], 100⟩
def exC : List PIns := [⟨1, 1⟩, ⟨21, 4⟩, ⟨1, 2⟩, ⟨20, 5⟩, ⟨1, 3⟩, ⟨2, 0⟩]
theorem ex_chk : chk (hP exC) = 0 := by decide +kernel
theorem ex_good : Good (hP exC).hs exC [0, 1, 0, 1, 0, 1, 0] := goodB_good (pr := fun k => if k = 4 then 1 else k - 1) (by decide +kernel)
theorem pop_chk : chk (hP [⟨2, 0⟩]) = 0 := by decide +kernel
theorem pop_bad : Bad (hP [⟨2, 0⟩]).hs [⟨2, 0⟩] := badB_bad (js := []) (by decide +kernel)
end Go.Proofs.YtfbeiedhdmndnaaDoor
namespace Go.Proofs.YtfbeiedhdmndnaaDoor
open Go.RowKit
attribute [local go_sem ↓] Go.wp_at_zero Go.wp_at_succ

theorem sl1 {α : Type} {sz : Nat} {R : World → Nat → Nat → α → Prop} {ok : Nat → Prop} {w : World} {b o c : Nat} {x : α} (hk : ok b) (hb : b < w.heap.size) (h : R w b o x) (hc : 1 ≤ c := by decide) : Sl sz R ok w (.slice (some ⟨b, o, none⟩) 1 c) [x] :=
  ⟨_, c, rfl, by simp, hc, Or.inr ⟨b, o, rfl, hk, hb, fun k y hy => by
    match k, hy with
    | 0, hy => simp at hy; subst hy; simpa using h⟩⟩
theorem sl2 {α : Type} {sz : Nat} {R : World → Nat → Nat → α → Prop} {ok : Nat → Prop} {w : World} {b o c : Nat} {x y : α} (hk : ok b) (hb : b < w.heap.size) (h : R w b o x) (h2 : R w b (o + sz) y) (hc : 2 ≤ c := by decide) : Sl sz R ok w (.slice (some ⟨b, o, none⟩) 2 c) [x, y] :=
  ⟨_, c, rfl, by simp, hc, Or.inr ⟨b, o, rfl, hk, hb, fun k z hz => by
    match k, hz with
    | 0, hz => simp at hz; subst hz; simpa using h
    | 1, hz => simp at hz; subst hz; simpa using h2⟩⟩
def onePV (fuel : Int) (code : List PIns) : PPrg := ⟨[⟨0, code⟩], [⟨[0, 0], 0, 0, false⟩, ⟨[], 0, -1, false⟩], [], fuel⟩
def locP (a b : Int) : PLoc := ⟨[a, b], false, 0, 0, 0⟩

set_option maxHeartbeats 1000000 in
set_option maxRecDepth 100000 in
theorem mk1_any (ok : Nat → Prop) (w : World) (fuel : Int) (vc : Value) (code : List PIns) (h : Code ok w vc code) :
    Calls Tryd.prog 21 #[.int .i64 fuel, vc] w fun e w' => ∃ v1 c1 v2 c2, e = .returned (.agg #[.slice v1 1 c1, .slice v2 2 c2, .slice none 0 0, .int .i64 fuel]) ∧ PrgV w' (.agg #[.slice v1 1 c1, .slice v2 2 c2, .slice none 0 0, .int .i64 fuel]) (onePV fuel code) ∧ Below w.heap.size w w' := by
  obtain ⟨A, c, rfl, hl⟩ := h.form
  have HC : Hid (Code anyB w (.slice A code.length c) code) := h.any
  clear h
  go_enter Tryd.func21, Tryd.ntmps21
  go_wp2
  refine bodyPost_ret (v := .agg #[.slice (some ⟨w.heap.size + 1, 0, none⟩) 1 1, .slice (some ⟨w.heap.size + 1 + 1 + 1, 0, none⟩) 2 2, .slice none 0 0, .int .i64 fuel]) (by simp [results, Tryd.results21, go_sem]) rfl ⟨_, _, _, _, rfl, ?_, bAlloc (bAlloc (bAlloc (bAlloc (bRefl w) _) _) _) _⟩
  have hb : ∀ (o1 o2 o3 o4 : Obj), Below w.heap.size w ((((w.alloc o1).alloc o2).alloc o3).alloc o4) := fun _ _ _ _ => bAlloc (bAlloc (bAlloc (bAlloc (bRefl w) _) _) _) _
  refine ⟨_, _, _, rfl, ?_, ?_, sl0⟩
  · exact sl1 trivial (by simp) ⟨(by simp [go_sem]; try rfl), .slice A code.length c, (by simp [go_sem]; try rfl), HC.out.below (hb _ _ _ _)⟩
  · exact sl2 trivial (by simp) ⟨⟨.slice (some ⟨w.heap.size + 1 + 1, 0, none⟩) 2 2, (by simp [go_sem]; try rfl), sl2 trivial (by simp) (by simp [rInt, go_sem]; try rfl) (by simp [rInt, go_sem]; try rfl)⟩, (by simp [go_sem]; try rfl), (by simp [go_sem]; try rfl), (by simp [go_sem]; try rfl)⟩ ⟨⟨.slice none 0 0, (by simp [go_sem]; try rfl), sl0⟩, (by simp [go_sem]; try rfl), (by simp [go_sem]; try rfl), (by simp [go_sem]; try rfl)⟩
set_option maxHeartbeats 1000000 in
theorem local_any (w : World) (a b : Int) :
    Calls Tryd.prog 22 #[.int .i64 a, .int .i64 b] w fun e w' => ∃ A, e = .returned (.agg #[.slice (some A) 2 2, .bool false, .int .i64 0, .int .i64 0, .int .i64 0]) ∧ LocV (fun x => w.heap.size ≤ x) w' (.agg #[.slice (some A) 2 2, .bool false, .int .i64 0, .int .i64 0, .int .i64 0]) (locP a b) ∧ Below w.heap.size w w' := by
  go_enter Tryd.func22, Tryd.ntmps22
  go_wp2
  refine bodyPost_ret (v := .agg #[.slice (some ⟨w.heap.size + 1, 0, none⟩) 2 2, .bool false, .int .i64 0, .int .i64 0, .int .i64 0]) (by simp [results, Tryd.results22, go_sem]) rfl ⟨_, rfl, ⟨_, rfl, ?_⟩, bAlloc (bAlloc (bRefl w) _) _⟩
  exact sl2 (by omega) (by simp) (by simp [rInt, go_sem]) (by simp [rInt, go_sem])
end Go.Proofs.YtfbeiedhdmndnaaDoor
namespace Go.Proofs.YtfbeiedhdmndnaaDoor
open Go.RowKit

/-- A result in a box of the law's own. -/
structure RB (W : World) (b : Nat) (r : PRes) (A : Option Addr) (c : Nat) (An : Option Addr) (cn : Nat) (wc : World) : Prop where
  low : Below W.heap.size W wc
  base : W.heap.size ≤ b
  box : wc.heap[b]? = some (.cells #[.slice A r.loc.regs.length c, .bool r.loc.armed, .int .i64 r.loc.down, .int .i64 r.loc.sent, .int .i64 r.loc.over, .slice An r.notes.length cn, .int .i64 r.steps] 35)
  regs : Ints anyB wc (.slice A r.loc.regs.length c) r.loc.regs
  nts : Ntes anyB anyB wc (.slice An r.notes.length cn) r.notes
section
variable {W w3 wX wc w' : World} {b c cn : Nat} {r : PRes} {A An : Option Addr}
theorem RB.below (h : RB W b r A c An cn wc) (hb : Below wc.heap.size wc w') : RB W b r A c An cn w' :=
  ⟨bTrans h.low hb, h.base, (hb.block _ (Array.getElem?_eq_some_iff.1 h.box).1).trans h.box, Ints.below h.regs hb, Ntes.below h.nts hb⟩
theorem ResV.form {ok : Nat → Prop} {w : World} {v : Value} (h : ResV ok w v r) : ∃ A c An cn, v = .agg #[.slice A r.loc.regs.length c, .bool r.loc.armed, .int .i64 r.loc.down, .int .i64 r.loc.sent, .int .i64 r.loc.over, .slice An r.notes.length cn, .int .i64 r.steps] ∧ Ints ok w (.slice A r.loc.regs.length c) r.loc.regs ∧ Ntes ok ok w (.slice An r.notes.length cn) r.notes := by
  obtain ⟨cr, cn, rfl, h1, h2⟩ := h
  obtain ⟨A, c, rfl, _⟩ := h1.form
  obtain ⟨An, c2, rfl, _⟩ := h2.form
  exact ⟨A, c, An, c2, rfl, h1, h2⟩
abbrev put7 (w : World) (b : Nat) (v0 v1 v2 v3 v4 v5 v6 : Value) : World := ((((((w.setCell ⟨b, 0, none⟩ v0).setCell ⟨b, 1, none⟩ v1).setCell ⟨b, 2, none⟩ v2).setCell ⟨b, 3, none⟩ v3).setCell ⟨b, 4, none⟩ v4).setCell ⟨b, 5, none⟩ v5).setCell ⟨b, 6, none⟩ v6
theorem put7_heap {w : World} {v0 v1 v2 v3 v4 v5 v6 z0 z1 z2 z3 z4 z5 z6 : Value} (h : w.heap[b]? = some (.cells #[z0, z1, z2, z3, z4, z5, z6] 35)) : (put7 w b v0 v1 v2 v3 v4 v5 v6).heap[b]? = some (.cells #[v0, v1, v2, v3, v4, v5, v6] 35) := by
  unfold put7
  rw [setCell_heap (setCell_heap (setCell_heap (setCell_heap (setCell_heap (setCell_heap (setCell_heap h))))))]
  rfl
theorem put7_other {w : World} {v0 v1 v2 v3 v4 v5 v6 : Value} {x : Nat} (h : x ≠ b) : (put7 w b v0 v1 v2 v3 v4 v5 v6).heap[x]? = w.heap[x]? := by
  have hn : ∀ (W : World) (j : Nat) (v : Value), (W.setCell ⟨b, j, none⟩ v).heap[x]? = W.heap[x]? := fun W j v => Below.heap_setCell _ _ _ _ (fun e => h (by have e' : x = b := e; exact e'))
  unfold put7
  rw [hn, hn, hn, hn, hn, hn, hn]
theorem put7_size {w : World} {v0 v1 v2 v3 v4 v5 v6 : Value} : (put7 w b v0 v1 v2 v3 v4 v5 v6).heap.size = w.heap.size := by simp [put7]
theorem put7_below {w : World} {n : Nat} {v0 v1 v2 v3 v4 v5 v6 : Value} (h : Below n W w) (hb : n ≤ b) : Below n W (put7 w b v0 v1 v2 v3 v4 v5 v6) := by
  unfold put7
  exact ((((((h.setCell hb _).setCell hb _).setCell hb _).setCell hb _).setCell hb _).setCell hb _).setCell hb _
theorem rb_a {z0 z1 z2 z3 z4 z5 z6 : Value} (hlow : Below W.heap.size W w3) (hb : W.heap.size ≤ b) (hX : b < wX.heap.size) (hz : w3.heap[b]? = some (.cells #[z0, z1, z2, z3, z4, z5, z6] 35))
    (h1 : Ints (fun x => wX.heap.size ≤ x) w3 (.slice A r.loc.regs.length c) r.loc.regs) (h2 : Ntes (fun x => wX.heap.size ≤ x) (fun x => wX.heap.size ≤ x) w3 (.slice An r.notes.length cn) r.notes) :
    RB W b r A c An cn (put7 w3 b (.slice A r.loc.regs.length c) (.bool r.loc.armed) (.int .i64 r.loc.down) (.int .i64 r.loc.sent) (.int .i64 r.loc.over) (.slice An r.notes.length cn) (.int .i64 r.steps)) := by
  have hs : Same (fun x => wX.heap.size ≤ x) w3 (put7 w3 b (.slice A r.loc.regs.length c) (.bool r.loc.armed) (.int .i64 r.loc.down) (.int .i64 r.loc.sent) (.int .i64 r.loc.over) (.slice An r.notes.length cn) (.int .i64 r.steps)) := ⟨by rw [put7_size]; exact Nat.le_refl _, fun x hx _ => put7_other (by have h' : wX.heap.size ≤ x := hx; omega)⟩
  exact ⟨put7_below hlow hb, hb, put7_heap hz, (h1.same hs).any, Sl.imp (h2.same hs hs) (fun _ _ => trivial) (Nat.le_refl _) fun _ _ _ _ _ h => ⟨h.1, h.2.1, h.2.2.choose, h.2.2.choose_spec.1, h.2.2.choose_spec.2.any⟩⟩
theorem rb_c {ok : Nat → Prop} (hlow : Below W.heap.size W w3)
    (h1 : Ints ok w3 (.slice A r.loc.regs.length c) r.loc.regs) (h2 : Ntes ok ok w3 (.slice An r.notes.length cn) r.notes) :
    RB W w3.heap.size r A c An cn (w3.alloc (.cells #[.slice A r.loc.regs.length c, .bool r.loc.armed, .int .i64 r.loc.down, .int .i64 r.loc.sent, .int .i64 r.loc.over, .slice An r.notes.length cn, .int .i64 r.steps] 35)) :=
  ⟨bAlloc hlow _, hlow.size, heap_new _ _, Ints.below (h1.any) (bAlloc (bRefl _) _), Ntes.below (Sl.imp h2 (fun _ _ => trivial) (Nat.le_refl _) fun _ _ _ _ _ h => ⟨h.1, h.2.1, h.2.2.choose, h.2.2.choose_spec.1, h.2.2.choose_spec.2.any⟩) (bAlloc (bRefl _) _)⟩
end

/-- When the program of one handler may run. -/
theorem one_fcV {fuel : Int} {code : List PIns} {l : List Int} (hf : 1 ≤ fuel ∧ fuel ≤ 256) (hl : code.length ≤ 64) (hi : ∀ i ∈ code, chkI code.length 0 1 i = 0) (hg : Good [⟨0, code⟩] code l) : fc (onePV fuel code) = 0 := by
  have hs : ∀ l : List PIns, (∀ i ∈ l, chkI code.length 0 1 i = 0) → scan (chkI code.length 0 1) l = 0 := by
    intro l
    induction l with
    | nil => intro _; rfl
    | cons x r ih => intro hx; unfold scan; rw [if_pos (hx x (by simp))]; exact ih fun i hi => hx i (by simp [hi])
  have h1 : chkH 1 ⟨0, code⟩ = 0 := by
    unfold chkH
    rw [if_pos (by simp), if_pos hl]
    exact hs code hi
  have h0 : chkC (onePV fuel code) = 0 := by
    unfold chkC
    rw [if_pos (by simp [onePV]), if_pos ⟨by simp [onePV], hf⟩]
  have h2 : scan (chkH (onePV fuel code).hs.length) (onePV fuel code).hs = 0 := by
    show (if chkH 1 ⟨0, code⟩ = 0 then 0 else chkH 1 ⟨0, code⟩) = 0
    rw [if_pos h1]
  have hc : chk (onePV fuel code) = 0 := by
    unfold chk
    rw [if_pos h0, if_pos h2]
    rfl
  unfold fc
  rw [if_pos hc]
  show (if de [⟨0, code⟩] code = 0 then 0 else de [⟨0, code⟩] code) = 0
  rw [if_pos hg.de]
theorem one_may {fuel who : Int} {code : List PIns} {l : PLoc} (h : fc (onePV fuel code) = 0) (hw : 0 ≤ who ∧ who < 2) (h8 : l.regs.length ≤ 8) (hd : l.down = 0) : mayP (onePV fuel code) who l 0 [] :=
  ⟨h, hw, ⟨by omega, by show (0 : Int) < 1; omega⟩, rfl, h8, hd⟩
theorem one_run {fuel who : Int} {code : List PIns} {l : PLoc} (h : mayP (onePV fuel code) who l 0 []) : runP (onePV fuel code) who l 0 [] = fin l (rn (onePV fuel code) who [] code fuel.toNat (ms0 l)) := by
  unfold runP
  exact @if_pos _ (Classical.propDecidable _) h _ _ _

/-- Instructions as cells. -/
def cv (l : List PIns) : List Value := (l.map fun i => [Value.int .i64 i.op, Value.int .i64 i.a]).flatten
theorem cv_at {l : List PIns} {k : Nat} {x : PIns} (h : l[k]? = some x) : (cv l)[k * 2]? = some (.int .i64 x.op) ∧ (cv l)[k * 2 + 1]? = some (.int .i64 x.a) := by
  induction l generalizing k with
  | nil => simp at h
  | cons y r ih =>
    match k, h with
    | 0, h => simp at h; subst h; exact ⟨rfl, rfl⟩
    | k + 1, h =>
      have := ih (k := k) (by simpa using h)
      have e1V : (k + 1) * 2 = 2 + k * 2 := by omega
      simp only [cv, List.map_cons, List.flatten_cons] at *
      rw [e1V, List.getElem?_append_right (by simp), show 2 + k * 2 + 1 = 2 + (k * 2 + 1) by omega, List.getElem?_append_right (by simp)]
      simpa using this
/-- Code that is written down. -/
theorem code_lit (w : World) (l : List PIns) (hl : l.length ≤ 1000) : Code anyB (w.alloc (.cells (cv l).toArray 68)) (.slice (some ⟨w.heap.size, 0, none⟩) l.length l.length) l := by
  refine ⟨_, _, rfl, by omega, Nat.le_refl _, Or.inr ⟨w.heap.size, 0, rfl, trivial, by simp, fun k x hx => ?_⟩⟩
  have hc := cv_at hx
  have h := heap_new w (.cells (cv l).toArray 68)
  rw [Nat.zero_add]
  exact ⟨by rw [cell_of_row _ _ _ _ _ _ h, List.getElem?_toArray]; exact hc.1, by rw [cell_of_row _ _ _ _ _ _ h, List.getElem?_toArray]; exact hc.2⟩
end Go.Proofs.YtfbeiedhdmndnaaDoor
namespace Go.Proofs.YtfbeiedhdmndnaaDoor
open Go.RowKit
def k1 : List PIns := [⟨5, 0⟩, ⟨1, 2⟩, ⟨11, 0⟩, ⟨6, 1⟩, ⟨8, 0⟩, ⟨22, 0⟩, ⟨23, 0⟩]
def k2 : List PIns := [⟨20, 0⟩]
def k3 : List PIns := [⟨1, 0⟩, ⟨1, 0⟩, ⟨12, 0⟩]
def k4 : List PIns := [⟨1, 2⟩, ⟨22, 0⟩]
def prv (k : Nat) : Nat := k - 1
theorem chk_all {code : List PIns} (h : code.all (fun i => decide (chkI code.length 0 1 i = 0)) = true) : ∀ i ∈ code, chkI code.length 0 1 i = 0 := fun i hi => by
  have := List.all_eq_true.1 h i hi
  exact of_decide_eq_true this
theorem f1 : fc (onePV 10 k1) = 0 := one_fcV (l := [0, 1, 2, 1, 0, 1, 0, 0]) (by decide) (by decide) (chk_all (by decide +kernel)) (goodB_good (pr := prv) (by decide +kernel))
theorem f2 : fc (onePV 10 k2) = 0 := one_fcV (l := [0, -1]) (by decide) (by decide) (chk_all (by decide +kernel)) (goodB_good (pr := prv) (by decide +kernel))
theorem f3 : fc (onePV 10 k3) = 0 := one_fcV (l := [0, 1, 2, 1]) (by decide) (by decide) (chk_all (by decide +kernel)) (goodB_good (pr := prv) (by decide +kernel))
theorem f4 : fc (onePV 10 k4) = 0 := one_fcV (l := [0, 1, 0]) (by decide) (by decide) (chk_all (by decide +kernel)) (goodB_good (pr := prv) (by decide +kernel))
def r1 : PRes := ⟨⟨[7, 14], true, 0, 1, 0⟩, [⟨0, 0, []⟩], 7⟩
def r2 : PRes := ⟨⟨[1, 2], false, 2, 0, 0⟩, [], 10⟩
def r3 : PRes := ⟨⟨[1, 2], false, 3, 0, 0⟩, [], 3⟩
def r4 : PRes := ⟨⟨[1, 2], false, 4, 0, 0⟩, [], 2⟩
theorem e1V : runP (onePV 10 k1) 0 (locP 7 0) 0 [] = r1 := (one_run (one_may f1 (by decide) (by decide) rfl)).trans (by decide +kernel)
theorem e2V : runP (onePV 10 k2) 0 (locP 1 2) 0 [] = r2 := (one_run (one_may f2 (by decide) (by decide) rfl)).trans (by decide +kernel)
theorem e3V : runP (onePV 10 k3) 0 (locP 1 2) 0 [] = r3 := (one_run (one_may f3 (by decide) (by decide) rfl)).trans (by decide +kernel)
theorem e4V : runP (onePV 10 k4) 0 (locP 1 2) 0 [] = r4 := (one_run (one_may f4 (by decide) (by decide) rfl)).trans (by decide +kernel)
theorem m1 : mayBV (onePV 10 k1) 2 (locP 0 0) 0 [] = false := mayB_no fun h => by have := h.2.1.2; exact absurd this (by decide)
theorem m2 : mayBV (onePV 10 k1) 0 (locP 0 0) 0 [] = true := mayB_yes (one_may f1 (by decide) (by decide) rfl)
end Go.Proofs.YtfbeiedhdmndnaaDoor
