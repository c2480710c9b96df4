/-
  May.
-/
import Derived.Test.YtfbeiedhdmndnaaGreatDoorPk9
import Derived.Laws.CopyOwn
import Derived.Deep.RegionHeld3
import Derived.Deep.DeepCutAuto
import Derived.Test.YtfbeiedhdmndnaaGreatDoorPk8
namespace Go.Proofs.YtfbeiedhdmndnaaGreatDoor
open Go.RowKit
attribute [local go_sem ↓] Go.wp_at_zero Go.wp_at_succ
open Classical in
noncomputable def mayBV (p : PPrg) (who : Int) (l : PLoc) (h : Int) (args : List Int) : Bool := decide (mayP p who l h args)
theorem mayB_yes {p : PPrg} {who : Int} {l : PLoc} {h : Int} {args : List Int} (e : mayP p who l h args) : mayBV p who l h args = true := by unfold mayBV; exact @decide_eq_true _ (Classical.propDecidable _) e
theorem mayB_no {p : PPrg} {who : Int} {l : PLoc} {h : Int} {args : List Int} (e : ¬ mayP p who l h args) : mayBV p who l h args = false := by unfold mayBV; exact @decide_eq_false _ (Classical.propDecidable _) e
theorem within_is {n m : Int} (w : World) (h : 0 ≤ n ∧ n < m) : Calls Tryz.prog 129 #[.int .i64 n, .int .i64 m] w fun e w' => e = .returned (.bool true) ∧ w' = w := by
 have := vwithin_any n m w
 rw [decide_eq_true h] at this; exact this
theorem within_isnt {n m : Int} (w : World) (h : ¬ (0 ≤ n ∧ n < m)) : Calls Tryz.prog 129 #[.int .i64 n, .int .i64 m] w fun e w' => e = .returned (.bool false) ∧ w' = w := by
 have := vwithin_any n m w
 rw [decide_eq_false h] at this; exact this

set_option maxHeartbeats 1000000 in
set_option maxRecDepth 100000 in
theorem may_anyV (ok oka : Nat → Prop) (w : World) (v vl va : Value) (p : PPrg) (who : Int) (l : PLoc) (h : Int) (args : List Int) (ht : Tab w) (hp : PrgV w v p) (hl : LocV ok w vl l) (ha : Ints oka w va args) :
  Calls Tryz.prog 102 #[v, .int .i64 who, vl, .int .i64 h, va] w fun e w' => e = .returned (.bool (mayBV p who l h args)) ∧ Below w.heap.size w w' := by
 have HP : Hid (PrgV w v p) := hp
 obtain ⟨v1, v2, v3, rfl, h1, h2, h3⟩ := hp
 obtain ⟨A1, c1, rfl, hl1⟩ := h1.form
 obtain ⟨A2, c2, rfl, hl2⟩ := h2.form
 obtain ⟨A3, c3, rfl, hl3⟩ := h3.form
 obtain ⟨vr, rfl, hr⟩ := hl
 obtain ⟨A4, c4, rfl, hl4⟩ := hr.form
 obtain ⟨A5, c5, rfl, hl5⟩ := ha.form
 have HT : Hid (Tab w) := ht
 have HB : Hid (Below w.heap.size w ((w.alloc (.cells #[.slice A1 p.hs.length c1, .slice A2 p.acs.length c2, .slice A3 p.bs.length c3, .int .i64 p.fuel] 26)).alloc (.cells #[.slice A4 l.regs.length c4, .bool l.armed, .int .i64 l.down, .int .i64 l.sent, .int .i64 l.over] 56))) := bAlloc (bAlloc (bRefl w) _) _
 clear ht h2 h3 hr ha
 by_cases e0 : fc p = 0
 ·have e0' := ne0_no e0
  by_cases g0 : 0 ≤ who ∧ who < p.acs.length
  ·by_cases g1 : 0 ≤ h ∧ h < p.hs.length
   ·obtain ⟨k, rfl⟩ := Int.eq_ofNat_of_zero_le g1.1
    obtain ⟨b1, o1, x, u1, rfl, hx, hz1, q1, _, _⟩ := h1.cell (bRefl w) (k := k) (by omega)
    have hx2 : argsOf p.hs (k : Int) = x.args := argsOf_at hx
    have hk : k < p.hs.length := by omega
    have hzb : b1 < w.heap.size := by
     obtain ⟨b', o', e', _, hlt', _⟩ := h1.at (by omega)
     cases e'; exact hlt'
    have e1 : (decide ((args.length : Int) = x.args)) = ((args.length : Int) == x.args) := rfl
    have HM : Hid (mayBV p who l (k : Int) args = (((args.length : Int) == x.args) && decide ((l.regs.length : Int) ≤ 8) && (l.down == 0))) := by
     show _ = _
     by_cases t1 : (args.length : Int) = x.args <;> by_cases t2 : (l.regs.length : Int) ≤ 8 <;> by_cases t3 : l.down = 0
     ·rw [mayB_yes ⟨e0, g0, g1, by rw [hx2]; exact t1, by omega, t3⟩]; simp [t1, t2, t3]
     all_goals (rw [mayB_no (fun m => by have m1 := m.2.2.2.1; have m2 := m.2.2.2.2.1; have m3 := m.2.2.2.2.2; rw [hx2] at m1; first | exact t1 m1 | exact t3 m3 | (exact t2 (by omega)))]; simp [t1, t2, t3])
    have HG : Hid ((0 ≤ who ∧ who < p.acs.length) ∧ (0 ≤ (k : Int) ∧ (k : Int) < p.hs.length)) := ⟨g0, g1⟩
    clear hx h1 e0 g0 g1 e1 hx2
    by_cases t1 : (args.length : Int) = x.args
    ·have e1 : ((args.length : Int) == x.args) = true := by simp [t1]
     by_cases t2 : (l.regs.length : Int) ≤ 8
     ·by_cases t3 : l.down = 0
      ·have e3 : (l.down == 0) = true := by simp [t3]
       have HM2 : Hid (mayBV p who l (k : Int) args = true) := by show _ = _; rw [HM.out]; simp [*]
       clear HM t1 t3
       go_enter Tryz.func102, Tryz.ntmps102
       go_wp2_with fail
       refine (fcheck_any _ _ p (HT.out.below (by exact HB.out)) (HP.out.below (by exact HB.out))).mono ?_
       rintro e w1 ⟨rfl, hb1⟩
       have hc1 := bcell hb1
       have HB1 : Hid (Below w.heap.size w w1) := bTrans HB.out hb1
       have hz2 : w.heap.size + 1 < w1.heap.size := by have := hb1.size; simp at this; omega
       have q2 := (HB1.out.cell (p := ⟨b1, o1 + k * 2, none⟩) hzb).trans q1
       clear hb1
       go_wp2_with fail
       refine (within_is _ HG.out.1).mono ?_
       rintro e w2 ⟨rfl, rfl⟩
       go_wp2_with fail
       refine (within_is _ HG.out.2).mono ?_
       rintro e w2 ⟨rfl, rfl⟩
       go_wp2
       go_ret
       exact ⟨ret_b HM2.out.symm, HB1.out⟩
      ·have e3 : (l.down == 0) = false := by simp [t3]
       have HM2 : Hid (mayBV p who l (k : Int) args = false) := by show _ = _; rw [HM.out]; simp [*]
       clear HM t1
       go_enter Tryz.func102, Tryz.ntmps102
       go_wp2_with fail
       refine (fcheck_any _ _ p (HT.out.below (by exact HB.out)) (HP.out.below (by exact HB.out))).mono ?_
       rintro e w1 ⟨rfl, hb1⟩
       have hc1 := bcell hb1
       have HB1 : Hid (Below w.heap.size w w1) := bTrans HB.out hb1
       have hz2 : w.heap.size + 1 < w1.heap.size := by have := hb1.size; simp at this; omega
       have q2 := (HB1.out.cell (p := ⟨b1, o1 + k * 2, none⟩) hzb).trans q1
       clear hb1
       go_wp2_with fail
       refine (within_is _ HG.out.1).mono ?_
       rintro e w2 ⟨rfl, rfl⟩
       go_wp2_with fail
       refine (within_is _ HG.out.2).mono ?_
       rintro e w2 ⟨rfl, rfl⟩
       go_wp2
       go_ret
       exact ⟨ret_b HM2.out.symm, HB1.out⟩
     ·have e2 : ¬ (l.regs.length : Int) ≤ 8 := t2
      have HM2 : Hid (mayBV p who l (k : Int) args = false) := by show _ = _; rw [HM.out]; simp [*]
      clear HM t1
      go_enter Tryz.func102, Tryz.ntmps102
      go_wp2_with fail
      refine (fcheck_any _ _ p (HT.out.below (by exact HB.out)) (HP.out.below (by exact HB.out))).mono ?_
      rintro e w1 ⟨rfl, hb1⟩
      have hc1 := bcell hb1
      have HB1 : Hid (Below w.heap.size w w1) := bTrans HB.out hb1
      have hz2 : w.heap.size + 1 < w1.heap.size := by have := hb1.size; simp at this; omega
      have q2 := (HB1.out.cell (p := ⟨b1, o1 + k * 2, none⟩) hzb).trans q1
      clear hb1
      go_wp2_with fail
      refine (within_is _ HG.out.1).mono ?_
      rintro e w2 ⟨rfl, rfl⟩
      go_wp2_with fail
      refine (within_is _ HG.out.2).mono ?_
      rintro e w2 ⟨rfl, rfl⟩
      go_wp2
      go_ret
      exact ⟨ret_b HM2.out.symm, HB1.out⟩
    ·have e1 : ((args.length : Int) == x.args) = false := by simp [t1]
     have HM2 : Hid (mayBV p who l (k : Int) args = false) := by show _ = _; rw [HM.out]; simp [*]
     clear HM 
     go_enter Tryz.func102, Tryz.ntmps102
     go_wp2_with fail
     refine (fcheck_any _ _ p (HT.out.below (by exact HB.out)) (HP.out.below (by exact HB.out))).mono ?_
     rintro e w1 ⟨rfl, hb1⟩
     have hc1 := bcell hb1
     have HB1 : Hid (Below w.heap.size w w1) := bTrans HB.out hb1
     have hz2 : w.heap.size + 1 < w1.heap.size := by have := hb1.size; simp at this; omega
     have q2 := (HB1.out.cell (p := ⟨b1, o1 + k * 2, none⟩) hzb).trans q1
     clear hb1
     go_wp2_with fail
     refine (within_is _ HG.out.1).mono ?_
     rintro e w2 ⟨rfl, rfl⟩
     go_wp2_with fail
     refine (within_is _ HG.out.2).mono ?_
     rintro e w2 ⟨rfl, rfl⟩
     go_wp2
     go_ret
     exact ⟨ret_b HM2.out.symm, HB1.out⟩
   ·have HM : Hid (mayBV p who l h args = false) := mayB_no fun m => g1 m.2.2.1
    have HG : Hid ((0 ≤ who ∧ who < p.acs.length) ∧ ¬ (0 ≤ h ∧ h < p.hs.length)) := ⟨g0, g1⟩
    clear h1 e0 g0 g1
    go_enter Tryz.func102, Tryz.ntmps102
    go_wp2_with fail
    refine (fcheck_any _ _ p (HT.out.below (by exact HB.out)) (HP.out.below (by exact HB.out))).mono ?_
    rintro e w1 ⟨rfl, hb1⟩
    have hc1 := bcell hb1
    have HB1 : Hid (Below w.heap.size w w1) := bTrans HB.out hb1
    have hz2 : w.heap.size + 1 < w1.heap.size := by have := hb1.size; simp at this; omega
    clear hb1
    go_wp2_with fail
    refine (within_is _ HG.out.1).mono ?_
    rintro e w2 ⟨rfl, rfl⟩
    go_wp2_with fail
    refine (within_isnt _ HG.out.2).mono ?_
    rintro e w2 ⟨rfl, rfl⟩
    go_wp2
    go_ret
    exact ⟨ret_b HM.out.symm, HB1.out⟩
  ·have HM : Hid (mayBV p who l h args = false) := mayB_no fun m => g0 m.2.1
   have HG : Hid (¬ (0 ≤ who ∧ who < p.acs.length)) := g0
   clear h1 e0 g0
   go_enter Tryz.func102, Tryz.ntmps102
   go_wp2_with fail
   refine (fcheck_any _ _ p (HT.out.below (by exact HB.out)) (HP.out.below (by exact HB.out))).mono ?_
   rintro e w1 ⟨rfl, hb1⟩
   have hc1 := bcell hb1
   have HB1 : Hid (Below w.heap.size w w1) := bTrans HB.out hb1
   have hz2 : w.heap.size + 1 < w1.heap.size := by have := hb1.size; simp at this; omega
   clear hb1
   go_wp2_with fail
   refine (within_isnt _ HG.out).mono ?_
   rintro e w2 ⟨rfl, rfl⟩
   go_wp2
   go_ret
   exact ⟨ret_b HM.out.symm, HB1.out⟩
 ·have e0' := ne0_yes e0
  have HM : Hid (mayBV p who l h args = false) := mayB_no fun m => e0 m.1
  clear h1 e0
  go_enter Tryz.func102, Tryz.ntmps102
  go_wp2_with fail
  refine (fcheck_any _ _ p (HT.out.below (by exact HB.out)) (HP.out.below (by exact HB.out))).mono ?_
  rintro e w1 ⟨rfl, hb1⟩
  have hc1 := bcell hb1
  have HB1 : Hid (Below w.heap.size w w1) := bTrans HB.out hb1
  have hz2 : w.heap.size + 1 < w1.heap.size := by have := hb1.size; simp at this; omega
  clear hb1
  go_wp2
  go_ret
  exact ⟨ret_b HM.out.symm, HB1.out⟩
end Go.Proofs.YtfbeiedhdmndnaaGreatDoor
namespace Go.Proofs.YtfbeiedhdmndnaaGreatDoor
open Go.RowKit

def zsk : List Int := [0, 0, 0, 0, 0, 0, 0, 0]
def run0 (x : FX) (ar : Bool) : List Value := [x.a1, x.a2, x.a3, .int .i64 x.fuel, .int .i64 x.who, x.va, x.vc, x.vr, .bool ar, .int .i64 x.down, .int .i64 x.sent, .int .i64 x.over, .slice none 0 0, .int .i64 0, .int .i64 0, .int .i64 0, .int .i64 0, .int .i64 0, .int .i64 0, .int .i64 0, .int .i64 0, .int .i64 0, .int .i64 0, .int .i64 0]
theorem run0_rv (x : FX) (ar : Bool) : ∀ i, i < 24 → (run0 x ar)[i]? = some (rv x ar (.slice none 0 0) zsk 0 0 0 i) := by
 intro i hi
 have : i = 0 ∨ i = 1 ∨ i = 2 ∨ i = 3 ∨ i = 4 ∨ i = 5 ∨ i = 6 ∨ i = 7 ∨ i = 8 ∨ i = 9 ∨ i = 10 ∨ i = 11 ∨ i = 12 ∨ i = 13 ∨ i = 14 ∨ i = 15 ∨ i = 16 ∨ i = 17 ∨ i = 18 ∨ i = 19 ∨ i = 20 ∨ i = 21 ∨ i = 22 ∨ i = 23 := by omega
 rcases this with rfl | rfl | rfl | rfl | rfl | rfl | rfl | rfl | rfl | rfl | rfl | rfl | rfl | rfl | rfl | rfl | rfl | rfl | rfl | rfl | rfl | rfl | rfl | rfl <;> rfl
section
variable {w w2 : World} {x : FX} {l : PLoc}
theorem way_aV {z : Array Value} (hb : Below w.heap.size w w2) (hc : CL w w2 x.vr l.regs) (h8 : l.regs.length ≤ 8) : RM w w2.heap.size x (.slice none 0 0) [] zsk (ms0 l) ((w2.alloc (.cells z 147)).setRow w2.heap.size (run0 x l.armed).toArray) := by
 have hR : RG w w2.heap.size w2 x.vr l.regs := hc.rg (Nat.le_refl _) h8 (Or.inl (Nat.le_refl _))
 have hh := setRow_heap (w2.alloc (.cells z 147)) w2.heap.size z (run0 x l.armed).toArray 147 (0, 0) (heap_new _ _)
 exact ⟨below_setRow (bAlloc hb _) hb.size _, ⟨_, hh, rfl, fun i hi => by rw [List.getElem?_toArray]; exact run0_rv x l.armed i hi⟩, hb.size, rfl, rfl, by simp [ms0], hR.same fun b e => (setRow_other _ _ _ _ (hR.hb e).2.1).trans ((bAlloc (bRefl w2) _).block b (hR.hb e).2.2), NT.nil _ _ _⟩
theorem way_bV {W : World} {z : Array Value} (hW : W.heap.size = w.heap.size + 1) (hWh : W.heap[w.heap.size]? = some (.cells z 147)) (hwW : Below w.heap.size w W) (hb : Below W.heap.size W w2) (hc : CL W w2 x.vr l.regs) (h8 : l.regs.length ≤ 8) :
  RM w w.heap.size x (.slice none 0 0) [] zsk (ms0 l) (w2.setRow w.heap.size (run0 x l.armed).toArray) := by
 have hR : RG w w.heap.size w2 x.vr l.regs := (hc.rg (w0 := w) (by omega) h8 (Or.inr (by omega)))
 have hh := setRow_heap w2 w.heap.size z (run0 x l.armed).toArray 147 (0, 0) ((hb.block _ (by omega)).trans hWh)
 exact ⟨below_setRow (bTrans hwW hb) (Nat.le_refl _) _, ⟨_, hh, rfl, fun i hi => by rw [List.getElem?_toArray]; exact run0_rv x l.armed i hi⟩, Nat.le_refl _, rfl, rfl, by simp [ms0], hR.same fun b e => setRow_other _ _ _ _ (hR.hb e).2.1, NT.nil _ _ _⟩
end
def ResV (ok : Nat → Prop) (w : World) (v : Value) (r : PRes) : Prop :=
 ∃ cr cn, v = .agg #[cr, .bool r.loc.armed, .int .i64 r.loc.down, .int .i64 r.loc.sent, .int .i64 r.loc.over, cn, .int .i64 r.steps] ∧ Ints ok w cr r.loc.regs ∧ Ntes ok ok w cn r.notes
theorem ResV.below {ok : Nat → Prop} {w w' : World} {v : Value} {r : PRes} (h : ResV ok w v r) (hb : Below w.heap.size w w') : ResV ok w' v r := let ⟨a, b, h1, h2, h3⟩ := h; ⟨a, b, h1, h2.below hb, h3.below hb⟩
end Go.Proofs.YtfbeiedhdmndnaaGreatDoor
namespace Go.Proofs.YtfbeiedhdmndnaaGreatDoor
open Go.RowKit
attribute [local go_sem ↓] Go.wp_at_zero Go.wp_at_succ
theorem may_is (ok oka : Nat → Prop) (w : World) (v vl va : Value) (p : PPrg) (who : Int) (l : PLoc) (h : Int) (args : List Int) (ht : Tab w) (hp : PrgV w v p) (hl : LocV ok w vl l) (ha : Ints oka w va args) (b : Bool) (hb : mayBV p who l h args = b) :
  Calls Tryz.prog 102 #[v, .int .i64 who, vl, .int .i64 h, va] w fun e w' => e = .returned (.bool b) ∧ Below w.heap.size w w' := hb ▸ may_anyV ok oka w v vl va p who l h args ht hp hl ha
theorem blk4V {w : World} {b : Nat} {v0 v1 v2 v3 : Value} {t : TypeId} (h : w.heap[b]? = some (.cells #[v0, v1, v2, v3] t)) :
  w.cell? ⟨b, 0, none⟩ = some v0 ∧ w.cell? ⟨b, 1, none⟩ = some v1 ∧ w.cell? ⟨b, 2, none⟩ = some v2 ∧ w.cell? ⟨b, 3, none⟩ = some v3 ∧ ∀ j, w.frozen? ⟨b, j, none⟩ = false :=
 ⟨by rw [cell_of_row _ _ _ _ _ _ h]; rfl, by rw [cell_of_row _ _ _ _ _ _ h]; rfl, by rw [cell_of_row _ _ _ _ _ _ h]; rfl, by rw [cell_of_row _ _ _ _ _ _ h]; rfl, fun j => by simp [World.frozen?, h]⟩
theorem blk7 {w : World} {b : Nat} {v0 v1 v2 v3 v4 v5 v6 : Value} {t : TypeId} (h : w.heap[b]? = some (.cells #[v0, v1, v2, v3, v4, v5, v6] t)) :
  w.cell? ⟨b, 0, none⟩ = some v0 ∧ w.cell? ⟨b, 1, none⟩ = some v1 ∧ w.cell? ⟨b, 2, none⟩ = some v2 ∧ w.cell? ⟨b, 3, none⟩ = some v3 ∧ w.cell? ⟨b, 4, none⟩ = some v4 ∧ w.cell? ⟨b, 5, none⟩ = some v5 ∧ w.cell? ⟨b, 6, none⟩ = some v6 ∧ ∀ j, w.frozen? ⟨b, j, none⟩ = false :=
 ⟨by rw [cell_of_row _ _ _ _ _ _ h]; rfl, by rw [cell_of_row _ _ _ _ _ _ h]; rfl, by rw [cell_of_row _ _ _ _ _ _ h]; rfl, by rw [cell_of_row _ _ _ _ _ _ h]; rfl, by rw [cell_of_row _ _ _ _ _ _ h]; rfl, by rw [cell_of_row _ _ _ _ _ _ h]; rfl, by rw [cell_of_row _ _ _ _ _ _ h]; rfl, fun j => by simp [World.frozen?, h]⟩

def bx3 (w : World) (x y : Array Value) : World := ((w.alloc (.cells x 26)).alloc (.cells y 56)).alloc (.cells #[.slice none 0 0, .bool false, .int .i64 0, .int .i64 0, .int .i64 0, .slice none 0 0, .int .i64 0] 84)
theorem bx3_below (w : World) (x y : Array Value) : Below w.heap.size w (bx3 w x y) := bAlloc (bAlloc (bAlloc (bRefl w) _) _) _
theorem bx3_size (w : World) (x y : Array Value) : (bx3 w x y).heap.size = w.heap.size + 3 := by simp [bx3]
theorem bx3_0 (w : World) (x y : Array Value) : (bx3 w x y).heap[w.heap.size]? = some (.cells x 26) := by
 unfold bx3
 rw [Below.heap_alloc _ _ _ (by simp; omega), Below.heap_alloc _ _ _ (by simp)]; exact heap_new _ _
theorem bx3_1 (w : World) (x y : Array Value) : (bx3 w x y).heap[w.heap.size + 1]? = some (.cells y 56) := by
 unfold bx3
 rw [Below.heap_alloc _ _ _ (by simp)]; exact heap_new2 (by simp)
theorem bx3_2 (w : World) (x y : Array Value) : (bx3 w x y).heap[w.heap.size + 2]? = some (.cells #[.slice none 0 0, .bool false, .int .i64 0, .int .i64 0, .int .i64 0, .slice none 0 0, .int .i64 0] 84) := by
 unfold bx3
 exact heap_new2 (by simp)

set_option maxHeartbeats 1000000 in
set_option maxRecDepth 100000 in
theorem run_no (ok oka : Nat → Prop) (w : World) (v vl va : Value) (p : PPrg) (who : Int) (l : PLoc) (h : Int) (args : List Int) (ht : Tab w) (hp : PrgV w v p) (hl : LocV ok w vl l) (ha : Ints oka w va args) (hm : ¬ mayP p who l h args) :
  Calls Tryz.prog 72 #[v, .int .i64 who, vl, .int .i64 h, va] w fun e w' => ∃ u, e = .returned u ∧ ResV (fun b => w.heap.size ≤ b) w' u (runP p who l h args) ∧ Below w.heap.size w w' := by
 have HP : Hid (PrgV w v p) := hp
 have HV : Hid (LocV ok w vl l) := hl
 have HA : Hid (Ints oka w va args) := ha
 have HM : Hid (mayBV p who l h args = false) := mayB_no hm
 have HR : Hid (runP p who l h args = ⟨⟨[], false, 0, 0, 0⟩, [], 0⟩) := by show _ = _; unfold runP; exact @if_neg _ (Classical.propDecidable _) hm _ _ _
 obtain ⟨v1, v2, v3, rfl, h1, h2, h3⟩ := hp
 obtain ⟨A1, c1, rfl, hl1⟩ := h1.form
 obtain ⟨A2, c2, rfl, hl2⟩ := h2.form
 obtain ⟨A3, c3, rfl, hl3⟩ := h3.form
 obtain ⟨vr, rfl, hr⟩ := hl
 obtain ⟨A4, c4, rfl, hl4⟩ := hr.form
 obtain ⟨A5, c5, rfl, hl5⟩ := ha.form
 have HT : Hid (Tab w) := ht
 clear ht h1 h2 h3 hr ha hm
 go_enter Tryz.func72, Tryz.ntmps72
 go_wp2_with fail
 have HB := bx3_below w #[.slice A1 p.hs.length c1, .slice A2 p.acs.length c2, .slice A3 p.bs.length c3, .int .i64 p.fuel] #[.slice A4 l.regs.length c4, .bool l.armed, .int .i64 l.down, .int .i64 l.sent, .int .i64 l.over]
 refine (may_is ok oka (bx3 w #[.slice A1 p.hs.length c1, .slice A2 p.acs.length c2, .slice A3 p.bs.length c3, .int .i64 p.fuel] #[.slice A4 l.regs.length c4, .bool l.armed, .int .i64 l.down, .int .i64 l.sent, .int .i64 l.over]) _ _ _ p who l h args (HT.out.below HB) (HP.out.below HB) (HV.out.below HB) (HA.out.below HB) _ HM.out).mono ?_
 rintro e w1 ⟨rfl, hb1⟩
 have hs1 := hb1.size
 rw [bx3_size] at hs1
 obtain ⟨x0, x1, x2, x3, x4, x5, x6, xf⟩ := blk7 ((hb1.block _ (by rw [bx3_size]; omega)).trans (bx3_2 w _ _))
 have HB1 : Hid (Below w.heap.size w w1) := bTrans HB hb1
 clear hb1 HB
 have f0 := xf 0
 have f1 := xf 1
 have f2 := xf 2
 have f3 := xf 3
 have f4 := xf 4
 have f5 := xf 5
 have f6 := xf 6
 clear xf
 go_wp2
 refine bodyPost_ret (v := .agg #[.slice none 0 0, .bool false, .int .i64 0, .int .i64 0, .int .i64 0, .slice none 0 0, .int .i64 0]) (by simp [results, Tryz.results72, go_sem, *]) rfl ⟨_, rfl, ?_, ?_⟩
 ·rw [HR.out]; exact ⟨_, _, rfl, ⟨_, _, rfl, by simp, by simp, Or.inl rfl⟩, ⟨_, _, rfl, by simp, by simp, Or.inl rfl⟩⟩
 ·repeat (refine Below.setCell ?_ (by first | (simp; done) | (simp; omega)) _)
  exact HB1.out
end Go.Proofs.YtfbeiedhdmndnaaGreatDoor
namespace Go.Proofs.YtfbeiedhdmndnaaGreatDoor
open Go.RowKit
attribute [local go_sem ↓] Go.wp_at_zero Go.wp_at_succ
theorem RG.so {w0 w : World} {B b' j : Nat} {v : Value} {l : List Int} (h : RG w0 B w v l) (hb : b' = B ∨ b' < w0.heap.size) (x : Value) : RG w0 B (w.setCell ⟨b', j, none⟩ x) v l :=
 h.same fun b e => Below.heap_setCell _ _ _ _ (fun e' => by
  have e2 : b = b' := e'
  have := h.hb e
  rcases hb with hb | hb <;> omega)
theorem NT.so {w0 w : World} {B b' j : Nat} {R : Nat → Prop} {v : Value} {l : List PNte} {us : List Value} (h : NT w0 (fun b => b = B ∨ R b) w v l us) (hb : b' = B ∨ b' < w0.heap.size) (x : Value) : NT w0 (fun b => b = B ∨ R b) (w.setCell ⟨b', j, none⟩ x) v l us := by
 have hs : ∀ b, w0.heap.size ≤ b → ¬ (b = B ∨ R b) → (w.setCell ⟨b', j, none⟩ x).heap[b]? = w.heap[b]? := fun b h0 hn => Below.heap_setCell _ _ _ _ (fun e' => by
  have e2 : b = b' := e'
  rcases hb with hb | hb
  ·exact hn (Or.inl (by omega))
  ·omega)
 exact ⟨own_block h.own fun g hg _ => hs g (own_lt h.own hg).1 (h.nx g hg), h.len, fun k n u hn hu => (h.rd k n u hn hu).same ⟨by simp, fun b hb _ => hs b hb.1 hb.2.1⟩, h.nx⟩
theorem NT.up {w0 w wz : World} {ex : Nat → Prop} {v : Value} {l : List PNte} {us : List Value} (h : NT w0 ex w v l us) (hzz : wz.heap.size ≤ w0.heap.size) : Ntes (fun b => wz.heap.size ≤ b) (fun b => wz.heap.size ≤ b) w v l := by
 obtain ⟨h1, h2⟩ := h.own
 rcases h2 with ⟨rfl, h2⟩ | ⟨g, cap, cur, rfl, hb, hh, h3, h4, h5, h6⟩
 ·have : l = [] := by cases l with | nil => rfl | cons _ _ => simp at h2
  subst this; exact ⟨_, _, rfl, by simp, by simp, Or.inl rfl⟩
 ·refine ⟨_, cap, rfl, by unfold maxLen at h4; omega, h3, Or.inr ⟨g, 0, rfl, Nat.le_trans hzz hb, (Array.getElem?_eq_some_iff.1 hh).1, fun k n hn => ?_⟩⟩
  have hk := (List.getElem?_eq_some_iff.1 hn).1
  obtain ⟨u, hu⟩ := at_lt (l := us) (k := k) (by rw [h.len]; exact hk)
  have hz : (List.zipWith (fun (n : PNte) u => [Value.int .i64 n.to, Value.int .i64 n.hd, u]) l us)[k]? = some [Value.int .i64 n.to, Value.int .i64 n.hd, u] := by
   rw [List.getElem?_zipWith, hn, hu]
  have hcell : ∀ j, j < l.length * 3 → w.cell? ⟨g, j, none⟩ = ((List.zipWith (fun (n : PNte) u => [Value.int .i64 n.to, Value.int .i64 n.hd, u]) l us).flatten)[j]? := fun j hj => by
   rw [cell_of_row _ _ _ _ _ _ hh, ← h6, List.getElem?_take, if_pos hj]; simp
  have hc : ∀ j, j < 3 → w.cell? ⟨g, 0 + k * 3 + j, none⟩ = [Value.int .i64 n.to, Value.int .i64 n.hd, u][j]? := fun j hj => by
   rw [Nat.zero_add, hcell _ (by omega), flat_at _ (zip_lenV l us) k j hj, hz]; rfl
  exact ⟨hc 0 (by omega), hc 1 (by omega), u, hc 2 (by omega), (h.rd k n u hn hu).imp (fun b hb => Nat.le_trans hzz hb.1) (Nat.le_refl _) fun _ _ _ _ _ h => h⟩
theorem fc_parts {p : PPrg} (h : fc p = 0) : chk p = 0 ∧ ∀ x ∈ p.hs, de p.hs x.code = 0 := by
 unfold fc at h
 by_cases e : chk p = 0
 ·rw [if_pos e] at h; exact ⟨e, scan_zero h⟩
 ·rw [if_neg e] at h; exact absurd h e
theorem chk_fuel {p : PPrg} (h : chk p = 0) : 1 ≤ p.fuel ∧ p.fuel ≤ 256 := by
 unfold chk at h
 by_cases e0 : chkC p = 0
 ·unfold chkC at e0
  by_cases e1 : p.hs.length ≤ 16 ∧ p.acs.length ≤ 8 ∧ p.bs.length ≤ 16
  ·rw [if_pos e1] at e0
   by_cases e2 : p.acs.length ≠ 0 ∧ (1 ≤ p.fuel ∧ p.fuel ≤ 256)
   ·exact e2.2
   ·rw [if_neg e2] at e0; cases e0
  ·rw [if_neg e1] at e0; cases e0
 ·rw [if_neg e0] at h; exact absurd h e0
theorem hid_mkV {q : Prop} (h : q) : Hid q := h
theorem s_row {w2 : World} {B a b1 o : Nat} {t0 t1 t2 t3 t4 t5 t6 t7 t8 t9 : Value} (n0 : a ≠ B) (n1 : a + 1 ≠ B) (n2 : b1 ≠ B) (vs : Array Value) (h : w2.cell? ⟨a, 0, none⟩ = some t0 ∧ w2.cell? ⟨a, 1, none⟩ = some t1 ∧ w2.cell? ⟨a, 2, none⟩ = some t2 ∧ w2.cell? ⟨a, 3, none⟩ = some t3 ∧ w2.cell? ⟨a + 1, 0, none⟩ = some t4 ∧ w2.cell? ⟨a + 1, 1, none⟩ = some t5 ∧ w2.cell? ⟨a + 1, 2, none⟩ = some t6 ∧ w2.cell? ⟨a + 1, 3, none⟩ = some t7 ∧ w2.cell? ⟨a + 1, 4, none⟩ = some t8 ∧ w2.cell? ⟨b1, o, none⟩ = some t9) :
  (w2.setRow B vs).cell? ⟨a, 0, none⟩ = some t0 ∧ (w2.setRow B vs).cell? ⟨a, 1, none⟩ = some t1 ∧ (w2.setRow B vs).cell? ⟨a, 2, none⟩ = some t2 ∧ (w2.setRow B vs).cell? ⟨a, 3, none⟩ = some t3 ∧ (w2.setRow B vs).cell? ⟨a + 1, 0, none⟩ = some t4 ∧ (w2.setRow B vs).cell? ⟨a + 1, 1, none⟩ = some t5 ∧ (w2.setRow B vs).cell? ⟨a + 1, 2, none⟩ = some t6 ∧ (w2.setRow B vs).cell? ⟨a + 1, 3, none⟩ = some t7 ∧ (w2.setRow B vs).cell? ⟨a + 1, 4, none⟩ = some t8 ∧ (w2.setRow B vs).cell? ⟨b1, o, none⟩ = some t9 := by
 obtain ⟨h0, h1, h2, h3, h4, h5, h6, h7, h8, h9⟩ := h
 exact ⟨(cell_setRow_other _ _ _ _ n0).trans h0, (cell_setRow_other _ _ _ _ n0).trans h1, (cell_setRow_other _ _ _ _ n0).trans h2, (cell_setRow_other _ _ _ _ n0).trans h3, (cell_setRow_other _ _ _ _ n1).trans h4, (cell_setRow_other _ _ _ _ n1).trans h5, (cell_setRow_other _ _ _ _ n1).trans h6, (cell_setRow_other _ _ _ _ n1).trans h7, (cell_setRow_other _ _ _ _ n1).trans h8, (cell_setRow_other _ _ _ _ n2).trans h9⟩
def Z24 (w : World) (B : Nat) : Prop := w.heap[B]? = some (.cells #[.slice none 0 0, .slice none 0 0, .slice none 0 0, .int .i64 0, .int .i64 0, .slice none 0 0, .slice none 0 0, .slice none 0 0, .bool false, .int .i64 0, .int .i64 0, .int .i64 0, .slice none 0 0, .int .i64 0, .int .i64 0, .int .i64 0, .int .i64 0, .int .i64 0, .int .i64 0, .int .i64 0, .int .i64 0, .int .i64 0, .int .i64 0, .int .i64 0] 147)
theorem wp_store_eq {P : Program} {o : Oper} {a : Act} {w : World} {K : Act → World → Prop} {Q : Exit → Act → World → Prop} (ty : TypeId) (x y : Operand) (ho : o.op = .store ty x y)
  (g : Nat) (cells : Array Value) (hx : a.eval x = .pointer (some ⟨g, 0, none⟩)) (hy : a.eval y = .agg cells)
  (t : TypeId) (old : Array Value) (hg : w.heap[g]? = some (.cells old t (0, 0))) (hi : (P.info? ty).map (·.size) = some cells.size)
  (hold : old.size = cells.size) (h1 : cells.all (·.oneCell') = true) : o.wp P a w K Q = K (a.put o.dst undef) (w.setRow g cells) := by
 unfold Oper.wp execOp
 simp only [ho, hx, hy, Instr.storeAt, Instr.sureAddr, Sem.run_bind, Sem.run_pure, Result.andThen_ok, run_storeVar_row w g t ty old cells hg hi hold h1]
 rfl
set_option maxRecDepth 100000 in
theorem wp_store_run {ty : TypeId} {pos : String} {aft : Array Edge} {w : World} {B : Nat} {a0 : Option Addr} {n0 c0 : Nat} {a1 : Option Addr} {n1 c1 : Nat} {a2 : Option Addr} {n2 c2 : Nat} {i3 : Int} {i4 : Int} {a5 : Option Addr} {n5 c5 : Nat} {a6 : Option Addr} {n6 c6 : Nat} {a7 : Option Addr} {n7 c7 : Nat} {b8 : Bool} {i9 : Int} {i10 : Int} {i11 : Int} {a12 : Option Addr} {n12 c12 : Nat} {i13 : Int} {i14 : Int} {i15 : Int} {i16 : Int} {i17 : Int} {i18 : Int} {i19 : Int} {i20 : Int} {i21 : Int} {i22 : Int} {i23 : Int} {t0 t1 t2 t3 t4 t5 t6 t7 t8 t9 t10 t12 t13 t14 t15 t16 t17 t18 t19 t20 t21 t22 t23 t24 t25 t26 t27 t28 t29 t30 t31 t32 t34 t35 t36 t37 t38 t39 t40 t41 t42 t43 t44 t45 t46 t47 t48 t49 t50 t51 t52 t53 t54 t55 t56 t57 t58 t59 t60 : Value} {K : Act → World → Prop} {Q : Exit → Act → World → Prop} (hZ : Z24 w B) :
  Oper.wp Tryz.prog ⟨none, Op.store 147 (.tmp 11) (.tmp 33), ty, pos, aft, none⟩ { tmps := #[t0, t1, t2, t3, t4, t5, t6, t7, t8, t9, t10, .pointer (some ⟨B, 0, none⟩), t12, t13, t14, t15, t16, t17, t18, t19, t20, t21, t22, t23, t24, t25, t26, t27, t28, t29, t30, t31, t32, .agg #[.slice a0 n0 c0, .slice a1 n1 c1, .slice a2 n2 c2, .int .i64 i3, .int .i64 i4, .slice a5 n5 c5, .slice a6 n6 c6, .slice a7 n7 c7, .bool b8, .int .i64 i9, .int .i64 i10, .int .i64 i11, .slice a12 n12 c12, .int .i64 i13, .int .i64 i14, .int .i64 i15, .int .i64 i16, .int .i64 i17, .int .i64 i18, .int .i64 i19, .int .i64 i20, .int .i64 i21, .int .i64 i22, .int .i64 i23], t34, t35, t36, t37, t38, t39, t40, t41, t42, t43, t44, t45, t46, t47, t48, t49, t50, t51, t52, t53, t54, t55, t56, t57, t58, t59, t60], defers := [] } w K Q = K { tmps := #[t0, t1, t2, t3, t4, t5, t6, t7, t8, t9, t10, .pointer (some ⟨B, 0, none⟩), t12, t13, t14, t15, t16, t17, t18, t19, t20, t21, t22, t23, t24, t25, t26, t27, t28, t29, t30, t31, t32, .agg #[.slice a0 n0 c0, .slice a1 n1 c1, .slice a2 n2 c2, .int .i64 i3, .int .i64 i4, .slice a5 n5 c5, .slice a6 n6 c6, .slice a7 n7 c7, .bool b8, .int .i64 i9, .int .i64 i10, .int .i64 i11, .slice a12 n12 c12, .int .i64 i13, .int .i64 i14, .int .i64 i15, .int .i64 i16, .int .i64 i17, .int .i64 i18, .int .i64 i19, .int .i64 i20, .int .i64 i21, .int .i64 i22, .int .i64 i23], t34, t35, t36, t37, t38, t39, t40, t41, t42, t43, t44, t45, t46, t47, t48, t49, t50, t51, t52, t53, t54, t55, t56, t57, t58, t59, t60], defers := [] } (w.setRow B #[.slice a0 n0 c0, .slice a1 n1 c1, .slice a2 n2 c2, .int .i64 i3, .int .i64 i4, .slice a5 n5 c5, .slice a6 n6 c6, .slice a7 n7 c7, .bool b8, .int .i64 i9, .int .i64 i10, .int .i64 i11, .slice a12 n12 c12, .int .i64 i13, .int .i64 i14, .int .i64 i15, .int .i64 i16, .int .i64 i17, .int .i64 i18, .int .i64 i19, .int .i64 i20, .int .i64 i21, .int .i64 i22, .int .i64 i23]) := by
 have hi : (Tryz.prog.info? 147).map (·.size) = some 24 := by kernel_rfl
 exact wp_store_eq 147 (.tmp 11) (.tmp 33) rfl B #[.slice a0 n0 c0, .slice a1 n1 c1, .slice a2 n2 c2, .int .i64 i3, .int .i64 i4, .slice a5 n5 c5, .slice a6 n6 c6, .slice a7 n7 c7, .bool b8, .int .i64 i9, .int .i64 i10, .int .i64 i11, .slice a12 n12 c12, .int .i64 i13, .int .i64 i14, .int .i64 i15, .int .i64 i16, .int .i64 i17, .int .i64 i18, .int .i64 i19, .int .i64 i20, .int .i64 i21, .int .i64 i22, .int .i64 i23] rfl rfl 147 _ hZ hi rfl (by simp [Value.oneCell'])
def fxv (a1 a2 a3 va vc u : Value) (p : PPrg) (who : Int) (l : PLoc) : FX := ⟨a1, a2, a3, p.fuel, who, va, vc, u, l.down, l.sent, l.over⟩

attribute [local go_sem ↓] wp_store_run
set_option maxHeartbeats 4000000 in
set_option maxRecDepth 100000 in
theorem run_yes (ok oka : Nat → Prop) (w : World) (v vl va : Value) (p : PPrg) (who : Int) (l : PLoc) (h : Int) (args : List Int) (ht : Tab w) (hp : PrgV w v p) (hl : LocV ok w vl l) (ha : Ints oka w va args) (hm : mayP p who l h args) :
  Calls Tryz.prog 72 #[v, .int .i64 who, vl, .int .i64 h, va] w fun e w' => ∃ u, e = .returned u ∧ ResV (fun b => w.heap.size ≤ b) w' u (runP p who l h args) ∧ Below w.heap.size w w' := by
 have HP : Hid (PrgV w v p) := hp
 have HV : Hid (LocV ok w vl l) := hl
 have HA : Hid (Ints oka w va args) := ha
 have HM : Hid (mayBV p who l h args = true) := mayB_yes hm
 have HR : Hid (runP p who l h args = fin l (rnR p who l h args)) := by show _ = _; unfold runP; exact @if_pos _ (Classical.propDecidable _) hm _ _ _
 obtain ⟨v1, v2, v3, rfl, h1, h2, h3⟩ := hp
 obtain ⟨A1, c1, rfl, hl1⟩ := h1.form
 obtain ⟨A2, c2, rfl, hl2⟩ := h2.form
 obtain ⟨A3, c3, rfl, hl3⟩ := h3.form
 obtain ⟨vr, rfl, hr⟩ := hl
 obtain ⟨A4, c4, rfl, hl4⟩ := hr.form
 obtain ⟨A5, c5, rfl, hl5⟩ := ha.form
 have HT : Hid (Tab w) := ht
 obtain ⟨m0, m1, m2, m3, m4, m5⟩ := hm
 obtain ⟨k, rfl⟩ := Int.eq_ofNat_of_zero_le m2.1
 obtain ⟨b1, o1, y, u1, rfl, hy, hz1, q1, q2, hcd⟩ := h1.cell (bRefl w) (k := k) (by omega)
 obtain ⟨Ac, cc, rfl, hlc⟩ := hcd.form
 have hzb : b1 < w.heap.size := hz1
 have hk : k < p.hs.length := by omega
 have HY : Hid (chkH p.hs.length y = 0 ∧ OkH p.hs ∧ (args.length : Int) = y.args ∧ Good p.hs y.code (dl p.hs y.code)) := by
  obtain ⟨f1, f2⟩ := fc_parts m0
  have hmem := List.mem_of_getElem? hy
  exact ⟨chk_hs f1 y hmem, (chk_ok f1).1, by rw [m3, argsOf_at hy], dp_some (f2 y hmem)⟩
 have HF : Hid (0 ≤ p.fuel ∧ p.fuel ≤ 256) := by have := chk_fuel (fc_parts m0).1; exact ⟨by omega, this.2⟩
 have HC : Hid (rnR p who l (k : Int) args = rn p who args y.code p.fuel.toNat (ms0 l)) := by show _ = _; unfold rnR; rw [fcode_at hy]
 have HW : Hid (0 ≤ who ∧ who < p.acs.length) := m1
 have H8 : Hid (l.regs.length ≤ 8) := m4
 have HD : Hid (l.down = 0) := m5
 have HX : Hid (∀ u w', Below w.heap.size w w' → PX w' (fxv (.slice (some ⟨b1, o1, none⟩) p.hs.length c1) (.slice A2 p.acs.length c2) (.slice A3 p.bs.length c3) (.slice A5 args.length c5) (.slice Ac y.code.length cc) u p who l) p args y.code) :=
  fun u w' hb => ⟨h1.below hb, h2.below hb, rfl, Ints.below (ha.any) hb, Code.below (hcd.any) hb, m1⟩
 clear ht h1 h2 h3 hr ha m0 m1 m2 m3 m4 m5 hy hcd hz1
 go_enter Tryz.func72, Tryz.ntmps72
 go_wp2_with fail
 have HB := bx3_below w #[.slice (some ⟨b1, o1, none⟩) p.hs.length c1, .slice A2 p.acs.length c2, .slice A3 p.bs.length c3, .int .i64 p.fuel] #[.slice A4 l.regs.length c4, .bool l.armed, .int .i64 l.down, .int .i64 l.sent, .int .i64 l.over]
 refine (may_is ok oka (bx3 w #[.slice (some ⟨b1, o1, none⟩) p.hs.length c1, .slice A2 p.acs.length c2, .slice A3 p.bs.length c3, .int .i64 p.fuel] #[.slice A4 l.regs.length c4, .bool l.armed, .int .i64 l.down, .int .i64 l.sent, .int .i64 l.over]) _ _ _ p who l k args (HT.out.below HB) (HP.out.below HB) (HV.out.below HB) (HA.out.below HB) _ HM.out).mono ?_
 rintro e w1 ⟨rfl, hb1⟩
 have hs1 := hb1.size
 rw [bx3_size] at hs1
 obtain ⟨p0, p1, p2, p3, pf⟩ := blk4V ((hb1.block _ (by rw [bx3_size]; omega)).trans (bx3_0 w _ _))
 have K1 : Hid (w1.heap[w.heap.size + 1]? = some (.cells #[.slice A4 l.regs.length c4, .bool l.armed, .int .i64 l.down, .int .i64 l.sent, .int .i64 l.over] 56)) := (hb1.block _ (by rw [bx3_size]; omega)).trans (bx3_1 w _ _)
 obtain ⟨y0, y1, y2, y3, y4, yf⟩ := blk5V K1.out
 have K2 : Hid (w1.heap[w.heap.size + 2]? = some (.cells #[.slice none 0 0, .bool false, .int .i64 0, .int .i64 0, .int .i64 0, .slice none 0 0, .int .i64 0] 84)) := (hb1.block _ (by rw [bx3_size]; omega)).trans (bx3_2 w _ _)
 have HB1 : Hid (Below w.heap.size w w1) := bTrans HB hb1
 have HV1 : Hid (LocV ok w1 (.agg #[.slice A4 l.regs.length c4, .bool l.armed, .int .i64 l.down, .int .i64 l.sent, .int .i64 l.over]) l) := HV.out.below HB1.out
 have q2' := (HB1.out.cell (p := ⟨b1, o1 + k * 2 + 1, none⟩) hzb).trans q2
 have hzb1 : b1 < w1.heap.size := by omega
 clear hb1 HB q1 q2 HT HP HV HA HM
 go_wp2_with fail
 go_cut [11] (fun i11 wc => ∃ B u, i11 = .pointer (some ⟨B, 0, none⟩) ∧ Hid (RM w1 B (fxv (.slice (some ⟨b1, o1, none⟩) p.hs.length c1) (.slice A2 p.acs.length c2) (.slice A3 p.bs.length c3) (.slice A5 args.length c5) (.slice Ac y.code.length cc) u p who l) (.slice none 0 0) [] zsk (ms0 l) wc))
 case first =>
  have n0 : ¬ w1.heap.size = w.heap.size := by omega
  have n0' : ¬ w.heap.size = w1.heap.size := by omega
  have n1 : ¬ w1.heap.size = w.heap.size + 1 := by omega
  have n1' : ¬ w.heap.size + 1 = w1.heap.size := by omega
  have n2 : ¬ w1.heap.size = b1 := by omega
  have n2' : ¬ b1 = w1.heap.size := by omega
  have hZA : ∀ W : World, Z24 (W.alloc (.cells #[.slice none 0 0, .slice none 0 0, .slice none 0 0, .int .i64 0, .int .i64 0, .slice none 0 0, .slice none 0 0, .slice none 0 0, .bool false, .int .i64 0, .int .i64 0, .int .i64 0, .slice none 0 0, .int .i64 0, .int .i64 0, .int .i64 0, .int .i64 0, .int .i64 0, .int .i64 0, .int .i64 0, .int .i64 0, .int .i64 0, .int .i64 0, .int .i64 0] 147)) W.heap.size := fun W => heap_new W _
  go_region_held3 (fun w' => w'.cell? ⟨w.heap.size, 0, none⟩ = some (.slice (some ⟨b1, o1, none⟩) p.hs.length c1) ∧ w'.cell? ⟨w.heap.size, 1, none⟩ = some (.slice A2 p.acs.length c2) ∧ w'.cell? ⟨w.heap.size, 2, none⟩ = some (.slice A3 p.bs.length c3) ∧ w'.cell? ⟨w.heap.size, 3, none⟩ = some (.int .i64 p.fuel) ∧ w'.cell? ⟨w.heap.size + 1, 0, none⟩ = some (.slice A4 l.regs.length c4) ∧ w'.cell? ⟨w.heap.size + 1, 1, none⟩ = some (.bool l.armed) ∧ w'.cell? ⟨w.heap.size + 1, 2, none⟩ = some (.int .i64 l.down) ∧ w'.cell? ⟨w.heap.size + 1, 3, none⟩ = some (.int .i64 l.sent) ∧ w'.cell? ⟨w.heap.size + 1, 4, none⟩ = some (.int .i64 l.over) ∧ w'.cell? ⟨b1, o1 + k * 2 + 1, none⟩ = some (.slice Ac y.code.length cc)) (first | with_reducible exact HZ.out | go_keep)
   (first
    | (go_at_call 103; refine (another_anyV ok w1.drew _ l (HV1.out.below ((bRefl _).drew)) (by have := H8.out; omega)).mono ?_; rintro e w2 ⟨u, rfl, hcl, hb2⟩; obtain ⟨Au, cu, rfl⟩ := hcl.form; have hbw : Below w1.heap.size w1 w2 := undrew hb2; have hy2 := hb2.size; (try simp at hy2); have z0 := (hbw.cell (p := ⟨w.heap.size, 0, none⟩) (show w.heap.size < w1.heap.size by omega)).trans p0; have z1 := (hbw.cell (p := ⟨w.heap.size, 1, none⟩) (show w.heap.size < w1.heap.size by omega)).trans p1; have z2 := (hbw.cell (p := ⟨w.heap.size, 2, none⟩) (show w.heap.size < w1.heap.size by omega)).trans p2; have z3 := (hbw.cell (p := ⟨w.heap.size, 3, none⟩) (show w.heap.size < w1.heap.size by omega)).trans p3; have z4 := (hbw.cell (p := ⟨w.heap.size + 1, 0, none⟩) (show w.heap.size + 1 < w1.heap.size by omega)).trans y0; have z5 := (hbw.cell (p := ⟨w.heap.size + 1, 1, none⟩) (show w.heap.size + 1 < w1.heap.size by omega)).trans y1; have z6 := (hbw.cell (p := ⟨w.heap.size + 1, 2, none⟩) (show w.heap.size + 1 < w1.heap.size by omega)).trans y2; have z7 := (hbw.cell (p := ⟨w.heap.size + 1, 3, none⟩) (show w.heap.size + 1 < w1.heap.size by omega)).trans y3; have z8 := (hbw.cell (p := ⟨w.heap.size + 1, 4, none⟩) (show w.heap.size + 1 < w1.heap.size by omega)).trans y4; have z9 := (hbw.cell (p := ⟨b1, o1 + k * 2 + 1, none⟩) (show b1 < w1.heap.size by omega)).trans q2'; have aC : ∀ b o, b < w2.heap.size → (w2.alloc (.cells #[.slice none 0 0, .slice none 0 0, .slice none 0 0, .int .i64 0, .int .i64 0, .slice none 0 0, .slice none 0 0, .slice none 0 0, .bool false, .int .i64 0, .int .i64 0, .int .i64 0, .slice none 0 0, .int .i64 0, .int .i64 0, .int .i64 0, .int .i64 0, .int .i64 0, .int .i64 0, .int .i64 0, .int .i64 0, .int .i64 0, .int .i64 0, .int .i64 0] 147)).cell? ⟨b, o, none⟩ = w2.cell? ⟨b, o, none⟩ := (fun b o h => (bAlloc (bRefl w2) _).cell (p := ⟨b, o, none⟩) h); have Z := s_row (B := w2.heap.size) (by omega) (by omega) (by omega) #[.slice (some ⟨b1, o1, none⟩) p.hs.length c1, .slice A2 p.acs.length c2, .slice A3 p.bs.length c3, .int .i64 p.fuel, .int .i64 who, .slice A5 args.length c5, .slice Ac y.code.length cc, .slice Au l.regs.length cu, .bool l.armed, .int .i64 l.down, .int .i64 l.sent, .int .i64 l.over, .slice none 0 0, .int .i64 0, .int .i64 0, .int .i64 0, .int .i64 0, .int .i64 0, .int .i64 0, .int .i64 0, .int .i64 0, .int .i64 0, .int .i64 0, .int .i64 0] ⟨(aC w.heap.size 0 (by omega)).trans z0, (aC w.heap.size 1 (by omega)).trans z1, (aC w.heap.size 2 (by omega)).trans z2, (aC w.heap.size 3 (by omega)).trans z3, (aC (w.heap.size + 1) 0 (by omega)).trans z4, (aC (w.heap.size + 1) 1 (by omega)).trans z5, (aC (w.heap.size + 1) 2 (by omega)).trans z6, (aC (w.heap.size + 1) 3 (by omega)).trans z7, (aC (w.heap.size + 1) 4 (by omega)).trans z8, (aC b1 _ (by omega)).trans z9⟩; have HZ := hid_mkV Z; clear Z aC)
    | (go_at_call 103; refine (another_anyV ok (w1.alloc (.cells #[.slice none 0 0, .slice none 0 0, .slice none 0 0, .int .i64 0, .int .i64 0, .slice none 0 0, .slice none 0 0, .slice none 0 0, .bool false, .int .i64 0, .int .i64 0, .int .i64 0, .slice none 0 0, .int .i64 0, .int .i64 0, .int .i64 0, .int .i64 0, .int .i64 0, .int .i64 0, .int .i64 0, .int .i64 0, .int .i64 0, .int .i64 0, .int .i64 0] 147)).drew _ l (HV1.out.below ((bAlloc (bRefl _) _).drew)) (by have := H8.out; omega)).mono ?_; rintro e w2 ⟨u, rfl, hcl, hb2⟩; obtain ⟨Au, cu, rfl⟩ := hcl.form; have hbw : Below w1.heap.size w1 w2 := bTrans (bAlloc (bRefl w1) _).drew hb2; have hy2 := hb2.size; (try simp at hy2); have hZ : Z24 w2 w1.heap.size := (hb2.block w1.heap.size (by simp)).trans (heap_new w1 _); have z0 := (hbw.cell (p := ⟨w.heap.size, 0, none⟩) (show w.heap.size < w1.heap.size by omega)).trans p0; have z1 := (hbw.cell (p := ⟨w.heap.size, 1, none⟩) (show w.heap.size < w1.heap.size by omega)).trans p1; have z2 := (hbw.cell (p := ⟨w.heap.size, 2, none⟩) (show w.heap.size < w1.heap.size by omega)).trans p2; have z3 := (hbw.cell (p := ⟨w.heap.size, 3, none⟩) (show w.heap.size < w1.heap.size by omega)).trans p3; have z4 := (hbw.cell (p := ⟨w.heap.size + 1, 0, none⟩) (show w.heap.size + 1 < w1.heap.size by omega)).trans y0; have z5 := (hbw.cell (p := ⟨w.heap.size + 1, 1, none⟩) (show w.heap.size + 1 < w1.heap.size by omega)).trans y1; have z6 := (hbw.cell (p := ⟨w.heap.size + 1, 2, none⟩) (show w.heap.size + 1 < w1.heap.size by omega)).trans y2; have z7 := (hbw.cell (p := ⟨w.heap.size + 1, 3, none⟩) (show w.heap.size + 1 < w1.heap.size by omega)).trans y3; have z8 := (hbw.cell (p := ⟨w.heap.size + 1, 4, none⟩) (show w.heap.size + 1 < w1.heap.size by omega)).trans y4; have z9 := (hbw.cell (p := ⟨b1, o1 + k * 2 + 1, none⟩) (show b1 < w1.heap.size by omega)).trans q2'; have Z := s_row n0' n1' n2' #[.slice (some ⟨b1, o1, none⟩) p.hs.length c1, .slice A2 p.acs.length c2, .slice A3 p.bs.length c3, .int .i64 p.fuel, .int .i64 who, .slice A5 args.length c5, .slice Ac y.code.length cc, .slice Au l.regs.length cu, .bool l.armed, .int .i64 l.down, .int .i64 l.sent, .int .i64 l.over, .slice none 0 0, .int .i64 0, .int .i64 0, .int .i64 0, .int .i64 0, .int .i64 0, .int .i64 0, .int .i64 0, .int .i64 0, .int .i64 0, .int .i64 0, .int .i64 0] ⟨z0, z1, z2, z3, z4, z5, z6, z7, z8, z9⟩; have HZ := hid_mkV Z; clear Z))
  all_goals (go_wp2_with fail; go_meet)
  all_goals first
   | exact ⟨_, _, rfl, (way_aV (x := (fxv (.slice (some ⟨b1, o1, none⟩) p.hs.length c1) (.slice A2 p.acs.length c2) (.slice A3 p.bs.length c3) (.slice A5 args.length c5) (.slice Ac y.code.length cc) (.slice Au l.regs.length cu) p who l)) (l := l) (undrew hb2) hcl H8.out)⟩
   | exact ⟨_, _, rfl, (way_bV (w := w1) (W := (w1.alloc (.cells #[.slice none 0 0, .slice none 0 0, .slice none 0 0, .int .i64 0, .int .i64 0, .slice none 0 0, .slice none 0 0, .slice none 0 0, .bool false, .int .i64 0, .int .i64 0, .int .i64 0, .slice none 0 0, .int .i64 0, .int .i64 0, .int .i64 0, .int .i64 0, .int .i64 0, .int .i64 0, .int .i64 0, .int .i64 0, .int .i64 0, .int .i64 0, .int .i64 0] 147)).drew) (x := (fxv (.slice (some ⟨b1, o1, none⟩) p.hs.length c1) (.slice A2 p.acs.length c2) (.slice A3 p.bs.length c3) (.slice A5 args.length c5) (.slice Ac y.code.length cc) (.slice Au l.regs.length cu) p who l)) (l := l) (by simp) (heap_new w1 _) (bAlloc (bRefl w1) _).drew hb2 hcl H8.out)⟩
 case rest =>
  obtain ⟨B, u, rfl, hM⟩ := hcut
  have HL : Hid (LI p args who y.code (rnR p who l (k : Int) args) (ms0 l)) := by
   rw [HC.out]
   exact ⟨fun _ => Rch.start, rfl, Nat.le_refl _⟩
  go_wp2_with fail
  refine (all_any (HX.out u w1 HB1.out) hM.out HL.out (Nat.zero_le _) HF.out (Nat.zero_le _) HY.out.1 HY.out.2.1 HY.out.2.2.1 HY.out.2.2.2).mono ?_
  rintro e w3 ⟨rfl, vn, us, sk, h3⟩
  obtain ⟨R, hR⟩ : ∃ R, rnR p who l (k : Int) args = R := ⟨_, rfl⟩
  rw [hR] at h3 HR
  rw [hR]
  have HM3 := h3
  clear hM HL HC hR
  have hlow := h3.low
  have hs3 := h3.low.size
  have hB := h3.lt
  have hBb := h3.base
  obtain ⟨r0, r1, r2, r3, r4, r5, r6, rf⟩ := blk7 ((h3.low.block _ (by omega)).trans K2.out)
  have rf0 := rf 0
  have rf1 := rf 1
  have rf2 := rf 2
  have rf3 := rf 3
  have rf4 := rf 4
  have rf5 := rf 5
  have rf6 := rf 6
  have q23 : w3.cell? ⟨B, 23, none⟩ = some (.int .i64 (R.2.steps : Int)) := h3.c 23 (by omega)
  have hn0 : ¬ B = w.heap.size + 1 + 1 := by omega
  have hn0' : ¬ w.heap.size + 1 + 1 = B := by omega
  clear rf
  by_cases hd : R.1 = 0
  ·have e1 : (R.1 != 0) = false := ne_no hd
   have hRg := h3.regs
   have hNt := h3.nts
   have hu : (fxv (.slice (some ⟨b1, o1, none⟩) p.hs.length c1) (.slice A2 p.acs.length c2) (.slice A3 p.bs.length c3) (.slice A5 args.length c5) (.slice Ac y.code.length cc) u p who l).vr = u := rfl
   rw [hu] at hRg hNt
   obtain ⟨Au, cu, rfl, hul⟩ := hRg.form
   obtain ⟨An, cn, rfl⟩ := hNt.form
   have q7 : w3.cell? ⟨B, 7, none⟩ = some (.slice Au R.2.regs.length cu) := h3.c 7 (by omega)
   have q8 : w3.cell? ⟨B, 8, none⟩ = some (.bool R.2.armed) := h3.c 8 (by omega)
   have q9 : w3.cell? ⟨B, 9, none⟩ = some (.int .i64 l.down) := h3.c 9 (by omega)
   have q10 : w3.cell? ⟨B, 10, none⟩ = some (.int .i64 l.sent) := h3.c 10 (by omega)
   have q11 : w3.cell? ⟨B, 11, none⟩ = some (.int .i64 l.over) := h3.c 11 (by omega)
   have q12 : w3.cell? ⟨B, 12, none⟩ = some (.slice An R.2.notes.length cn) := h3.c 12 (by omega)
   have f10 := h3.fz 10
   have HRg : Hid (RG w1 B w3 (.slice Au R.2.regs.length cu) R.2.regs) := hRg
   have HNt : Hid (NT w1 (fun b => b = B ∨ hb (.slice Au R.2.regs.length cu) = some b) w3 (.slice An R.2.notes.length cn) R.2.notes us) := hNt
   have HQ : Hid (fin l R = ⟨⟨R.2.regs, R.2.armed, l.down, wrap64 (l.sent + R.2.notes.length), l.over⟩, R.2.notes, R.2.steps⟩) := by show _ = _; unfold fin; rw [if_pos hd]
   clear h3 HM3 hRg hNt hu hd
   go_wp2
   refine bodyPost_ret (v := .agg #[.slice Au R.2.regs.length cu, .bool R.2.armed, .int .i64 l.down, .int .i64 (wrap64 (l.sent + R.2.notes.length)), .int .i64 l.over, .slice An R.2.notes.length cn, .int .i64 R.2.steps]) (by simp [results, Tryz.results72, go_sem, *]) rfl ⟨_, rfl, ?_, ?_⟩
   ·rw [HR.out, HQ.out]
    refine ⟨_, _, rfl, ?_, ?_⟩
    ·refine Sl.imp (ok := fun b => w1.heap.size ≤ b) (RG.ints (w0 := w1) (B := B) ?_) (fun b hb => Nat.le_trans HB1.out.size hb) (Nat.le_refl _) (fun _ _ _ _ _ h => h)
     repeat (refine RG.so ?_ (by first | exact Or.inl rfl | (exact Or.inr (by omega))) _)
     exact HRg.out
    ·refine NT.up (w0 := w1) (ex := fun b => b = B ∨ hb (.slice Au R.2.regs.length cu) = some b) (us := us) ?_ HB1.out.size
     repeat (refine NT.so ?_ (by first | exact Or.inl rfl | (exact Or.inr (by omega))) _)
     exact HNt.out
   ·repeat (refine Below.setCell ?_ (by first | (simp; done) | (simp; omega)) _)
    exact HB1.out.trans (hlow.mono HB1.out.size)
  ·have e1 : (R.1 != 0) = true := ne_yes hd
   have HQ : Hid (fin l R = ⟨{ l with down := R.1 }, [], R.2.steps⟩) := by show _ = _; unfold fin; rw [if_neg hd]
   have HLo : Hid (Below w1.heap.size w1 w3) := hlow
   have x1 := blk5V ((hlow.block _ (by omega)).trans K1.out)
   obtain ⟨x0, x1, x2, x3, x4, _⟩ := x1
   clear h3 HM3 hd hlow
   go_wp2_with fail
   refine (another_anyV ok _ _ l (HV1.out.below HLo.out) (by have := H8.out; omega)).mono ?_
   rintro e w4 ⟨v4, rfl, hcl, hb4⟩
   obtain ⟨Au, cu, rfl⟩ := hcl.form
   have hs4 := hb4.size
   have q23' := (hb4.cell (p := ⟨B, 23, none⟩) hB).trans q23
   obtain ⟨t0, t1, t2, t3, t4, t5, t6, tf⟩ := blk7 ((hb4.block _ (by omega)).trans ((HLo.out.block _ (by omega)).trans K2.out))
   have tf0 := tf 0
   have tf1 := tf 1
   have tf2 := tf 2
   have tf3 := tf 3
   have tf4 := tf 4
   have tf5 := tf 5
   have tf6 := tf 6
   have hz2 : w.heap.size + 1 + 1 < w4.heap.size := by omega
   have hB4 : B < w4.heap.size := by omega
   have HCL : Hid (CL w3 w4 (.slice Au l.regs.length cu) l.regs) := hcl
   have HB4 : Hid (Below w.heap.size w w4) := (HB1.out.trans (HLo.out.mono HB1.out.size)).trans (hb4.mono (by omega))
   clear hcl hb4 tf r0 r1 r2 r3 r4 r5 r6 rf0 rf1 rf2 rf3 rf4 rf5 rf6 q23
   go_wp2
   refine bodyPost_ret (v := .agg #[.slice Au l.regs.length cu, .bool l.armed, .int .i64 R.1, .int .i64 l.sent, .int .i64 l.over, .slice none 0 0, .int .i64 R.2.steps]) (by simp [results, Tryz.results72, go_sem, *]) rfl ⟨_, rfl, ?_, ?_⟩
   ·rw [HR.out, HQ.out]
    refine ⟨_, _, rfl, ?_, ⟨_, _, rfl, by simp, by simp, Or.inl rfl⟩⟩
    refine Sl.imp (ok := fun b => w3.heap.size ≤ b) (CL.ints (w := w3) ?_ (by have := H8.out; show l.regs.length ≤ 1000; omega)) (fun b hb => by have h1 : w3.heap.size ≤ b := hb; show w.heap.size ≤ b; omega) (Nat.le_refl _) (fun _ _ _ _ _ h => h)
    refine CL.below ?_ (bAlloc (bRefl _) _)
    repeat (refine CL.set ?_ (by omega) _)
    exact HCL.out
   ·refine Below.alloc ?_ (by simp; omega) _
    repeat (refine Below.setCell ?_ (by first | (simp; done) | (simp; omega)) _)
    exact HB4.out
theorem run_any (ok oka : Nat → Prop) (w : World) (v vl va : Value) (p : PPrg) (who : Int) (l : PLoc) (h : Int) (args : List Int) (ht : Tab w) (hp : PrgV w v p) (hl : LocV ok w vl l) (ha : Ints oka w va args) :
  Calls Tryz.prog 72 #[v, .int .i64 who, vl, .int .i64 h, va] w fun e w' => ∃ u, e = .returned u ∧ ResV (fun b => w.heap.size ≤ b) w' u (runP p who l h args) ∧ Below w.heap.size w w' := by
 by_cases hm : mayP p who l h args
 ·exact run_yes ok oka w v vl va p who l h args ht hp hl ha hm
 ·exact run_no ok oka w v vl va p who l h args ht hp hl ha hm
end Go.Proofs.YtfbeiedhdmndnaaGreatDoor
namespace Go.Proofs.YtfbeiedhdmndnaaGreatDoor
open Go.RowKit
abbrev put7 (w : World) (b : Nat) (a0 a1 a2 a3 a4 a5 a6 : Value) : World := ((((((w.setCell ⟨b, 0, none⟩ a0).setCell ⟨b, 1, none⟩ a1).setCell ⟨b, 2, none⟩ a2).setCell ⟨b, 3, none⟩ a3).setCell ⟨b, 4, none⟩ a4).setCell ⟨b, 5, none⟩ a5).setCell ⟨b, 6, none⟩ a6
theorem put7_same {w : World} {b : Nat} {a0 a1 a2 a3 a4 a5 a6 : Value} : Same (fun d => d ≠ b) w (put7 w b a0 a1 a2 a3 a4 a5 a6) :=
 ((((((setCell_same fun _ h => h).trans (setCell_same fun _ h => h)).trans (setCell_same fun _ h => h)).trans (setCell_same fun _ h => h)).trans (setCell_same fun _ h => h)).trans (setCell_same fun _ h => h)).trans (setCell_same fun _ h => h)
theorem put7_ex {Z : Nat → Prop} {a w : World} {b : Nat} {a0 a1 a2 a3 a4 a5 a6 : Value} (h : Ex Z a w) (hb : a.heap.size ≤ b) : Ex Z a (put7 w b a0 a1 a2 a3 a4 a5 a6) :=
 ((((((h.setN hb _).setN hb _).setN hb _).setN hb _).setN hb _).setN hb _).setN hb _
theorem ResV.same {ok : Nat → Prop} {w w' : World} {v : Value} {r : PRes} (h : ResV ok w v r) (s : Same ok w w') : ResV ok w' v r := let ⟨a, b, h1, h2, h3⟩ := h; ⟨a, b, h1, h2.same s, h3.same s s⟩
theorem ResV.weak {ok ok' : Nat → Prop} {w : World} {v : Value} {r : PRes} (h : ResV ok w v r) (k : ∀ b, ok b → ok' b) : ResV ok' w v r :=
 let ⟨a, b, h1, h2, h3⟩ := h
 ⟨a, b, h1, h2.weak k, h3.imp k (Nat.le_refl _) fun _ _ _ _ _ ⟨a1, a2, c, a3, a4⟩ => ⟨a1, a2, c, a3, Ints.weak a4 k⟩⟩
theorem fieldM (a b c d e f : Value) (w : World) : (Instr.field 90 (.agg #[a, b, c, d, e, f]) 1).run Tryz.prog w = .ok (.agg #[d, e, f]) w := by kernel_rfl
abbrev zR : Obj := .cells #[.slice none 0 0, .bool false, .int .i64 0, .int .i64 0, .int .i64 0, .slice none 0 0, .int .i64 0] 84
set_option maxHeartbeats 8000000 in
set_option maxRecDepth 100000 in
theorem handle_1 (Q : Nat → Prop) (bo : Nat) (W : World) (vp a mv : Value) (p : PPrg) (x : PWld) (κ who : Int) (d yd : PID) (k j : Nat) (hd : Int) (args : List Int) (z : PLoc) (W0 : World) (hQ : ∀ b, W.heap.size ≤ b → Q b) (ht : Tab W0) (hp : PrgV W0 vp p) (hlo : Below W0.heap.size W0 W) (hbo : W0.heap.size ≤ bo) (h : BW Q bo W a mv x) (hκ : κ ≠ 4)
  (hf : fnd x.mail d = k) (hy : x.mail[k]? = some ⟨yd, ⟨(j : Int), hd, args⟩⟩) (hF : Few x.mail) (hz : x.acts[j]? = some z) (hsz : x.acts.length ≤ 1000) :
  Calls Tryz.prog 38 #[vp, .pointer (some ⟨bo, 0, none⟩), eVal ⟨κ, d, who⟩] W fun e w' => ∃ u m', e = .returned (.tuple #[.int .i64 (j : Int), u]) ∧ BW Q bo w' a m' { x with mail := cutP x.mail k } ∧ ResV (fun b => W.heap.size ≤ b) w' u (runP p j z hd args) ∧ Ex (fun b => b = bo) W w' := by
 obtain ⟨R, hR⟩ : ∃ R, R = runP p j z hd args := ⟨_, rfl⟩
 have HRR := hid_mk hR
 rw [← hR]
 have HP := hid_mk hp
 have HT := hid_mk ht
 obtain ⟨vh, vb, vc, rfl, h1, h2, h3⟩ := hp
 obtain ⟨A1, c1, rfl, hl1⟩ := h1.form
 obtain ⟨A2, c2, rfl, hl2⟩ := h2.form
 obtain ⟨A3, c3, rfl, hl3⟩ := h3.form
 have hjx : j < x.acts.length := (List.getElem?_eq_some_iff.1 hz).1
 have hla : (x.acts.length : Int) ≤ 9223372036854775807 := by omega
 obtain ⟨g, ca, rfl, _, _, _⟩ := h.row (by omega)
 have hblt := h.blt
 have HB := hid_mk h
 have HQ := hid_mk (And.intro hf (And.intro hy hF))
 have HQQ := hid_mk hQ
 have HZ := hid_mk hz
 have hk4 : (κ == 4) = false := beq_eq_false_iff_ne.2 hκ
 have hA := three_new W (.cells #[.slice A1 p.hs.length c1, .slice A2 p.acs.length c2, .slice A3 p.bs.length c3, .int .i64 p.fuel] 26) (.cells #[.int .i64 κ, .int .i64 d.f, .int .i64 d.n, .int .i64 d.c, .int .i64 who] 36) zR
 have HL : Below W.heap.size W (((W.alloc (.cells #[.slice A1 p.hs.length c1, .slice A2 p.acs.length c2, .slice A3 p.bs.length c3, .int .i64 p.fuel] 26)).alloc (.cells #[.int .i64 κ, .int .i64 d.f, .int .i64 d.n, .int .i64 d.c, .int .i64 who] 36)).alloc zR) := bAlloc (bAlloc (bAlloc (bRefl _) _) _) _
 clear h1 h2 h3 h hf hy hF hQ hz ht hR
 go_enter Tryz.func38, Tryz.ntmps38
 go_wp2_with fail
 generalize (((W.alloc (.cells #[.slice A1 p.hs.length c1, .slice A2 p.acs.length c2, .slice A3 p.bs.length c3, .int .i64 p.fuel] 26)).alloc (.cells #[.int .i64 κ, .int .i64 d.f, .int .i64 d.n, .int .i64 d.c, .int .i64 who] 36)).alloc zR) = w1 at hA HL ⊢
 have h0 := hA.2.2.2
 have HW1 := hid_mk HL
 refine (stake_any (fun b => Q b ∧ b ≠ W.heap.size + 2) bo w1 _ _ x d k _ (fun b hb => ⟨HQQ.out b (by omega), by omega⟩) ((HB.out.lt.weak fun b hb => ⟨hb.1, by have := hb.2; omega⟩).below HL) HQ.out.1 HQ.out.2.1 HQ.out.2.2).mono ?_
 rintro e w2 ⟨u2, m2, rfl, hbw2, hu2, hex2⟩
 obtain ⟨U2, cu2, rfl, _⟩ := hu2.form
 have HBP := hid_mk (hex2.box hA.1 (by omega))
 have HBR := hid_mk (hex2.box hA.2.2.1 (by omega))
 have hs2 := hex2.size
 have HBW := hid_mk hbw2
 have HU2 := hid_mk hu2
 have HEX := hid_mk ((Ex.of (Z := fun b => b = bo) HL).trans hex2)
 have HLO := hid_mk (And.intro hlo hbo)
 clear hA HL hbw2 hu2 hex2 hlo hbo
 have hfm := fieldM
 go_wp2_with fail
 clear hfm
 have HN := hid_mk (heap_new w2 (.cells #[.int .i64 (j : Int), .int .i64 hd, .slice U2 args.length cu2] 79))
 have hbb : Below w2.heap.size w2 (w2.alloc (.cells #[.int .i64 (j : Int), .int .i64 hd, .slice U2 args.length cu2] 79)) := bAlloc (bRefl _) _
 generalize (w2.alloc (.cells #[.int .i64 (j : Int), .int .i64 hd, .slice U2 args.length cu2] 79)) = w3 at HN hbb ⊢
 have HB3 := hid_mk hbb
 have HLW : Hid (Below W0.heap.size W0 w3) := HLO.out.1.trans ((HEX.out.more hbb).below HLO.out.1.size (fun b hb => by have := HLO.out.2; show b ≠ bo; omega))
 have hlr := BW.lr (x := { x with mail := cutP x.mail k }) (HBW.out.below hbb)
 obtain ⟨t0, t1, t2⟩ := blk3 HN.out
 obtain ⟨p0, p1, p2, p3⟩ := blk4 (boxAt HBP.out hbb)
 obtain ⟨b0, b1, b2, b3, b4, b5⟩ := blk6 (HBW.out.below hbb).box
 obtain ⟨⟨v, r0, r0'⟩, r1, r2, r3, r4⟩ := hlr.rd j z HZ.out
 obtain ⟨V, cv, rfl, _⟩ := r0'.form
 have HV := hid_mk r0'
 have z1 : w2.heap.size < w3.heap.size := (Array.getElem?_eq_some_iff.1 HN.out).1
 have z2 : W.heap.size < w3.heap.size := by omega
 have z3 : bo < w3.heap.size := by omega
 have z4 : g < w3.heap.size := hlr.lt
 have n1 : ¬ W.heap.size + 2 = w2.heap.size := by omega
 have n2 : ¬ W.heap.size + 2 = bo := by omega
 have n3 : ¬ W.heap.size + 2 = g := fun e => (HBW.out.acts.own (g := g) rfl).1.1.2 e.symm
 have n4 : ¬ w2.heap.size = W.heap.size + 2 := by omega
 have n5 : ¬ bo = W.heap.size + 2 := by omega
 have n6 : ¬ g = W.heap.size + 2 := fun e => n3 e.symm
 have n7 : ¬ W.heap.size + 1 + 1 = W.heap.size := by omega
 have n8 : ¬ W.heap.size = W.heap.size + 1 + 1 := by omega
 clear r0' hlr
 go_region_held3 (fun w' => w'.cell? ⟨w2.heap.size, 0, none⟩ = some (.int .i64 (j : Int)) ∧ w'.cell? ⟨w2.heap.size, 1, none⟩ = some (.int .i64 hd) ∧ w'.cell? ⟨w2.heap.size, 2, none⟩ = some (.slice U2 args.length cu2) ∧ w'.cell? ⟨W.heap.size, 0, none⟩ = some (.slice A1 p.hs.length c1) ∧ w'.cell? ⟨W.heap.size, 1, none⟩ = some (.slice A2 p.acs.length c2) ∧ w'.cell? ⟨W.heap.size, 2, none⟩ = some (.slice A3 p.bs.length c3) ∧ w'.cell? ⟨W.heap.size, 3, none⟩ = some (.int .i64 p.fuel) ∧ w'.cell? ⟨bo, 0, none⟩ = some (.slice (some ⟨g, 0, none⟩) x.acts.length ca) ∧ w'.cell? ⟨g, j * 5, none⟩ = some (.slice V z.regs.length cv) ∧ w'.cell? ⟨g, j * 5 + 1, none⟩ = some (.bool z.armed) ∧ w'.cell? ⟨g, j * 5 + 2, none⟩ = some (.int .i64 z.down) ∧ w'.cell? ⟨g, j * 5 + 3, none⟩ = some (.int .i64 z.sent) ∧ w'.cell? ⟨g, j * 5 + 4, none⟩ = some (.int .i64 z.over)) (go_keep)
  (first
   | (go_at_call 72; refine (run_any _ _ _ _ _ _ p j z hd args (HT.out.below (by first | exact HLW.out | exact HLW.out.drew)) (HP.out.below (by first | exact HLW.out | exact HLW.out.drew)) ⟨_, rfl, Ints.below HV.out (by first | exact bRefl _ | exact (bRefl _).drew)⟩ (Ints.below HU2.out (by first | exact HB3.out | exact HB3.out.drew))).mono ?_; rintro e w4 ⟨u4, rfl, hres, hb4⟩; rw [← HRR.out] at hres; obtain ⟨cr, cn, rfl, hr1, hr2⟩ := hres; obtain ⟨C1, e1, rfl, _⟩ := hr1.form; obtain ⟨C2, e2, rfl, _⟩ := hr2.form; obtain ⟨hc4, hf4, hy4⟩ := (by first | exact olds (undrew hb4) | exact olds hb4); have HR1 := hid_mk hr1; have HR2 := hid_mk hr2; have HB4 := hid_mk (show Below w3.heap.size w3 w4 from (by first | exact undrew hb4 | exact hb4)); clear hr1 hr2 hb4; obtain ⟨s0, s1, s2, s3, s4, s5, s6, sf⟩ := blk7 (boxAt (boxAt HBR.out HB3.out) HB4.out)))
 all_goals
  go_wp2_with fail
  refine bodyPost_ret (v := .tuple #[.int .i64 (j : Int), .agg #[.slice C1 R.loc.regs.length e1, .bool R.loc.armed, .int .i64 R.loc.down, .int .i64 R.loc.sent, .int .i64 R.loc.over, .slice C2 R.notes.length e2, .int .i64 R.steps]]) (by simp [results, Tryz.results38, go_sem, s0, s1, s2, s3, s4, s5, s6]) rfl ⟨_, m2, rfl, ?_, ?_, ?_⟩
  ·exact (((HBW.out.below HB3.out).below HB4.out).same (put7_same.weak fun b hb => by
    rcases hb with hb | hb
    ·exact hb.2
    ·show b ≠ W.heap.size + 2; omega)).weak fun _ hb => hb.1
  ·have hz := HB3.out.size
   have hz' := HEX.out.size
   have hres : ResV (fun b => w3.heap.size ≤ b) w4 (.agg #[.slice C1 R.loc.regs.length e1, .bool R.loc.armed, .int .i64 R.loc.down, .int .i64 R.loc.sent, .int .i64 R.loc.over, .slice C2 R.notes.length e2, .int .i64 R.steps]) R := ⟨_, _, rfl, HR1.out, HR2.out⟩
   exact (hres.same (put7_same.weak fun b hb => by have hb' : w3.heap.size ≤ b := hb; show b ≠ W.heap.size + 2; omega)).weak fun b hb => by have hb' : w3.heap.size ≤ b := hb; show W.heap.size ≤ b; omega
  ·exact put7_ex ((HEX.out.more HB3.out).more HB4.out) (by omega)
end Go.Proofs.YtfbeiedhdmndnaaGreatDoor
namespace Go.Proofs.YtfbeiedhdmndnaaGreatDoor
open Go.RowKit
set_option maxHeartbeats 8000000 in
set_option maxRecDepth 100000 in
theorem handle_4 (Q : Nat → Prop) (bo : Nat) (W : World) (vp a mv : Value) (p : PPrg) (x : PWld) (d : PID) (j : Nat) (z : PLoc) (ac : PAct) (W0 : World) (hQ0 : ∀ b, Q b → W0.heap.size ≤ b) (hQ : ∀ b, W.heap.size ≤ b → Q b) (ht : Tab W0) (hp : PrgV W0 vp p) (hlo : Below W0.heap.size W0 W) (hbo : W0.heap.size ≤ bo) (h : BW Q bo W a mv x) (hz : x.acts[j]? = some z) (hac : p.acs[j]? = some ac) (hsz : x.acts.length ≤ 1000) :
  Calls Tryz.prog 38 #[vp, .pointer (some ⟨bo, 0, none⟩), eVal ⟨4, d, (j : Int)⟩] W fun e w' => ∃ u, e = .returned (.tuple #[.int .i64 (j : Int), u]) ∧ BW Q bo w' a mv (calmP x j) ∧ ResV (fun b => W.heap.size ≤ b) w' u (runP p j { z with armed := false } ac.timer []) ∧ Ex (fun b => b = bo ∨ Q b) W w' := by
 obtain ⟨R, hR⟩ : ∃ R, R = runP p j { z with armed := false } ac.timer [] := ⟨_, rfl⟩
 have HRR := hid_mk hR
 rw [← hR]
 have HP := hid_mk hp
 have HT := hid_mk ht
 obtain ⟨vh, vb, vc, rfl, h1, h2, h3⟩ := hp
 obtain ⟨A1, c1, rfl, hl1⟩ := h1.form
 obtain ⟨A2, c2, rfl, hl2⟩ := h2.form
 obtain ⟨A3, c3, rfl, hl3⟩ := h3.form
 have hjx : j < x.acts.length := (List.getElem?_eq_some_iff.1 hz).1
 have hla : (x.acts.length : Int) ≤ 9223372036854775807 := by omega
 obtain ⟨g, ca, rfl, hgQ, hgb, hgr⟩ := h.row (by omega)
 have hgl := hgr.lt
 have HG := hid_mk hgQ
 have hblt := h.blt
 have HB := hid_mk h
 have HQQ := hid_mk hQ
 have HZ := hid_mk hz
 have HLO := hid_mk (And.intro hlo (And.intro hbo hQ0))
 obtain ⟨b2, o2, ac', v2, rfl, hac2, hz2, q1, q2, q3, q4, _⟩ := h2.cell (bRefl W0) (List.getElem?_eq_some_iff.1 hac).1
 obtain rfl : ac = ac' := Option.some.inj (hac.symm.trans hac2)
 have hja : (j : Int) < p.acs.length := by have := (List.getElem?_eq_some_iff.1 hac).1; omega
 have hji : (j : Int) < x.acts.length := by omega
 obtain ⟨B, dd, rfl, hlm⟩ := h.mail.form
 obtain ⟨m0, m1, m2, m3, m4, m5⟩ := blk6 h.box
 have HBA : Hid (∀ X Y Z, Below W.heap.size W (((W.alloc X).alloc Y).alloc Z)) := fun X Y Z => bAlloc (bAlloc (bAlloc (bRefl _) _) _) _
 have k4 := fun X Y Z => ((HBA.out X Y Z).cell (p := ⟨bo, 4, none⟩) hblt).trans m4
 have kf := fun X Y Z => ((HBA.out X Y Z).frozen (p := ⟨bo, 4, none⟩) hblt).trans (h.frozen 4)
 have HQ3 := hid_mk q3
 have hA := three_new W (.cells #[.slice A1 p.hs.length c1, .slice (some ⟨b2, o2, none⟩) p.acs.length c2, .slice A3 p.bs.length c3, .int .i64 p.fuel] 26) (.cells #[.int .i64 4, .int .i64 d.f, .int .i64 d.n, .int .i64 d.c, .int .i64 (j : Int)] 36) zR
 have HL : Below W.heap.size W (((W.alloc (.cells #[.slice A1 p.hs.length c1, .slice (some ⟨b2, o2, none⟩) p.acs.length c2, .slice A3 p.bs.length c3, .int .i64 p.fuel] 26)).alloc (.cells #[.int .i64 4, .int .i64 d.f, .int .i64 d.n, .int .i64 d.c, .int .i64 (j : Int)] 36)).alloc zR) := bAlloc (bAlloc (bAlloc (bRefl _) _) _) _
 have hzb := HLO.out.1.size
 clear h1 h2 h3 h hQ hz ht hR hac hac2 q1 q2 q3 q4 hlo hbo hgQ hgr hQ0
 go_enter Tryz.func38, Tryz.ntmps38
 go_wp2_with fail
 clear k4 kf m0 m1 m2 m3 m4 m5
 have HB1 : Hid (BW (fun b => Q b ∧ b ≠ W.heap.size + 2) bo ((((W.alloc (.cells #[.slice A1 p.hs.length c1, .slice (some ⟨b2, o2, none⟩) p.acs.length c2, .slice A3 p.bs.length c3, .int .i64 p.fuel] 26)).alloc (.cells #[.int .i64 4, .int .i64 d.f, .int .i64 d.n, .int .i64 d.c, .int .i64 (j : Int)] 36)).alloc zR).setCell ⟨bo, 4, none⟩ (.int .i64 (wrap64 (x.used.time + 1)))) (.slice (some ⟨g, 0, none⟩) x.acts.length ca) (.slice B x.mail.length dd) { x with used := { x.used with time := wrap64 (x.used.time + 1) } }) :=
  (((HB.out.lt.weak fun b hb => ⟨hb.1, by have := hb.2; omega⟩).below HL).setUsed (u := { x.used with time := wrap64 (x.used.time + 1) }) (by simp))
 have HE1 : Hid (Ex (fun b => b = bo) W ((((W.alloc (.cells #[.slice A1 p.hs.length c1, .slice (some ⟨b2, o2, none⟩) p.acs.length c2, .slice A3 p.bs.length c3, .int .i64 p.fuel] 26)).alloc (.cells #[.int .i64 4, .int .i64 d.f, .int .i64 d.n, .int .i64 d.c, .int .i64 (j : Int)] 36)).alloc zR).setCell ⟨bo, 4, none⟩ (.int .i64 (wrap64 (x.used.time + 1))))) := Ex.set (Z := fun b => b = bo) (Ex.of HL) rfl _
 have hE2 : Ex (fun b => b = bo) _ ((((W.alloc (.cells #[.slice A1 p.hs.length c1, .slice (some ⟨b2, o2, none⟩) p.acs.length c2, .slice A3 p.bs.length c3, .int .i64 p.fuel] 26)).alloc (.cells #[.int .i64 4, .int .i64 d.f, .int .i64 d.n, .int .i64 d.c, .int .i64 (j : Int)] 36)).alloc zR).setCell ⟨bo, 4, none⟩ (.int .i64 (wrap64 (x.used.time + 1)))) := Ex.set (Z := fun b => b = bo) (Ex.refl _) rfl _
 have HX0 := hid_mk (hE2.box hA.1 (by omega))
 have HX1 := hid_mk (hE2.box hA.2.1 (by omega))
 have HX2 := hid_mk (hE2.box hA.2.2.1 (by omega))
 have hs1 : ((((W.alloc (.cells #[.slice A1 p.hs.length c1, .slice (some ⟨b2, o2, none⟩) p.acs.length c2, .slice A3 p.bs.length c3, .int .i64 p.fuel] 26)).alloc (.cells #[.int .i64 4, .int .i64 d.f, .int .i64 d.n, .int .i64 d.c, .int .i64 (j : Int)] 36)).alloc zR).setCell ⟨bo, 4, none⟩ (.int .i64 (wrap64 (x.used.time + 1)))).heap.size = W.heap.size + 3 := by simp
 clear hE2 hA HL
 generalize ((((W.alloc (.cells #[.slice A1 p.hs.length c1, .slice (some ⟨b2, o2, none⟩) p.acs.length c2, .slice A3 p.bs.length c3, .int .i64 p.fuel] 26)).alloc (.cells #[.int .i64 4, .int .i64 d.f, .int .i64 d.n, .int .i64 d.c, .int .i64 (j : Int)] 36)).alloc zR).setCell ⟨bo, 4, none⟩ (.int .i64 (wrap64 (x.used.time + 1)))) = w1 at HB1 HE1 HX0 HX1 HX2 hs1 ⊢
 obtain ⟨b0, b1, b3, b4, b5, b6⟩ := blk6 HB1.out.box
 obtain ⟨e0, e1, e3, e4, e5⟩ := blk5 HX1.out
 have hl1 : LR g _ w1 x.acts := BW.lr (x := { x with used := { x.used with time := wrap64 (x.used.time + 1) } }) HB1.out
 have fg : ∀ o, w1.frozen? ⟨g, o, none⟩ = false := hl1.frozen
 have zg : g < w1.heap.size := hl1.lt
 obtain ⟨_, r1, _, _, _⟩ := hl1.rd j z HZ.out
 clear hl1
 have y1 : ¬ g = W.heap.size + 1 := by omega
 have y2 : ¬ W.heap.size + 1 = g := by omega
 have y3 : ¬ bo = g := fun e => hgb e.symm
 go_region_held3 (fun w' => w'.cell? ⟨bo, 0, none⟩ = some (.slice (some ⟨g, 0, none⟩) x.acts.length ca) ∧ w'.cell? ⟨W.heap.size + 1, 4, none⟩ = some (.int .i64 (j : Int))) (go_keep) (fail)
 have HB2 : Hid (BW (fun b => Q b ∧ b ≠ W.heap.size + 2) bo (w1.setCell ⟨g, j * 5 + 1, none⟩ (.bool false)).drew (.slice (some ⟨g, 0, none⟩) x.acts.length ca) (.slice B x.mail.length dd) (setL { x with used := { x.used with time := wrap64 (x.used.time + 1) } } j { z with armed := false })) :=
  (BW.setAct (x := { x with used := { x.used with time := wrap64 (x.used.time + 1) } }) (y := z) (y' := { z with armed := false }) (off := j * 5 + 1) (v := .bool false) (i := 1) HB1.out HZ.out (by omega) (by omega) (by omega) rfl (Or.inl ⟨rfl, rfl⟩) (Or.inr ⟨by omega, rfl⟩) (Or.inr ⟨by omega, rfl⟩) (Or.inr ⟨by omega, rfl⟩)).below (bRefl _).drew
 have hE2 : Ex (fun b => b = bo ∨ Q b) w1 (w1.setCell ⟨g, j * 5 + 1, none⟩ (.bool false)).drew := (Ex.set (Z := fun b => b = bo ∨ Q b) (Ex.refl _) (Or.inr HG.out) _).drew
 have HE2 := hid_mk ((HE1.out.weak (Z' := fun b => b = bo ∨ Q b) fun b hb => Or.inl hb).trans hE2)
 have hqq : ∀ b, b < W0.heap.size → ¬ (b = bo ∨ Q b) := fun b hb e => by
  rcases e with e | e
  ·have := HLO.out.2.1; omega
  ·have := HLO.out.2.2 b e; omega
 have hgz : ∀ b, b = W.heap.size ∨ b = W.heap.size + 1 ∨ b = W.heap.size + 2 → b ≠ g := fun b hb => by omega
 have hX0 : (w1.setCell ⟨g, j * 5 + 1, none⟩ (.bool false)).drew.heap[W.heap.size]? = _ := (Below.heap_setCell _ _ _ _ (hgz _ (Or.inl rfl))).trans HX0.out
 have hX1 : (w1.setCell ⟨g, j * 5 + 1, none⟩ (.bool false)).drew.heap[W.heap.size + 1]? = _ := (Below.heap_setCell _ _ _ _ (hgz _ (Or.inr (Or.inl rfl)))).trans HX1.out
 have hX2 : (w1.setCell ⟨g, j * 5 + 1, none⟩ (.bool false)).drew.heap[W.heap.size + 2]? = _ := (Below.heap_setCell _ _ _ _ (hgz _ (Or.inr (Or.inr rfl)))).trans HX2.out
 have hs2 : (w1.setCell ⟨g, j * 5 + 1, none⟩ (.bool false)).drew.heap.size = W.heap.size + 3 := by show (w1.setCell _ _).heap.size = _; simp [World.setCell, hs1]
 clear b0 b1 b3 b4 b5 b6 e0 e1 e3 e4 e5 r1 hE2 hs1 zg fg
 go_wp2_with fail
 generalize (w1.setCell ⟨g, j * 5 + 1, none⟩ (.bool false)).drew = w2 at HB2 HE2 hX0 hX1 hX2 hs2 ⊢
 have HLW : Hid (Below W0.heap.size W0 w2) := HLO.out.1.trans (HE2.out.below HLO.out.1.size hqq)
 have HX2' := hid_mk hX2
 obtain ⟨p0, p1, p2, p3⟩ := blk4 hX0
 obtain ⟨e0, e1, e3, e4, e5⟩ := blk5 hX1
 obtain ⟨b0, b1, b3, b4, b5, b6⟩ := blk6 HB2.out.box
 have hl2 : LR g (fun _ b => ((Q b ∧ b ≠ W.heap.size + 2) ∧ b ≠ bo) ∧ b ≠ g) w2 (setL { x with used := { x.used with time := wrap64 (x.used.time + 1) } } j { z with armed := false }).acts := by
  have h9 := HB2.out
  have e9 : x.acts.length = (setL { x with used := { x.used with time := wrap64 (x.used.time + 1) } } j { z with armed := false }).acts.length := by simp [setL]
  rw [e9] at h9
  exact h9.lr
 have hz9 : (setL { x with used := { x.used with time := wrap64 (x.used.time + 1) } } j { z with armed := false }).acts[j]? = some { z with armed := false } := by show (x.acts.set j _)[j]? = _; exact List.getElem?_set_self hjx
 obtain ⟨⟨v, r0, r0'⟩, r1, r2, r3, r4⟩ := hl2.rd j _ hz9
 dsimp only at r0' r1 r2 r3 r4
 obtain ⟨V, cv, rfl, _⟩ := r0'.form
 have HV := hid_mk r0'
 have t3 := (HLW.out.cell (p := ⟨b2, o2 + j * 4 + 2, none⟩) hz2).trans HQ3.out
 have hbb : Below w2.heap.size w2 w2 := bRefl w2
 have z2 : W.heap.size < w2.heap.size := by omega
 have z3 : W.heap.size + 1 < w2.heap.size := by omega
 have z4 : g < w2.heap.size := by omega
 have z5 : bo < w2.heap.size := by omega
 have z6 : b2 < w2.heap.size := by omega
 have n1 : ¬ W.heap.size + 1 + 1 = W.heap.size := by omega
 have n2 : ¬ W.heap.size + 1 + 1 = W.heap.size + 1 := by omega
 have n3 : ¬ W.heap.size + 1 + 1 = g := by omega
 have n4 : ¬ W.heap.size + 1 + 1 = bo := by omega
 have n5 : ¬ W.heap.size + 1 + 1 = b2 := by omega
 have n6 : ¬ W.heap.size = W.heap.size + 1 + 1 := by omega
 have n7 : ¬ W.heap.size + 1 = W.heap.size + 1 + 1 := by omega
 have n8 : ¬ g = W.heap.size + 1 + 1 := by omega
 have n9 : ¬ bo = W.heap.size + 1 + 1 := by omega
 have n10 : ¬ b2 = W.heap.size + 1 + 1 := by omega
 have HS2 := hid_mk hs2
 clear r0' hl2 hz9 hX0 hX1 hX2 hqq hgz hs2
 go_region_held3 (fun w' => w'.cell? ⟨W.heap.size + 1, 4, none⟩ = some (.int .i64 (j : Int)) ∧ w'.cell? ⟨W.heap.size, 0, none⟩ = some (.slice A1 p.hs.length c1) ∧ w'.cell? ⟨W.heap.size, 1, none⟩ = some (.slice (some ⟨b2, o2, none⟩) p.acs.length c2) ∧ w'.cell? ⟨W.heap.size, 2, none⟩ = some (.slice A3 p.bs.length c3) ∧ w'.cell? ⟨W.heap.size, 3, none⟩ = some (.int .i64 p.fuel) ∧ w'.cell? ⟨bo, 0, none⟩ = some (.slice (some ⟨g, 0, none⟩) x.acts.length ca) ∧ w'.cell? ⟨g, j * 5, none⟩ = some (.slice V z.regs.length cv) ∧ w'.cell? ⟨g, j * 5 + 1, none⟩ = some (.bool false) ∧ w'.cell? ⟨g, j * 5 + 2, none⟩ = some (.int .i64 z.down) ∧ w'.cell? ⟨g, j * 5 + 3, none⟩ = some (.int .i64 z.sent) ∧ w'.cell? ⟨g, j * 5 + 4, none⟩ = some (.int .i64 z.over) ∧ w'.cell? ⟨b2, o2 + j * 4 + 2, none⟩ = some (.int .i64 ac.timer)) (go_keep)
  (first
   | (go_at_call 72; refine (run_any _ anyB _ _ _ _ p j { z with armed := false } ac.timer [] (HT.out.below (by first | exact HLW.out | exact HLW.out.drew)) (HP.out.below (by first | exact HLW.out | exact HLW.out.drew)) ⟨_, rfl, Ints.below HV.out (by first | exact bRefl _ | exact (bRefl _).drew)⟩ ⟨_, _, rfl, by simp, by simp, Or.inl rfl⟩).mono ?_; rintro e w4 ⟨u4, rfl, hres, hb4⟩; rw [← HRR.out] at hres; obtain ⟨cr, cn, rfl, hr1, hr2⟩ := hres; obtain ⟨C1, e1, rfl, _⟩ := hr1.form; obtain ⟨C2, e2, rfl, _⟩ := hr2.form; obtain ⟨hc4, hf4, hy4⟩ := (by first | exact olds (undrew hb4) | exact olds hb4); have HR1 := hid_mk hr1; have HR2 := hid_mk hr2; have HB4 := hid_mk (show Below w2.heap.size w2 w4 from (by first | exact undrew hb4 | exact hb4)); clear hr1 hr2 hb4; obtain ⟨s0, s1, s2, s3, s4, s5, s6, sf⟩ := blk7 (boxAt HX2'.out HB4.out)))
 all_goals
  go_wp2_with fail
  refine bodyPost_ret (v := .tuple #[.int .i64 (j : Int), .agg #[.slice C1 R.loc.regs.length e1, .bool R.loc.armed, .int .i64 R.loc.down, .int .i64 R.loc.sent, .int .i64 R.loc.over, .slice C2 R.notes.length e2, .int .i64 R.steps]]) (by simp [results, Tryz.results38, go_sem, s0, s1, s2, s3, s4, s5, s6]) rfl ⟨_, rfl, ?_, ?_, ?_⟩
  ·rw [calmP, locAt, getD_at HZ.out]
   exact ((HB2.out.below HB4.out).same (put7_same.weak fun b hb => by
    rcases hb with hb | hb
    ·exact hb.2
    ·show b ≠ W.heap.size + 2; omega)).weak fun _ hb => hb.1
  ·have hz := HB4.out.size
   have hs2 := HS2.out
   have hres : ResV (fun b => w2.heap.size ≤ b) w4 (.agg #[.slice C1 R.loc.regs.length e1, .bool R.loc.armed, .int .i64 R.loc.down, .int .i64 R.loc.sent, .int .i64 R.loc.over, .slice C2 R.notes.length e2, .int .i64 R.steps]) R := ⟨_, _, rfl, HR1.out, HR2.out⟩
   exact (hres.same (put7_same.weak fun b hb => by have hb' : w2.heap.size ≤ b := hb; show b ≠ W.heap.size + 2; omega)).weak fun b hb => by have hb' : w2.heap.size ≤ b := hb; show W.heap.size ≤ b; omega
  ·exact put7_ex (HE2.out.more HB4.out) (by omega)
end Go.Proofs.YtfbeiedhdmndnaaGreatDoor
namespace Go.Proofs.YtfbeiedhdmndnaaGreatDoor
open Go.RowKit
theorem PW.setUsed {N bo lo hi i : Nat} {W : World} {a m v : Value} {x : PWld} {u : PBud} (h : PW N bo lo hi W a m x) (hc : (#[a, m, .int .i64 x.used.drop, .int .i64 x.used.dup, .int .i64 x.used.time, .int .i64 x.used.crash] : Array Value).setIfInBounds i v = #[a, m, .int .i64 u.drop, .int .i64 u.dup, .int .i64 u.time, .int .i64 u.crash]) :
  PW N bo lo hi (W.setCell ⟨bo, i, none⟩ v) a m { x with used := u } := by
 have hnb := h.nb
 have hS : Same (fun d => d ≠ bo) W (W.setCell ⟨bo, i, none⟩ v) := setCell_same fun _ h => h
 refine ⟨(setCell_heap h.box).trans (by rw [hc]), h.acts.sameQ (hS.weak fun _ hb => hb.2.1), h.mail.same (hS.weak ?_) (hS.weak ?_), h.nb, h.le, by simpa [World.setCell] using h.hi, h.bo⟩
 ·rintro b ⟨h1, _⟩ rfl; exact hnb h1
 ·rintro b ⟨h1, _⟩ rfl; exact hnb h1
structure DK (wb : World) (y : PMsg) (u : Value) (mb : Nat) (wc : World) : Prop where
 box : wc.heap[mb]? = some (.cells #[.int .i64 y.id.f, .int .i64 y.id.n, .int .i64 y.id.c, .int .i64 y.nt.to, .int .i64 y.nt.hd, u] 90)
 low : Below wb.heap.size wb wc
 mb : wb.heap.size ≤ mb
section
variable {wb w2 : World} {y : PMsg} {u : Value}
theorem dk_a (hb : Below wb.drew.heap.size wb.drew w2) : DK wb y u w2.heap.size (w2.alloc (.cells #[.int .i64 y.id.f, .int .i64 y.id.n, .int .i64 y.id.c, .int .i64 y.nt.to, .int .i64 y.nt.hd, u] 90)) :=
 ⟨heap_new _ _, bAlloc (undrew hb) _, (undrew hb).size⟩
theorem dk_b (hb : Below (wb.alloc zM).drew.heap.size (wb.alloc zM).drew w2) : DK wb y u wb.heap.size (put6 w2 wb.heap.size (.int .i64 y.id.f) (.int .i64 y.id.n) (.int .i64 y.id.c) (.int .i64 y.nt.to) (.int .i64 y.nt.hd) u) :=
 ⟨put6_heap (((undrew hb).block _ (by simp)).trans (heap_new _ _)), put6_below (bTrans (bAlloc (bRefl _) _) (undrew hb)) (Nat.le_refl _), Nat.le_refl _⟩
end
set_option maxHeartbeats 8000000 in
set_option maxRecDepth 100000 in
theorem double_any (N bo lo hi : Nat) (W W0 : World) (vp a mv : Value) (p : PPrg) (x : PWld) (d : PID) (k : Nat) (y : PMsg) (hp : PrgV W0 vp p) (hlo : Below W0.heap.size W0 W) (hN : W0.heap.size ≤ N) (h : PW N bo lo hi W a mv x) (hf : fnd x.mail d = k) (hy : x.mail[k]? = some y) (hF : Few x.mail) (hsz : x.acts.length ≤ 1000) :
  Calls Tryz.prog 41 #[vp, .pointer (some ⟨bo, 0, none⟩), dV d] W fun e w' => e = .returned (.tuple #[]) ∧ (∃ a' m' lo' hi', PW N bo lo' hi' w' a' m' (dupP p x d)) ∧ Below N W w' := by
 have hD : dupP p x d = postG p { x with used := { x.used with dup := wrap64 (x.used.dup + 1) } } { y with id := { y.id with c := wrap64 (x.used.dup + 1) } } := by
  unfold dupP dupM msgOf
  rw [hf, Int.toNat_natCast, List.getD_eq_getElem?_getD, hy]; rfl
 rw [hD]
 have HP := hid_mk hp
 obtain ⟨vh, vb, vc, rfl, h1, h2, h3⟩ := hp
 obtain ⟨A1, c1, rfl, hl1⟩ := h1.form
 obtain ⟨A2, c2, rfl, hl2⟩ := h2.form
 obtain ⟨A3, c3, rfl, hl3⟩ := h3.form
 have hblt := h.blt
 have hkl : k < x.mail.length := (List.getElem?_eq_some_iff.1 hy).1
 have hki : (k : Int) < x.mail.length := by omega
 obtain ⟨B, dd, rfl, hlm⟩ := h.mail.form
 have HQ := hid_mk (And.intro hf (And.intro hy hF))
 have HLO := hid_mk (And.intro hlo hN)
 have HBA : Hid (∀ X Y, Below W.heap.size W ((W.alloc X).alloc Y)) := fun X Y => bAlloc (bAlloc (bRefl _) _) _
 have k3 := fun X Y => ((HBA.out X Y).cell (p := ⟨bo, 3, none⟩) hblt).trans (blk6 h.box).2.2.2.1
 have kf := fun X Y => ((HBA.out X Y).frozen (p := ⟨bo, 3, none⟩) hblt).trans (heap_frozen (i := 3) h.box)
 have hws : (W.setCell ⟨bo, 3, none⟩ (.int .i64 (wrap64 (x.used.dup + 1)))).heap.size = W.heap.size := by simp [World.setCell]
 have hA := two_new (W.setCell ⟨bo, 3, none⟩ (.int .i64 (wrap64 (x.used.dup + 1)))) (.cells #[.slice A1 p.hs.length c1, .slice A2 p.acs.length c2, .slice A3 p.bs.length c3, .int .i64 p.fuel] 26) (.cells #[.int .i64 d.f, .int .i64 d.n, .int .i64 d.c] 34)
 rw [hws] at hA
 have HPW := hid_mk h
 clear hws h1 h2 h3 h hf hy hF hlo hN
 go_enter Tryz.func41, Tryz.ntmps41
 go_wp2_with fail
 clear k3 kf
 have HPB : Hid (PW N bo lo hi (((W.setCell ⟨bo, 3, none⟩ (.int .i64 (wrap64 (x.used.dup + 1)))).alloc (.cells #[.slice A1 p.hs.length c1, .slice A2 p.acs.length c2, .slice A3 p.bs.length c3, .int .i64 p.fuel] 26)).alloc (.cells #[.int .i64 d.f, .int .i64 d.n, .int .i64 d.c] 34)) a (.slice B x.mail.length dd) { x with used := { x.used with dup := wrap64 (x.used.dup + 1) } }) :=
  (HPW.out.setUsed (u := { x.used with dup := wrap64 (x.used.dup + 1) }) (by simp)).below (bAlloc (bAlloc (bRefl _) _) _)
 have HE : Hid (Ex (fun b => b = bo) W (((W.setCell ⟨bo, 3, none⟩ (.int .i64 (wrap64 (x.used.dup + 1)))).alloc (.cells #[.slice A1 p.hs.length c1, .slice A2 p.acs.length c2, .slice A3 p.bs.length c3, .int .i64 p.fuel] 26)).alloc (.cells #[.int .i64 d.f, .int .i64 d.n, .int .i64 d.c] 34))) := (Ex.set (Z := fun b => b = bo) (Ex.refl W) rfl _).more (bAlloc (bAlloc (bRefl _) _) _)
 have HX0 := hid_mk hA.1
 have HX1 := hid_mk hA.2.1
 clear hA
 generalize (((W.setCell ⟨bo, 3, none⟩ (.int .i64 (wrap64 (x.used.dup + 1)))).alloc (.cells #[.slice A1 p.hs.length c1, .slice A2 p.acs.length c2, .slice A3 p.bs.length c3, .int .i64 p.fuel] 26)).alloc (.cells #[.int .i64 d.f, .int .i64 d.n, .int .i64 d.c] 34)) = wb at HPB HX0 HX1 HE ⊢
 have HM := hid_mk HPB.out.mail.any2
 obtain ⟨b1, o1, y', v1, rfl, hy', hlt1, q1, q2, q3, q4, q5, q6, hv1⟩ := HPB.out.mail.cell (bRefl wb) hkl
 have hyy : y = y' := Option.some.inj (HQ.out.2.1.symm.trans hy')
 subst hyy
 obtain ⟨V1, n1, rfl, _⟩ := hv1.form
 have HV1 := hid_mk (Ints.weak hv1 (ok' := anyB) fun _ _ => trivial)
 clear hy' hv1
 go_cut [6] (fun i6 wc => ∃ mb, i6 = .pointer (some ⟨mb, 0, none⟩) ∧ DK wb y (.slice V1 y.nt.args.length n1) mb wc)
 case first =>
  obtain ⟨d0, d1, d2, d3, d4, d5⟩ := blk6 HPB.out.box
  obtain ⟨i0, i1, i2⟩ := blk3 HX1.out
  have z1 : W.heap.size + 1 < wb.heap.size := (Array.getElem?_eq_some_iff.1 HX1.out).1
  have z2 : bo < wb.heap.size := HPB.out.blt
  have z4 : bo < wb.heap.size + 1 := by omega
  have z5 : W.heap.size + 1 < wb.heap.size + 1 := by omega
  have z6 : b1 < wb.heap.size + 1 := by omega
  have n2 : ¬ bo = wb.heap.size := by omega
  have n3 : ¬ W.heap.size + 1 = wb.heap.size := by omega
  have n4 : ¬ b1 = wb.heap.size := by omega
  have n5 : ¬ wb.heap.size = bo := by omega
  have n6 : ¬ wb.heap.size = W.heap.size + 1 := by omega
  have n7 : ¬ wb.heap.size = b1 := by omega
  have hbb : Below wb.heap.size wb wb := bRefl wb
  go_region_held3 (fun w' => w'.cell? ⟨bo, 1, none⟩ = some (.slice (some ⟨b1, o1, none⟩) x.mail.length dd) ∧ w'.cell? ⟨W.heap.size + 1, 0, none⟩ = some (.int .i64 d.f) ∧ w'.cell? ⟨W.heap.size + 1, 1, none⟩ = some (.int .i64 d.n) ∧ w'.cell? ⟨W.heap.size + 1, 2, none⟩ = some (.int .i64 d.c) ∧ w'.cell? ⟨b1, o1 + k * 6, none⟩ = some (.int .i64 y.id.f) ∧ w'.cell? ⟨b1, o1 + k * 6 + 1, none⟩ = some (.int .i64 y.id.n) ∧ w'.cell? ⟨b1, o1 + k * 6 + 2, none⟩ = some (.int .i64 y.id.c) ∧ w'.cell? ⟨b1, o1 + k * 6 + 3, none⟩ = some (.int .i64 y.nt.to) ∧ w'.cell? ⟨b1, o1 + k * 6 + 4, none⟩ = some (.int .i64 y.nt.hd) ∧ w'.cell? ⟨b1, o1 + k * 6 + 5, none⟩ = some (.slice V1 y.nt.args.length n1)) (go_keep)
   (first
    | (go_at_call 59; refine (find_any _ _ x.mail d (HM.out.below (by first | exact hbb | exact hbb.drew | exact bAlloc hbb _ | exact (bAlloc hbb _).drew | exact bAlloc hbb.drew _))).mono ?_; rw [HQ.out.1]; rintro e w2 ⟨rfl, hb2⟩; obtain ⟨hc2, hf2, hy2⟩ := (by first | exact olds (undrew hb2) | exact olds hb2); have hj2 := hb2.size; have HB2 := hid_mk hb2; have x1 : W.heap.size + 1 < w2.heap.size := (by (try simp at hj2); omega); have x2 : bo < w2.heap.size := (by (try simp at hj2); omega); have x3 : b1 < w2.heap.size := (by (try simp at hj2); omega); have m5 : ¬ bo = w2.heap.size := (by omega); have m6 : ¬ W.heap.size + 1 = w2.heap.size := (by omega); have m7 : ¬ w2.heap.size = bo := (by omega); have m8 : ¬ w2.heap.size = W.heap.size + 1 := (by omega); have m9 : ¬ w2.heap.size = b1 := (by omega); have m10 : ¬ b1 = w2.heap.size := (by omega); clear hb2))
  all_goals (go_wp2_with fail; go_meet)
  all_goals first
   | with_reducible exact ⟨_, rfl, dk_a HB2.out⟩
   | with_reducible exact ⟨_, rfl, dk_b HB2.out⟩
 case rest =>
  obtain ⟨mb, rfl, dk⟩ := hcut
  obtain ⟨d0, d1, d2, d3, d4, d5⟩ := blk6 (boxAt HPB.out.box dk.low)
  obtain ⟨p0, p1, p2, p3⟩ := blk4 (boxAt HX0.out dk.low)
  obtain ⟨m0, m1, m2, m3, m4, m5⟩ := blk6 dk.box
  have fm : ∀ o, wc.frozen? ⟨mb, o, none⟩ = false := fun o => heap_frozen dk.box
  have hmb := dk.mb
  have hbl := HPB.out.blt
  have hz0 : W.heap.size < wb.heap.size := (Array.getElem?_eq_some_iff.1 HX0.out).1
  have n2 : ¬ mb = bo := by omega
  have n3 : ¬ bo = mb := by omega
  have n4 : ¬ mb = W.heap.size := by omega
  have n5 : ¬ W.heap.size = mb := by omega
  have z1 : mb < wc.heap.size := (Array.getElem?_eq_some_iff.1 dk.box).1
  have HDK := hid_mk dk
  clear dk hlt1 q1 q2 q3 q4 q5 q6
  go_wp2_with fail
  have hBW : Below wb.heap.size wb (wc.setCell ⟨mb, 2, none⟩ (.int .i64 (wrap64 (x.used.dup + 1)))) := HDK.out.low.setCell (p := ⟨mb, 2, none⟩) hmb _
  have hNb := HPW.out.bo
  have hlow : Below W0.heap.size W0 wb := HLO.out.1.trans (HE.out.below HLO.out.1.size fun b hb => by have := HLO.out.2; show b ≠ bo; omega)
  have hlow2 : Below N W wb := HE.out.below (by omega) fun b hb => by show b ≠ bo; omega
  refine (post_any N bo lo hi _ _ a _ _ p { x with used := { x.used with dup := wrap64 (x.used.dup + 1) } } { y with id := { y.id with c := wrap64 (x.used.dup + 1) } } (HP.out.below (hlow.trans (hBW.mono hlow.size))) (HPB.out.below hBW) (HV1.out.below hBW) HQ.out.2.2 (HQ.out.2.2.2 y (List.mem_of_getElem? HQ.out.2.1)) hsz).mono ?_
  rintro e w5 ⟨rfl, hp5, hb5⟩
  go_wp2
  go_end0
  exact ⟨rfl, hp5, (hlow2.trans (hBW.mono (by omega))).trans hb5⟩
end Go.Proofs.YtfbeiedhdmndnaaGreatDoor
