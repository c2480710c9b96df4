/-
  May. Condition: the table of the instructions is in the world.
-/
import Derived.Test.YtpcffhhednplaaaDoorVr
namespace Go.Proofs.YtpcffhhednplaaaDoor
open Go.RowKit
attribute [local go_sem ↓] Go.wp_at_zero Go.wp_at_succ
open Classical in
noncomputable def mayB (p : PPrg) (who : Int) (l : PLoc) (h : Int) (args : List Int) : Bool := decide (mayP p who l h args)
theorem mayB_yes {p : PPrg} {who : Int} {l : PLoc} {h : Int} {args : List Int} (e : mayP p who l h args) : mayB p who l h args = true := by unfold mayB; exact @decide_eq_true _ (Classical.propDecidable _) e
theorem mayB_no {p : PPrg} {who : Int} {l : PLoc} {h : Int} {args : List Int} (e : ¬ mayP p who l h args) : mayB p who l h args = false := by unfold mayB; exact @decide_eq_false _ (Classical.propDecidable _) e
theorem within_is {n m : Int} (w : World) (h : 0 ≤ n ∧ n < m) : Calls Tryd.prog 24 #[.int .i64 n, .int .i64 m] w fun e w' => e = .returned (.bool true) ∧ w' = w := by
  have := vwithin_any n m w
  rw [decide_eq_true h] at this; exact this
theorem within_isnt {n m : Int} (w : World) (h : ¬ (0 ≤ n ∧ n < m)) : Calls Tryd.prog 24 #[.int .i64 n, .int .i64 m] w fun e w' => e = .returned (.bool false) ∧ w' = w := by
  have := vwithin_any n m w
  rw [decide_eq_false h] at this; exact this

set_option maxHeartbeats 1000000 in
set_option maxRecDepth 100000 in
theorem may_any (ok oka : Nat → Prop) (w : World) (v vl va : Value) (p : PPrg) (who : Int) (l : PLoc) (h : Int) (args : List Int) (ht : Tab w) (hp : PrgV w v p) (hl : LocV ok w vl l) (ha : Ints oka w va args) :
    Calls Tryd.prog 13 #[v, .int .i64 who, vl, .int .i64 h, va] w fun e w' => e = .returned (.bool (mayB p who l h args)) ∧ Below w.heap.size w w' := by
  have HP : Hid (PrgV w v p) := hp
  obtain ⟨v1, v2, v3, rfl, h1, h2, h3⟩ := hp
  obtain ⟨A1, c1, rfl, hl1⟩ := h1.form
  obtain ⟨A2, c2, rfl, hl2⟩ := h2.form
  obtain ⟨A3, c3, rfl, hl3⟩ := h3.form
  obtain ⟨vr, rfl, hr⟩ := hl
  obtain ⟨A4, c4, rfl, hl4⟩ := hr.form
  obtain ⟨A5, c5, rfl, hl5⟩ := ha.form
  have HT : Hid (Tab w) := ht
  have HB : Hid (Below w.heap.size w ((w.alloc (.cells #[.slice A1 p.hs.length c1, .slice A2 p.acs.length c2, .slice A3 p.bs.length c3, .int .i64 p.fuel] 26)).alloc (.cells #[.slice A4 l.regs.length c4, .bool l.armed, .int .i64 l.down, .int .i64 l.sent, .int .i64 l.over] 29))) := bAlloc (bAlloc (bRefl w) _) _
  clear ht h2 h3 hr ha
  by_cases e0 : fc p = 0
  · have e0' := ne0_no e0
    by_cases g0 : 0 ≤ who ∧ who < p.acs.length
    · by_cases g1 : 0 ≤ h ∧ h < p.hs.length
      · obtain ⟨k, rfl⟩ := Int.eq_ofNat_of_zero_le g1.1
        obtain ⟨b1, o1, x, u1, rfl, hx, hz1, q1, _, _⟩ := h1.cell (bRefl w) (k := k) (by omega)
        have hx2 : argsOf p.hs (k : Int) = x.args := argsOf_at hx
        have hk : k < p.hs.length := by omega
        have hzb : b1 < w.heap.size := by
          obtain ⟨b', o', e', _, hlt', _⟩ := h1.at (by omega)
          cases e'; exact hlt'
        have e1 : (decide ((args.length : Int) = x.args)) = ((args.length : Int) == x.args) := rfl
        have HM : Hid (mayB p who l (k : Int) args = (((args.length : Int) == x.args) && decide ((l.regs.length : Int) ≤ 8) && (l.down == 0))) := by
          show _ = _
          by_cases t1 : (args.length : Int) = x.args <;> by_cases t2 : (l.regs.length : Int) ≤ 8 <;> by_cases t3 : l.down = 0
          · rw [mayB_yes ⟨e0, g0, g1, by rw [hx2]; exact t1, by omega, t3⟩]; simp [t1, t2, t3]
          all_goals (rw [mayB_no (fun m => by have m1 := m.2.2.2.1; have m2 := m.2.2.2.2.1; have m3 := m.2.2.2.2.2; rw [hx2] at m1; first | exact t1 m1 | exact t3 m3 | (exact t2 (by omega)))]; simp [t1, t2, t3])
        have HG : Hid ((0 ≤ who ∧ who < p.acs.length) ∧ (0 ≤ (k : Int) ∧ (k : Int) < p.hs.length)) := ⟨g0, g1⟩
        clear hx h1 e0 g0 g1 e1 hx2
        by_cases t1 : (args.length : Int) = x.args
        · have e1 : ((args.length : Int) == x.args) = true := by simp [t1]
          by_cases t2 : (l.regs.length : Int) ≤ 8
          · by_cases t3 : l.down = 0
            · have e3 : (l.down == 0) = true := by simp [t3]
              have HM2 : Hid (mayB p who l (k : Int) args = true) := by show _ = _; rw [HM.out]; simp [*]
              clear HM t1 t3
              go_enter Tryd.func13, Tryd.ntmps13
              go_wp2_with fail
              refine (fcheck_any _ _ p (HT.out.below (by exact HB.out)) (HP.out.below (by exact HB.out))).mono ?_
              rintro e w1 ⟨rfl, hb1⟩
              have hc1 := bcell hb1
              have HB1 : Hid (Below w.heap.size w w1) := bTrans HB.out hb1
              have hz2 : w.heap.size + 1 < w1.heap.size := by have := hb1.size; simp at this; omega
              have q2 := (HB1.out.cell (p := ⟨b1, o1 + k * 2, none⟩) hzb).trans q1
              clear hb1
              go_wp2_with fail
              refine (within_is _ HG.out.1).mono ?_
              rintro e w2 ⟨rfl, rfl⟩
              go_wp2_with fail
              refine (within_is _ HG.out.2).mono ?_
              rintro e w2 ⟨rfl, rfl⟩
              go_wp2
              go_ret
              exact ⟨ret_b HM2.out.symm, HB1.out⟩
            · have e3 : (l.down == 0) = false := by simp [t3]
              have HM2 : Hid (mayB p who l (k : Int) args = false) := by show _ = _; rw [HM.out]; simp [*]
              clear HM t1
              go_enter Tryd.func13, Tryd.ntmps13
              go_wp2_with fail
              refine (fcheck_any _ _ p (HT.out.below (by exact HB.out)) (HP.out.below (by exact HB.out))).mono ?_
              rintro e w1 ⟨rfl, hb1⟩
              have hc1 := bcell hb1
              have HB1 : Hid (Below w.heap.size w w1) := bTrans HB.out hb1
              have hz2 : w.heap.size + 1 < w1.heap.size := by have := hb1.size; simp at this; omega
              have q2 := (HB1.out.cell (p := ⟨b1, o1 + k * 2, none⟩) hzb).trans q1
              clear hb1
              go_wp2_with fail
              refine (within_is _ HG.out.1).mono ?_
              rintro e w2 ⟨rfl, rfl⟩
              go_wp2_with fail
              refine (within_is _ HG.out.2).mono ?_
              rintro e w2 ⟨rfl, rfl⟩
              go_wp2
              go_ret
              exact ⟨ret_b HM2.out.symm, HB1.out⟩
          · have e2 : ¬ (l.regs.length : Int) ≤ 8 := t2
            have HM2 : Hid (mayB p who l (k : Int) args = false) := by show _ = _; rw [HM.out]; simp [*]
            clear HM t1
            go_enter Tryd.func13, Tryd.ntmps13
            go_wp2_with fail
            refine (fcheck_any _ _ p (HT.out.below (by exact HB.out)) (HP.out.below (by exact HB.out))).mono ?_
            rintro e w1 ⟨rfl, hb1⟩
            have hc1 := bcell hb1
            have HB1 : Hid (Below w.heap.size w w1) := bTrans HB.out hb1
            have hz2 : w.heap.size + 1 < w1.heap.size := by have := hb1.size; simp at this; omega
            have q2 := (HB1.out.cell (p := ⟨b1, o1 + k * 2, none⟩) hzb).trans q1
            clear hb1
            go_wp2_with fail
            refine (within_is _ HG.out.1).mono ?_
            rintro e w2 ⟨rfl, rfl⟩
            go_wp2_with fail
            refine (within_is _ HG.out.2).mono ?_
            rintro e w2 ⟨rfl, rfl⟩
            go_wp2
            go_ret
            exact ⟨ret_b HM2.out.symm, HB1.out⟩
        · have e1 : ((args.length : Int) == x.args) = false := by simp [t1]
          have HM2 : Hid (mayB p who l (k : Int) args = false) := by show _ = _; rw [HM.out]; simp [*]
          clear HM 
          go_enter Tryd.func13, Tryd.ntmps13
          go_wp2_with fail
          refine (fcheck_any _ _ p (HT.out.below (by exact HB.out)) (HP.out.below (by exact HB.out))).mono ?_
          rintro e w1 ⟨rfl, hb1⟩
          have hc1 := bcell hb1
          have HB1 : Hid (Below w.heap.size w w1) := bTrans HB.out hb1
          have hz2 : w.heap.size + 1 < w1.heap.size := by have := hb1.size; simp at this; omega
          have q2 := (HB1.out.cell (p := ⟨b1, o1 + k * 2, none⟩) hzb).trans q1
          clear hb1
          go_wp2_with fail
          refine (within_is _ HG.out.1).mono ?_
          rintro e w2 ⟨rfl, rfl⟩
          go_wp2_with fail
          refine (within_is _ HG.out.2).mono ?_
          rintro e w2 ⟨rfl, rfl⟩
          go_wp2
          go_ret
          exact ⟨ret_b HM2.out.symm, HB1.out⟩
      · have HM : Hid (mayB p who l h args = false) := mayB_no fun m => g1 m.2.2.1
        have HG : Hid ((0 ≤ who ∧ who < p.acs.length) ∧ ¬ (0 ≤ h ∧ h < p.hs.length)) := ⟨g0, g1⟩
        clear h1 e0 g0 g1
        go_enter Tryd.func13, Tryd.ntmps13
        go_wp2_with fail
        refine (fcheck_any _ _ p (HT.out.below (by exact HB.out)) (HP.out.below (by exact HB.out))).mono ?_
        rintro e w1 ⟨rfl, hb1⟩
        have hc1 := bcell hb1
        have HB1 : Hid (Below w.heap.size w w1) := bTrans HB.out hb1
        have hz2 : w.heap.size + 1 < w1.heap.size := by have := hb1.size; simp at this; omega
        clear hb1
        go_wp2_with fail
        refine (within_is _ HG.out.1).mono ?_
        rintro e w2 ⟨rfl, rfl⟩
        go_wp2_with fail
        refine (within_isnt _ HG.out.2).mono ?_
        rintro e w2 ⟨rfl, rfl⟩
        go_wp2
        go_ret
        exact ⟨ret_b HM.out.symm, HB1.out⟩
    · have HM : Hid (mayB p who l h args = false) := mayB_no fun m => g0 m.2.1
      have HG : Hid (¬ (0 ≤ who ∧ who < p.acs.length)) := g0
      clear h1 e0 g0
      go_enter Tryd.func13, Tryd.ntmps13
      go_wp2_with fail
      refine (fcheck_any _ _ p (HT.out.below (by exact HB.out)) (HP.out.below (by exact HB.out))).mono ?_
      rintro e w1 ⟨rfl, hb1⟩
      have hc1 := bcell hb1
      have HB1 : Hid (Below w.heap.size w w1) := bTrans HB.out hb1
      have hz2 : w.heap.size + 1 < w1.heap.size := by have := hb1.size; simp at this; omega
      clear hb1
      go_wp2_with fail
      refine (within_isnt _ HG.out).mono ?_
      rintro e w2 ⟨rfl, rfl⟩
      go_wp2
      go_ret
      exact ⟨ret_b HM.out.symm, HB1.out⟩
  · have e0' := ne0_yes e0
    have HM : Hid (mayB p who l h args = false) := mayB_no fun m => e0 m.1
    clear h1 e0
    go_enter Tryd.func13, Tryd.ntmps13
    go_wp2_with fail
    refine (fcheck_any _ _ p (HT.out.below (by exact HB.out)) (HP.out.below (by exact HB.out))).mono ?_
    rintro e w1 ⟨rfl, hb1⟩
    have hc1 := bcell hb1
    have HB1 : Hid (Below w.heap.size w w1) := bTrans HB.out hb1
    have hz2 : w.heap.size + 1 < w1.heap.size := by have := hb1.size; simp at this; omega
    clear hb1
    go_wp2
    go_ret
    exact ⟨ret_b HM.out.symm, HB1.out⟩
end Go.Proofs.YtpcffhhednplaaaDoor
