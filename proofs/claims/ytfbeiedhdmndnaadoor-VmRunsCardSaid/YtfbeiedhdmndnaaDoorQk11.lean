/-
  The switch of the reference's Run: each instruction comes to its own piece of code. No conditions. The pieces of the reference's Run, one an instruction, over a frame that is not written out. No conditions. The pieces of the reference's Run that put a number onto the stack. Condition: the stack is short. The pieces of the reference's Run that look into the stack, the arguments, the state. Condition: the stack is short. The pieces of the reference's Run with a condition in them. Condition: the stack is short.
-/
import Derived.Test.YtfbeiedhdmndnaaDoorQk10
namespace Go.Proofs.YtfbeiedhdmndnaaDoor
open Go.RowKit
attribute [local go_sem ↓] Go.wp_at_zero Go.wp_at_succ
set_option maxHeartbeats 1000000 in
theorem cmp_two {t1 t2 t3 t4 id id2 d1 d2 d3 : Nat} {p1 p2 p3 p4 : String} {f1 f2 f3 f4 : Array Edge} {k k2 op : Int} {leaf rest : Go.Code} {a : Act} {Q : Exit → Act → World → Prop} {w : World} (hs : a.tmps.size = 330) (h76 : a.tmps[76]? = some (.int .i64 op)) (h1 : 77 ≤ d1 ∧ d1 < 330 ∧ 77 ≤ d2 ∧ d2 < 330 ∧ 77 ≤ d3 ∧ d3 < 330)
    (H : ∀ b, Ag a b → (if op = k ∨ op = k2 then leaf else rest).wp Tryd.prog Q b w) :
    Go.Code.wp Tryd.prog (((Go.Code.region id #[{ dst := some d1, op := .binOp .eql 3 (.tmp 76) (.const (.int .i64 k)) 3, type := t1, pos := p1, after := f1, guard := none }, { dst := some d2, op := .assign (.tmp d1), type := t2, pos := p2, after := f2, guard := none }] false).seq (Go.Code.cond (.tmp d2) .skip (Go.Code.region id2 #[{ dst := some d3, op := .binOp .eql 3 (.tmp 76) (.const (.int .i64 k2)) 3, type := t3, pos := p3, after := f3, guard := none }, { dst := some d2, op := .assign (.tmp d3), type := t4, pos := p4, after := f4, guard := none }] false))).seq (Go.Code.cond (.tmp d2) leaf rest)) Q a w := by
  have h76' : a.tmps[76]'(by omega) = .int .i64 op := by
    rw [Array.getElem?_eq_getElem (by omega)] at h76
    exact Option.some.inj h76
  obtain ⟨g1, hd1, g2, hd2, g3, hd3⟩ := h1
  have n1 : d1 ≠ 76 := by omega
  have n2 : d2 ≠ 76 := by omega
  by_cases e : op = k
  · have HH := H _ (((Ag.refl hs).put g1 (.bool (op == k))).put g2 (.bool (op == k)))
    rw [if_pos (Or.inl e)] at HH
    have eb : (op == k) = true := by simp [e]
    rw [eb] at HH
    clear H h76
    go_wp2
    refine wp_cond_true (by simp [Act.eval, hs, hd2]) ?_
    go_wp2
    refine wp_cond_true (by simp [Act.eval, hs, hd2]) ?_
    exact HH
  · have HH := H _ (((((Ag.refl hs).put g1 (.bool false)).put g2 (.bool false)).put g3 (.bool (op == k2))).put g2 (.bool (op == k2)))
    have eb : (op == k) = false := by simp [e]
    clear H h76
    go_wp2
    refine wp_cond_false (by simp [Act.eval, hs, hd2]) ?_
    go_wp2
    refine wp_cond (t := op == k2) (by simp [Act.eval, hs, hd2]) ?_
    have e2 : (if (op == k2) = true then leaf else rest) = (if op = k ∨ op = k2 then leaf else rest) := by simp [e]
    rw [e2]
    exact HH
noncomputable def nd0 : Go.Code := sw
noncomputable def lf1 : Go.Code := cT (cBV nd0)
noncomputable def nd1 : Go.Code := cE (cBV nd0)
noncomputable def lf2 : Go.Code := cT (cBV nd1)
noncomputable def nd2 : Go.Code := cE (cBV nd1)
noncomputable def lf3 : Go.Code := cT (cBV nd2)
noncomputable def nd3 : Go.Code := cE (cBV nd2)
noncomputable def lf4 : Go.Code := cT (cBV nd3)
noncomputable def nd4 : Go.Code := cE (cBV nd3)
noncomputable def lf5 : Go.Code := cT (cBV nd4)
noncomputable def nd5 : Go.Code := cE (cBV nd4)
noncomputable def lf6 : Go.Code := cT (cBV nd5)
noncomputable def nd6 : Go.Code := cE (cBV nd5)
noncomputable def lf7 : Go.Code := cT (cBV nd6)
noncomputable def nd7 : Go.Code := cE (cBV nd6)
noncomputable def lf8 : Go.Code := cT (cBV nd7)
noncomputable def nd8 : Go.Code := cE (cBV nd7)
noncomputable def lf14 : Go.Code := cT (cBV nd8)
noncomputable def nd9 : Go.Code := cE (cBV nd8)
noncomputable def lf20 : Go.Code := cT (cBV nd9)
noncomputable def nd10 : Go.Code := cE (cBV nd9)
noncomputable def lf21 : Go.Code := cT (cBV nd10)
noncomputable def nd11 : Go.Code := cE (cBV nd10)
noncomputable def lf22 : Go.Code := cT (cBV nd11)
noncomputable def nd12 : Go.Code := cE (cBV nd11)
noncomputable def lf23 : Go.Code := cT (cBV nd12)
noncomputable def nd13 : Go.Code := cE (cBV nd12)
noncomputable def lf24 : Go.Code := cT (cBV nd13)
noncomputable def nd14 : Go.Code := cE (cBV nd13)
noncomputable def lf25 : Go.Code := cT (cBV nd14)
noncomputable def nd15 : Go.Code := cE (cBV nd14)
theorem sw_1 {a : Act} {Q : Exit → Act → World → Prop} {w : World} (hs : a.tmps.size = 330) (h76 : a.tmps[76]? = some (.int .i64 1)) (H : ∀ b, Ag a b → lf1.wp Tryd.prog Q b w) : sw.wp Tryd.prog Q a w := by
  unfold sw
  simp only [Tryd.f12, Option.getD_some, cBV, cAV, cI]
  refine cmp_yes hs h76 rfl (by decide) fun b0 g0 => ?_
  exact H b0 (g0)
theorem sw_2 {a : Act} {Q : Exit → Act → World → Prop} {w : World} (hs : a.tmps.size = 330) (h76 : a.tmps[76]? = some (.int .i64 2)) (H : ∀ b, Ag a b → lf2.wp Tryd.prog Q b w) : sw.wp Tryd.prog Q a w := by
  unfold sw
  simp only [Tryd.f12, Option.getD_some, cBV, cAV, cI]
  refine cmp_no hs h76 (by decide) (by decide) fun b0 g0' => ?_
  have g0 := g0'
  refine cmp_yes g0.1 ((g0.2.2 76 (by decide)).trans h76) rfl (by decide) fun b1 g1 => ?_
  exact H b1 (g0.trans g1)
theorem sw_3 {a : Act} {Q : Exit → Act → World → Prop} {w : World} (hs : a.tmps.size = 330) (h76 : a.tmps[76]? = some (.int .i64 3)) (H : ∀ b, Ag a b → lf3.wp Tryd.prog Q b w) : sw.wp Tryd.prog Q a w := by
  unfold sw
  simp only [Tryd.f12, Option.getD_some, cBV, cAV, cI]
  refine cmp_no hs h76 (by decide) (by decide) fun b0 g0' => ?_
  have g0 := g0'
  refine cmp_no g0.1 ((g0.2.2 76 (by decide)).trans h76) (by decide) (by decide) fun b1 g1' => ?_
  have g1 := g0.trans g1'
  refine cmp_yes g1.1 ((g1.2.2 76 (by decide)).trans h76) rfl (by decide) fun b2 g2 => ?_
  exact H b2 (g1.trans g2)
theorem sw_4 {a : Act} {Q : Exit → Act → World → Prop} {w : World} (hs : a.tmps.size = 330) (h76 : a.tmps[76]? = some (.int .i64 4)) (H : ∀ b, Ag a b → lf4.wp Tryd.prog Q b w) : sw.wp Tryd.prog Q a w := by
  unfold sw
  simp only [Tryd.f12, Option.getD_some, cBV, cAV, cI]
  refine cmp_no hs h76 (by decide) (by decide) fun b0 g0' => ?_
  have g0 := g0'
  refine cmp_no g0.1 ((g0.2.2 76 (by decide)).trans h76) (by decide) (by decide) fun b1 g1' => ?_
  have g1 := g0.trans g1'
  refine cmp_no g1.1 ((g1.2.2 76 (by decide)).trans h76) (by decide) (by decide) fun b2 g2' => ?_
  have g2 := g1.trans g2'
  refine cmp_yes g2.1 ((g2.2.2 76 (by decide)).trans h76) rfl (by decide) fun b3 g3 => ?_
  exact H b3 (g2.trans g3)
theorem sw_5 {a : Act} {Q : Exit → Act → World → Prop} {w : World} (hs : a.tmps.size = 330) (h76 : a.tmps[76]? = some (.int .i64 5)) (H : ∀ b, Ag a b → lf5.wp Tryd.prog Q b w) : sw.wp Tryd.prog Q a w := by
  unfold sw
  simp only [Tryd.f12, Option.getD_some, cBV, cAV, cI]
  refine cmp_no hs h76 (by decide) (by decide) fun b0 g0' => ?_
  have g0 := g0'
  refine cmp_no g0.1 ((g0.2.2 76 (by decide)).trans h76) (by decide) (by decide) fun b1 g1' => ?_
  have g1 := g0.trans g1'
  refine cmp_no g1.1 ((g1.2.2 76 (by decide)).trans h76) (by decide) (by decide) fun b2 g2' => ?_
  have g2 := g1.trans g2'
  refine cmp_no g2.1 ((g2.2.2 76 (by decide)).trans h76) (by decide) (by decide) fun b3 g3' => ?_
  have g3 := g2.trans g3'
  refine cmp_yes g3.1 ((g3.2.2 76 (by decide)).trans h76) rfl (by decide) fun b4 g4 => ?_
  exact H b4 (g3.trans g4)
theorem sw_6 {a : Act} {Q : Exit → Act → World → Prop} {w : World} (hs : a.tmps.size = 330) (h76 : a.tmps[76]? = some (.int .i64 6)) (H : ∀ b, Ag a b → lf6.wp Tryd.prog Q b w) : sw.wp Tryd.prog Q a w := by
  unfold sw
  simp only [Tryd.f12, Option.getD_some, cBV, cAV, cI]
  refine cmp_no hs h76 (by decide) (by decide) fun b0 g0' => ?_
  have g0 := g0'
  refine cmp_no g0.1 ((g0.2.2 76 (by decide)).trans h76) (by decide) (by decide) fun b1 g1' => ?_
  have g1 := g0.trans g1'
  refine cmp_no g1.1 ((g1.2.2 76 (by decide)).trans h76) (by decide) (by decide) fun b2 g2' => ?_
  have g2 := g1.trans g2'
  refine cmp_no g2.1 ((g2.2.2 76 (by decide)).trans h76) (by decide) (by decide) fun b3 g3' => ?_
  have g3 := g2.trans g3'
  refine cmp_no g3.1 ((g3.2.2 76 (by decide)).trans h76) (by decide) (by decide) fun b4 g4' => ?_
  have g4 := g3.trans g4'
  refine cmp_yes g4.1 ((g4.2.2 76 (by decide)).trans h76) rfl (by decide) fun b5 g5 => ?_
  exact H b5 (g4.trans g5)
theorem sw_7 {a : Act} {Q : Exit → Act → World → Prop} {w : World} (hs : a.tmps.size = 330) (h76 : a.tmps[76]? = some (.int .i64 7)) (H : ∀ b, Ag a b → lf7.wp Tryd.prog Q b w) : sw.wp Tryd.prog Q a w := by
  unfold sw
  simp only [Tryd.f12, Option.getD_some, cBV, cAV, cI]
  refine cmp_no hs h76 (by decide) (by decide) fun b0 g0' => ?_
  have g0 := g0'
  refine cmp_no g0.1 ((g0.2.2 76 (by decide)).trans h76) (by decide) (by decide) fun b1 g1' => ?_
  have g1 := g0.trans g1'
  refine cmp_no g1.1 ((g1.2.2 76 (by decide)).trans h76) (by decide) (by decide) fun b2 g2' => ?_
  have g2 := g1.trans g2'
  refine cmp_no g2.1 ((g2.2.2 76 (by decide)).trans h76) (by decide) (by decide) fun b3 g3' => ?_
  have g3 := g2.trans g3'
  refine cmp_no g3.1 ((g3.2.2 76 (by decide)).trans h76) (by decide) (by decide) fun b4 g4' => ?_
  have g4 := g3.trans g4'
  refine cmp_no g4.1 ((g4.2.2 76 (by decide)).trans h76) (by decide) (by decide) fun b5 g5' => ?_
  have g5 := g4.trans g5'
  refine cmp_yes g5.1 ((g5.2.2 76 (by decide)).trans h76) rfl (by decide) fun b6 g6 => ?_
  exact H b6 (g5.trans g6)
theorem sw_8 {a : Act} {Q : Exit → Act → World → Prop} {w : World} (hs : a.tmps.size = 330) (h76 : a.tmps[76]? = some (.int .i64 8)) (H : ∀ b, Ag a b → lf8.wp Tryd.prog Q b w) : sw.wp Tryd.prog Q a w := by
  unfold sw
  simp only [Tryd.f12, Option.getD_some, cBV, cAV, cI]
  refine cmp_no hs h76 (by decide) (by decide) fun b0 g0' => ?_
  have g0 := g0'
  refine cmp_no g0.1 ((g0.2.2 76 (by decide)).trans h76) (by decide) (by decide) fun b1 g1' => ?_
  have g1 := g0.trans g1'
  refine cmp_no g1.1 ((g1.2.2 76 (by decide)).trans h76) (by decide) (by decide) fun b2 g2' => ?_
  have g2 := g1.trans g2'
  refine cmp_no g2.1 ((g2.2.2 76 (by decide)).trans h76) (by decide) (by decide) fun b3 g3' => ?_
  have g3 := g2.trans g3'
  refine cmp_no g3.1 ((g3.2.2 76 (by decide)).trans h76) (by decide) (by decide) fun b4 g4' => ?_
  have g4 := g3.trans g4'
  refine cmp_no g4.1 ((g4.2.2 76 (by decide)).trans h76) (by decide) (by decide) fun b5 g5' => ?_
  have g5 := g4.trans g5'
  refine cmp_no g5.1 ((g5.2.2 76 (by decide)).trans h76) (by decide) (by decide) fun b6 g6' => ?_
  have g6 := g5.trans g6'
  refine cmp_yes g6.1 ((g6.2.2 76 (by decide)).trans h76) rfl (by decide) fun b7 g7 => ?_
  exact H b7 (g6.trans g7)
theorem sw_14 {a : Act} {Q : Exit → Act → World → Prop} {w : World} (hs : a.tmps.size = 330) (h76 : a.tmps[76]? = some (.int .i64 14)) (H : ∀ b, Ag a b → lf14.wp Tryd.prog Q b w) : sw.wp Tryd.prog Q a w := by
  unfold sw
  simp only [Tryd.f12, Option.getD_some, cBV, cAV, cI]
  refine cmp_no hs h76 (by decide) (by decide) fun b0 g0' => ?_
  have g0 := g0'
  refine cmp_no g0.1 ((g0.2.2 76 (by decide)).trans h76) (by decide) (by decide) fun b1 g1' => ?_
  have g1 := g0.trans g1'
  refine cmp_no g1.1 ((g1.2.2 76 (by decide)).trans h76) (by decide) (by decide) fun b2 g2' => ?_
  have g2 := g1.trans g2'
  refine cmp_no g2.1 ((g2.2.2 76 (by decide)).trans h76) (by decide) (by decide) fun b3 g3' => ?_
  have g3 := g2.trans g3'
  refine cmp_no g3.1 ((g3.2.2 76 (by decide)).trans h76) (by decide) (by decide) fun b4 g4' => ?_
  have g4 := g3.trans g4'
  refine cmp_no g4.1 ((g4.2.2 76 (by decide)).trans h76) (by decide) (by decide) fun b5 g5' => ?_
  have g5 := g4.trans g5'
  refine cmp_no g5.1 ((g5.2.2 76 (by decide)).trans h76) (by decide) (by decide) fun b6 g6' => ?_
  have g6 := g5.trans g6'
  refine cmp_no g6.1 ((g6.2.2 76 (by decide)).trans h76) (by decide) (by decide) fun b7 g7' => ?_
  have g7 := g6.trans g7'
  refine cmp_two g7.1 ((g7.2.2 76 (by decide)).trans h76) (by decide) fun b8 g8 => ?_
  rw [if_pos (by decide)]
  exact H b8 (g7.trans g8)
theorem sw_19 {a : Act} {Q : Exit → Act → World → Prop} {w : World} (hs : a.tmps.size = 330) (h76 : a.tmps[76]? = some (.int .i64 19)) (H : ∀ b, Ag a b → lf14.wp Tryd.prog Q b w) : sw.wp Tryd.prog Q a w := by
  unfold sw
  simp only [Tryd.f12, Option.getD_some, cBV, cAV, cI]
  refine cmp_no hs h76 (by decide) (by decide) fun b0 g0' => ?_
  have g0 := g0'
  refine cmp_no g0.1 ((g0.2.2 76 (by decide)).trans h76) (by decide) (by decide) fun b1 g1' => ?_
  have g1 := g0.trans g1'
  refine cmp_no g1.1 ((g1.2.2 76 (by decide)).trans h76) (by decide) (by decide) fun b2 g2' => ?_
  have g2 := g1.trans g2'
  refine cmp_no g2.1 ((g2.2.2 76 (by decide)).trans h76) (by decide) (by decide) fun b3 g3' => ?_
  have g3 := g2.trans g3'
  refine cmp_no g3.1 ((g3.2.2 76 (by decide)).trans h76) (by decide) (by decide) fun b4 g4' => ?_
  have g4 := g3.trans g4'
  refine cmp_no g4.1 ((g4.2.2 76 (by decide)).trans h76) (by decide) (by decide) fun b5 g5' => ?_
  have g5 := g4.trans g5'
  refine cmp_no g5.1 ((g5.2.2 76 (by decide)).trans h76) (by decide) (by decide) fun b6 g6' => ?_
  have g6 := g5.trans g6'
  refine cmp_no g6.1 ((g6.2.2 76 (by decide)).trans h76) (by decide) (by decide) fun b7 g7' => ?_
  have g7 := g6.trans g7'
  refine cmp_two g7.1 ((g7.2.2 76 (by decide)).trans h76) (by decide) fun b8 g8 => ?_
  rw [if_pos (by decide)]
  exact H b8 (g7.trans g8)
theorem sw_20 {a : Act} {Q : Exit → Act → World → Prop} {w : World} (hs : a.tmps.size = 330) (h76 : a.tmps[76]? = some (.int .i64 20)) (H : ∀ b, Ag a b → lf20.wp Tryd.prog Q b w) : sw.wp Tryd.prog Q a w := by
  unfold sw
  simp only [Tryd.f12, Option.getD_some, cBV, cAV, cI]
  refine cmp_no hs h76 (by decide) (by decide) fun b0 g0' => ?_
  have g0 := g0'
  refine cmp_no g0.1 ((g0.2.2 76 (by decide)).trans h76) (by decide) (by decide) fun b1 g1' => ?_
  have g1 := g0.trans g1'
  refine cmp_no g1.1 ((g1.2.2 76 (by decide)).trans h76) (by decide) (by decide) fun b2 g2' => ?_
  have g2 := g1.trans g2'
  refine cmp_no g2.1 ((g2.2.2 76 (by decide)).trans h76) (by decide) (by decide) fun b3 g3' => ?_
  have g3 := g2.trans g3'
  refine cmp_no g3.1 ((g3.2.2 76 (by decide)).trans h76) (by decide) (by decide) fun b4 g4' => ?_
  have g4 := g3.trans g4'
  refine cmp_no g4.1 ((g4.2.2 76 (by decide)).trans h76) (by decide) (by decide) fun b5 g5' => ?_
  have g5 := g4.trans g5'
  refine cmp_no g5.1 ((g5.2.2 76 (by decide)).trans h76) (by decide) (by decide) fun b6 g6' => ?_
  have g6 := g5.trans g6'
  refine cmp_no g6.1 ((g6.2.2 76 (by decide)).trans h76) (by decide) (by decide) fun b7 g7' => ?_
  have g7 := g6.trans g7'
  refine cmp_two g7.1 ((g7.2.2 76 (by decide)).trans h76) (by decide) fun b8 g8' => ?_
  rw [if_neg (by decide)]
  have g8 := g7.trans g8'
  refine cmp_yes g8.1 ((g8.2.2 76 (by decide)).trans h76) rfl (by decide) fun b9 g9 => ?_
  exact H b9 (g8.trans g9)
theorem sw_21 {a : Act} {Q : Exit → Act → World → Prop} {w : World} (hs : a.tmps.size = 330) (h76 : a.tmps[76]? = some (.int .i64 21)) (H : ∀ b, Ag a b → lf21.wp Tryd.prog Q b w) : sw.wp Tryd.prog Q a w := by
  unfold sw
  simp only [Tryd.f12, Option.getD_some, cBV, cAV, cI]
  refine cmp_no hs h76 (by decide) (by decide) fun b0 g0' => ?_
  have g0 := g0'
  refine cmp_no g0.1 ((g0.2.2 76 (by decide)).trans h76) (by decide) (by decide) fun b1 g1' => ?_
  have g1 := g0.trans g1'
  refine cmp_no g1.1 ((g1.2.2 76 (by decide)).trans h76) (by decide) (by decide) fun b2 g2' => ?_
  have g2 := g1.trans g2'
  refine cmp_no g2.1 ((g2.2.2 76 (by decide)).trans h76) (by decide) (by decide) fun b3 g3' => ?_
  have g3 := g2.trans g3'
  refine cmp_no g3.1 ((g3.2.2 76 (by decide)).trans h76) (by decide) (by decide) fun b4 g4' => ?_
  have g4 := g3.trans g4'
  refine cmp_no g4.1 ((g4.2.2 76 (by decide)).trans h76) (by decide) (by decide) fun b5 g5' => ?_
  have g5 := g4.trans g5'
  refine cmp_no g5.1 ((g5.2.2 76 (by decide)).trans h76) (by decide) (by decide) fun b6 g6' => ?_
  have g6 := g5.trans g6'
  refine cmp_no g6.1 ((g6.2.2 76 (by decide)).trans h76) (by decide) (by decide) fun b7 g7' => ?_
  have g7 := g6.trans g7'
  refine cmp_two g7.1 ((g7.2.2 76 (by decide)).trans h76) (by decide) fun b8 g8' => ?_
  rw [if_neg (by decide)]
  have g8 := g7.trans g8'
  refine cmp_no g8.1 ((g8.2.2 76 (by decide)).trans h76) (by decide) (by decide) fun b9 g9' => ?_
  have g9 := g8.trans g9'
  refine cmp_yes g9.1 ((g9.2.2 76 (by decide)).trans h76) rfl (by decide) fun b10 g10 => ?_
  exact H b10 (g9.trans g10)
theorem sw_22 {a : Act} {Q : Exit → Act → World → Prop} {w : World} (hs : a.tmps.size = 330) (h76 : a.tmps[76]? = some (.int .i64 22)) (H : ∀ b, Ag a b → lf22.wp Tryd.prog Q b w) : sw.wp Tryd.prog Q a w := by
  unfold sw
  simp only [Tryd.f12, Option.getD_some, cBV, cAV, cI]
  refine cmp_no hs h76 (by decide) (by decide) fun b0 g0' => ?_
  have g0 := g0'
  refine cmp_no g0.1 ((g0.2.2 76 (by decide)).trans h76) (by decide) (by decide) fun b1 g1' => ?_
  have g1 := g0.trans g1'
  refine cmp_no g1.1 ((g1.2.2 76 (by decide)).trans h76) (by decide) (by decide) fun b2 g2' => ?_
  have g2 := g1.trans g2'
  refine cmp_no g2.1 ((g2.2.2 76 (by decide)).trans h76) (by decide) (by decide) fun b3 g3' => ?_
  have g3 := g2.trans g3'
  refine cmp_no g3.1 ((g3.2.2 76 (by decide)).trans h76) (by decide) (by decide) fun b4 g4' => ?_
  have g4 := g3.trans g4'
  refine cmp_no g4.1 ((g4.2.2 76 (by decide)).trans h76) (by decide) (by decide) fun b5 g5' => ?_
  have g5 := g4.trans g5'
  refine cmp_no g5.1 ((g5.2.2 76 (by decide)).trans h76) (by decide) (by decide) fun b6 g6' => ?_
  have g6 := g5.trans g6'
  refine cmp_no g6.1 ((g6.2.2 76 (by decide)).trans h76) (by decide) (by decide) fun b7 g7' => ?_
  have g7 := g6.trans g7'
  refine cmp_two g7.1 ((g7.2.2 76 (by decide)).trans h76) (by decide) fun b8 g8' => ?_
  rw [if_neg (by decide)]
  have g8 := g7.trans g8'
  refine cmp_no g8.1 ((g8.2.2 76 (by decide)).trans h76) (by decide) (by decide) fun b9 g9' => ?_
  have g9 := g8.trans g9'
  refine cmp_no g9.1 ((g9.2.2 76 (by decide)).trans h76) (by decide) (by decide) fun b10 g10' => ?_
  have g10 := g9.trans g10'
  refine cmp_yes g10.1 ((g10.2.2 76 (by decide)).trans h76) rfl (by decide) fun b11 g11 => ?_
  exact H b11 (g10.trans g11)
theorem sw_23 {a : Act} {Q : Exit → Act → World → Prop} {w : World} (hs : a.tmps.size = 330) (h76 : a.tmps[76]? = some (.int .i64 23)) (H : ∀ b, Ag a b → lf23.wp Tryd.prog Q b w) : sw.wp Tryd.prog Q a w := by
  unfold sw
  simp only [Tryd.f12, Option.getD_some, cBV, cAV, cI]
  refine cmp_no hs h76 (by decide) (by decide) fun b0 g0' => ?_
  have g0 := g0'
  refine cmp_no g0.1 ((g0.2.2 76 (by decide)).trans h76) (by decide) (by decide) fun b1 g1' => ?_
  have g1 := g0.trans g1'
  refine cmp_no g1.1 ((g1.2.2 76 (by decide)).trans h76) (by decide) (by decide) fun b2 g2' => ?_
  have g2 := g1.trans g2'
  refine cmp_no g2.1 ((g2.2.2 76 (by decide)).trans h76) (by decide) (by decide) fun b3 g3' => ?_
  have g3 := g2.trans g3'
  refine cmp_no g3.1 ((g3.2.2 76 (by decide)).trans h76) (by decide) (by decide) fun b4 g4' => ?_
  have g4 := g3.trans g4'
  refine cmp_no g4.1 ((g4.2.2 76 (by decide)).trans h76) (by decide) (by decide) fun b5 g5' => ?_
  have g5 := g4.trans g5'
  refine cmp_no g5.1 ((g5.2.2 76 (by decide)).trans h76) (by decide) (by decide) fun b6 g6' => ?_
  have g6 := g5.trans g6'
  refine cmp_no g6.1 ((g6.2.2 76 (by decide)).trans h76) (by decide) (by decide) fun b7 g7' => ?_
  have g7 := g6.trans g7'
  refine cmp_two g7.1 ((g7.2.2 76 (by decide)).trans h76) (by decide) fun b8 g8' => ?_
  rw [if_neg (by decide)]
  have g8 := g7.trans g8'
  refine cmp_no g8.1 ((g8.2.2 76 (by decide)).trans h76) (by decide) (by decide) fun b9 g9' => ?_
  have g9 := g8.trans g9'
  refine cmp_no g9.1 ((g9.2.2 76 (by decide)).trans h76) (by decide) (by decide) fun b10 g10' => ?_
  have g10 := g9.trans g10'
  refine cmp_no g10.1 ((g10.2.2 76 (by decide)).trans h76) (by decide) (by decide) fun b11 g11' => ?_
  have g11 := g10.trans g11'
  refine cmp_yes g11.1 ((g11.2.2 76 (by decide)).trans h76) rfl (by decide) fun b12 g12 => ?_
  exact H b12 (g11.trans g12)
theorem sw_24 {a : Act} {Q : Exit → Act → World → Prop} {w : World} (hs : a.tmps.size = 330) (h76 : a.tmps[76]? = some (.int .i64 24)) (H : ∀ b, Ag a b → lf24.wp Tryd.prog Q b w) : sw.wp Tryd.prog Q a w := by
  unfold sw
  simp only [Tryd.f12, Option.getD_some, cBV, cAV, cI]
  refine cmp_no hs h76 (by decide) (by decide) fun b0 g0' => ?_
  have g0 := g0'
  refine cmp_no g0.1 ((g0.2.2 76 (by decide)).trans h76) (by decide) (by decide) fun b1 g1' => ?_
  have g1 := g0.trans g1'
  refine cmp_no g1.1 ((g1.2.2 76 (by decide)).trans h76) (by decide) (by decide) fun b2 g2' => ?_
  have g2 := g1.trans g2'
  refine cmp_no g2.1 ((g2.2.2 76 (by decide)).trans h76) (by decide) (by decide) fun b3 g3' => ?_
  have g3 := g2.trans g3'
  refine cmp_no g3.1 ((g3.2.2 76 (by decide)).trans h76) (by decide) (by decide) fun b4 g4' => ?_
  have g4 := g3.trans g4'
  refine cmp_no g4.1 ((g4.2.2 76 (by decide)).trans h76) (by decide) (by decide) fun b5 g5' => ?_
  have g5 := g4.trans g5'
  refine cmp_no g5.1 ((g5.2.2 76 (by decide)).trans h76) (by decide) (by decide) fun b6 g6' => ?_
  have g6 := g5.trans g6'
  refine cmp_no g6.1 ((g6.2.2 76 (by decide)).trans h76) (by decide) (by decide) fun b7 g7' => ?_
  have g7 := g6.trans g7'
  refine cmp_two g7.1 ((g7.2.2 76 (by decide)).trans h76) (by decide) fun b8 g8' => ?_
  rw [if_neg (by decide)]
  have g8 := g7.trans g8'
  refine cmp_no g8.1 ((g8.2.2 76 (by decide)).trans h76) (by decide) (by decide) fun b9 g9' => ?_
  have g9 := g8.trans g9'
  refine cmp_no g9.1 ((g9.2.2 76 (by decide)).trans h76) (by decide) (by decide) fun b10 g10' => ?_
  have g10 := g9.trans g10'
  refine cmp_no g10.1 ((g10.2.2 76 (by decide)).trans h76) (by decide) (by decide) fun b11 g11' => ?_
  have g11 := g10.trans g11'
  refine cmp_no g11.1 ((g11.2.2 76 (by decide)).trans h76) (by decide) (by decide) fun b12 g12' => ?_
  have g12 := g11.trans g12'
  refine cmp_yes g12.1 ((g12.2.2 76 (by decide)).trans h76) rfl (by decide) fun b13 g13 => ?_
  exact H b13 (g12.trans g13)
theorem sw_25 {a : Act} {Q : Exit → Act → World → Prop} {w : World} (hs : a.tmps.size = 330) (h76 : a.tmps[76]? = some (.int .i64 25)) (H : ∀ b, Ag a b → lf25.wp Tryd.prog Q b w) : sw.wp Tryd.prog Q a w := by
  unfold sw
  simp only [Tryd.f12, Option.getD_some, cBV, cAV, cI]
  refine cmp_no hs h76 (by decide) (by decide) fun b0 g0' => ?_
  have g0 := g0'
  refine cmp_no g0.1 ((g0.2.2 76 (by decide)).trans h76) (by decide) (by decide) fun b1 g1' => ?_
  have g1 := g0.trans g1'
  refine cmp_no g1.1 ((g1.2.2 76 (by decide)).trans h76) (by decide) (by decide) fun b2 g2' => ?_
  have g2 := g1.trans g2'
  refine cmp_no g2.1 ((g2.2.2 76 (by decide)).trans h76) (by decide) (by decide) fun b3 g3' => ?_
  have g3 := g2.trans g3'
  refine cmp_no g3.1 ((g3.2.2 76 (by decide)).trans h76) (by decide) (by decide) fun b4 g4' => ?_
  have g4 := g3.trans g4'
  refine cmp_no g4.1 ((g4.2.2 76 (by decide)).trans h76) (by decide) (by decide) fun b5 g5' => ?_
  have g5 := g4.trans g5'
  refine cmp_no g5.1 ((g5.2.2 76 (by decide)).trans h76) (by decide) (by decide) fun b6 g6' => ?_
  have g6 := g5.trans g6'
  refine cmp_no g6.1 ((g6.2.2 76 (by decide)).trans h76) (by decide) (by decide) fun b7 g7' => ?_
  have g7 := g6.trans g7'
  refine cmp_two g7.1 ((g7.2.2 76 (by decide)).trans h76) (by decide) fun b8 g8' => ?_
  rw [if_neg (by decide)]
  have g8 := g7.trans g8'
  refine cmp_no g8.1 ((g8.2.2 76 (by decide)).trans h76) (by decide) (by decide) fun b9 g9' => ?_
  have g9 := g8.trans g9'
  refine cmp_no g9.1 ((g9.2.2 76 (by decide)).trans h76) (by decide) (by decide) fun b10 g10' => ?_
  have g10 := g9.trans g10'
  refine cmp_no g10.1 ((g10.2.2 76 (by decide)).trans h76) (by decide) (by decide) fun b11 g11' => ?_
  have g11 := g10.trans g11'
  refine cmp_no g11.1 ((g11.2.2 76 (by decide)).trans h76) (by decide) (by decide) fun b12 g12' => ?_
  have g12 := g11.trans g12'
  refine cmp_no g12.1 ((g12.2.2 76 (by decide)).trans h76) (by decide) (by decide) fun b13 g13' => ?_
  have g13 := g12.trans g13'
  refine cmp_yes g13.1 ((g13.2.2 76 (by decide)).trans h76) rfl (by decide) fun b14 g14 => ?_
  exact H b14 (g13.trans g14)
theorem sw_two {a : Act} {Q : Exit → Act → World → Prop} {w : World} {op : Int} (hs : a.tmps.size = 330) (h76 : a.tmps[76]? = some (.int .i64 op)) (ho : 9 ≤ op ∧ op ≤ 18 ∧ op ≠ 14) (H : ∀ b, Ag a b → nd15.wp Tryd.prog Q b w) : sw.wp Tryd.prog Q a w := by
  unfold sw
  simp only [Tryd.f12, Option.getD_some, cBV, cAV, cI]
  refine cmp_no hs h76 (by omega) (by decide) fun b0 g0' => ?_
  have g0 := g0'
  refine cmp_no g0.1 ((g0.2.2 76 (by decide)).trans h76) (by omega) (by decide) fun b1 g1' => ?_
  have g1 := g0.trans g1'
  refine cmp_no g1.1 ((g1.2.2 76 (by decide)).trans h76) (by omega) (by decide) fun b2 g2' => ?_
  have g2 := g1.trans g2'
  refine cmp_no g2.1 ((g2.2.2 76 (by decide)).trans h76) (by omega) (by decide) fun b3 g3' => ?_
  have g3 := g2.trans g3'
  refine cmp_no g3.1 ((g3.2.2 76 (by decide)).trans h76) (by omega) (by decide) fun b4 g4' => ?_
  have g4 := g3.trans g4'
  refine cmp_no g4.1 ((g4.2.2 76 (by decide)).trans h76) (by omega) (by decide) fun b5 g5' => ?_
  have g5 := g4.trans g5'
  refine cmp_no g5.1 ((g5.2.2 76 (by decide)).trans h76) (by omega) (by decide) fun b6 g6' => ?_
  have g6 := g5.trans g6'
  refine cmp_no g6.1 ((g6.2.2 76 (by decide)).trans h76) (by omega) (by decide) fun b7 g7' => ?_
  have g7 := g6.trans g7'
  refine cmp_two g7.1 ((g7.2.2 76 (by decide)).trans h76) (by decide) fun b8 g8' => ?_
  rw [if_neg (by omega)]
  have g8 := g7.trans g8'
  refine cmp_no g8.1 ((g8.2.2 76 (by decide)).trans h76) (by omega) (by decide) fun b9 g9' => ?_
  have g9 := g8.trans g9'
  refine cmp_no g9.1 ((g9.2.2 76 (by decide)).trans h76) (by omega) (by decide) fun b10 g10' => ?_
  have g10 := g9.trans g10'
  refine cmp_no g10.1 ((g10.2.2 76 (by decide)).trans h76) (by omega) (by decide) fun b11 g11' => ?_
  have g11 := g10.trans g11'
  refine cmp_no g11.1 ((g11.2.2 76 (by decide)).trans h76) (by omega) (by decide) fun b12 g12' => ?_
  have g12 := g11.trans g12'
  refine cmp_no g12.1 ((g12.2.2 76 (by decide)).trans h76) (by omega) (by decide) fun b13 g13' => ?_
  have g13 := g12.trans g13'
  refine cmp_no g13.1 ((g13.2.2 76 (by decide)).trans h76) (by omega) (by decide) fun b14 g14' => ?_
  have g14 := g13.trans g14'
  exact H b14 g14
end Go.Proofs.YtfbeiedhdmndnaaDoor
namespace Go.Proofs.YtfbeiedhdmndnaaDoor
open Go.RowKit
attribute [local go_sem ↓] Go.wp_at_zero Go.wp_at_succ
/-- The slots that stay. -/
def Stay (a b : Act) : Prop := b.tmps.size = 330 ∧ b.defers = a.defers ∧ ∀ t ∈ [1, 4, 5, 7, 10, 11, 12, 13, 16], b.tmps[t]? = a.tmps[t]?
theorem at_of {a : Act} {t : Nat} {v : Value} (hs : a.tmps.size = 330) (ht : t < 330) (h : a.tmps[t]? = some v) : a.tmps[t]'(by omega) = v := by
  rw [Array.getElem?_eq_getElem (by omega)] at h
  exact Option.some.inj h
section
variable {a : Act} {Q : Exit → Act → World → Prop} {w : World} {A : Option Addr} {m cs : Nat}
set_option maxHeartbeats 1000000 in
theorem lf2_any (hs : a.tmps.size = 330) (h15 : a.tmps[15]? = some (.slice A (m + 1) cs)) (h19 : a.tmps[19]? = some (.int .i64 ((m : Int) + 1))) (hm : m ≤ 100) (hc : m ≤ cs)
    (H : ∀ b, Stay a b → b.tmps[14]? = a.tmps[14]? → b.tmps[15]? = some (.slice A m cs) → b.tmps[17]? = a.tmps[17]? → Q .normal b w) : lf2.wp Tryd.prog Q a w := by
  have k15 := at_of hs (by decide) h15
  have k19 := at_of hs (by decide) h19
  have i0 : (0 : Int) ≤ m := by omega
  have i1 : (m : Int) ≤ cs := by omega
  have i3 : IntKind.i64.wrap (m : Int) = m := by rw [IntKind.wrap_i64]; omega
  clear h15 h19
  unfold lf2 nd1 nd0 sw
  simp only [Tryd.f12, Option.getD_some, cBV, cAV, cI, cT, cE]
  go_wp2
  exact H _ ⟨by simp [hs], rfl, by simp⟩ (by simp) (by simp [hs]) (by simp)
set_option maxHeartbeats 1000000 in
theorem lf20_any {C : Nat} {x : Int} (hs : a.tmps.size = 330) (h18 : a.tmps[18]? = some (.pointer (some ⟨C, 0, none⟩))) (hc : w.cell? ⟨C, 1, none⟩ = some (.int .i64 x))
    (H : ∀ b, Stay a b → b.tmps[14]? = a.tmps[14]? → b.tmps[15]? = a.tmps[15]? → b.tmps[17]? = some (.int .i64 x) → Q .normal b w) : lf20.wp Tryd.prog Q a w := by
  have k18 := at_of hs (by decide) h18
  clear h18
  unfold lf20 nd9 nd8 nd7 nd6 nd5 nd4 nd3 nd2 nd1 nd0 sw
  simp only [Tryd.f12, Option.getD_some, cBV, cAV, cI, cT, cE]
  go_wp2
  exact H _ ⟨by simp [hs], rfl, by simp⟩ (by simp) (by simp) (by simp [hs])
end
end Go.Proofs.YtfbeiedhdmndnaaDoor
namespace Go.Proofs.YtfbeiedhdmndnaaDoor
open Go.RowKit
attribute [local go_sem ↓] Go.wp_at_zero Go.wp_at_succ
section
variable {a : Act} {Q : Exit → Act → World → Prop} {w : World} {A : Option Addr} {cs base : Nat} {st : List Int}
set_option maxHeartbeats 1000000 in
theorem lf1_any {C : Nat} {x : Int} (hs : a.tmps.size = 330) (h15 : a.tmps[15]? = some (.slice A st.length cs)) (h18 : a.tmps[18]? = some (.pointer (some ⟨C, 0, none⟩))) (hc : w.cell? ⟨C, 1, none⟩ = some (.int .i64 x)) (own : OwnIV base w (.slice A st.length cs) st) (hl : st.length ≤ 100) (hbase : base ≤ w.heap.size)
    (H : ∀ b Ax cx W', IAV base (w.alloc (.cells #[.int .i64 x] 3)) (.slice A st.length cs) (st ++ [x]) (.slice Ax (st.length + 1) cx) W' → Stay a b → b.tmps[14]? = a.tmps[14]? → b.tmps[15]? = some (.slice Ax (st.length + 1) cx) → b.tmps[17]? = a.tmps[17]? → Q .normal b W') : lf1.wp Tryd.prog Q a w := by
  have k15 := at_of hs (by decide) h15
  have k18 := at_of hs (by decide) h18
  clear h18
  have own2 : Hid (OwnIV base (w.alloc (.cells #[.int .i64 x] 3)) (.slice A st.length cs) st) := own.same fun g hg => (bAlloc (bRefl w) _).block g (own_lt own hg).2
  clear h15 own
  unfold lf1 nd0 sw
  simp only [Tryd.f12, Option.getD_some, cBV, cAV, cI, cT]
  go_wp2_with (at_builtin; refine appIV (A := some ⟨w.heap.size, 0, none⟩) (c := 1) (n := 1) (b := [x]) rfl _ _ rfl own2.out (by simp [Act.eval, *]) (by simp [Act.eval, *]) (ints1V (heap_new w _)) (by simp only [List.length_singleton]; omega) (Nat.le_trans hbase (bAlloc (bRefl w) _).size) ?_; rintro Ax cx W' hia; have HIA : Hid (IAV base (w.alloc (.cells #[.int .i64 x] 3)) (.slice A st.length cs) (st ++ [x]) (.slice Ax (st.length + 1) cx) W') := hia; clear hia)
  exact H _ Ax cx W' HIA.out ⟨by simp [hs], rfl, by simp⟩ (by simp) (by simp [hs]) (by simp)
set_option maxHeartbeats 1000000 in
theorem lf8_any {x : Int} (hs : a.tmps.size = 330) (h15 : a.tmps[15]? = some (.slice A st.length cs)) (h1 : a.tmps[1]? = some (.int .i64 x)) (own : OwnIV base w (.slice A st.length cs) st) (hl : st.length ≤ 100) (hbase : base ≤ w.heap.size)
    (H : ∀ b Ax cx W', IAV base (w.alloc (.cells #[.int .i64 x] 3)) (.slice A st.length cs) (st ++ [x]) (.slice Ax (st.length + 1) cx) W' → Stay a b → b.tmps[14]? = a.tmps[14]? → b.tmps[15]? = some (.slice Ax (st.length + 1) cx) → b.tmps[17]? = a.tmps[17]? → Q .normal b W') : lf8.wp Tryd.prog Q a w := by
  have k15 := at_of hs (by decide) h15
  have k1 := at_of hs (by decide) h1
  clear h1
  have own2 : Hid (OwnIV base (w.alloc (.cells #[.int .i64 x] 3)) (.slice A st.length cs) st) := own.same fun g hg => (bAlloc (bRefl w) _).block g (own_lt own hg).2
  clear h15 own
  unfold lf8 nd7 nd6 nd5 nd4 nd3 nd2 nd1 nd0 sw
  simp only [Tryd.f12, Option.getD_some, cBV, cAV, cI, cT, cE]
  go_wp2_with (at_builtin; refine appIV (A := some ⟨w.heap.size, 0, none⟩) (c := 1) (n := 1) (b := [x]) rfl _ _ rfl own2.out (by simp [Act.eval, *]) (by simp [Act.eval, *]) (ints1V (heap_new w _)) (by simp only [List.length_singleton]; omega) (Nat.le_trans hbase (bAlloc (bRefl w) _).size) ?_; rintro Ax cx W' hia; have HIA : Hid (IAV base (w.alloc (.cells #[.int .i64 x] 3)) (.slice A st.length cs) (st ++ [x]) (.slice Ax (st.length + 1) cx) W') := hia; clear hia)
  exact H _ Ax cx W' HIA.out ⟨by simp [hs], rfl, by simp⟩ (by simp) (by simp [hs]) (by simp)
end
end Go.Proofs.YtfbeiedhdmndnaaDoor
namespace Go.Proofs.YtfbeiedhdmndnaaDoor
open Go.RowKit
attribute [local go_sem ↓] Go.wp_at_zero Go.wp_at_succ
section
variable {a : Act} {Q : Exit → Act → World → Prop} {w : World} {A : Option Addr} {cs base : Nat} {st : List Int}
set_option maxHeartbeats 1000000 in
theorem lf7_any {C k g o n c4 : Nat} {x : Int} (hs : a.tmps.size = 330) (h15 : a.tmps[15]? = some (.slice A st.length cs)) (h18 : a.tmps[18]? = some (.pointer (some ⟨C, 0, none⟩))) (hc : w.cell? ⟨C, 1, none⟩ = some (.int .i64 (k : Int))) (h4 : a.tmps[4]? = some (.slice (some ⟨g, o, none⟩) n c4)) (hk : k < n) (hx : w.cell? ⟨g, o + k, none⟩ = some (.int .i64 x)) (own : OwnIV base w (.slice A st.length cs) st) (hl : st.length ≤ 100) (hbase : base ≤ w.heap.size)
    (H : ∀ b Ax cx W', IAV base (w.alloc (.cells #[.int .i64 x] 3)) (.slice A st.length cs) (st ++ [x]) (.slice Ax (st.length + 1) cx) W' → Stay a b → b.tmps[14]? = a.tmps[14]? → b.tmps[15]? = some (.slice Ax (st.length + 1) cx) → b.tmps[17]? = a.tmps[17]? → Q .normal b W') : lf7.wp Tryd.prog Q a w := by
  have k15 := at_of hs (by decide) h15
  have k18 := at_of hs (by decide) h18
  have k4 := at_of hs (by decide) h4
  have hk0 : (0 : Int) ≤ k := by omega
  have hk1 : (k : Int) < n := by omega
  clear h18 h4
  have own2 : Hid (OwnIV base (w.alloc (.cells #[.int .i64 x] 3)) (.slice A st.length cs) st) := own.same fun g hg => (bAlloc (bRefl w) _).block g (own_lt own hg).2
  clear h15 own
  unfold lf7 nd6 nd5 nd4 nd3 nd2 nd1 nd0 sw
  simp only [Tryd.f12, Option.getD_some, cBV, cAV, cI, cT, cE]
  go_wp2_with (at_builtin; refine appIV (A := some ⟨w.heap.size, 0, none⟩) (c := 1) (n := 1) (b := [x]) rfl _ _ rfl own2.out (by simp [Act.eval, *]) (by simp [Act.eval, *]) (ints1V (heap_new w _)) (by simp only [List.length_singleton]; omega) (Nat.le_trans hbase (bAlloc (bRefl w) _).size) ?_; rintro Ax cx W' hia; have HIA : Hid (IAV base (w.alloc (.cells #[.int .i64 x] 3)) (.slice A st.length cs) (st ++ [x]) (.slice Ax (st.length + 1) cx) W') := hia; clear hia)
  exact H _ Ax cx W' HIA.out ⟨by simp [hs], rfl, by simp⟩ (by simp) (by simp [hs]) (by simp)
set_option maxHeartbeats 1000000 in
theorem lf3_any {g m : Nat} {x : Int} (hs : a.tmps.size = 330) (h15 : a.tmps[15]? = some (.slice A st.length cs)) (h19 : a.tmps[19]? = some (.int .i64 ((m : Int) + 1))) (hA : A = some ⟨g, 0, none⟩) (hm : st.length = m + 1) (hx : w.cell? ⟨g, m, none⟩ = some (.int .i64 x)) (own : OwnIV base w (.slice A st.length cs) st) (hl : st.length ≤ 100) (hbase : base ≤ w.heap.size)
    (H : ∀ b Ax cx W', IAV base (w.alloc (.cells #[.int .i64 x] 3)) (.slice A st.length cs) (st ++ [x]) (.slice Ax (st.length + 1) cx) W' → Stay a b → b.tmps[14]? = a.tmps[14]? → b.tmps[15]? = some (.slice Ax (st.length + 1) cx) → b.tmps[17]? = a.tmps[17]? → Q .normal b W') : lf3.wp Tryd.prog Q a w := by
  have k15 := at_of hs (by decide) h15
  have k19 := at_of hs (by decide) h19
  have i0 : (0 : Int) ≤ m := by omega
  have i3 : IntKind.i64.wrap (m : Int) = m := by rw [IntKind.wrap_i64]; omega
  clear h19
  have own2 : Hid (OwnIV base (w.alloc (.cells #[.int .i64 x] 3)) (.slice A st.length cs) st) := own.same fun g hg => (bAlloc (bRefl w) _).block g (own_lt own hg).2
  clear h15 own
  unfold lf3 nd2 nd1 nd0 sw
  simp only [Tryd.f12, Option.getD_some, cBV, cAV, cI, cT, cE]
  go_wp2_with (at_builtin; refine appIV (A := some ⟨w.heap.size, 0, none⟩) (c := 1) (n := 1) (b := [x]) rfl _ _ rfl own2.out (by simp [Act.eval, *]) (by simp [Act.eval, *]) (ints1V (heap_new w _)) (by simp only [List.length_singleton]; omega) (Nat.le_trans hbase (bAlloc (bRefl w) _).size) ?_; rintro Ax cx W' hia; have HIA : Hid (IAV base (w.alloc (.cells #[.int .i64 x] 3)) (.slice A st.length cs) (st ++ [x]) (.slice Ax (st.length + 1) cx) W') := hia; clear hia)
  exact H _ Ax cx W' HIA.out ⟨by simp [hs], rfl, by simp⟩ (by simp) (by simp [hs, hm]) (by simp)
set_option maxHeartbeats 1000000 in
theorem lf24_any {B : Nat} {z : Bool} (hs : a.tmps.size = 330) (h12 : a.tmps[12]? = some (.pointer (some ⟨B, 0, none⟩))) (hc : w.cell? ⟨B, 1, none⟩ = some (.bool z)) (hf : w.frozen? ⟨B, 1, none⟩ = false)
    (H : ∀ b, Stay a b → b.tmps[14]? = a.tmps[14]? → b.tmps[15]? = a.tmps[15]? → b.tmps[17]? = a.tmps[17]? → Q .normal b (w.setCell ⟨B, 1, none⟩ (.bool false))) : lf24.wp Tryd.prog Q a w := by
  have k12 := at_of hs (by decide) h12
  clear h12
  unfold lf24 nd13 nd12 nd11 nd10 nd9 nd8 nd7 nd6 nd5 nd4 nd3 nd2 nd1 nd0 sw
  simp only [Tryd.f12, Option.getD_some, cBV, cAV, cI, cT, cE]
  go_wp2
  exact H _ ⟨by simp [hs], rfl, by simp⟩ (by simp) (by simp) (by simp)
set_option maxHeartbeats 1000000 in
theorem lf25_any {Ac : Option Addr} {n c : Nat} (hs : a.tmps.size = 330) (h11 : a.tmps[11]? = some (.slice Ac n c))
    (H : ∀ b, Stay a b → b.tmps[14]? = a.tmps[14]? → b.tmps[15]? = a.tmps[15]? → b.tmps[17]? = some (.int .i64 n) → Q .normal b w) : lf25.wp Tryd.prog Q a w := by
  have k11 := at_of hs (by decide) h11
  clear h11
  unfold lf25 nd14 nd13 nd12 nd11 nd10 nd9 nd8 nd7 nd6 nd5 nd4 nd3 nd2 nd1 nd0 sw
  simp only [Tryd.f12, Option.getD_some, cBV, cAV, cI, cT, cE]
  go_wp2
  exact H _ ⟨by simp [hs], rfl, by simp⟩ (by simp) (by simp) (by simp [hs])
end
end Go.Proofs.YtfbeiedhdmndnaaDoor
namespace Go.Proofs.YtfbeiedhdmndnaaDoor
open Go.RowKit
attribute [local go_sem ↓] Go.wp_at_zero Go.wp_at_succ
section
variable {a : Act} {Q : Exit → Act → World → Prop} {w : World} {A : Option Addr} {cs base : Nat} {st : List Int}
set_option maxHeartbeats 1000000 in
theorem lf21_yes {C g m : Nat} {k : Int} (hs : a.tmps.size = 330) (h15 : a.tmps[15]? = some (.slice A (m + 1) cs)) (h18 : a.tmps[18]? = some (.pointer (some ⟨C, 0, none⟩))) (h19 : a.tmps[19]? = some (.int .i64 ((m : Int) + 1))) (hA : A = some ⟨g, 0, none⟩) (hx : w.cell? ⟨g, m, none⟩ = some (.int .i64 0)) (hc : w.cell? ⟨C, 1, none⟩ = some (.int .i64 k)) (hm : m ≤ 100) (hcs : m ≤ cs)
    (H : ∀ b, Stay a b → b.tmps[14]? = a.tmps[14]? → b.tmps[15]? = some (.slice A m cs) → b.tmps[17]? = some (.int .i64 k) → Q .normal b w) : lf21.wp Tryd.prog Q a w := by
  have k15 := at_of hs (by decide) h15
  have k18 := at_of hs (by decide) h18
  have k19 := at_of hs (by decide) h19
  have i0 : (0 : Int) ≤ m := by omega
  have i1 : (m : Int) ≤ cs := by omega
  have i2 : (m : Int) < (m : Int) + 1 := by omega
  have i3 : IntKind.i64.wrap (m : Int) = m := by rw [IntKind.wrap_i64]; omega
  clear h15 h18 h19
  subst hA
  unfold lf21 nd10 nd9 nd8 nd7 nd6 nd5 nd4 nd3 nd2 nd1 nd0 sw
  simp only [Tryd.f12, Option.getD_some, cBV, cAV, cI, cT, cE]
  refine wp_seq_k fun K1 h1 => ?_
  refine wp_seq_k fun K2 h2 => ?_
  have HH1 := hid_mk h1
  have HH2 := hid_mk h2
  clear h1 h2
  go_wp2
  refine HH2.out _ _ ?_
  refine wp_cond_true (by simp [Act.eval, hs]) ?_
  go_wp2
  refine HH1.out _ _ ?_
  go_wp2
  exact H _ ⟨by simp [hs], rfl, by simp⟩ (by simp) (by simp [hs]) (by simp [hs])
set_option maxHeartbeats 1000000 in
theorem lf21_no {g m : Nat} {x : Int} (hs : a.tmps.size = 330) (h15 : a.tmps[15]? = some (.slice A (m + 1) cs)) (h19 : a.tmps[19]? = some (.int .i64 ((m : Int) + 1))) (hA : A = some ⟨g, 0, none⟩) (hx : w.cell? ⟨g, m, none⟩ = some (.int .i64 x)) (h0 : x ≠ 0) (hm : m ≤ 100) (hcs : m ≤ cs)
    (H : ∀ b, Stay a b → b.tmps[14]? = a.tmps[14]? → b.tmps[15]? = some (.slice A m cs) → b.tmps[17]? = a.tmps[17]? → Q .normal b w) : lf21.wp Tryd.prog Q a w := by
  have k15 := at_of hs (by decide) h15
  have k19 := at_of hs (by decide) h19
  have i0 : (0 : Int) ≤ m := by omega
  have i1 : (m : Int) ≤ cs := by omega
  have i2 : (m : Int) < (m : Int) + 1 := by omega
  have i3 : IntKind.i64.wrap (m : Int) = m := by rw [IntKind.wrap_i64]; omega
  have e0 : (x == 0) = false := by simpa using h0
  clear h15 h19
  subst hA
  unfold lf21 nd10 nd9 nd8 nd7 nd6 nd5 nd4 nd3 nd2 nd1 nd0 sw
  simp only [Tryd.f12, Option.getD_some, cBV, cAV, cI, cT, cE]
  refine wp_seq_k fun K1 h1 => ?_
  refine wp_seq_k fun K2 h2 => ?_
  have HH1 := hid_mk h1
  have HH2 := hid_mk h2
  clear h1 h2
  go_wp2
  refine HH2.out _ _ ?_
  refine wp_cond_false (by simp [Act.eval, hs]) ?_
  go_wp2
  refine HH1.out _ _ ?_
  go_wp2
  exact H _ ⟨by simp [hs], rfl, by simp⟩ (by simp) (by simp [hs]) (by simp [hs])
set_option maxHeartbeats 1000000 in
theorem lf5_in {C Bn gR k n cR : Nat} {R : Option Addr} {x : Int} (hs : a.tmps.size = 330) (h15 : a.tmps[15]? = some (.slice A st.length cs)) (h18 : a.tmps[18]? = some (.pointer (some ⟨C, 0, none⟩))) (h12 : a.tmps[12]? = some (.pointer (some ⟨Bn, 0, none⟩))) (hc : w.cell? ⟨C, 1, none⟩ = some (.int .i64 (k : Int))) (hr : w.cell? ⟨Bn, 0, none⟩ = some (.slice R n cR)) (hR : R = some ⟨gR, 0, none⟩) (hx : w.cell? ⟨gR, k, none⟩ = some (.int .i64 x)) (hk : k < n) (own : OwnIV base w (.slice A st.length cs) st) (hl : st.length ≤ 100) (hbase : base ≤ w.heap.size)
    (H : ∀ b Ax cx W', IAV base (w.alloc (.cells #[.int .i64 x] 3)) (.slice A st.length cs) (st ++ [x]) (.slice Ax (st.length + 1) cx) W' → Stay a b → b.tmps[14]? = a.tmps[14]? → b.tmps[15]? = some (.slice Ax (st.length + 1) cx) → b.tmps[17]? = a.tmps[17]? → Q .normal b W') : lf5.wp Tryd.prog Q a w := by
  have k15 := at_of hs (by decide) h15
  have k18 := at_of hs (by decide) h18
  have k12 := at_of hs (by decide) h12
  have hk0 : (0 : Int) ≤ k := by omega
  have hk1 : (k : Int) < n := by omega
  clear h18 h12
  have own2 : Hid (OwnIV base (w.alloc (.cells #[.int .i64 x] 3)) (.slice A st.length cs) st) := own.same fun g hg => (bAlloc (bRefl w) _).block g (own_lt own hg).2
  clear h15 own
  subst hR
  unfold lf5 nd4 nd3 nd2 nd1 nd0 sw
  simp only [Tryd.f12, Option.getD_some, cBV, cAV, cI, cT, cE]
  refine wp_seq_k fun K0 h0 => ?_
  have HH0 := hid_mk h0
  clear h0
  go_wp2
  refine HH0.out _ _ ?_
  refine wp_seq_k fun K1 h1 => ?_
  refine wp_seq_k fun K2 h2 => ?_
  have HH1 := hid_mk h1
  have HH2 := hid_mk h2
  clear h1 h2
  go_wp2
  refine HH2.out _ _ ?_
  refine wp_cond_true (by simp [Act.eval, hs]) ?_
  go_wp2
  refine HH1.out _ _ ?_
  go_wp2_with (at_builtin; refine appIV (A := some ⟨w.heap.size, 0, none⟩) (c := 1) (n := 1) (b := [x]) rfl _ _ rfl own2.out (by simp [Act.eval, *]) (by simp [Act.eval, *]) (ints1V (heap_new w _)) (by simp only [List.length_singleton]; omega) (Nat.le_trans hbase (bAlloc (bRefl w) _).size) ?_; rintro Ax cx W' hia; have HIA : Hid (IAV base (w.alloc (.cells #[.int .i64 x] 3)) (.slice A st.length cs) (st ++ [x]) (.slice Ax (st.length + 1) cx) W') := hia; clear hia)
  exact H _ Ax cx W' HIA.out ⟨by simp [hs], rfl, by simp⟩ (by simp) (by simp [hs]) (by simp)
set_option maxHeartbeats 1000000 in
theorem lf5_out {C Bn k n cR : Nat} {R : Option Addr} (hs : a.tmps.size = 330) (h15 : a.tmps[15]? = some (.slice A st.length cs)) (h18 : a.tmps[18]? = some (.pointer (some ⟨C, 0, none⟩))) (h12 : a.tmps[12]? = some (.pointer (some ⟨Bn, 0, none⟩))) (hc : w.cell? ⟨C, 1, none⟩ = some (.int .i64 (k : Int))) (hr : w.cell? ⟨Bn, 0, none⟩ = some (.slice R n cR)) (hk : ¬ k < n) (own : OwnIV base w (.slice A st.length cs) st) (hl : st.length ≤ 100) (hbase : base ≤ w.heap.size)
    (H : ∀ b Ax cx W', IAV base (w.alloc (.cells #[.int .i64 0] 3)) (.slice A st.length cs) (st ++ [0]) (.slice Ax (st.length + 1) cx) W' → Stay a b → b.tmps[14]? = a.tmps[14]? → b.tmps[15]? = some (.slice Ax (st.length + 1) cx) → b.tmps[17]? = a.tmps[17]? → Q .normal b W') : lf5.wp Tryd.prog Q a w := by
  have k15 := at_of hs (by decide) h15
  have k18 := at_of hs (by decide) h18
  have k12 := at_of hs (by decide) h12
  have hk0 : (0 : Int) ≤ k := by omega
  have hk1 : ¬ (k : Int) < n := by omega
  clear h18 h12
  have own2 : Hid (OwnIV base (w.alloc (.cells #[.int .i64 0] 3)) (.slice A st.length cs) st) := own.same fun g hg => (bAlloc (bRefl w) _).block g (own_lt own hg).2
  clear h15 own
  unfold lf5 nd4 nd3 nd2 nd1 nd0 sw
  simp only [Tryd.f12, Option.getD_some, cBV, cAV, cI, cT, cE]
  refine wp_seq_k fun K0 h0 => ?_
  have HH0 := hid_mk h0
  clear h0
  go_wp2
  refine HH0.out _ _ ?_
  refine wp_seq_k fun K1 h1 => ?_
  refine wp_seq_k fun K2 h2 => ?_
  have HH1 := hid_mk h1
  have HH2 := hid_mk h2
  clear h1 h2
  go_wp2
  refine HH2.out _ _ ?_
  refine wp_cond_false (by simp [Act.eval, hs]) ?_
  go_wp2
  refine HH1.out _ _ ?_
  go_wp2_with (at_builtin; refine appIV (A := some ⟨w.heap.size, 0, none⟩) (c := 1) (n := 1) (b := [0]) rfl _ _ rfl own2.out (by simp [Act.eval, *]) (by simp [Act.eval, *]) (ints1V (heap_new w _)) (by simp only [List.length_singleton]; omega) (Nat.le_trans hbase (bAlloc (bRefl w) _).size) ?_; rintro Ax cx W' hia; have HIA : Hid (IAV base (w.alloc (.cells #[.int .i64 0] 3)) (.slice A st.length cs) (st ++ [0]) (.slice Ax (st.length + 1) cx) W') := hia; clear hia)
  exact H _ Ax cx W' HIA.out ⟨by simp [hs], rfl, by simp⟩ (by simp) (by simp [hs]) (by simp)
set_option maxHeartbeats 1000000 in
theorem lf23_t {Bn : Nat} (hs : a.tmps.size = 330) (h12 : a.tmps[12]? = some (.pointer (some ⟨Bn, 0, none⟩))) (hz : w.cell? ⟨Bn, 1, none⟩ = some (.bool true)) (hf : w.frozen? ⟨Bn, 1, none⟩ = false)
    (H : ∀ b, Stay a b → b.tmps[14]? = a.tmps[14]? → b.tmps[15]? = a.tmps[15]? → b.tmps[17]? = a.tmps[17]? → Q .normal b (w.setCell ⟨Bn, 1, none⟩ (.bool true))) : lf23.wp Tryd.prog Q a w := by
  have k12 := at_of hs (by decide) h12
  clear h12
  unfold lf23 nd12 nd11 nd10 nd9 nd8 nd7 nd6 nd5 nd4 nd3 nd2 nd1 nd0 sw
  simp only [Tryd.f12, Option.getD_some, cBV, cAV, cI, cT, cE]
  go_wp2
  exact H _ ⟨by simp [hs], rfl, by simp⟩ (by simp) (by simp) (by simp)
set_option maxHeartbeats 1000000 in
theorem lf23_f {Bn P0 gA oA na ca j : Nat} {tm : Int} (hs : a.tmps.size = 330) (h12 : a.tmps[12]? = some (.pointer (some ⟨Bn, 0, none⟩))) (h5 : a.tmps[5]? = some (.pointer (some ⟨P0, 0, none⟩))) (h1 : a.tmps[1]? = some (.int .i64 (j : Int))) (hp : w.cell? ⟨P0, 1, none⟩ = some (.slice (some ⟨gA, oA, none⟩) na ca)) (ht : w.cell? ⟨gA, oA + j * 4 + 2, none⟩ = some (.int .i64 tm)) (hj : j < na) (hz : w.cell? ⟨Bn, 1, none⟩ = some (.bool false)) (hf : w.frozen? ⟨Bn, 1, none⟩ = false)
    (H : ∀ b, Stay a b → b.tmps[14]? = a.tmps[14]? → b.tmps[15]? = a.tmps[15]? → b.tmps[17]? = a.tmps[17]? → Q .normal b (w.setCell ⟨Bn, 1, none⟩ (.bool (tm != -1)))) : lf23.wp Tryd.prog Q a w := by
  have k12 := at_of hs (by decide) h12
  have k5 := at_of hs (by decide) h5
  have k1 := at_of hs (by decide) h1
  have hj0 : (0 : Int) ≤ j := by omega
  have hj1 : (j : Int) < na := by omega
  clear h12 h5 h1
  unfold lf23 nd12 nd11 nd10 nd9 nd8 nd7 nd6 nd5 nd4 nd3 nd2 nd1 nd0 sw
  simp only [Tryd.f12, Option.getD_some, cBV, cAV, cI, cT, cE]
  go_wp2
  exact H _ ⟨by simp [hs], rfl, by simp⟩ (by simp) (by simp) (by simp)
set_option maxHeartbeats 2000000 in
theorem lf6_in {C Bn g m gR k n cR : Nat} {R : Option Addr} {x y : Int} (hs : a.tmps.size = 330) (h15 : a.tmps[15]? = some (.slice A (m + 1) cs)) (h18 : a.tmps[18]? = some (.pointer (some ⟨C, 0, none⟩))) (h19 : a.tmps[19]? = some (.int .i64 ((m : Int) + 1))) (h12 : a.tmps[12]? = some (.pointer (some ⟨Bn, 0, none⟩))) (hA : A = some ⟨g, 0, none⟩) (hc : w.cell? ⟨C, 1, none⟩ = some (.int .i64 (k : Int))) (hr : w.cell? ⟨Bn, 0, none⟩ = some (.slice R n cR)) (hx : w.cell? ⟨g, m, none⟩ = some (.int .i64 x)) (hR : R = some ⟨gR, 0, none⟩) (hy : w.cell? ⟨gR, k, none⟩ = some (.int .i64 y)) (hf : w.frozen? ⟨gR, k, none⟩ = false) (hk : k < n) (n1 : Bn ≠ gR) (n2 : C ≠ gR) (n3 : g ≠ gR) (hm : m ≤ 100) (hcs : m ≤ cs)
    (H : ∀ b n, Stay a b → b.tmps[14]? = a.tmps[14]? → b.tmps[15]? = some (.slice A m cs) → b.tmps[17]? = a.tmps[17]? → Q .normal b ((w.setCell ⟨gR, k, none⟩ (.int .i64 x)).drewN n)) : lf6.wp Tryd.prog Q a w := by
  have k15 := at_of hs (by decide) h15
  have k18 := at_of hs (by decide) h18
  have k19 := at_of hs (by decide) h19
  have k12 := at_of hs (by decide) h12
  have i0 : (0 : Int) ≤ m := by omega
  have i1 : (m : Int) ≤ cs := by omega
  have i2 : (m : Int) < (m : Int) + 1 := by omega
  have i3 : IntKind.i64.wrap (m : Int) = m := by rw [IntKind.wrap_i64]; omega
  have hk0 : (0 : Int) ≤ k := by omega
  have hk1 : (k : Int) < n := by omega
  clear h15 h18 h19 h12
  subst hA
  subst hR
  have n1' : gR ≠ Bn := fun e => n1 e.symm
  have n2' : gR ≠ C := fun e => n2 e.symm
  have n3' : gR ≠ g := fun e => n3 e.symm
  unfold lf6 nd5 nd4 nd3 nd2 nd1 nd0 sw
  simp only [Tryd.f12, Option.getD_some, cBV, cAV, cI, cT, cE]
  refine wp_seq_k fun K1 h1 => ?_
  refine wp_seq_k fun K2 h2 => ?_
  have HH1 := hid_mk h1
  have HH2 := hid_mk h2
  clear h1 h2
  go_wp2
  refine HH2.out _ _ ?_
  refine wp_cond_true (by simp [Act.eval, hs]) ?_
  refine wp_region_noPanic ?_
  refine wp_region_held_drew (S := fun w' => w'.cell? ⟨Bn, 0, none⟩ = some (.slice (some ⟨gR, 0, none⟩) n cR) ∧ w'.cell? ⟨C, 1, none⟩ = some (.int .i64 (k : Int)) ∧ w'.cell? ⟨g, m, none⟩ = some (.int .i64 x)) (by kernel_rfl) ?_ (fun hHeld => ?_)
  · try dsimp only
    go_keep
  refine wpAnyH_take (i := 0) (oi := ⟨some 178, .fieldAddr 29 (.tmp 12) 0, 0, "vm.go:497", #[], none⟩) (v := ?_) rfl (by kernel_rfl) (by kernel_rfl) (by kernel_rfl) (fun _ _ _ h => h) (Or.inl ⟨by rfl, ?_⟩) (by assumption) ?_
  rotate_left
  · intro w hSw
    try dsimp only at hSw
    go_simp
    try with_reducible rfl
  try simp only [Act.put]
  refine wpAnyH_take (i := 1) (oi := ⟨some 179, .load 27 (.tmp 178), 27, "vm.go:497", #[⟨0, .data⟩], none⟩) (v := ?_) rfl (by kernel_rfl) (by kernel_rfl) (by kernel_rfl) (fun _ _ _ h => h) (Or.inl ⟨by rfl, ?_⟩) (by assumption) ?_
  rotate_left
  · intro w hSw
    try dsimp only at hSw
    go_simp
    try with_reducible rfl
  try simp only [Act.put]
  refine wpAnyH_take (i := 2) (oi := ⟨some 180, .fieldAddr 68 (.tmp 18) 1, 0, "vm.go:497", #[], none⟩) (v := ?_) rfl (by kernel_rfl) (by kernel_rfl) (by kernel_rfl) (fun _ _ _ h => h) (Or.inl ⟨by rfl, ?_⟩) (by assumption) ?_
  rotate_left
  · intro w hSw
    try dsimp only at hSw
    go_simp
    try with_reducible rfl
  try simp only [Act.put]
  refine wpAnyH_take (i := 3) (oi := ⟨some 181, .load 3 (.tmp 180), 3, "vm.go:497", #[⟨2, .data⟩], none⟩) (v := ?_) rfl (by kernel_rfl) (by kernel_rfl) (by kernel_rfl) (fun _ _ _ h => h) (Or.inl ⟨by rfl, ?_⟩) (by assumption) ?_
  rotate_left
  · intro w hSw
    try dsimp only at hSw
    go_simp
    try with_reducible rfl
  try simp only [Act.put]
  refine wpAnyH_take (i := 4) (oi := ⟨some 182, .move (.tmp 15), 27, "vm.go:497", #[], none⟩) (v := ?_) rfl (by kernel_rfl) (by kernel_rfl) (by kernel_rfl) (fun _ _ _ h => h) (Or.inl ⟨by rfl, ?_⟩) (by assumption) ?_
  rotate_left
  · intro w hSw
    try dsimp only at hSw
    go_simp
    try with_reducible rfl
  try simp only [Act.put]
  refine wpAnyH_take (i := 5) (oi := ⟨some 183, .move (.tmp 19), 3, "vm.go:497", #[], none⟩) (v := ?_) rfl (by kernel_rfl) (by kernel_rfl) (by kernel_rfl) (fun _ _ _ h => h) (Or.inl ⟨by rfl, ?_⟩) (by assumption) ?_
  rotate_left
  · intro w hSw
    try dsimp only at hSw
    go_simp
    try with_reducible rfl
  try simp only [Act.put]
  refine wpAnyH_take (i := 6) (oi := ⟨some 184, .binOp .sub 3 (.tmp 183) (.const (.int .i64 1)) 3, 3, "vm.go:497", #[⟨5, .data⟩], none⟩) (v := ?_) rfl (by kernel_rfl) (by kernel_rfl) (by kernel_rfl) (fun _ _ _ h => h) (Or.inl ⟨by rfl, ?_⟩) (by assumption) ?_
  rotate_left
  · intro w hSw
    try dsimp only at hSw
    go_simp
    try with_reducible rfl
  try simp only [Act.put]
  refine wpAnyH_take (i := 7) (oi := ⟨some 185, .indexAddr 27 (.tmp 182) (.tmp 184), 0, "vm.go:497", #[⟨4, .data⟩, ⟨6, .data⟩], none⟩) (v := ?_) rfl (by kernel_rfl) (by kernel_rfl) (by kernel_rfl) (fun _ _ _ h => h) (Or.inl ⟨by rfl, ?_⟩) (by assumption) ?_
  rotate_left
  · intro w hSw
    try dsimp only at hSw
    go_simp
    try with_reducible rfl
  try simp only [Act.put]
  refine wpAnyH_take (i := 8) (oi := ⟨some 186, .load 3 (.tmp 185), 3, "vm.go:497", #[⟨7, .data⟩], none⟩) (v := ?_) rfl (by kernel_rfl) (by kernel_rfl) (by kernel_rfl) (fun _ _ _ h => h) (Or.inl ⟨by rfl, ?_⟩) (by assumption) ?_
  rotate_left
  · intro w hSw
    try dsimp only at hSw
    go_simp
    try with_reducible rfl
  try simp only [Act.put]
  refine wpAnyH_take (i := 9) (oi := ⟨some 187, .indexAddr 27 (.tmp 179) (.tmp 181), 0, "vm.go:497", #[⟨1, .data⟩, ⟨3, .data⟩, ⟨0, .phase⟩, ⟨1, .phase⟩, ⟨2, .phase⟩, ⟨3, .phase⟩, ⟨4, .phase⟩, ⟨5, .phase⟩, ⟨6, .phase⟩, ⟨7, .phase⟩, ⟨8, .phase⟩], none⟩) (v := ?_) rfl (by kernel_rfl) (by kernel_rfl) (by kernel_rfl) (fun _ _ _ h => h) (Or.inl ⟨by rfl, ?_⟩) (by assumption) ?_
  rotate_left
  · intro w hSw
    try dsimp only at hSw
    go_simp
    try with_reducible rfl
  try simp only [Act.put]
  refine wpAnyH_ready (rs := [10]) (by kernel_rfl) (by simp) ?_
  refine AllReadyH.cons (o := ⟨none, .store 3 (.tmp 187) (.tmp 186), 0, "vm.go:497", #[⟨9, .data⟩, ⟨8, .data⟩, ⟨0, .phase⟩, ⟨1, .phase⟩, ⟨2, .phase⟩, ⟨3, .phase⟩, ⟨4, .phase⟩, ⟨5, .phase⟩, ⟨6, .phase⟩, ⟨7, .phase⟩, ⟨8, .phase⟩], none⟩) rfl (fun K hK => ?_) AllReadyH.nil
  go_simp
  refine hK.out _ _ ?_ (fun hHeld => ?_)
  · try dsimp only
    go_keep
  clear hK K
  try simp only [Act.put]
  refine wpAnyH_done (by kernel_rfl) ?_ _
  refine NoPanic.normal ?_
  go_wp2
  refine HH1.out _ _ ?_
  go_wp2
  exact H _ 1 ⟨by simp [hs], rfl, by simp⟩ (by simp) (by simp [hs]) (by simp)
set_option maxHeartbeats 2000000 in
theorem lf6_out {C Bn g m k n cR : Nat} {R : Option Addr} (hs : a.tmps.size = 330) (h15 : a.tmps[15]? = some (.slice A (m + 1) cs)) (h18 : a.tmps[18]? = some (.pointer (some ⟨C, 0, none⟩))) (h19 : a.tmps[19]? = some (.int .i64 ((m : Int) + 1))) (h12 : a.tmps[12]? = some (.pointer (some ⟨Bn, 0, none⟩))) (hA : A = some ⟨g, 0, none⟩) (hc : w.cell? ⟨C, 1, none⟩ = some (.int .i64 (k : Int))) (hr : w.cell? ⟨Bn, 0, none⟩ = some (.slice R n cR)) (hk : ¬ k < n) (hm : m ≤ 100) (hcs : m ≤ cs)
    (H : ∀ b n, Stay a b → b.tmps[14]? = a.tmps[14]? → b.tmps[15]? = some (.slice A m cs) → b.tmps[17]? = a.tmps[17]? → Q .normal b (w.drewN n)) : lf6.wp Tryd.prog Q a w := by
  have k15 := at_of hs (by decide) h15
  have k18 := at_of hs (by decide) h18
  have k19 := at_of hs (by decide) h19
  have k12 := at_of hs (by decide) h12
  have i0 : (0 : Int) ≤ m := by omega
  have i1 : (m : Int) ≤ cs := by omega
  have i2 : (m : Int) < (m : Int) + 1 := by omega
  have i3 : IntKind.i64.wrap (m : Int) = m := by rw [IntKind.wrap_i64]; omega
  have hk0 : (0 : Int) ≤ k := by omega
  have hk1 : ¬ (k : Int) < n := by omega
  clear h15 h18 h19 h12
  subst hA
  unfold lf6 nd5 nd4 nd3 nd2 nd1 nd0 sw
  simp only [Tryd.f12, Option.getD_some, cBV, cAV, cI, cT, cE]
  refine wp_seq_k fun K1 h1 => ?_
  refine wp_seq_k fun K2 h2 => ?_
  have HH1 := hid_mk h1
  have HH2 := hid_mk h2
  clear h1 h2
  go_wp2
  refine HH2.out _ _ ?_
  refine wp_cond_false (by simp [Act.eval, hs]) ?_
  go_wp2
  refine HH1.out _ _ ?_
  go_wp2
  exact H _ 0 ⟨by simp [hs], rfl, by simp⟩ (by simp) (by simp [hs]) (by simp)
theorem heap_newD (w : World) : ((w.alloc (.cells #[] 3)).drew).heap[w.heap.size]? = some (.cells #[] 3) := heap_new w _
set_option maxHeartbeats 2000000 in
theorem lf14_any {C g m : Nat} {op x : Int} (hs : a.tmps.size = 330) (h15 : a.tmps[15]? = some (.slice A st.length cs)) (h18 : a.tmps[18]? = some (.pointer (some ⟨C, 0, none⟩))) (h19 : a.tmps[19]? = some (.int .i64 ((m : Int) + 1))) (hA : A = some ⟨g, 0, none⟩) (hst : st.length = m + 1) (ho : w.cell? ⟨C, 0, none⟩ = some (.int .i64 op)) (hx : w.cell? ⟨g, m, none⟩ = some (.int .i64 x)) (own : OwnIV base w (.slice A st.length cs) st) (hm : m ≤ 100) (hcs : m ≤ cs)
    (H : ∀ b Ax cx W', OwnIV w.heap.size W' (.slice Ax (m + 1) cx) (st.take m ++ [on op x]) → Below w.heap.size w W' → Stay a b → b.tmps[14]? = a.tmps[14]? → b.tmps[15]? = some (.slice Ax (m + 1) cx) → b.tmps[17]? = a.tmps[17]? → Q .normal b W') : lf14.wp Tryd.prog Q a w := by
  rw [hst] at h15
  have k15 := at_of hs (by decide) h15
  have k18 := at_of hs (by decide) h18
  have k19 := at_of hs (by decide) h19
  have i0 : (0 : Int) ≤ m := by omega
  have i1 : (m : Int) ≤ cs := by omega
  have i2 : (m : Int) < (m : Int) + 1 := by omega
  have i3 : IntKind.i64.wrap (m : Int) = m := by rw [IntKind.wrap_i64]; omega
  clear h15 h18 h19
  have HT1 : Hid (Ints (fun _ => True) (w.alloc (.cells #[] 3)).drew (.slice A m cs) (st.take m)) := by
    have h1 := ((own.take (m := m) (by omega)).ints (by simp; omega)).imp (fun _ _ => trivial) (Nat.le_refl _) fun _ _ _ _ _ h => h
    exact Ints.below h1 (bAlloc (bRefl w) _).drew
  clear own
  subst hA
  unfold lf14 nd8 nd7 nd6 nd5 nd4 nd3 nd2 nd1 nd0 sw
  simp only [Tryd.f12, Option.getD_some, cBV, cAV, cI, cT, cE]
  refine wp_seq_k fun K1 h1 => ?_
  have HH1 := hid_mk h1
  clear h1
  refine wp_region_noPanic ?_
  refine wp_region_held_drew (S := fun w' => w'.cell? ⟨C, 0, none⟩ = some (.int .i64 op) ∧ w'.cell? ⟨g, m, none⟩ = some (.int .i64 x)) (by kernel_rfl) ?_ (fun hHeld => ?_)
  · try dsimp only
    go_keep
  refine wpAnyH_take (i := 0) (oi := ⟨some 212, .fieldAddr 68 (.tmp 18) 0, 0, "vm.go:505", #[], none⟩) (v := ?_) rfl (by kernel_rfl) (by kernel_rfl) (by kernel_rfl) (fun _ _ _ h => h) (Or.inl ⟨by rfl, ?_⟩) (by assumption) ?_
  rotate_left
  · intro w hSw
    try dsimp only at hSw
    go_simp
    try with_reducible rfl
  try simp only [Act.put]
  refine wpAnyH_take (i := 1) (oi := ⟨some 213, .load 3 (.tmp 212), 3, "vm.go:505", #[⟨0, .data⟩], none⟩) (v := ?_) rfl (by kernel_rfl) (by kernel_rfl) (by kernel_rfl) (fun _ _ _ h => h) (Or.inl ⟨by rfl, ?_⟩) (by assumption) ?_
  rotate_left
  · intro w hSw
    try dsimp only at hSw
    go_simp
    try with_reducible rfl
  try simp only [Act.put]
  refine wpAnyH_take (i := 2) (oi := ⟨some 214, .move (.tmp 15), 27, "vm.go:505", #[], none⟩) (v := ?_) rfl (by kernel_rfl) (by kernel_rfl) (by kernel_rfl) (fun _ _ _ h => h) (Or.inl ⟨by rfl, ?_⟩) (by assumption) ?_
  rotate_left
  · intro w hSw
    try dsimp only at hSw
    go_simp
    try with_reducible rfl
  try simp only [Act.put]
  refine wpAnyH_take (i := 3) (oi := ⟨some 215, .move (.tmp 19), 3, "vm.go:505", #[], none⟩) (v := ?_) rfl (by kernel_rfl) (by kernel_rfl) (by kernel_rfl) (fun _ _ _ h => h) (Or.inl ⟨by rfl, ?_⟩) (by assumption) ?_
  rotate_left
  · intro w hSw
    try dsimp only at hSw
    go_simp
    try with_reducible rfl
  try simp only [Act.put]
  refine wpAnyH_take (i := 4) (oi := ⟨some 216, .binOp .sub 3 (.tmp 215) (.const (.int .i64 1)) 3, 3, "vm.go:505", #[⟨3, .data⟩], none⟩) (v := ?_) rfl (by kernel_rfl) (by kernel_rfl) (by kernel_rfl) (fun _ _ _ h => h) (Or.inl ⟨by rfl, ?_⟩) (by assumption) ?_
  rotate_left
  · intro w hSw
    try dsimp only at hSw
    go_simp
    try with_reducible rfl
  try simp only [Act.put]
  refine wpAnyH_take (i := 5) (oi := ⟨some 217, .indexAddr 27 (.tmp 214) (.tmp 216), 0, "vm.go:505", #[⟨2, .data⟩, ⟨4, .data⟩], none⟩) (v := ?_) rfl (by kernel_rfl) (by kernel_rfl) (by kernel_rfl) (fun _ _ _ h => h) (Or.inl ⟨by rfl, ?_⟩) (by assumption) ?_
  rotate_left
  · intro w hSw
    try dsimp only at hSw
    go_simp
    try with_reducible rfl
  try simp only [Act.put]
  refine wpAnyH_take (i := 6) (oi := ⟨some 218, .load 3 (.tmp 217), 3, "vm.go:505", #[⟨5, .data⟩], none⟩) (v := ?_) rfl (by kernel_rfl) (by kernel_rfl) (by kernel_rfl) (fun _ _ _ h => h) (Or.inl ⟨by rfl, ?_⟩) (by assumption) ?_
  rotate_left
  · intro w hSw
    try dsimp only at hSw
    go_simp
    try with_reducible rfl
  try simp only [Act.put]
  refine wpAnyH_ready (rs := [7]) (by kernel_rfl) (by simp) ?_
  refine AllReadyH.cons (o := ⟨some 219, .call { callee := .value (.func 30), args := #[.tmp 213, .tmp 218], argTypes := #[3, 3] }, 79, "vm.go:505", #[⟨1, .data⟩, ⟨6, .data⟩], none⟩) rfl (fun K hK => ?_) AllReadyH.nil
  go_simp
  go_at_call 30
  refine (rone_any _ _ _).mono ?_
  rintro e w' ⟨rfl, hw'⟩
  subst hw'
  try (go_wp2_with fail)
  refine hK.out _ _ ?_ (fun hHeld => ?_)
  · try dsimp only
    exact hHeld
  clear hK K
  try simp only [Act.put]
  refine wpAnyH_take (i := 8) (oi := ⟨some 211, .move (.tmp 219), 79, "vm.go:505", #[⟨7, .data⟩], none⟩) (v := ?_) rfl (by kernel_rfl) (by kernel_rfl) (by kernel_rfl) (fun _ _ _ h => h) (Or.inl ⟨by rfl, ?_⟩) (by assumption) ?_
  rotate_left
  · intro w hSw
    try dsimp only at hSw
    go_simp
    try with_reducible rfl
  try simp only [Act.put]
  refine wpAnyH_take (i := 9) (oi := ⟨some 220, .extract (.tmp 211) 0, 3, "vm.go:505", #[⟨8, .data⟩], none⟩) (v := ?_) rfl (by kernel_rfl) (by kernel_rfl) (by kernel_rfl) (fun _ _ _ h => h) (Or.inl ⟨by rfl, ?_⟩) (by assumption) ?_
  rotate_left
  · intro w hSw
    try dsimp only at hSw
    go_simp
    try with_reducible rfl
  try simp only [Act.put]
  refine wpAnyH_take (i := 10) (oi := ⟨some 221, .extract (.tmp 211) 1, 4, "vm.go:505", #[⟨8, .data⟩, ⟨11, .gcOnly .lateStores⟩], none⟩) (v := ?_) rfl (by kernel_rfl) (by kernel_rfl) (by kernel_rfl) (fun _ _ _ h => h) (Or.inl ⟨by rfl, ?_⟩) (by assumption) ?_
  rotate_left
  · intro w hSw
    try dsimp only at hSw
    go_simp
    try with_reducible rfl
  try simp only [Act.put]
  refine wpAnyH_take (i := 11) (oi := ⟨some 21, .assign (.tmp 220), 3, "vm.go:505", #[⟨9, .data⟩, ⟨7, .chain⟩, ⟨0, .phase⟩, ⟨1, .phase⟩, ⟨2, .phase⟩, ⟨3, .phase⟩, ⟨4, .phase⟩, ⟨5, .phase⟩, ⟨6, .phase⟩, ⟨7, .phase⟩, ⟨8, .phase⟩, ⟨9, .phase⟩, ⟨10, .textOnly .lateStores⟩], none⟩) (v := ?_) rfl (by kernel_rfl) (by kernel_rfl) (by kernel_rfl) (fun _ _ _ h => h) (Or.inl ⟨by rfl, ?_⟩) (by assumption) ?_
  rotate_left
  · intro w hSw
    try dsimp only at hSw
    go_simp
    try with_reducible rfl
  try simp only [Act.put]
  refine wpAnyH_take (i := 12) (oi := ⟨some 22, .assign (.tmp 221), 4, "vm.go:505", #[⟨10, .data⟩, ⟨11, .chain⟩, ⟨0, .phase⟩, ⟨1, .phase⟩, ⟨2, .phase⟩, ⟨3, .phase⟩, ⟨4, .phase⟩, ⟨5, .phase⟩, ⟨6, .phase⟩, ⟨7, .phase⟩, ⟨8, .phase⟩, ⟨9, .phase⟩, ⟨10, .phase⟩, ⟨11, .phase⟩], none⟩) (v := ?_) rfl (by kernel_rfl) (by kernel_rfl) (by kernel_rfl) (fun _ _ _ h => h) (Or.inl ⟨by rfl, ?_⟩) (by assumption) ?_
  rotate_left
  · intro w hSw
    try dsimp only at hSw
    go_simp
    try with_reducible rfl
  try simp only [Act.put]
  refine wpAnyH_done (by kernel_rfl) ?_ _
  refine NoPanic.normal ?_
  go_wp2
  refine HH1.out _ _ ?_
  go_wp2_with (first
    | (at_builtin; refine appIV (base := w.heap.size) (v := .slice (some ⟨w.heap.size, 0, none⟩) 0 0) (a := []) (A := some ⟨g, 0, none⟩) (c := cs) (n := m) (b := st.take m) rfl _ _ rfl (OwnIV.empty (heap_newD w) (Nat.le_refl _)) (by simp [Act.eval, *]) (by simp [Act.eval, *]) HT1.out (by simp; omega) (by simp) ?_; rintro A1 c1 W1 hi1; have HI1 := hid_mk hi1; clear hi1; have HO1 : Hid (OwnIV w.heap.size (W1.alloc (.cells #[.int .i64 (on op x)] 3)) (.slice A1 (([] : List Int).length + (st.take m).length) c1) ([] ++ st.take m)) := HI1.out.1.same fun g hg => (bAlloc (bRefl W1) _).block g (own_lt HI1.out.1 hg).2; have HZ1 : Hid (w.heap.size ≤ (W1.alloc (.cells #[.int .i64 (on op x)] 3)).heap.size) := Nat.le_trans (Nat.le_trans (by simp) HI1.out.2.1.size) (bAlloc (bRefl W1) _).size)
    | (at_builtin; refine appIV (base := w.heap.size) (a := [] ++ st.take m) (A := some ⟨W1.heap.size, 0, none⟩) (c := 1) (n := 1) (b := [(on op x)]) rfl _ _ rfl HO1.out (by simp [Act.eval, *]) (by simp [Act.eval, *]) (ints1V (heap_new W1 _)) (by simp; omega) HZ1.out ?_; rintro Ax cx W' hi2; have HI2 := hid_mk hi2; clear hi2)
    | fail)
  have hln : (st.take m).length = m := by simp; omega
  have ho2 := HI2.out.1
  simp only [List.nil_append, hln] at ho2
  have hb1 := grown_low (w := w) (wr := (w.alloc (.cells #[] 3)).drew) (bAlloc (bRefl w) _).drew HI1.out.2.1 (fun g e => by have e' : w.heap.size = g := Option.some.inj e; omega)
  have hb2 := grown_low (w := w) (bTrans hb1 (bAlloc (bRefl W1) _)) HI2.out.2.1 (fun g e => (own_lt HI1.out.1 e).1)
  exact H _ Ax cx W' ho2 hb2 ⟨by simp [hs], rfl, by simp⟩ (by simp) (by simp [hs]) (by simp)
set_option maxHeartbeats 4000000 in
theorem two_on {C g m : Nat} {op x y : Int} (hs : a.tmps.size = 330) (h15 : a.tmps[15]? = some (.slice A st.length cs)) (h18 : a.tmps[18]? = some (.pointer (some ⟨C, 0, none⟩))) (h19 : a.tmps[19]? = some (.int .i64 ((m : Int) + 2))) (hA : A = some ⟨g, 0, none⟩) (hst : st.length = m + 2) (ho : w.cell? ⟨C, 0, none⟩ = some (.int .i64 op)) (hx : w.cell? ⟨g, m, none⟩ = some (.int .i64 x)) (hy : w.cell? ⟨g, m + 1, none⟩ = some (.int .i64 y)) (hd : dn op y = 0) (own : OwnIV base w (.slice A st.length cs) st) (hm : m ≤ 100) (hcs : m ≤ cs)
    (H : ∀ b Ax cx W', OwnIV w.heap.size W' (.slice Ax (m + 1) cx) (st.take m ++ [tw op x y]) → Below w.heap.size w W' → Stay a b → b.tmps[14]? = a.tmps[14]? → b.tmps[15]? = some (.slice Ax (m + 1) cx) → b.tmps[17]? = a.tmps[17]? → Q .normal b W') : nd15.wp Tryd.prog Q a w := by
  rw [hst] at h15
  have k15 := at_of hs (by decide) h15
  have k18 := at_of hs (by decide) h18
  have k19 := at_of hs (by decide) h19
  have i0 : (0 : Int) ≤ m := by omega
  have i1 : (m : Int) ≤ cs := by omega
  have i2 : (m : Int) < (m : Int) + 2 := by omega
  have i4 : (m : Int) + 1 < (m : Int) + 2 := by omega
  have i5 : (0 : Int) ≤ (m : Int) + 1 := by omega
  have i3 : IntKind.i64.wrap (m : Int) = m := by rw [IntKind.wrap_i64]; omega
  have i7 : (m : Int) + 2 - 1 = (m : Int) + 1 := by omega
  have i9 : IntKind.i64.wrap ((m : Int) + 1) = (m : Int) + 1 := by rw [IntKind.wrap_i64]; omega
  have i10 : ((m : Int) + 1).toNat = m + 1 := by omega
  clear h15 h18 h19
  have HT1 : Hid (Ints (fun _ => True) (w.alloc (.cells #[] 3)).drew (.slice A m cs) (st.take m)) := by
    have h1 := ((own.take (m := m) (by omega)).ints (by simp; omega)).imp (fun _ _ => trivial) (Nat.le_refl _) fun _ _ _ _ _ h => h
    exact Ints.below h1 (bAlloc (bRefl w) _).drew
  clear own
  subst hA
  unfold nd15 nd14 nd13 nd12 nd11 nd10 nd9 nd8 nd7 nd6 nd5 nd4 nd3 nd2 nd1 nd0 sw
  simp only [Tryd.f12, Option.getD_some, cBV, cAV, cI, cE]
  refine wp_seq_k fun K0 h0 => ?_
  have HH0 := hid_mk h0
  clear h0
  refine wp_region_noPanic ?_
  refine wp_region_held_drew (S := fun w' => w'.cell? ⟨C, 0, none⟩ = some (.int .i64 op) ∧ w'.cell? ⟨g, m, none⟩ = some (.int .i64 x) ∧ w'.cell? ⟨g, m + 1, none⟩ = some (.int .i64 y)) (by kernel_rfl) ?_ (fun hHeld => ?_)
  · try dsimp only
    go_keep
  refine wpAnyH_take (i := 0) (oi := ⟨some 78, .fieldAddr 68 (.tmp 18) 0, 0, "vm.go:530", #[], none⟩) (v := ?_) rfl (by kernel_rfl) (by kernel_rfl) (by kernel_rfl) (fun _ _ _ h => h) (Or.inl ⟨by rfl, ?_⟩) (by assumption) ?_
  rotate_left
  · intro w hSw
    try dsimp only at hSw
    go_simp
    try with_reducible rfl
  try simp only [Act.put]
  refine wpAnyH_take (i := 1) (oi := ⟨some 79, .load 3 (.tmp 78), 3, "vm.go:530", #[⟨0, .data⟩], none⟩) (v := ?_) rfl (by kernel_rfl) (by kernel_rfl) (by kernel_rfl) (fun _ _ _ h => h) (Or.inl ⟨by rfl, ?_⟩) (by assumption) ?_
  rotate_left
  · intro w hSw
    try dsimp only at hSw
    go_simp
    try with_reducible rfl
  try simp only [Act.put]
  refine wpAnyH_take (i := 2) (oi := ⟨some 80, .move (.tmp 15), 27, "vm.go:530", #[], none⟩) (v := ?_) rfl (by kernel_rfl) (by kernel_rfl) (by kernel_rfl) (fun _ _ _ h => h) (Or.inl ⟨by rfl, ?_⟩) (by assumption) ?_
  rotate_left
  · intro w hSw
    try dsimp only at hSw
    go_simp
    try with_reducible rfl
  try simp only [Act.put]
  refine wpAnyH_take (i := 3) (oi := ⟨some 81, .move (.tmp 19), 3, "vm.go:530", #[], none⟩) (v := ?_) rfl (by kernel_rfl) (by kernel_rfl) (by kernel_rfl) (fun _ _ _ h => h) (Or.inl ⟨by rfl, ?_⟩) (by assumption) ?_
  rotate_left
  · intro w hSw
    try dsimp only at hSw
    go_simp
    try with_reducible rfl
  try simp only [Act.put]
  refine wpAnyH_take (i := 4) (oi := ⟨some 82, .binOp .sub 3 (.tmp 81) (.const (.int .i64 2)) 3, 3, "vm.go:530", #[⟨3, .data⟩], none⟩) (v := ?_) rfl (by kernel_rfl) (by kernel_rfl) (by kernel_rfl) (fun _ _ _ h => h) (Or.inl ⟨by rfl, ?_⟩) (by assumption) ?_
  rotate_left
  · intro w hSw
    try dsimp only at hSw
    go_simp
    try with_reducible rfl
  try simp only [Act.put]
  refine wpAnyH_take (i := 5) (oi := ⟨some 83, .indexAddr 27 (.tmp 80) (.tmp 82), 0, "vm.go:530", #[⟨2, .data⟩, ⟨4, .data⟩], none⟩) (v := ?_) rfl (by kernel_rfl) (by kernel_rfl) (by kernel_rfl) (fun _ _ _ h => h) (Or.inl ⟨by rfl, ?_⟩) (by assumption) ?_
  rotate_left
  · intro w hSw
    try dsimp only at hSw
    go_simp
    try with_reducible rfl
  try simp only [Act.put]
  refine wpAnyH_take (i := 6) (oi := ⟨some 84, .load 3 (.tmp 83), 3, "vm.go:530", #[⟨5, .data⟩], none⟩) (v := ?_) rfl (by kernel_rfl) (by kernel_rfl) (by kernel_rfl) (fun _ _ _ h => h) (Or.inl ⟨by rfl, ?_⟩) (by assumption) ?_
  rotate_left
  · intro w hSw
    try dsimp only at hSw
    go_simp
    try with_reducible rfl
  try simp only [Act.put]
  refine wpAnyH_take (i := 7) (oi := ⟨some 85, .move (.tmp 15), 27, "vm.go:530", #[], none⟩) (v := ?_) rfl (by kernel_rfl) (by kernel_rfl) (by kernel_rfl) (fun _ _ _ h => h) (Or.inl ⟨by rfl, ?_⟩) (by assumption) ?_
  rotate_left
  · intro w hSw
    try dsimp only at hSw
    go_simp
    try with_reducible rfl
  try simp only [Act.put]
  refine wpAnyH_take (i := 8) (oi := ⟨some 86, .move (.tmp 19), 3, "vm.go:530", #[], none⟩) (v := ?_) rfl (by kernel_rfl) (by kernel_rfl) (by kernel_rfl) (fun _ _ _ h => h) (Or.inl ⟨by rfl, ?_⟩) (by assumption) ?_
  rotate_left
  · intro w hSw
    try dsimp only at hSw
    go_simp
    try with_reducible rfl
  try simp only [Act.put]
  refine wpAnyH_take (i := 9) (oi := ⟨some 87, .binOp .sub 3 (.tmp 86) (.const (.int .i64 1)) 3, 3, "vm.go:530", #[⟨8, .data⟩], none⟩) (v := ?_) rfl (by kernel_rfl) (by kernel_rfl) (by kernel_rfl) (fun _ _ _ h => h) (Or.inl ⟨by rfl, ?_⟩) (by assumption) ?_
  rotate_left
  · intro w hSw
    try dsimp only at hSw
    go_simp
    try with_reducible rfl
  try simp only [Act.put]
  refine wpAnyH_take (i := 10) (oi := ⟨some 88, .indexAddr 27 (.tmp 85) (.tmp 87), 0, "vm.go:530", #[⟨7, .data⟩, ⟨9, .data⟩], none⟩) (v := ?_) rfl (by kernel_rfl) (by kernel_rfl) (by kernel_rfl) (fun _ _ _ h => h) (Or.inl ⟨by rfl, ?_⟩) (by assumption) ?_
  rotate_left
  · intro w hSw
    try dsimp only at hSw
    go_simp
    try with_reducible rfl
  try simp only [Act.put]
  refine wpAnyH_take (i := 11) (oi := ⟨some 89, .load 3 (.tmp 88), 3, "vm.go:530", #[⟨10, .data⟩], none⟩) (v := ?_) rfl (by kernel_rfl) (by kernel_rfl) (by kernel_rfl) (fun _ _ _ h => h) (Or.inl ⟨by rfl, ?_⟩) (by assumption) ?_
  rotate_left
  · intro w hSw
    try dsimp only at hSw
    go_simp
    try with_reducible rfl
  try simp only [Act.put]
  refine wpAnyH_ready (rs := [12]) (by kernel_rfl) (by simp) ?_
  refine AllReadyH.cons (o := ⟨some 90, .call { callee := .value (.func 31), args := #[.tmp 79, .tmp 84, .tmp 89], argTypes := #[3, 3, 3] }, 81, "vm.go:530", #[⟨1, .data⟩, ⟨6, .data⟩, ⟨11, .data⟩], none⟩) rfl (fun K hK => ?_) AllReadyH.nil
  go_simp
  go_at_call 31
  refine (rtwo_any _ _ _ _).mono ?_
  rintro e w' ⟨rfl, hw'⟩
  subst hw'
  try (go_wp2_with fail)
  refine hK.out _ _ ?_ (fun hHeld => ?_)
  · try dsimp only
    exact hHeld
  clear hK K
  try simp only [Act.put]
  refine wpAnyH_take (i := 13) (oi := ⟨some 77, .move (.tmp 90), 81, "vm.go:530", #[⟨12, .data⟩], none⟩) (v := ?_) rfl (by kernel_rfl) (by kernel_rfl) (by kernel_rfl) (fun _ _ _ h => h) (Or.inl ⟨by rfl, ?_⟩) (by assumption) ?_
  rotate_left
  · intro w hSw
    try dsimp only at hSw
    go_simp
    try with_reducible rfl
  try simp only [Act.put]
  refine wpAnyH_take (i := 14) (oi := ⟨some 91, .extract (.tmp 77) 0, 3, "vm.go:530", #[⟨13, .data⟩], none⟩) (v := ?_) rfl (by kernel_rfl) (by kernel_rfl) (by kernel_rfl) (fun _ _ _ h => h) (Or.inl ⟨by rfl, ?_⟩) (by assumption) ?_
  rotate_left
  · intro w hSw
    try dsimp only at hSw
    go_simp
    try with_reducible rfl
  try simp only [Act.put]
  refine wpAnyH_take (i := 15) (oi := ⟨some 92, .extract (.tmp 77) 1, 3, "vm.go:530", #[⟨13, .data⟩, ⟨16, .gcOnly .lateStores⟩], none⟩) (v := ?_) rfl (by kernel_rfl) (by kernel_rfl) (by kernel_rfl) (fun _ _ _ h => h) (Or.inl ⟨by rfl, ?_⟩) (by assumption) ?_
  rotate_left
  · intro w hSw
    try dsimp only at hSw
    go_simp
    try with_reducible rfl
  try simp only [Act.put]
  refine wpAnyH_take (i := 16) (oi := ⟨some 25, .assign (.tmp 91), 3, "vm.go:530", #[⟨14, .data⟩, ⟨12, .chain⟩, ⟨0, .phase⟩, ⟨1, .phase⟩, ⟨2, .phase⟩, ⟨3, .phase⟩, ⟨4, .phase⟩, ⟨5, .phase⟩, ⟨6, .phase⟩, ⟨7, .phase⟩, ⟨8, .phase⟩, ⟨9, .phase⟩, ⟨10, .phase⟩, ⟨11, .phase⟩, ⟨12, .phase⟩, ⟨13, .phase⟩, ⟨14, .phase⟩, ⟨15, .textOnly .lateStores⟩], none⟩) (v := ?_) rfl (by kernel_rfl) (by kernel_rfl) (by kernel_rfl) (fun _ _ _ h => h) (Or.inl ⟨by rfl, ?_⟩) (by assumption) ?_
  rotate_left
  · intro w hSw
    try dsimp only at hSw
    go_simp
    try with_reducible rfl
  try simp only [Act.put]
  refine wpAnyH_take (i := 17) (oi := ⟨some 26, .assign (.tmp 92), 3, "vm.go:530", #[⟨15, .data⟩, ⟨16, .chain⟩, ⟨0, .phase⟩, ⟨1, .phase⟩, ⟨2, .phase⟩, ⟨3, .phase⟩, ⟨4, .phase⟩, ⟨5, .phase⟩, ⟨6, .phase⟩, ⟨7, .phase⟩, ⟨8, .phase⟩, ⟨9, .phase⟩, ⟨10, .phase⟩, ⟨11, .phase⟩, ⟨12, .phase⟩, ⟨13, .phase⟩, ⟨14, .phase⟩, ⟨15, .phase⟩, ⟨16, .phase⟩], none⟩) (v := ?_) rfl (by kernel_rfl) (by kernel_rfl) (by kernel_rfl) (fun _ _ _ h => h) (Or.inl ⟨by rfl, ?_⟩) (by assumption) ?_
  rotate_left
  · intro w hSw
    try dsimp only at hSw
    go_simp
    try with_reducible rfl
  try simp only [Act.put]
  refine wpAnyH_done (by kernel_rfl) ?_ _
  refine NoPanic.normal ?_
  go_wp2
  refine HH0.out _ _ ?_
  refine wp_seq_k fun K1 h1 => ?_
  refine wp_seq_k fun K2 h2 => ?_
  have HH1 := hid_mk h1
  have HH2 := hid_mk h2
  clear h1 h2
  go_wp2
  refine HH2.out _ _ ?_
  refine wp_cond_false (by simp [Act.eval, hs]) ?_
  go_wp2
  refine HH1.out _ _ ?_
  go_wp2_with (first
    | (at_builtin; refine appIV (base := w.heap.size) (v := .slice (some ⟨w.heap.size, 0, none⟩) 0 0) (a := []) (A := some ⟨g, 0, none⟩) (c := cs) (n := m) (b := st.take m) rfl _ _ rfl (OwnIV.empty (heap_newD w) (Nat.le_refl _)) (by simp [Act.eval, *]) (by simp [Act.eval, *]) HT1.out (by simp; omega) (by simp) ?_; rintro A1 c1 W1 hi1; have HI1 := hid_mk hi1; clear hi1; have HO1 : Hid (OwnIV w.heap.size (W1.alloc (.cells #[.int .i64 (tw op x y)] 3)) (.slice A1 (([] : List Int).length + (st.take m).length) c1) ([] ++ st.take m)) := HI1.out.1.same fun g hg => (bAlloc (bRefl W1) _).block g (own_lt HI1.out.1 hg).2; have HZ1 : Hid (w.heap.size ≤ (W1.alloc (.cells #[.int .i64 (tw op x y)] 3)).heap.size) := Nat.le_trans (Nat.le_trans (by simp) HI1.out.2.1.size) (bAlloc (bRefl W1) _).size)
    | (at_builtin; refine appIV (base := w.heap.size) (a := [] ++ st.take m) (A := some ⟨W1.heap.size, 0, none⟩) (c := 1) (n := 1) (b := [(tw op x y)]) rfl _ _ rfl HO1.out (by simp [Act.eval, *]) (by simp [Act.eval, *]) (ints1V (heap_new W1 _)) (by simp; omega) HZ1.out ?_; rintro Ax cx W' hi2; have HI2 := hid_mk hi2; clear hi2)
    | fail)
  have hln : (st.take m).length = m := by simp; omega
  have ho2 := HI2.out.1
  simp only [List.nil_append, hln] at ho2
  have hb1 := grown_low (w := w) (wr := (w.alloc (.cells #[] 3)).drew) (bAlloc (bRefl w) _).drew HI1.out.2.1 (fun g e => by have e' : w.heap.size = g := Option.some.inj e; omega)
  have hb2 := grown_low (w := w) (bTrans hb1 (bAlloc (bRefl W1) _)) HI2.out.2.1 (fun g e => (own_lt HI1.out.1 e).1)
  exact H _ Ax cx W' ho2 hb2 ⟨by simp [hs], rfl, by simp⟩ (by simp) (by simp [hs]) (by simp)
end
end Go.Proofs.YtfbeiedhdmndnaaDoor
