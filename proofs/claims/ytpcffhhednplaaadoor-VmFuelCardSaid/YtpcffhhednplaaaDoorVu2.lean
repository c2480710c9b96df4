/-
  Run, where it may. Condition: the table of the instructions is in the world.
-/
import Derived.Test.YtpcffhhednplaaaDoorVu
import Derived.Deep.RegionHeld3
import Derived.Deep.DeepCutAuto
namespace Go.Proofs.YtpcffhhednplaaaDoor
open Go.RowKit
attribute [local go_sem ↓] Go.wp_at_zero Go.wp_at_succ
theorem RG.so {w0 w : World} {B b' j : Nat} {v : Value} {l : List Int} (h : RG w0 B w v l) (hb : b' = B ∨ b' < w0.heap.size) (x : Value) : RG w0 B (w.setCell ⟨b', j, none⟩ x) v l :=
  h.same fun b e => Below.heap_setCell _ _ _ _ (fun e' => by
    have e2 : b = b' := e'
    have := h.hb e
    rcases hb with hb | hb <;> omega)
theorem NT.so {w0 w : World} {B b' j : Nat} {R : Nat → Prop} {v : Value} {l : List PNte} {us : List Value} (h : NT w0 (fun b => b = B ∨ R b) w v l us) (hb : b' = B ∨ b' < w0.heap.size) (x : Value) : NT w0 (fun b => b = B ∨ R b) (w.setCell ⟨b', j, none⟩ x) v l us := by
  have hs : ∀ b, w0.heap.size ≤ b → ¬ (b = B ∨ R b) → (w.setCell ⟨b', j, none⟩ x).heap[b]? = w.heap[b]? := fun b h0 hn => Below.heap_setCell _ _ _ _ (fun e' => by
    have e2 : b = b' := e'
    rcases hb with hb | hb
    · exact hn (Or.inl (by omega))
    · omega)
  exact ⟨own_block h.own fun g hg _ => hs g (own_lt h.own hg).1 (h.nx g hg), h.len, fun k n u hn hu => (h.rd k n u hn hu).same ⟨by simp, fun b hb _ => hs b hb.1 hb.2.1⟩, h.nx⟩
theorem NT.up {w0 w wz : World} {ex : Nat → Prop} {v : Value} {l : List PNte} {us : List Value} (h : NT w0 ex w v l us) (hzz : wz.heap.size ≤ w0.heap.size) : Ntes (fun b => wz.heap.size ≤ b) (fun b => wz.heap.size ≤ b) w v l := by
  obtain ⟨h1, h2⟩ := h.own
  rcases h2 with ⟨rfl, h2⟩ | ⟨g, cap, cur, rfl, hb, hh, h3, h4, h5, h6⟩
  · have : l = [] := by cases l with | nil => rfl | cons _ _ => simp at h2
    subst this; exact ⟨_, _, rfl, by simp, Or.inl rfl⟩
  · refine ⟨_, cap, rfl, by unfold maxLen at h4; omega, Or.inr ⟨g, 0, rfl, Nat.le_trans hzz hb, (Array.getElem?_eq_some_iff.1 hh).1, fun k n hn => ?_⟩⟩
    have hk := (List.getElem?_eq_some_iff.1 hn).1
    obtain ⟨u, hu⟩ := at_lt (l := us) (k := k) (by rw [h.len]; exact hk)
    have hz : (List.zipWith (fun (n : PNte) u => [Value.int .i64 n.to, Value.int .i64 n.hd, u]) l us)[k]? = some [Value.int .i64 n.to, Value.int .i64 n.hd, u] := by
      rw [List.getElem?_zipWith, hn, hu]
    have hcell : ∀ j, j < l.length * 3 → w.cell? ⟨g, j, none⟩ = ((List.zipWith (fun (n : PNte) u => [Value.int .i64 n.to, Value.int .i64 n.hd, u]) l us).flatten)[j]? := fun j hj => by
      rw [cell_of_row _ _ _ _ _ _ hh, ← h6, List.getElem?_take, if_pos hj]; simp
    have hc : ∀ j, j < 3 → w.cell? ⟨g, 0 + k * 3 + j, none⟩ = [Value.int .i64 n.to, Value.int .i64 n.hd, u][j]? := fun j hj => by
      rw [Nat.zero_add, hcell _ (by omega), flat_at _ (zip_len l us) k j hj, hz]; rfl
    exact ⟨hc 0 (by omega), hc 1 (by omega), u, hc 2 (by omega), (h.rd k n u hn hu).imp (fun b hb => Nat.le_trans hzz hb.1) (Nat.le_refl _) fun _ _ _ _ _ h => h⟩
theorem fc_parts {p : PPrg} (h : fc p = 0) : chk p = 0 ∧ ∀ x ∈ p.hs, de p.hs x.code = 0 := by
  unfold fc at h
  by_cases e : chk p = 0
  · rw [if_pos e] at h; exact ⟨e, scan_zero h⟩
  · rw [if_neg e] at h; exact absurd h e
theorem chk_fuel {p : PPrg} (h : chk p = 0) : 1 ≤ p.fuel ∧ p.fuel ≤ 256 := by
  unfold chk at h
  by_cases e0 : chkC p = 0
  · unfold chkC at e0
    by_cases e1 : p.hs.length ≤ 16 ∧ p.acs.length ≤ 8 ∧ p.bs.length ≤ 16
    · rw [if_pos e1] at e0
      by_cases e2 : p.acs.length ≠ 0 ∧ (1 ≤ p.fuel ∧ p.fuel ≤ 256)
      · exact e2.2
      · rw [if_neg e2] at e0; cases e0
    · rw [if_neg e1] at e0; cases e0
  · rw [if_neg e0] at h; exact absurd h e0
theorem hid_mk {q : Prop} (h : q) : Hid q := h
theorem s_row {w2 : World} {B a b1 o : Nat} {t0 t1 t2 t3 t4 t5 t6 t7 t8 t9 : Value} (n0 : a ≠ B) (n1 : a + 1 ≠ B) (n2 : b1 ≠ B) (vs : Array Value) (h : w2.cell? ⟨a, 0, none⟩ = some t0 ∧ w2.cell? ⟨a, 1, none⟩ = some t1 ∧ w2.cell? ⟨a, 2, none⟩ = some t2 ∧ w2.cell? ⟨a, 3, none⟩ = some t3 ∧ w2.cell? ⟨a + 1, 0, none⟩ = some t4 ∧ w2.cell? ⟨a + 1, 1, none⟩ = some t5 ∧ w2.cell? ⟨a + 1, 2, none⟩ = some t6 ∧ w2.cell? ⟨a + 1, 3, none⟩ = some t7 ∧ w2.cell? ⟨a + 1, 4, none⟩ = some t8 ∧ w2.cell? ⟨b1, o, none⟩ = some t9) :
    (w2.setRow B vs).cell? ⟨a, 0, none⟩ = some t0 ∧ (w2.setRow B vs).cell? ⟨a, 1, none⟩ = some t1 ∧ (w2.setRow B vs).cell? ⟨a, 2, none⟩ = some t2 ∧ (w2.setRow B vs).cell? ⟨a, 3, none⟩ = some t3 ∧ (w2.setRow B vs).cell? ⟨a + 1, 0, none⟩ = some t4 ∧ (w2.setRow B vs).cell? ⟨a + 1, 1, none⟩ = some t5 ∧ (w2.setRow B vs).cell? ⟨a + 1, 2, none⟩ = some t6 ∧ (w2.setRow B vs).cell? ⟨a + 1, 3, none⟩ = some t7 ∧ (w2.setRow B vs).cell? ⟨a + 1, 4, none⟩ = some t8 ∧ (w2.setRow B vs).cell? ⟨b1, o, none⟩ = some t9 := by
  obtain ⟨h0, h1, h2, h3, h4, h5, h6, h7, h8, h9⟩ := h
  exact ⟨(cell_setRow_other _ _ _ _ n0).trans h0, (cell_setRow_other _ _ _ _ n0).trans h1, (cell_setRow_other _ _ _ _ n0).trans h2, (cell_setRow_other _ _ _ _ n0).trans h3, (cell_setRow_other _ _ _ _ n1).trans h4, (cell_setRow_other _ _ _ _ n1).trans h5, (cell_setRow_other _ _ _ _ n1).trans h6, (cell_setRow_other _ _ _ _ n1).trans h7, (cell_setRow_other _ _ _ _ n1).trans h8, (cell_setRow_other _ _ _ _ n2).trans h9⟩
/-- The run's block is there. -/
def Z24 (w : World) (B : Nat) : Prop := w.heap[B]? = some (.cells #[.slice none 0 0, .slice none 0 0, .slice none 0 0, .int .i64 0, .int .i64 0, .slice none 0 0, .slice none 0 0, .slice none 0 0, .bool false, .int .i64 0, .int .i64 0, .int .i64 0, .slice none 0 0, .int .i64 0, .int .i64 0, .int .i64 0, .int .i64 0, .int .i64 0, .int .i64 0, .int .i64 0, .int .i64 0, .int .i64 0, .int .i64 0, .int .i64 0] 66)
theorem wp_store_eq {P : Program} {o : Oper} {a : Act} {w : World} {K : Act → World → Prop} {Q : Exit → Act → World → Prop} (ty : TypeId) (x y : Operand) (ho : o.op = .store ty x y)
    (g : Nat) (cells : Array Value) (hx : a.eval x = .pointer (some ⟨g, 0, none⟩)) (hy : a.eval y = .agg cells)
    (t : TypeId) (old : Array Value) (hg : w.heap[g]? = some (.cells old t (0, 0))) (hi : (P.info? ty).map (·.size) = some cells.size)
    (hold : old.size = cells.size) (h1 : cells.all (·.oneCell') = true) : o.wp P a w K Q = K (a.put o.dst undef) (w.setRow g cells) := by
  unfold Oper.wp execOp
  simp only [ho, hx, hy, Instr.storeAt, Instr.sureAddr, Sem.run_bind, Sem.run_pure, Result.andThen_ok, run_storeVar_row w g t ty old cells hg hi hold h1]
  rfl
set_option maxRecDepth 100000 in
theorem wp_store_run {ty : TypeId} {pos : String} {aft : Array Edge} {w : World} {B : Nat} {a0 : Option Addr} {n0 c0 : Nat} {a1 : Option Addr} {n1 c1 : Nat} {a2 : Option Addr} {n2 c2 : Nat} {i3 : Int} {i4 : Int} {a5 : Option Addr} {n5 c5 : Nat} {a6 : Option Addr} {n6 c6 : Nat} {a7 : Option Addr} {n7 c7 : Nat} {b8 : Bool} {i9 : Int} {i10 : Int} {i11 : Int} {a12 : Option Addr} {n12 c12 : Nat} {i13 : Int} {i14 : Int} {i15 : Int} {i16 : Int} {i17 : Int} {i18 : Int} {i19 : Int} {i20 : Int} {i21 : Int} {i22 : Int} {i23 : Int} {t0 t1 t2 t3 t4 t5 t6 t7 t8 t9 t10 t12 t13 t14 t15 t16 t17 t18 t19 t20 t21 t22 t23 t24 t25 t26 t27 t28 t29 t30 t31 t32 t34 t35 t36 t37 t38 t39 t40 t41 t42 t43 t44 t45 t46 t47 t48 t49 t50 t51 t52 t53 t54 t55 t56 t57 t58 t59 t60 : Value} {K : Act → World → Prop} {Q : Exit → Act → World → Prop} (hZ : Z24 w B) :
    Oper.wp Tryd.prog ⟨none, Op.store 66 (.tmp 11) (.tmp 33), ty, pos, aft, none⟩ { tmps := #[t0, t1, t2, t3, t4, t5, t6, t7, t8, t9, t10, .pointer (some ⟨B, 0, none⟩), t12, t13, t14, t15, t16, t17, t18, t19, t20, t21, t22, t23, t24, t25, t26, t27, t28, t29, t30, t31, t32, .agg #[.slice a0 n0 c0, .slice a1 n1 c1, .slice a2 n2 c2, .int .i64 i3, .int .i64 i4, .slice a5 n5 c5, .slice a6 n6 c6, .slice a7 n7 c7, .bool b8, .int .i64 i9, .int .i64 i10, .int .i64 i11, .slice a12 n12 c12, .int .i64 i13, .int .i64 i14, .int .i64 i15, .int .i64 i16, .int .i64 i17, .int .i64 i18, .int .i64 i19, .int .i64 i20, .int .i64 i21, .int .i64 i22, .int .i64 i23], t34, t35, t36, t37, t38, t39, t40, t41, t42, t43, t44, t45, t46, t47, t48, t49, t50, t51, t52, t53, t54, t55, t56, t57, t58, t59, t60], defers := [] } w K Q = K { tmps := #[t0, t1, t2, t3, t4, t5, t6, t7, t8, t9, t10, .pointer (some ⟨B, 0, none⟩), t12, t13, t14, t15, t16, t17, t18, t19, t20, t21, t22, t23, t24, t25, t26, t27, t28, t29, t30, t31, t32, .agg #[.slice a0 n0 c0, .slice a1 n1 c1, .slice a2 n2 c2, .int .i64 i3, .int .i64 i4, .slice a5 n5 c5, .slice a6 n6 c6, .slice a7 n7 c7, .bool b8, .int .i64 i9, .int .i64 i10, .int .i64 i11, .slice a12 n12 c12, .int .i64 i13, .int .i64 i14, .int .i64 i15, .int .i64 i16, .int .i64 i17, .int .i64 i18, .int .i64 i19, .int .i64 i20, .int .i64 i21, .int .i64 i22, .int .i64 i23], t34, t35, t36, t37, t38, t39, t40, t41, t42, t43, t44, t45, t46, t47, t48, t49, t50, t51, t52, t53, t54, t55, t56, t57, t58, t59, t60], defers := [] } (w.setRow B #[.slice a0 n0 c0, .slice a1 n1 c1, .slice a2 n2 c2, .int .i64 i3, .int .i64 i4, .slice a5 n5 c5, .slice a6 n6 c6, .slice a7 n7 c7, .bool b8, .int .i64 i9, .int .i64 i10, .int .i64 i11, .slice a12 n12 c12, .int .i64 i13, .int .i64 i14, .int .i64 i15, .int .i64 i16, .int .i64 i17, .int .i64 i18, .int .i64 i19, .int .i64 i20, .int .i64 i21, .int .i64 i22, .int .i64 i23]) := by
  have hi : (Tryd.prog.info? 66).map (·.size) = some 24 := by kernel_rfl
  exact wp_store_eq 66 (.tmp 11) (.tmp 33) rfl B #[.slice a0 n0 c0, .slice a1 n1 c1, .slice a2 n2 c2, .int .i64 i3, .int .i64 i4, .slice a5 n5 c5, .slice a6 n6 c6, .slice a7 n7 c7, .bool b8, .int .i64 i9, .int .i64 i10, .int .i64 i11, .slice a12 n12 c12, .int .i64 i13, .int .i64 i14, .int .i64 i15, .int .i64 i16, .int .i64 i17, .int .i64 i18, .int .i64 i19, .int .i64 i20, .int .i64 i21, .int .i64 i22, .int .i64 i23] rfl rfl 66 _ hZ hi rfl (by simp [Value.oneCell'])
def fxv (a1 a2 a3 va vc u : Value) (p : PPrg) (who : Int) (l : PLoc) : FX := ⟨a1, a2, a3, p.fuel, who, va, vc, u, l.down, l.sent, l.over⟩

attribute [local go_sem ↓] wp_store_run
set_option maxHeartbeats 4000000 in
set_option maxRecDepth 100000 in
theorem run_yes (ok oka : Nat → Prop) (w : World) (v vl va : Value) (p : PPrg) (who : Int) (l : PLoc) (h : Int) (args : List Int) (ht : Tab w) (hp : PrgV w v p) (hl : LocV ok w vl l) (ha : Ints oka w va args) (hm : mayP p who l h args) :
    Calls Tryd.prog 16 #[v, .int .i64 who, vl, .int .i64 h, va] w fun e w' => ∃ u, e = .returned u ∧ ResV (fun b => w.heap.size ≤ b) w' u (runP p who l h args) ∧ Below w.heap.size w w' := by
  have HP : Hid (PrgV w v p) := hp
  have HV : Hid (LocV ok w vl l) := hl
  have HA : Hid (Ints oka w va args) := ha
  have HM : Hid (mayB p who l h args = true) := mayB_yes hm
  have HR : Hid (runP p who l h args = fin l (rnR p who l h args)) := by show _ = _; unfold runP; exact @if_pos _ (Classical.propDecidable _) hm _ _ _
  obtain ⟨v1, v2, v3, rfl, h1, h2, h3⟩ := hp
  obtain ⟨A1, c1, rfl, hl1⟩ := h1.form
  obtain ⟨A2, c2, rfl, hl2⟩ := h2.form
  obtain ⟨A3, c3, rfl, hl3⟩ := h3.form
  obtain ⟨vr, rfl, hr⟩ := hl
  obtain ⟨A4, c4, rfl, hl4⟩ := hr.form
  obtain ⟨A5, c5, rfl, hl5⟩ := ha.form
  have HT : Hid (Tab w) := ht
  obtain ⟨m0, m1, m2, m3, m4, m5⟩ := hm
  obtain ⟨k, rfl⟩ := Int.eq_ofNat_of_zero_le m2.1
  obtain ⟨b1, o1, y, u1, rfl, hy, hz1, q1, q2, hcd⟩ := h1.cell (bRefl w) (k := k) (by omega)
  obtain ⟨Ac, cc, rfl, hlc⟩ := hcd.form
  have hzb : b1 < w.heap.size := hz1
  have hk : k < p.hs.length := by omega
  have HY : Hid (chkH p.hs.length y = 0 ∧ OkH p.hs ∧ (args.length : Int) = y.args ∧ Good p.hs y.code (dl p.hs y.code)) := by
    obtain ⟨f1, f2⟩ := fc_parts m0
    have hmem := List.mem_of_getElem? hy
    exact ⟨chk_hs f1 y hmem, (chk_ok f1).1, by rw [m3, argsOf_at hy], dp_some (f2 y hmem)⟩
  have HF : Hid (0 ≤ p.fuel ∧ p.fuel ≤ 256) := by have := chk_fuel (fc_parts m0).1; exact ⟨by omega, this.2⟩
  have HC : Hid (rnR p who l (k : Int) args = rn p who args y.code p.fuel.toNat (ms0 l)) := by show _ = _; unfold rnR; rw [fcode_at hy]
  have HW : Hid (0 ≤ who ∧ who < p.acs.length) := m1
  have H8 : Hid (l.regs.length ≤ 8) := m4
  have HD : Hid (l.down = 0) := m5
  have HX : Hid (∀ u w', Below w.heap.size w w' → PX w' (fxv (.slice (some ⟨b1, o1, none⟩) p.hs.length c1) (.slice A2 p.acs.length c2) (.slice A3 p.bs.length c3) (.slice A5 args.length c5) (.slice Ac y.code.length cc) u p who l) p args y.code) :=
    fun u w' hb => ⟨h1.below hb, h2.below hb, rfl, Ints.below (ha.any) hb, Code.below (hcd.any) hb, m1⟩
  clear ht h1 h2 h3 hr ha m0 m1 m2 m3 m4 m5 hy hcd hz1
  go_enter Tryd.func16, Tryd.ntmps16
  go_wp2_with fail
  have HB := bx3_below w #[.slice (some ⟨b1, o1, none⟩) p.hs.length c1, .slice A2 p.acs.length c2, .slice A3 p.bs.length c3, .int .i64 p.fuel] #[.slice A4 l.regs.length c4, .bool l.armed, .int .i64 l.down, .int .i64 l.sent, .int .i64 l.over]
  refine (may_is ok oka (bx3 w #[.slice (some ⟨b1, o1, none⟩) p.hs.length c1, .slice A2 p.acs.length c2, .slice A3 p.bs.length c3, .int .i64 p.fuel] #[.slice A4 l.regs.length c4, .bool l.armed, .int .i64 l.down, .int .i64 l.sent, .int .i64 l.over]) _ _ _ p who l k args (HT.out.below HB) (HP.out.below HB) (HV.out.below HB) (HA.out.below HB) _ HM.out).mono ?_
  rintro e w1 ⟨rfl, hb1⟩
  have hs1 := hb1.size
  rw [bx3_size] at hs1
  obtain ⟨p0, p1, p2, p3, pf⟩ := blk4 ((hb1.block _ (by rw [bx3_size]; omega)).trans (bx3_0 w _ _))
  have K1 : Hid (w1.heap[w.heap.size + 1]? = some (.cells #[.slice A4 l.regs.length c4, .bool l.armed, .int .i64 l.down, .int .i64 l.sent, .int .i64 l.over] 29)) := (hb1.block _ (by rw [bx3_size]; omega)).trans (bx3_1 w _ _)
  obtain ⟨y0, y1, y2, y3, y4, yf⟩ := blk5 K1.out
  have K2 : Hid (w1.heap[w.heap.size + 2]? = some (.cells #[.slice none 0 0, .bool false, .int .i64 0, .int .i64 0, .int .i64 0, .slice none 0 0, .int .i64 0] 35)) := (hb1.block _ (by rw [bx3_size]; omega)).trans (bx3_2 w _ _)
  have HB1 : Hid (Below w.heap.size w w1) := bTrans HB hb1
  have HV1 : Hid (LocV ok w1 (.agg #[.slice A4 l.regs.length c4, .bool l.armed, .int .i64 l.down, .int .i64 l.sent, .int .i64 l.over]) l) := HV.out.below HB1.out
  have q2' := (HB1.out.cell (p := ⟨b1, o1 + k * 2 + 1, none⟩) hzb).trans q2
  have hzb1 : b1 < w1.heap.size := by omega
  clear hb1 HB q1 q2 HT HP HV HA HM
  go_wp2_with fail
  go_cut [11] (fun i11 wc => ∃ B u, i11 = .pointer (some ⟨B, 0, none⟩) ∧ Hid (RM w1 B (fxv (.slice (some ⟨b1, o1, none⟩) p.hs.length c1) (.slice A2 p.acs.length c2) (.slice A3 p.bs.length c3) (.slice A5 args.length c5) (.slice Ac y.code.length cc) u p who l) (.slice none 0 0) [] zsk (ms0 l) wc))
  case first =>
    have n0 : ¬ w1.heap.size = w.heap.size := by omega
    have n0' : ¬ w.heap.size = w1.heap.size := by omega
    have n1 : ¬ w1.heap.size = w.heap.size + 1 := by omega
    have n1' : ¬ w.heap.size + 1 = w1.heap.size := by omega
    have n2 : ¬ w1.heap.size = b1 := by omega
    have n2' : ¬ b1 = w1.heap.size := by omega
    have hZA : ∀ W : World, Z24 (W.alloc (.cells #[.slice none 0 0, .slice none 0 0, .slice none 0 0, .int .i64 0, .int .i64 0, .slice none 0 0, .slice none 0 0, .slice none 0 0, .bool false, .int .i64 0, .int .i64 0, .int .i64 0, .slice none 0 0, .int .i64 0, .int .i64 0, .int .i64 0, .int .i64 0, .int .i64 0, .int .i64 0, .int .i64 0, .int .i64 0, .int .i64 0, .int .i64 0, .int .i64 0] 66)) W.heap.size := fun W => heap_new W _
    go_region_held3 (fun w' => w'.cell? ⟨w.heap.size, 0, none⟩ = some (.slice (some ⟨b1, o1, none⟩) p.hs.length c1) ∧ w'.cell? ⟨w.heap.size, 1, none⟩ = some (.slice A2 p.acs.length c2) ∧ w'.cell? ⟨w.heap.size, 2, none⟩ = some (.slice A3 p.bs.length c3) ∧ w'.cell? ⟨w.heap.size, 3, none⟩ = some (.int .i64 p.fuel) ∧ w'.cell? ⟨w.heap.size + 1, 0, none⟩ = some (.slice A4 l.regs.length c4) ∧ w'.cell? ⟨w.heap.size + 1, 1, none⟩ = some (.bool l.armed) ∧ w'.cell? ⟨w.heap.size + 1, 2, none⟩ = some (.int .i64 l.down) ∧ w'.cell? ⟨w.heap.size + 1, 3, none⟩ = some (.int .i64 l.sent) ∧ w'.cell? ⟨w.heap.size + 1, 4, none⟩ = some (.int .i64 l.over) ∧ w'.cell? ⟨b1, o1 + k * 2 + 1, none⟩ = some (.slice Ac y.code.length cc)) (first | with_reducible exact HZ.out | go_keep)
      (first
        | (go_at_call 27; refine (another_any ok w1.drew _ l (HV1.out.below ((bRefl _).drew)) (by have := H8.out; omega)).mono ?_; rintro e w2 ⟨u, rfl, hcl, hb2⟩; obtain ⟨Au, cu, rfl⟩ := hcl.form; have hbw : Below w1.heap.size w1 w2 := undrew hb2; have hy2 := hb2.size; (try simp at hy2); have z0 := (hbw.cell (p := ⟨w.heap.size, 0, none⟩) (show w.heap.size < w1.heap.size by omega)).trans p0; have z1 := (hbw.cell (p := ⟨w.heap.size, 1, none⟩) (show w.heap.size < w1.heap.size by omega)).trans p1; have z2 := (hbw.cell (p := ⟨w.heap.size, 2, none⟩) (show w.heap.size < w1.heap.size by omega)).trans p2; have z3 := (hbw.cell (p := ⟨w.heap.size, 3, none⟩) (show w.heap.size < w1.heap.size by omega)).trans p3; have z4 := (hbw.cell (p := ⟨w.heap.size + 1, 0, none⟩) (show w.heap.size + 1 < w1.heap.size by omega)).trans y0; have z5 := (hbw.cell (p := ⟨w.heap.size + 1, 1, none⟩) (show w.heap.size + 1 < w1.heap.size by omega)).trans y1; have z6 := (hbw.cell (p := ⟨w.heap.size + 1, 2, none⟩) (show w.heap.size + 1 < w1.heap.size by omega)).trans y2; have z7 := (hbw.cell (p := ⟨w.heap.size + 1, 3, none⟩) (show w.heap.size + 1 < w1.heap.size by omega)).trans y3; have z8 := (hbw.cell (p := ⟨w.heap.size + 1, 4, none⟩) (show w.heap.size + 1 < w1.heap.size by omega)).trans y4; have z9 := (hbw.cell (p := ⟨b1, o1 + k * 2 + 1, none⟩) (show b1 < w1.heap.size by omega)).trans q2'; have aC : ∀ b o, b < w2.heap.size → (w2.alloc (.cells #[.slice none 0 0, .slice none 0 0, .slice none 0 0, .int .i64 0, .int .i64 0, .slice none 0 0, .slice none 0 0, .slice none 0 0, .bool false, .int .i64 0, .int .i64 0, .int .i64 0, .slice none 0 0, .int .i64 0, .int .i64 0, .int .i64 0, .int .i64 0, .int .i64 0, .int .i64 0, .int .i64 0, .int .i64 0, .int .i64 0, .int .i64 0, .int .i64 0] 66)).cell? ⟨b, o, none⟩ = w2.cell? ⟨b, o, none⟩ := (fun b o h => (bAlloc (bRefl w2) _).cell (p := ⟨b, o, none⟩) h); have Z := s_row (B := w2.heap.size) (by omega) (by omega) (by omega) #[.slice (some ⟨b1, o1, none⟩) p.hs.length c1, .slice A2 p.acs.length c2, .slice A3 p.bs.length c3, .int .i64 p.fuel, .int .i64 who, .slice A5 args.length c5, .slice Ac y.code.length cc, .slice Au l.regs.length cu, .bool l.armed, .int .i64 l.down, .int .i64 l.sent, .int .i64 l.over, .slice none 0 0, .int .i64 0, .int .i64 0, .int .i64 0, .int .i64 0, .int .i64 0, .int .i64 0, .int .i64 0, .int .i64 0, .int .i64 0, .int .i64 0, .int .i64 0] ⟨(aC w.heap.size 0 (by omega)).trans z0, (aC w.heap.size 1 (by omega)).trans z1, (aC w.heap.size 2 (by omega)).trans z2, (aC w.heap.size 3 (by omega)).trans z3, (aC (w.heap.size + 1) 0 (by omega)).trans z4, (aC (w.heap.size + 1) 1 (by omega)).trans z5, (aC (w.heap.size + 1) 2 (by omega)).trans z6, (aC (w.heap.size + 1) 3 (by omega)).trans z7, (aC (w.heap.size + 1) 4 (by omega)).trans z8, (aC b1 _ (by omega)).trans z9⟩; have HZ := hid_mk Z; clear Z aC)
        | (go_at_call 27; refine (another_any ok (w1.alloc (.cells #[.slice none 0 0, .slice none 0 0, .slice none 0 0, .int .i64 0, .int .i64 0, .slice none 0 0, .slice none 0 0, .slice none 0 0, .bool false, .int .i64 0, .int .i64 0, .int .i64 0, .slice none 0 0, .int .i64 0, .int .i64 0, .int .i64 0, .int .i64 0, .int .i64 0, .int .i64 0, .int .i64 0, .int .i64 0, .int .i64 0, .int .i64 0, .int .i64 0] 66)).drew _ l (HV1.out.below ((bAlloc (bRefl _) _).drew)) (by have := H8.out; omega)).mono ?_; rintro e w2 ⟨u, rfl, hcl, hb2⟩; obtain ⟨Au, cu, rfl⟩ := hcl.form; have hbw : Below w1.heap.size w1 w2 := bTrans (bAlloc (bRefl w1) _).drew hb2; have hy2 := hb2.size; (try simp at hy2); have hZ : Z24 w2 w1.heap.size := (hb2.block w1.heap.size (by simp)).trans (heap_new w1 _); have z0 := (hbw.cell (p := ⟨w.heap.size, 0, none⟩) (show w.heap.size < w1.heap.size by omega)).trans p0; have z1 := (hbw.cell (p := ⟨w.heap.size, 1, none⟩) (show w.heap.size < w1.heap.size by omega)).trans p1; have z2 := (hbw.cell (p := ⟨w.heap.size, 2, none⟩) (show w.heap.size < w1.heap.size by omega)).trans p2; have z3 := (hbw.cell (p := ⟨w.heap.size, 3, none⟩) (show w.heap.size < w1.heap.size by omega)).trans p3; have z4 := (hbw.cell (p := ⟨w.heap.size + 1, 0, none⟩) (show w.heap.size + 1 < w1.heap.size by omega)).trans y0; have z5 := (hbw.cell (p := ⟨w.heap.size + 1, 1, none⟩) (show w.heap.size + 1 < w1.heap.size by omega)).trans y1; have z6 := (hbw.cell (p := ⟨w.heap.size + 1, 2, none⟩) (show w.heap.size + 1 < w1.heap.size by omega)).trans y2; have z7 := (hbw.cell (p := ⟨w.heap.size + 1, 3, none⟩) (show w.heap.size + 1 < w1.heap.size by omega)).trans y3; have z8 := (hbw.cell (p := ⟨w.heap.size + 1, 4, none⟩) (show w.heap.size + 1 < w1.heap.size by omega)).trans y4; have z9 := (hbw.cell (p := ⟨b1, o1 + k * 2 + 1, none⟩) (show b1 < w1.heap.size by omega)).trans q2'; have Z := s_row n0' n1' n2' #[.slice (some ⟨b1, o1, none⟩) p.hs.length c1, .slice A2 p.acs.length c2, .slice A3 p.bs.length c3, .int .i64 p.fuel, .int .i64 who, .slice A5 args.length c5, .slice Ac y.code.length cc, .slice Au l.regs.length cu, .bool l.armed, .int .i64 l.down, .int .i64 l.sent, .int .i64 l.over, .slice none 0 0, .int .i64 0, .int .i64 0, .int .i64 0, .int .i64 0, .int .i64 0, .int .i64 0, .int .i64 0, .int .i64 0, .int .i64 0, .int .i64 0, .int .i64 0] ⟨z0, z1, z2, z3, z4, z5, z6, z7, z8, z9⟩; have HZ := hid_mk Z; clear Z))
    all_goals (go_wp2_with fail; go_meet)
    all_goals first
      | exact ⟨_, _, rfl, (way_a (x := (fxv (.slice (some ⟨b1, o1, none⟩) p.hs.length c1) (.slice A2 p.acs.length c2) (.slice A3 p.bs.length c3) (.slice A5 args.length c5) (.slice Ac y.code.length cc) (.slice Au l.regs.length cu) p who l)) (l := l) (undrew hb2) hcl H8.out)⟩
      | exact ⟨_, _, rfl, (way_b (w := w1) (W := (w1.alloc (.cells #[.slice none 0 0, .slice none 0 0, .slice none 0 0, .int .i64 0, .int .i64 0, .slice none 0 0, .slice none 0 0, .slice none 0 0, .bool false, .int .i64 0, .int .i64 0, .int .i64 0, .slice none 0 0, .int .i64 0, .int .i64 0, .int .i64 0, .int .i64 0, .int .i64 0, .int .i64 0, .int .i64 0, .int .i64 0, .int .i64 0, .int .i64 0, .int .i64 0] 66)).drew) (x := (fxv (.slice (some ⟨b1, o1, none⟩) p.hs.length c1) (.slice A2 p.acs.length c2) (.slice A3 p.bs.length c3) (.slice A5 args.length c5) (.slice Ac y.code.length cc) (.slice Au l.regs.length cu) p who l)) (l := l) (by simp) (heap_new w1 _) (bAlloc (bRefl w1) _).drew hb2 hcl H8.out)⟩
  case rest =>
    obtain ⟨B, u, rfl, hM⟩ := hcut
    have HL : Hid (LI p args who y.code (rnR p who l (k : Int) args) (ms0 l)) := by
      rw [HC.out]
      exact ⟨fun _ => Rch.start, rfl, Nat.le_refl _⟩
    go_wp2_with fail
    refine (all_any (HX.out u w1 HB1.out) hM.out HL.out (Nat.zero_le _) HF.out (Nat.zero_le _) HY.out.1 HY.out.2.1 HY.out.2.2.1 HY.out.2.2.2).mono ?_
    rintro e w3 ⟨rfl, vn, us, sk, h3⟩
    obtain ⟨R, hR⟩ : ∃ R, rnR p who l (k : Int) args = R := ⟨_, rfl⟩
    rw [hR] at h3 HR
    rw [hR]
    have HM3 := h3
    clear hM HL HC hR
    have hlow := h3.low
    have hs3 := h3.low.size
    have hB := h3.lt
    have hBb := h3.base
    obtain ⟨r0, r1, r2, r3, r4, r5, r6, rf⟩ := blk7 ((h3.low.block _ (by omega)).trans K2.out)
    have rf0 := rf 0
    have rf1 := rf 1
    have rf2 := rf 2
    have rf3 := rf 3
    have rf4 := rf 4
    have rf5 := rf 5
    have rf6 := rf 6
    have q23 : w3.cell? ⟨B, 23, none⟩ = some (.int .i64 (R.2.steps : Int)) := h3.c 23 (by omega)
    have hn0 : ¬ B = w.heap.size + 1 + 1 := by omega
    have hn0' : ¬ w.heap.size + 1 + 1 = B := by omega
    clear rf
    by_cases hd : R.1 = 0
    · have e1 : (R.1 != 0) = false := ne_no hd
      have hRg := h3.regs
      have hNt := h3.nts
      have hu : (fxv (.slice (some ⟨b1, o1, none⟩) p.hs.length c1) (.slice A2 p.acs.length c2) (.slice A3 p.bs.length c3) (.slice A5 args.length c5) (.slice Ac y.code.length cc) u p who l).vr = u := rfl
      rw [hu] at hRg hNt
      obtain ⟨Au, cu, rfl, hul⟩ := hRg.form
      obtain ⟨An, cn, rfl⟩ := hNt.form
      have q7 : w3.cell? ⟨B, 7, none⟩ = some (.slice Au R.2.regs.length cu) := h3.c 7 (by omega)
      have q8 : w3.cell? ⟨B, 8, none⟩ = some (.bool R.2.armed) := h3.c 8 (by omega)
      have q9 : w3.cell? ⟨B, 9, none⟩ = some (.int .i64 l.down) := h3.c 9 (by omega)
      have q10 : w3.cell? ⟨B, 10, none⟩ = some (.int .i64 l.sent) := h3.c 10 (by omega)
      have q11 : w3.cell? ⟨B, 11, none⟩ = some (.int .i64 l.over) := h3.c 11 (by omega)
      have q12 : w3.cell? ⟨B, 12, none⟩ = some (.slice An R.2.notes.length cn) := h3.c 12 (by omega)
      have f10 := h3.fz 10
      have HRg : Hid (RG w1 B w3 (.slice Au R.2.regs.length cu) R.2.regs) := hRg
      have HNt : Hid (NT w1 (fun b => b = B ∨ hb (.slice Au R.2.regs.length cu) = some b) w3 (.slice An R.2.notes.length cn) R.2.notes us) := hNt
      have HQ : Hid (fin l R = ⟨⟨R.2.regs, R.2.armed, l.down, wrap64 (l.sent + R.2.notes.length), l.over⟩, R.2.notes, R.2.steps⟩) := by show _ = _; unfold fin; rw [if_pos hd]
      clear h3 HM3 hRg hNt hu hd
      go_wp2
      refine bodyPost_ret (v := .agg #[.slice Au R.2.regs.length cu, .bool R.2.armed, .int .i64 l.down, .int .i64 (wrap64 (l.sent + R.2.notes.length)), .int .i64 l.over, .slice An R.2.notes.length cn, .int .i64 R.2.steps]) (by simp [results, Tryd.results16, go_sem, *]) rfl ⟨_, rfl, ?_, ?_⟩
      · rw [HR.out, HQ.out]
        refine ⟨_, _, rfl, ?_, ?_⟩
        · refine Sl.imp (ok := fun b => w1.heap.size ≤ b) (RG.ints (w0 := w1) (B := B) ?_) (fun b hb => Nat.le_trans HB1.out.size hb) (Nat.le_refl _) (fun _ _ _ _ _ h => h)
          repeat (refine RG.so ?_ (by first | exact Or.inl rfl | (exact Or.inr (by omega))) _)
          exact HRg.out
        · refine NT.up (w0 := w1) (ex := fun b => b = B ∨ hb (.slice Au R.2.regs.length cu) = some b) (us := us) ?_ HB1.out.size
          repeat (refine NT.so ?_ (by first | exact Or.inl rfl | (exact Or.inr (by omega))) _)
          exact HNt.out
      · repeat (refine Below.setCell ?_ (by first | (simp; done) | (simp; omega)) _)
        exact HB1.out.trans (hlow.mono HB1.out.size)
    · have e1 : (R.1 != 0) = true := ne_yes hd
      have HQ : Hid (fin l R = ⟨{ l with down := R.1 }, [], R.2.steps⟩) := by show _ = _; unfold fin; rw [if_neg hd]
      have HLo : Hid (Below w1.heap.size w1 w3) := hlow
      have x1 := blk5 ((hlow.block _ (by omega)).trans K1.out)
      obtain ⟨x0, x1, x2, x3, x4, _⟩ := x1
      clear h3 HM3 hd hlow
      go_wp2_with fail
      refine (another_any ok _ _ l (HV1.out.below HLo.out) (by have := H8.out; omega)).mono ?_
      rintro e w4 ⟨v4, rfl, hcl, hb4⟩
      obtain ⟨Au, cu, rfl⟩ := hcl.form
      have hs4 := hb4.size
      have q23' := (hb4.cell (p := ⟨B, 23, none⟩) hB).trans q23
      obtain ⟨t0, t1, t2, t3, t4, t5, t6, tf⟩ := blk7 ((hb4.block _ (by omega)).trans ((HLo.out.block _ (by omega)).trans K2.out))
      have tf0 := tf 0
      have tf1 := tf 1
      have tf2 := tf 2
      have tf3 := tf 3
      have tf4 := tf 4
      have tf5 := tf 5
      have tf6 := tf 6
      have hz2 : w.heap.size + 1 + 1 < w4.heap.size := by omega
      have hB4 : B < w4.heap.size := by omega
      have HCL : Hid (CL w3 w4 (.slice Au l.regs.length cu) l.regs) := hcl
      have HB4 : Hid (Below w.heap.size w w4) := (HB1.out.trans (HLo.out.mono HB1.out.size)).trans (hb4.mono (by omega))
      clear hcl hb4 tf r0 r1 r2 r3 r4 r5 r6 rf0 rf1 rf2 rf3 rf4 rf5 rf6 q23
      go_wp2
      refine bodyPost_ret (v := .agg #[.slice Au l.regs.length cu, .bool l.armed, .int .i64 R.1, .int .i64 l.sent, .int .i64 l.over, .slice none 0 0, .int .i64 R.2.steps]) (by simp [results, Tryd.results16, go_sem, *]) rfl ⟨_, rfl, ?_, ?_⟩
      · rw [HR.out, HQ.out]
        refine ⟨_, _, rfl, ?_, ⟨_, _, rfl, by simp, Or.inl rfl⟩⟩
        refine Sl.imp (ok := fun b => w3.heap.size ≤ b) (CL.ints (w := w3) ?_ (by have := H8.out; show l.regs.length ≤ 1000; omega)) (fun b hb => by have h1 : w3.heap.size ≤ b := hb; show w.heap.size ≤ b; omega) (Nat.le_refl _) (fun _ _ _ _ _ h => h)
        refine CL.below ?_ (bAlloc (bRefl _) _)
        repeat (refine CL.set ?_ (by omega) _)
        exact HCL.out
      · refine Below.alloc ?_ (by simp; omega) _
        repeat (refine Below.setCell ?_ (by first | (simp; done) | (simp; omega)) _)
        exact HB4.out
/-- Run. -/
theorem run_any (ok oka : Nat → Prop) (w : World) (v vl va : Value) (p : PPrg) (who : Int) (l : PLoc) (h : Int) (args : List Int) (ht : Tab w) (hp : PrgV w v p) (hl : LocV ok w vl l) (ha : Ints oka w va args) :
    Calls Tryd.prog 16 #[v, .int .i64 who, vl, .int .i64 h, va] w fun e w' => ∃ u, e = .returned u ∧ ResV (fun b => w.heap.size ≤ b) w' u (runP p who l h args) ∧ Below w.heap.size w w' := by
  by_cases hm : mayP p who l h args
  · exact run_yes ok oka w v vl va p who l h args ht hp hl ha hm
  · exact run_no ok oka w v vl va p who l h args ht hp hl ha hm
end Go.Proofs.YtpcffhhednplaaaDoor
