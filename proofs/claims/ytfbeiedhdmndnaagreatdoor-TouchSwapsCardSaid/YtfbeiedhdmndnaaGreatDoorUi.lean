/-
 TouchSwaps, walked.
-/
import Derived.Test.YtfbeiedhdmndnaaGreatDoorUh
import Derived.Test.YtfbeiedhdmndnaaGreatDoorEw
namespace Go.Proofs.YtfbeiedhdmndnaaGreatDoor
open Go.RowKit
attribute [local go_sem ↓] Go.wp_at_zero Go.wp_at_succ
set_option maxHeartbeats 8000000 in
set_option maxRecDepth 100000 in
theorem swaps_any (W : World) (vp vw : Value) (p : PPrg) (b : PBud) (x : PWld) (e1 e2 : PEv) (ht : Tab W) (hp : PrgV W vp p) (hx : WldV W vw x) (hr : x.used.drop ≤ 9223372036854775807 ∧ x.used.dup ≤ 9223372036854775807 ∧ x.used.time ≤ 9223372036854775807 ∧ x.used.crash ≤ 9223372036854775807) :
  Calls Tryz.prog 5 #[vp, uVal b, vw, eVal e1, eVal e2] W fun e w' => e = .returned (.bool true) ∧ Below W.heap.size W w' := by
 have HP := hid_mk hp
 have HT := hid_mk ht
 have HW := hid_mk hx
 have HR := hid_mk hr
 have HRG : Hid (RgU x.used) := ⟨hr.1, hr.2.1, hr.2.2.2⟩
 obtain ⟨vh, vb, vc, rfl, h1, h2, h3⟩ := hp
 obtain ⟨A1, c1, rfl, _⟩ := h1.form
 obtain ⟨A2, c2, rfl, _⟩ := h2.form
 obtain ⟨A3, c3, rfl, _⟩ := h3.form
 obtain ⟨va, vm, rfl, g1, g2⟩ := hx
 obtain ⟨B1, d1, rfl, hzl⟩ := g1.form
 obtain ⟨B2, d2, rfl, _⟩ := g2.form
 have HL := hid_mk g1
 have HX0 := hid_mk (BX.start W (.cells #[.slice A1 p.hs.length c1, .slice A2 p.acs.length c2, .slice A3 p.bs.length c3, .int .i64 p.fuel] 26) (.cells #[.int .i64 b.drop, .int .i64 b.dup, .int .i64 b.time, .int .i64 b.crash] 28) (.cells #[.slice B1 x.acts.length d1, .slice B2 x.mail.length d2, .int .i64 x.used.drop, .int .i64 x.used.dup, .int .i64 x.used.time, .int .i64 x.used.crash] 32) (.cells #[.int .i64 e1.kind, .int .i64 e1.id.f, .int .i64 e1.id.n, .int .i64 e1.id.c, .int .i64 e1.who] 36) (.cells #[.int .i64 e2.kind, .int .i64 e2.id.f, .int .i64 e2.id.n, .int .i64 e2.id.c, .int .i64 e2.who] 36))
 clear h1 h2 h3 g1 g2 ht hr
 change Calls Tryz.prog 5 #[.agg #[.slice A1 p.hs.length c1, .slice A2 p.acs.length c2, .slice A3 p.bs.length c3, .int .i64 p.fuel], .agg #[.int .i64 b.drop, .int .i64 b.dup, .int .i64 b.time, .int .i64 b.crash], .agg #[.slice B1 x.acts.length d1, .slice B2 x.mail.length d2, .int .i64 x.used.drop, .int .i64 x.used.dup, .int .i64 x.used.time, .int .i64 x.used.crash], .agg #[.int .i64 e1.kind, .int .i64 e1.id.f, .int .i64 e1.id.n, .int .i64 e1.id.c, .int .i64 e1.who], .agg #[.int .i64 e2.kind, .int .i64 e2.id.f, .int .i64 e2.id.n, .int .i64 e2.id.c, .int .i64 e2.who]] W _
 go_enter Tryz.func5, Tryz.ntmps5
 go_wp2_with fail
 generalize (((((W.alloc (.cells #[.slice A1 p.hs.length c1, .slice A2 p.acs.length c2, .slice A3 p.bs.length c3, .int .i64 p.fuel] 26)).alloc (.cells #[.int .i64 b.drop, .int .i64 b.dup, .int .i64 b.time, .int .i64 b.crash] 28)).alloc (.cells #[.slice B1 x.acts.length d1, .slice B2 x.mail.length d2, .int .i64 x.used.drop, .int .i64 x.used.dup, .int .i64 x.used.time, .int .i64 x.used.crash] 32)).alloc (.cells #[.int .i64 e1.kind, .int .i64 e1.id.f, .int .i64 e1.id.n, .int .i64 e1.id.c, .int .i64 e1.who] 36)).alloc (.cells #[.int .i64 e2.kind, .int .i64 e2.id.f, .int .i64 e2.id.n, .int .i64 e2.id.c, .int .i64 e2.who] 36)) = w0 at HX0 ⊢
 refine (small_any _ _ p (HP.out.below HX0.out.low)).mono ?_
 rintro r w1 ⟨rfl, hb1⟩
 have HX1 := hid_mk (HX0.out.below hb1)
 clear hb1
 obtain ⟨k0, k1, k2, k3⟩ := blk4 HX1.out.b0
 obtain ⟨q0, q1, q2, q3⟩ := blk4 HX1.out.b1
 obtain ⟨o0, o1, o2, o3, o4, o5⟩ := blk6 HX1.out.b2
 obtain ⟨l0, l1, l2, l3, l4⟩ := blk5 HX1.out.b3
 obtain ⟨m0, m1, m2, m3, m4⟩ := blk5 HX1.out.b4
 cases hsm : small p
 ·go_wp2_with fail
  refine (tawake_any _ (HT.out.below HX1.out.low)).mono ?_
  rintro r wz ⟨rfl, hbz⟩
  have HZ := hid_mk (bTrans HX1.out.low hbz)
  clear hbz
  go_wp2
  go_ret
  exact ⟨rfl, HZ.out⟩
 go_wp2_with fail
 refine (aWorld_any _ _ x (HW.out.below HX1.out.low)).mono ?_
 rintro r w2 ⟨rfl, hb2⟩
 have HX2 := hid_mk (HX1.out.below hb2)
 clear hb2
 clear k0 k1 k2 k3 q0 q1 q2 q3 o0 o1 o2 o3 o4 o5 l0 l1 l2 l3 l4 m0 m1 m2 m3 m4
 obtain ⟨k0, k1, k2, k3⟩ := blk4 HX2.out.b0
 obtain ⟨q0, q1, q2, q3⟩ := blk4 HX2.out.b1
 obtain ⟨o0, o1, o2, o3, o4, o5⟩ := blk6 HX2.out.b2
 obtain ⟨l0, l1, l2, l3, l4⟩ := blk5 HX2.out.b3
 obtain ⟨m0, m1, m2, m3, m4⟩ := blk5 HX2.out.b4
 cases hsw : decide (SmallW x)
 ·go_wp2_with fail
  refine (tawake_any _ (HT.out.below HX2.out.low)).mono ?_
  rintro r wz ⟨rfl, hbz⟩
  have HZ := hid_mk (bTrans HX2.out.low hbz)
  clear hbz
  go_wp2
  go_ret
  exact ⟨rfl, HZ.out⟩
 have HSW : Hid (SmallW x) := hid_mk (of_decide_eq_true hsw)
 have HSM : Hid (SmW x) := ⟨by have h := HSW.out.1; omega, fun y hy => by have h := HSW.out.2.2 y hy; omega, by have h : x.mail.length ≤ 50 := HSW.out.2.1.1; omega, fun m hm => by have h := HSW.out.2.1.2 m hm; omega⟩
 go_wp2_with fail
 go_loopg [11] x.acts.length (fun g i11 wr => ∃ k : Nat, g = x.acts.length - k ∧ k ≤ x.acts.length ∧ i11 = .int .i64 (k : Int) ∧ wr = w2 ∧ Hid (∀ j y, j < k → x.acts[j]? = some y → y.sent < 1099511627776 ∧ y.over < 1099511627776))
 case atStart => exact ⟨0, rfl, by omega, rfl, rfl, fun j y hj => by omega⟩
 case round =>
  obtain ⟨k, rfl, hk, rfl, rfl, hlw⟩ := hrel
  by_cases hlt : k < x.acts.length
  ·obtain ⟨y, hy⟩ := at_lt hlt
   have hltI : (k : Int) < (x.acts.length : Int) := by omega
   obtain ⟨bg, og, rfl, -, hz5, hcE⟩ := HL.out.at (by omega)
   obtain ⟨-, -, -, t3, t4⟩ := hcE k y hy
   have t3' := (HX2.out.low.cell (p := ⟨bg, og + k * 5 + 3, none⟩) hz5).trans t3
   have t4' := (HX2.out.low.cell (p := ⟨bg, og + k * 5 + 4, none⟩) hz5).trans t4
   have HLW := hid_mk hlw
   clear t3 t4 hcE hlw
   by_cases hy1 : y.sent < 1099511627776
   ·have hy1' : ¬ (1099511627776 : Int) ≤ y.sent := by omega
    by_cases hy2 : y.over < 1099511627776
    ·have hy2' : ¬ (1099511627776 : Int) ≤ y.over := by omega
     go_wp2_with fail
     go_roundg (x.acts.length - (k + 1))
     case measure => omega
     case rel => exact ⟨k + 1, rfl, by omega, by go_num, rfl, fun j z hj hz => by
      by_cases e : j = k
      ·subst e; rw [hy] at hz; cases hz; exact ⟨hy1, hy2⟩
      ·exact HLW.out j z (by omega) hz⟩
    ·have hy2' : (1099511627776 : Int) ≤ y.over := by omega
     go_wp2_with fail
     refine (tawake_any _ (HT.out.below HX2.out.low)).mono ?_
     rintro r wz ⟨rfl, hbz⟩
     have HZ := hid_mk (bTrans HX2.out.low hbz)
     clear hbz
     go_wp2
     go_ret
     exact ⟨rfl, HZ.out⟩
   ·have hy1' : (1099511627776 : Int) ≤ y.sent := by omega
    go_wp2_with fail
    refine (tawake_any _ (HT.out.below HX2.out.low)).mono ?_
    rintro r wz ⟨rfl, hbz⟩
    have HZ := hid_mk (bTrans HX2.out.low hbz)
    clear hbz
    go_wp2
    go_ret
    exact ⟨rfl, HZ.out⟩
  ·obtain rfl : k = x.acts.length := by omega
   have HLO : Hid (lowN x) := fun y hy => by
    obtain ⟨j, hj⟩ := List.mem_iff_getElem?.1 hy
    exact hlw j y (List.getElem?_eq_some_iff.1 hj).1 hj
   clear hlw
   have hltI : ¬ (x.acts.length : Int) < (x.acts.length : Int) := by omega
   go_wp2_with fail
   have hFREE := HSM
   refine (free_any _ _ _ p x e1 e2 (HT.out.below HX2.out.low) (HP.out.below HX2.out.low) (HW.out.below HX2.out.low) HSM.out HRG.out).mono ?_
   rintro r w3 ⟨rfl, hb3⟩
   have HX3 := hid_mk (HX2.out.below hb3)
   clear hb3 hFREE
   clear k0 k1 k2 k3 q0 q1 q2 q3 o0 o1 o2 o3 o4 o5 l0 l1 l2 l3 l4 m0 m1 m2 m3 m4
   obtain ⟨k0, k1, k2, k3⟩ := blk4 HX3.out.b0
   obtain ⟨q0, q1, q2, q3⟩ := blk4 HX3.out.b1
   obtain ⟨o0, o1, o2, o3, o4, o5⟩ := blk6 HX3.out.b2
   obtain ⟨l0, l1, l2, l3, l4⟩ := blk5 HX3.out.b3
   obtain ⟨m0, m1, m2, m3, m4⟩ := blk5 HX3.out.b4
   cases hfr : freeP p x e1 e2
   ·go_wp2_with fail
    refine (tawake_any _ (HT.out.below HX3.out.low)).mono ?_
    rintro r wz ⟨rfl, hbz⟩
    have HZ := hid_mk (bTrans HX3.out.low hbz)
    clear hbz
    go_wp2
    go_ret
    exact ⟨rfl, HZ.out⟩
   go_wp2_with fail
   refine (is_any _ _ _ p b x e1 (HT.out.below HX3.out.low) (HP.out.below HX3.out.low) (HW.out.below HX3.out.low)).mono ?_
   rintro r w4 ⟨rfl, hb4⟩
   have HX4 := hid_mk (HX3.out.below hb4)
   clear hb4
   clear k0 k1 k2 k3 q0 q1 q2 q3 o0 o1 o2 o3 o4 o5 l0 l1 l2 l3 l4 m0 m1 m2 m3 m4
   obtain ⟨k0, k1, k2, k3⟩ := blk4 HX4.out.b0
   obtain ⟨q0, q1, q2, q3⟩ := blk4 HX4.out.b1
   obtain ⟨o0, o1, o2, o3, o4, o5⟩ := blk6 HX4.out.b2
   obtain ⟨l0, l1, l2, l3, l4⟩ := blk5 HX4.out.b3
   obtain ⟨m0, m1, m2, m3, m4⟩ := blk5 HX4.out.b4
   cases hi1 : isP p b x e1
   ·go_wp2_with fail
    refine (tawake_any _ (HT.out.below HX4.out.low)).mono ?_
    rintro r wz ⟨rfl, hbz⟩
    have HZ := hid_mk (bTrans HX4.out.low hbz)
    clear hbz
    go_wp2
    go_ret
    exact ⟨rfl, HZ.out⟩
   go_wp2_with fail
   refine (is_any _ _ _ p b x e2 (HT.out.below HX4.out.low) (HP.out.below HX4.out.low) (HW.out.below HX4.out.low)).mono ?_
   rintro r w5 ⟨rfl, hb5⟩
   have HX5 := hid_mk (HX4.out.below hb5)
   clear hb5
   clear k0 k1 k2 k3 q0 q1 q2 q3 o0 o1 o2 o3 o4 o5 l0 l1 l2 l3 l4 m0 m1 m2 m3 m4
   obtain ⟨k0, k1, k2, k3⟩ := blk4 HX5.out.b0
   obtain ⟨q0, q1, q2, q3⟩ := blk4 HX5.out.b1
   obtain ⟨o0, o1, o2, o3, o4, o5⟩ := blk6 HX5.out.b2
   obtain ⟨l0, l1, l2, l3, l4⟩ := blk5 HX5.out.b3
   obtain ⟨m0, m1, m2, m3, m4⟩ := blk5 HX5.out.b4
   cases hi2 : isP p b x e2
   ·go_wp2_with fail
    refine (tawake_any _ (HT.out.below HX5.out.low)).mono ?_
    rintro r wz ⟨rfl, hbz⟩
    have HZ := hid_mk (bTrans HX5.out.low hbz)
    clear hbz
    go_wp2
    go_ret
    exact ⟨rfl, HZ.out⟩
   obtain ⟨hsp, ⟨hsm1, hru1⟩, hsm2, hru2⟩ := swp_law HSW.out HLO.out HR.out hi1 hi2 hfr
   obtain ⟨s1, s2, s3, s4, s5⟩ := hsp
   obtain ⟨X1, hX1⟩ : ∃ X1, doP p x e1 = X1 := ⟨_, rfl⟩
   obtain ⟨X2, hX2⟩ : ∃ X2, doP p x e2 = X2 := ⟨_, rfl⟩
   rw [hX1] at hsm1 hru1 s2 s4 s5
   rw [hX2] at hsm2 hru2 s1 s3 s5
   have HS1 := hid_mk s1
   have HS2 := hid_mk s2
   have HS3 := hid_mk s3
   have HS4 := hid_mk s4
   have HS5 := hid_mk s5
   have HM1 := hid_mk hsm1
   have HM2 := hid_mk hsm2
   have HR1 := hid_mk hru1
   have HR2 := hid_mk hru2
   have HI1 := hid_mk hi1
   have HI2 := hid_mk hi2
   have HX1e := hid_mk hX1
   have HX2e := hid_mk hX2
   clear s1 s2 s3 s4 s5 hsm1 hsm2 hru1 hru2 hi1 hi2 hX1 hX2 hfr hsm hsw
   go_wp2_with fail
   refine (do_yes _ _ _ p b x e1 (HT.out.below HX5.out.low) (HP.out.below HX5.out.low) (HW.out.below HX5.out.low) HSM.out HI1.out).mono ?_
   rw [HX1e.out]
   rintro r w6 ⟨v6, rfl, hw6, hb6⟩
   obtain ⟨a6, n6, rfl, ha6, hm6⟩ := id hw6
   obtain ⟨U6, u6, rfl, _⟩ := ha6.form
   obtain ⟨M6, y6, rfl, _⟩ := hm6.form
   have HV6 := hid_mk hw6.wld
   have HX6 := hid_mk (HX5.out.below hb6)
   clear hb6 hw6 ha6 hm6
   clear k0 k1 k2 k3 q0 q1 q2 q3 o0 o1 o2 o3 o4 o5 l0 l1 l2 l3 l4 m0 m1 m2 m3 m4
   obtain ⟨k0, k1, k2, k3⟩ := blk4 HX6.out.b0
   obtain ⟨q0, q1, q2, q3⟩ := blk4 HX6.out.b1
   obtain ⟨o0, o1, o2, o3, o4, o5⟩ := blk6 HX6.out.b2
   obtain ⟨l0, l1, l2, l3, l4⟩ := blk5 HX6.out.b3
   obtain ⟨m0, m1, m2, m3, m4⟩ := blk5 HX6.out.b4
   have z0 : W.heap.size < w6.heap.size := (Array.getElem?_eq_some_iff.1 HX6.out.b0).1
   have z1 : W.heap.size + 1 < w6.heap.size := (Array.getElem?_eq_some_iff.1 HX6.out.b1).1
   have z2 : W.heap.size + 1 + 1 < w6.heap.size := (Array.getElem?_eq_some_iff.1 HX6.out.b2).1
   have z3 : W.heap.size + 1 + 1 + 1 < w6.heap.size := (Array.getElem?_eq_some_iff.1 HX6.out.b3).1
   have z4 : W.heap.size + 1 + 1 + 1 + 1 < w6.heap.size := (Array.getElem?_eq_some_iff.1 HX6.out.b4).1
   have hn6 := heap_new w6 (.cells #[.slice U6 X1.acts.length u6, .slice M6 X1.mail.length y6, .int .i64 X1.used.drop, .int .i64 X1.used.dup, .int .i64 X1.used.time, .int .i64 X1.used.crash] 32)
   have hc6 : Below w6.heap.size w6 (w6.alloc (.cells #[.slice U6 X1.acts.length u6, .slice M6 X1.mail.length y6, .int .i64 X1.used.drop, .int .i64 X1.used.dup, .int .i64 X1.used.time, .int .i64 X1.used.crash] 32)) := bAlloc (bRefl _) _
   go_wp2_with fail
   generalize (w6.alloc (.cells #[.slice U6 X1.acts.length u6, .slice M6 X1.mail.length y6, .int .i64 X1.used.drop, .int .i64 X1.used.dup, .int .i64 X1.used.time, .int .i64 X1.used.crash] 32)) = w7 at hn6 hc6 ⊢
   have HX7 := hid_mk (HX6.out.below hc6)
   have HV6_7 := hid_mk (HV6.out.below hc6)
   have HK6_7 := hid_mk hn6
   clear hn6 hc6 z0 z1 z2 z3 z4
   refine (do_yes _ _ _ p b x e2 (HT.out.below HX7.out.low) (HP.out.below HX7.out.low) (HW.out.below HX7.out.low) HSM.out HI2.out).mono ?_
   rw [HX2e.out]
   rintro r w8 ⟨v8, rfl, hw8, hb8⟩
   obtain ⟨a8, n8, rfl, ha8, hm8⟩ := id hw8
   obtain ⟨U8, u8, rfl, _⟩ := ha8.form
   obtain ⟨M8, y8, rfl, _⟩ := hm8.form
   have HV8 := hid_mk hw8.wld
   have HX8 := hid_mk (HX7.out.below hb8)
   have HV6_8 := hid_mk (HV6_7.out.below hb8)
   have HK6_8 := hid_mk (boxAt HK6_7.out hb8)
   clear hb8 hw8 ha8 hm8
   clear k0 k1 k2 k3 q0 q1 q2 q3 o0 o1 o2 o3 o4 o5 l0 l1 l2 l3 l4 m0 m1 m2 m3 m4
   obtain ⟨k0, k1, k2, k3⟩ := blk4 HX8.out.b0
   obtain ⟨q0, q1, q2, q3⟩ := blk4 HX8.out.b1
   obtain ⟨o0, o1, o2, o3, o4, o5⟩ := blk6 HX8.out.b2
   obtain ⟨l0, l1, l2, l3, l4⟩ := blk5 HX8.out.b3
   obtain ⟨m0, m1, m2, m3, m4⟩ := blk5 HX8.out.b4
   try clear r60 r61 r62 r63 r64 r65
   obtain ⟨r60, r61, r62, r63, r64, r65⟩ := blk6 HK6_8.out
   have z0 : W.heap.size < w8.heap.size := (Array.getElem?_eq_some_iff.1 HX8.out.b0).1
   have z1 : W.heap.size + 1 < w8.heap.size := (Array.getElem?_eq_some_iff.1 HX8.out.b1).1
   have z2 : W.heap.size + 1 + 1 < w8.heap.size := (Array.getElem?_eq_some_iff.1 HX8.out.b2).1
   have z3 : W.heap.size + 1 + 1 + 1 < w8.heap.size := (Array.getElem?_eq_some_iff.1 HX8.out.b3).1
   have z4 : W.heap.size + 1 + 1 + 1 + 1 < w8.heap.size := (Array.getElem?_eq_some_iff.1 HX8.out.b4).1
   have zz6 : w6.heap.size < w8.heap.size := (Array.getElem?_eq_some_iff.1 HK6_8.out).1
   have hn8 := heap_new w8 (.cells #[.slice U8 X2.acts.length u8, .slice M8 X2.mail.length y8, .int .i64 X2.used.drop, .int .i64 X2.used.dup, .int .i64 X2.used.time, .int .i64 X2.used.crash] 32)
   have hc8 : Below w8.heap.size w8 (w8.alloc (.cells #[.slice U8 X2.acts.length u8, .slice M8 X2.mail.length y8, .int .i64 X2.used.drop, .int .i64 X2.used.dup, .int .i64 X2.used.time, .int .i64 X2.used.crash] 32)) := bAlloc (bRefl _) _
   go_wp2_with fail
   generalize (w8.alloc (.cells #[.slice U8 X2.acts.length u8, .slice M8 X2.mail.length y8, .int .i64 X2.used.drop, .int .i64 X2.used.dup, .int .i64 X2.used.time, .int .i64 X2.used.crash] 32)) = w9 at hn8 hc8 ⊢
   have HX9 := hid_mk (HX8.out.below hc8)
   have HV8_9 := hid_mk (HV8.out.below hc8)
   have HK8_9 := hid_mk hn8
   have HV6_9 := hid_mk (HV6_8.out.below hc8)
   have HK6_9 := hid_mk (boxAt HK6_8.out hc8)
   clear hn8 hc8 z0 z1 z2 z3 z4 zz6
   refine (is_any _ _ _ p b X1 e2 (HT.out.below HX9.out.low) (HP.out.below HX9.out.low) HV6_9.out).mono ?_
   rw [HS2.out]
   rintro r w10 ⟨rfl, hb10⟩
   have HX10 := hid_mk (HX9.out.below hb10)
   have HV6_10 := hid_mk (HV6_9.out.below hb10)
   have HK6_10 := hid_mk (boxAt HK6_9.out hb10)
   have HV8_10 := hid_mk (HV8_9.out.below hb10)
   have HK8_10 := hid_mk (boxAt HK8_9.out hb10)
   clear hb10
   clear k0 k1 k2 k3 q0 q1 q2 q3 o0 o1 o2 o3 o4 o5 l0 l1 l2 l3 l4 m0 m1 m2 m3 m4
   obtain ⟨k0, k1, k2, k3⟩ := blk4 HX10.out.b0
   obtain ⟨q0, q1, q2, q3⟩ := blk4 HX10.out.b1
   obtain ⟨o0, o1, o2, o3, o4, o5⟩ := blk6 HX10.out.b2
   obtain ⟨l0, l1, l2, l3, l4⟩ := blk5 HX10.out.b3
   obtain ⟨m0, m1, m2, m3, m4⟩ := blk5 HX10.out.b4
   try clear r60 r61 r62 r63 r64 r65
   obtain ⟨r60, r61, r62, r63, r64, r65⟩ := blk6 HK6_10.out
   try clear r80 r81 r82 r83 r84 r85
   obtain ⟨r80, r81, r82, r83, r84, r85⟩ := blk6 HK8_10.out
   go_wp2_with fail
   refine (is_any _ _ _ p b X2 e1 (HT.out.below HX10.out.low) (HP.out.below HX10.out.low) HV8_10.out).mono ?_
   rw [HS1.out]
   rintro r w11 ⟨rfl, hb11⟩
   have HX11 := hid_mk (HX10.out.below hb11)
   have HV6_11 := hid_mk (HV6_10.out.below hb11)
   have HK6_11 := hid_mk (boxAt HK6_10.out hb11)
   have HV8_11 := hid_mk (HV8_10.out.below hb11)
   have HK8_11 := hid_mk (boxAt HK8_10.out hb11)
   clear hb11
   clear k0 k1 k2 k3 q0 q1 q2 q3 o0 o1 o2 o3 o4 o5 l0 l1 l2 l3 l4 m0 m1 m2 m3 m4
   obtain ⟨k0, k1, k2, k3⟩ := blk4 HX11.out.b0
   obtain ⟨q0, q1, q2, q3⟩ := blk4 HX11.out.b1
   obtain ⟨o0, o1, o2, o3, o4, o5⟩ := blk6 HX11.out.b2
   obtain ⟨l0, l1, l2, l3, l4⟩ := blk5 HX11.out.b3
   obtain ⟨m0, m1, m2, m3, m4⟩ := blk5 HX11.out.b4
   try clear r60 r61 r62 r63 r64 r65
   obtain ⟨r60, r61, r62, r63, r64, r65⟩ := blk6 HK6_11.out
   try clear r80 r81 r82 r83 r84 r85
   obtain ⟨r80, r81, r82, r83, r84, r85⟩ := blk6 HK8_11.out
   go_wp2_with fail
   have HSK : Hid (∀ w', Below w11.heap.size w11 w' → (fun w' => w'.cell? ⟨W.heap.size, 0, none⟩ = some (.slice A1 p.hs.length c1) ∧ w'.cell? ⟨W.heap.size, 1, none⟩ = some (.slice A2 p.acs.length c2) ∧ w'.cell? ⟨W.heap.size, 2, none⟩ = some (.slice A3 p.bs.length c3) ∧ w'.cell? ⟨W.heap.size, 3, none⟩ = some (.int .i64 p.fuel) ∧ w'.cell? ⟨W.heap.size + 1 + 1, 0, none⟩ = some (.slice B1 x.acts.length d1) ∧ w'.cell? ⟨W.heap.size + 1 + 1, 1, none⟩ = some (.slice B2 x.mail.length d2) ∧ w'.cell? ⟨W.heap.size + 1 + 1, 2, none⟩ = some (.int .i64 x.used.drop) ∧ w'.cell? ⟨W.heap.size + 1 + 1, 3, none⟩ = some (.int .i64 x.used.dup) ∧ w'.cell? ⟨W.heap.size + 1 + 1, 4, none⟩ = some (.int .i64 x.used.time) ∧ w'.cell? ⟨W.heap.size + 1 + 1, 5, none⟩ = some (.int .i64 x.used.crash) ∧ w'.cell? ⟨W.heap.size + 1 + 1 + 1, 0, none⟩ = some (.int .i64 e1.kind) ∧ w'.cell? ⟨W.heap.size + 1 + 1 + 1, 1, none⟩ = some (.int .i64 e1.id.f) ∧ w'.cell? ⟨W.heap.size + 1 + 1 + 1, 2, none⟩ = some (.int .i64 e1.id.n) ∧ w'.cell? ⟨W.heap.size + 1 + 1 + 1, 3, none⟩ = some (.int .i64 e1.id.c) ∧ w'.cell? ⟨W.heap.size + 1 + 1 + 1, 4, none⟩ = some (.int .i64 e1.who) ∧ w'.cell? ⟨W.heap.size + 1 + 1 + 1 + 1, 0, none⟩ = some (.int .i64 e2.kind) ∧ w'.cell? ⟨W.heap.size + 1 + 1 + 1 + 1, 1, none⟩ = some (.int .i64 e2.id.f) ∧ w'.cell? ⟨W.heap.size + 1 + 1 + 1 + 1, 2, none⟩ = some (.int .i64 e2.id.n) ∧ w'.cell? ⟨W.heap.size + 1 + 1 + 1 + 1, 3, none⟩ = some (.int .i64 e2.id.c) ∧ w'.cell? ⟨W.heap.size + 1 + 1 + 1 + 1, 4, none⟩ = some (.int .i64 e2.who) ∧ w'.cell? ⟨w6.heap.size, 0, none⟩ = some (.slice U6 X1.acts.length u6) ∧ w'.cell? ⟨w6.heap.size, 1, none⟩ = some (.slice M6 X1.mail.length y6) ∧ w'.cell? ⟨w6.heap.size, 2, none⟩ = some (.int .i64 X1.used.drop) ∧ w'.cell? ⟨w6.heap.size, 3, none⟩ = some (.int .i64 X1.used.dup) ∧ w'.cell? ⟨w6.heap.size, 4, none⟩ = some (.int .i64 X1.used.time) ∧ w'.cell? ⟨w6.heap.size, 5, none⟩ = some (.int .i64 X1.used.crash) ∧ w'.cell? ⟨w8.heap.size, 0, none⟩ = some (.slice U8 X2.acts.length u8) ∧ w'.cell? ⟨w8.heap.size, 1, none⟩ = some (.slice M8 X2.mail.length y8) ∧ w'.cell? ⟨w8.heap.size, 2, none⟩ = some (.int .i64 X2.used.drop) ∧ w'.cell? ⟨w8.heap.size, 3, none⟩ = some (.int .i64 X2.used.dup) ∧ w'.cell? ⟨w8.heap.size, 4, none⟩ = some (.int .i64 X2.used.time) ∧ w'.cell? ⟨w8.heap.size, 5, none⟩ = some (.int .i64 X2.used.crash)) w') := fun w' h => by
    have hx := HX11.out.below h
    obtain ⟨k0, k1, k2, k3⟩ := blk4 hx.b0
    obtain ⟨o0, o1, o2, o3, o4, o5⟩ := blk6 hx.b2
    obtain ⟨l0, l1, l2, l3, l4⟩ := blk5 hx.b3
    obtain ⟨m0, m1, m2, m3, m4⟩ := blk5 hx.b4
    obtain ⟨r0, r1, r2, r3, r4, r5⟩ := blk6 (boxAt HK6_11.out h)
    obtain ⟨t0, t1, t2, t3, t4, t5⟩ := blk6 (boxAt HK8_11.out h)
    exact ⟨k0, k1, k2, k3, o0, o1, o2, o3, o4, o5, l0, l1, l2, l3, l4, m0, m1, m2, m3, m4, r0, r1, r2, r3, r4, r5, t0, t1, t2, t3, t4, t5⟩
   obtain ⟨L1, hL1⟩ : ∃ L, whoP p x e1 = L := ⟨_, rfl⟩
   obtain ⟨L2, hL2⟩ : ∃ L, whoP p x e2 = L := ⟨_, rfl⟩
   have hn1 : L1.length ≤ 1000000 := by have := who_le p x e1; rw [hL1] at this; omega
   have hn2 : L2.length ≤ 1000000 := by have := who_le p x e2; rw [hL2] at this; omega
   have HWa : Hid (∀ w', Below w11.heap.size w11 w' → Calls Tryz.prog 25 #[.agg #[.slice A1 p.hs.length c1, .slice A2 p.acs.length c2, .slice A3 p.bs.length c3, .int .i64 p.fuel], .agg #[.slice U6 X1.acts.length u6, .slice M6 X1.mail.length y6, .int .i64 X1.used.drop, .int .i64 X1.used.dup, .int .i64 X1.used.time, .int .i64 X1.used.crash], .agg #[.int .i64 e2.kind, .int .i64 e2.id.f, .int .i64 e2.id.n, .int .i64 e2.id.c, .int .i64 e2.who]] w' fun r w'' => ∃ v, r = .returned v ∧ OwnIV w'.heap.size w'' v L2 ∧ Below w'.heap.size w' w'') := fun w' h => who_is w' _ _ p X1 e2 L2 (HS4.out.trans hL2) (HT.out.below (bTrans HX11.out.low h)) (HP.out.below (bTrans HX11.out.low h)) (HV6_11.out.below h) HM1.out HR1.out
   have HWb : Hid (∀ w', Below w11.heap.size w11 w' → Calls Tryz.prog 25 #[.agg #[.slice A1 p.hs.length c1, .slice A2 p.acs.length c2, .slice A3 p.bs.length c3, .int .i64 p.fuel], .agg #[.slice B1 x.acts.length d1, .slice B2 x.mail.length d2, .int .i64 x.used.drop, .int .i64 x.used.dup, .int .i64 x.used.time, .int .i64 x.used.crash], .agg #[.int .i64 e2.kind, .int .i64 e2.id.f, .int .i64 e2.id.n, .int .i64 e2.id.c, .int .i64 e2.who]] w' fun r w'' => ∃ v, r = .returned v ∧ OwnIV w'.heap.size w'' v L2 ∧ Below w'.heap.size w' w'') := fun w' h => who_is w' _ _ p x e2 L2 (hL2) (HT.out.below (bTrans HX11.out.low h)) (HP.out.below (bTrans HX11.out.low h)) (HW.out.below (bTrans HX11.out.low h)) HSM.out HRG.out
   have HWc : Hid (∀ w', Below w11.heap.size w11 w' → Calls Tryz.prog 25 #[.agg #[.slice A1 p.hs.length c1, .slice A2 p.acs.length c2, .slice A3 p.bs.length c3, .int .i64 p.fuel], .agg #[.slice U8 X2.acts.length u8, .slice M8 X2.mail.length y8, .int .i64 X2.used.drop, .int .i64 X2.used.dup, .int .i64 X2.used.time, .int .i64 X2.used.crash], .agg #[.int .i64 e1.kind, .int .i64 e1.id.f, .int .i64 e1.id.n, .int .i64 e1.id.c, .int .i64 e1.who]] w' fun r w'' => ∃ v, r = .returned v ∧ OwnIV w'.heap.size w'' v L1 ∧ Below w'.heap.size w' w'') := fun w' h => who_is w' _ _ p X2 e1 L1 (HS3.out.trans hL1) (HT.out.below (bTrans HX11.out.low h)) (HP.out.below (bTrans HX11.out.low h)) (HV8_11.out.below h) HM2.out HR2.out
   have HWd : Hid (∀ w', Below w11.heap.size w11 w' → Calls Tryz.prog 25 #[.agg #[.slice A1 p.hs.length c1, .slice A2 p.acs.length c2, .slice A3 p.bs.length c3, .int .i64 p.fuel], .agg #[.slice B1 x.acts.length d1, .slice B2 x.mail.length d2, .int .i64 x.used.drop, .int .i64 x.used.dup, .int .i64 x.used.time, .int .i64 x.used.crash], .agg #[.int .i64 e1.kind, .int .i64 e1.id.f, .int .i64 e1.id.n, .int .i64 e1.id.c, .int .i64 e1.who]] w' fun r w'' => ∃ v, r = .returned v ∧ OwnIV w'.heap.size w'' v L1 ∧ Below w'.heap.size w' w'') := fun w' h => who_is w' _ _ p x e1 L1 (hL1) (HT.out.below (bTrans HX11.out.low h)) (HP.out.below (bTrans HX11.out.low h)) (HW.out.below (bTrans HX11.out.low h)) HSM.out HRG.out
   have hlow : Below w11.heap.size w11 w11 := bRefl _
   clear k0 k1 k2 k3 q0 q1 q2 q3 o0 o1 o2 o3 o4 o5 l0 l1 l2 l3 l4 m0 m1 m2 m3 m4
   clear r60 r61 r62 r63 r64 r65
   clear r80 r81 r82 r83 r84 r85
   go_region_held3 (fun w' => w'.cell? ⟨W.heap.size, 0, none⟩ = some (.slice A1 p.hs.length c1) ∧ w'.cell? ⟨W.heap.size, 1, none⟩ = some (.slice A2 p.acs.length c2) ∧ w'.cell? ⟨W.heap.size, 2, none⟩ = some (.slice A3 p.bs.length c3) ∧ w'.cell? ⟨W.heap.size, 3, none⟩ = some (.int .i64 p.fuel) ∧ w'.cell? ⟨W.heap.size + 1 + 1, 0, none⟩ = some (.slice B1 x.acts.length d1) ∧ w'.cell? ⟨W.heap.size + 1 + 1, 1, none⟩ = some (.slice B2 x.mail.length d2) ∧ w'.cell? ⟨W.heap.size + 1 + 1, 2, none⟩ = some (.int .i64 x.used.drop) ∧ w'.cell? ⟨W.heap.size + 1 + 1, 3, none⟩ = some (.int .i64 x.used.dup) ∧ w'.cell? ⟨W.heap.size + 1 + 1, 4, none⟩ = some (.int .i64 x.used.time) ∧ w'.cell? ⟨W.heap.size + 1 + 1, 5, none⟩ = some (.int .i64 x.used.crash) ∧ w'.cell? ⟨W.heap.size + 1 + 1 + 1, 0, none⟩ = some (.int .i64 e1.kind) ∧ w'.cell? ⟨W.heap.size + 1 + 1 + 1, 1, none⟩ = some (.int .i64 e1.id.f) ∧ w'.cell? ⟨W.heap.size + 1 + 1 + 1, 2, none⟩ = some (.int .i64 e1.id.n) ∧ w'.cell? ⟨W.heap.size + 1 + 1 + 1, 3, none⟩ = some (.int .i64 e1.id.c) ∧ w'.cell? ⟨W.heap.size + 1 + 1 + 1, 4, none⟩ = some (.int .i64 e1.who) ∧ w'.cell? ⟨W.heap.size + 1 + 1 + 1 + 1, 0, none⟩ = some (.int .i64 e2.kind) ∧ w'.cell? ⟨W.heap.size + 1 + 1 + 1 + 1, 1, none⟩ = some (.int .i64 e2.id.f) ∧ w'.cell? ⟨W.heap.size + 1 + 1 + 1 + 1, 2, none⟩ = some (.int .i64 e2.id.n) ∧ w'.cell? ⟨W.heap.size + 1 + 1 + 1 + 1, 3, none⟩ = some (.int .i64 e2.id.c) ∧ w'.cell? ⟨W.heap.size + 1 + 1 + 1 + 1, 4, none⟩ = some (.int .i64 e2.who) ∧ w'.cell? ⟨w6.heap.size, 0, none⟩ = some (.slice U6 X1.acts.length u6) ∧ w'.cell? ⟨w6.heap.size, 1, none⟩ = some (.slice M6 X1.mail.length y6) ∧ w'.cell? ⟨w6.heap.size, 2, none⟩ = some (.int .i64 X1.used.drop) ∧ w'.cell? ⟨w6.heap.size, 3, none⟩ = some (.int .i64 X1.used.dup) ∧ w'.cell? ⟨w6.heap.size, 4, none⟩ = some (.int .i64 X1.used.time) ∧ w'.cell? ⟨w6.heap.size, 5, none⟩ = some (.int .i64 X1.used.crash) ∧ w'.cell? ⟨w8.heap.size, 0, none⟩ = some (.slice U8 X2.acts.length u8) ∧ w'.cell? ⟨w8.heap.size, 1, none⟩ = some (.slice M8 X2.mail.length y8) ∧ w'.cell? ⟨w8.heap.size, 2, none⟩ = some (.int .i64 X2.used.drop) ∧ w'.cell? ⟨w8.heap.size, 3, none⟩ = some (.int .i64 X2.used.dup) ∧ w'.cell? ⟨w8.heap.size, 4, none⟩ = some (.int .i64 X2.used.time) ∧ w'.cell? ⟨w8.heap.size, 5, none⟩ = some (.int .i64 X2.used.crash)) (exact HSK.out _ (by first | exact hlow | exact hlow.drew))
    (first | (go_at_call 25; (with_reducible refine (HWa.out _ (by first | exact hlow | exact hlow.drew)).mono ?_); rintro r wqa ⟨vqa, rfl, hoa, hba⟩; have HIa : Hid (Ints anyB wqa vqa L2) := (OwnIV.ints hoa hn2).any; replace hlow := (by first | exact bTrans hlow hba | exact bTrans hlow.drew hba); clear hoa hba) | (go_at_call 25; (with_reducible refine (HWb.out _ (by first | exact hlow | exact hlow.drew)).mono ?_); rintro r wqb ⟨vqb, rfl, hob, hbb⟩; have HIb : Hid (Ints anyB wqb vqb L2) := (OwnIV.ints hob hn2).any; replace HIa := hid_mk (Ints.below HIa.out hbb); replace hlow := (by first | exact bTrans hlow hbb | exact bTrans hlow.drew hbb); clear hob hbb) | (go_at_call 24; (refine (aw_eq _ _ _ L2 L2 HIa.out HIb.out (eqB_self _)).mono ?_); rintro r wia ⟨rfl, hia⟩; replace hlow := bTrans hlow hia; clear hia HIa HIb) | (go_at_call 25; (with_reducible refine (HWc.out _ (by first | exact hlow | exact hlow.drew)).mono ?_); rintro r wqc ⟨vqc, rfl, hoc, hbc⟩; have HIc : Hid (Ints anyB wqc vqc L1) := (OwnIV.ints hoc hn1).any; replace hlow := (by first | exact bTrans hlow hbc | exact bTrans hlow.drew hbc); clear hoc hbc) | (go_at_call 25; (with_reducible refine (HWd.out _ (by first | exact hlow | exact hlow.drew)).mono ?_); rintro r wqd ⟨vqd, rfl, hod, hbd⟩; have HId : Hid (Ints anyB wqd vqd L1) := (OwnIV.ints hod hn1).any; replace HIc := hid_mk (Ints.below HIc.out hbd); replace hlow := (by first | exact bTrans hlow hbd | exact bTrans hlow.drew hbd); clear hod hbd) | (go_at_call 24; (refine (aw_eq _ _ _ L1 L1 HIc.out HId.out (eqB_self _)).mono ?_); rintro r wic ⟨rfl, hic⟩; replace hlow := bTrans hlow hic; clear hic HIc HId))
   rename World => w12
   have HX12 := hid_mk (HX11.out.below hlow)
   have HV6_12 := hid_mk (HV6_11.out.below hlow)
   have HK6_12 := hid_mk (boxAt HK6_11.out hlow)
   have HV8_12 := hid_mk (HV8_11.out.below hlow)
   have HK8_12 := hid_mk (boxAt HK8_11.out hlow)
   clear hlow HWa HWb HWc HWd HSK
   obtain ⟨k0, k1, k2, k3⟩ := blk4 HX12.out.b0
   obtain ⟨q0, q1, q2, q3⟩ := blk4 HX12.out.b1
   obtain ⟨o0, o1, o2, o3, o4, o5⟩ := blk6 HX12.out.b2
   obtain ⟨l0, l1, l2, l3, l4⟩ := blk5 HX12.out.b3
   obtain ⟨m0, m1, m2, m3, m4⟩ := blk5 HX12.out.b4
   obtain ⟨r60, r61, r62, r63, r64, r65⟩ := blk6 HK6_12.out
   obtain ⟨r80, r81, r82, r83, r84, r85⟩ := blk6 HK8_12.out
   go_wp2_with fail
   obtain ⟨X3, hX3⟩ : ∃ X3, doP p X1 e2 = X3 := ⟨_, rfl⟩
   have HX3e := hid_mk hX3
   clear hX3
   refine (do_yes _ _ _ p b X1 e2 (HT.out.below HX12.out.low) (HP.out.below HX12.out.low) HV6_12.out HM1.out HS2.out).mono ?_
   rw [HX3e.out]
   rintro r w13 ⟨v13, rfl, hw13, hb13⟩
   obtain ⟨a13, n13, rfl, ha13, hm13⟩ := id hw13
   obtain ⟨U13, u13, rfl, _⟩ := ha13.form
   obtain ⟨M13, y13, rfl, _⟩ := hm13.form
   have HV13 := hid_mk hw13.wld
   have HX13 := hid_mk (HX12.out.below hb13)
   have HV6_13 := hid_mk (HV6_12.out.below hb13)
   have HK6_13 := hid_mk (boxAt HK6_12.out hb13)
   have HV8_13 := hid_mk (HV8_12.out.below hb13)
   have HK8_13 := hid_mk (boxAt HK8_12.out hb13)
   clear hb13 hw13 ha13 hm13
   clear k0 k1 k2 k3 q0 q1 q2 q3 o0 o1 o2 o3 o4 o5 l0 l1 l2 l3 l4 m0 m1 m2 m3 m4
   obtain ⟨k0, k1, k2, k3⟩ := blk4 HX13.out.b0
   obtain ⟨q0, q1, q2, q3⟩ := blk4 HX13.out.b1
   obtain ⟨o0, o1, o2, o3, o4, o5⟩ := blk6 HX13.out.b2
   obtain ⟨l0, l1, l2, l3, l4⟩ := blk5 HX13.out.b3
   obtain ⟨m0, m1, m2, m3, m4⟩ := blk5 HX13.out.b4
   try clear r60 r61 r62 r63 r64 r65
   obtain ⟨r60, r61, r62, r63, r64, r65⟩ := blk6 HK6_13.out
   try clear r80 r81 r82 r83 r84 r85
   obtain ⟨r80, r81, r82, r83, r84, r85⟩ := blk6 HK8_13.out
   have z0 : W.heap.size < w13.heap.size := (Array.getElem?_eq_some_iff.1 HX13.out.b0).1
   have z1 : W.heap.size + 1 < w13.heap.size := (Array.getElem?_eq_some_iff.1 HX13.out.b1).1
   have z2 : W.heap.size + 1 + 1 < w13.heap.size := (Array.getElem?_eq_some_iff.1 HX13.out.b2).1
   have z3 : W.heap.size + 1 + 1 + 1 < w13.heap.size := (Array.getElem?_eq_some_iff.1 HX13.out.b3).1
   have z4 : W.heap.size + 1 + 1 + 1 + 1 < w13.heap.size := (Array.getElem?_eq_some_iff.1 HX13.out.b4).1
   have zz6 : w6.heap.size < w13.heap.size := (Array.getElem?_eq_some_iff.1 HK6_13.out).1
   have zz8 : w8.heap.size < w13.heap.size := (Array.getElem?_eq_some_iff.1 HK8_13.out).1
   have hn13 := heap_new w13 (.cells #[.slice U13 X3.acts.length u13, .slice M13 X3.mail.length y13, .int .i64 X3.used.drop, .int .i64 X3.used.dup, .int .i64 X3.used.time, .int .i64 X3.used.crash] 32)
   have hc13 : Below w13.heap.size w13 (w13.alloc (.cells #[.slice U13 X3.acts.length u13, .slice M13 X3.mail.length y13, .int .i64 X3.used.drop, .int .i64 X3.used.dup, .int .i64 X3.used.time, .int .i64 X3.used.crash] 32)) := bAlloc (bRefl _) _
   go_wp2_with fail
   generalize (w13.alloc (.cells #[.slice U13 X3.acts.length u13, .slice M13 X3.mail.length y13, .int .i64 X3.used.drop, .int .i64 X3.used.dup, .int .i64 X3.used.time, .int .i64 X3.used.crash] 32)) = w14 at hn13 hc13 ⊢
   have HX14 := hid_mk (HX13.out.below hc13)
   have HV13_14 := hid_mk (HV13.out.below hc13)
   have HK13_14 := hid_mk hn13
   have HV6_14 := hid_mk (HV6_13.out.below hc13)
   have HK6_14 := hid_mk (boxAt HK6_13.out hc13)
   have HV8_14 := hid_mk (HV8_13.out.below hc13)
   have HK8_14 := hid_mk (boxAt HK8_13.out hc13)
   clear hn13 hc13 z0 z1 z2 z3 z4 zz6 zz8
   refine (do_yes _ _ _ p b X2 e1 (HT.out.below HX14.out.low) (HP.out.below HX14.out.low) HV8_14.out HM2.out HS1.out).mono ?_
   rw [HS5.out.symm.trans HX3e.out]
   rintro r w15 ⟨v15, rfl, hw15, hb15⟩
   obtain ⟨a15, n15, rfl, ha15, hm15⟩ := id hw15
   obtain ⟨U15, u15, rfl, _⟩ := ha15.form
   obtain ⟨M15, y15, rfl, _⟩ := hm15.form
   have HV15 := hid_mk hw15.wld
   have HX15 := hid_mk (HX14.out.below hb15)
   have HV6_15 := hid_mk (HV6_14.out.below hb15)
   have HK6_15 := hid_mk (boxAt HK6_14.out hb15)
   have HV8_15 := hid_mk (HV8_14.out.below hb15)
   have HK8_15 := hid_mk (boxAt HK8_14.out hb15)
   have HV13_15 := hid_mk (HV13_14.out.below hb15)
   have HK13_15 := hid_mk (boxAt HK13_14.out hb15)
   clear hb15 hw15 ha15 hm15
   clear k0 k1 k2 k3 q0 q1 q2 q3 o0 o1 o2 o3 o4 o5 l0 l1 l2 l3 l4 m0 m1 m2 m3 m4
   obtain ⟨k0, k1, k2, k3⟩ := blk4 HX15.out.b0
   obtain ⟨q0, q1, q2, q3⟩ := blk4 HX15.out.b1
   obtain ⟨o0, o1, o2, o3, o4, o5⟩ := blk6 HX15.out.b2
   obtain ⟨l0, l1, l2, l3, l4⟩ := blk5 HX15.out.b3
   obtain ⟨m0, m1, m2, m3, m4⟩ := blk5 HX15.out.b4
   try clear r60 r61 r62 r63 r64 r65
   obtain ⟨r60, r61, r62, r63, r64, r65⟩ := blk6 HK6_15.out
   try clear r80 r81 r82 r83 r84 r85
   obtain ⟨r80, r81, r82, r83, r84, r85⟩ := blk6 HK8_15.out
   try clear r130 r131 r132 r133 r134 r135
   obtain ⟨r130, r131, r132, r133, r134, r135⟩ := blk6 HK13_15.out
   have z0 : W.heap.size < w15.heap.size := (Array.getElem?_eq_some_iff.1 HX15.out.b0).1
   have z1 : W.heap.size + 1 < w15.heap.size := (Array.getElem?_eq_some_iff.1 HX15.out.b1).1
   have z2 : W.heap.size + 1 + 1 < w15.heap.size := (Array.getElem?_eq_some_iff.1 HX15.out.b2).1
   have z3 : W.heap.size + 1 + 1 + 1 < w15.heap.size := (Array.getElem?_eq_some_iff.1 HX15.out.b3).1
   have z4 : W.heap.size + 1 + 1 + 1 + 1 < w15.heap.size := (Array.getElem?_eq_some_iff.1 HX15.out.b4).1
   have zz6 : w6.heap.size < w15.heap.size := (Array.getElem?_eq_some_iff.1 HK6_15.out).1
   have zz8 : w8.heap.size < w15.heap.size := (Array.getElem?_eq_some_iff.1 HK8_15.out).1
   have zz13 : w13.heap.size < w15.heap.size := (Array.getElem?_eq_some_iff.1 HK13_15.out).1
   have hn15 := heap_new w15 (.cells #[.slice U15 X3.acts.length u15, .slice M15 X3.mail.length y15, .int .i64 X3.used.drop, .int .i64 X3.used.dup, .int .i64 X3.used.time, .int .i64 X3.used.crash] 32)
   have hc15 : Below w15.heap.size w15 (w15.alloc (.cells #[.slice U15 X3.acts.length u15, .slice M15 X3.mail.length y15, .int .i64 X3.used.drop, .int .i64 X3.used.dup, .int .i64 X3.used.time, .int .i64 X3.used.crash] 32)) := bAlloc (bRefl _) _
   go_wp2_with fail
   generalize (w15.alloc (.cells #[.slice U15 X3.acts.length u15, .slice M15 X3.mail.length y15, .int .i64 X3.used.drop, .int .i64 X3.used.dup, .int .i64 X3.used.time, .int .i64 X3.used.crash] 32)) = w16 at hn15 hc15 ⊢
   have HX16 := hid_mk (HX15.out.below hc15)
   have HV15_16 := hid_mk (HV15.out.below hc15)
   have HK15_16 := hid_mk hn15
   have HV6_16 := hid_mk (HV6_15.out.below hc15)
   have HK6_16 := hid_mk (boxAt HK6_15.out hc15)
   have HV8_16 := hid_mk (HV8_15.out.below hc15)
   have HK8_16 := hid_mk (boxAt HK8_15.out hc15)
   have HV13_16 := hid_mk (HV13_15.out.below hc15)
   have HK13_16 := hid_mk (boxAt HK13_15.out hc15)
   clear hn15 hc15 z0 z1 z2 z3 z4 zz6 zz8 zz13
   refine (sameW_any _ _ _ X3 X3 HV13_16.out HV15_16.out).mono ?_
   rw [eqB_self]
   rintro r w17 ⟨rfl, hb17⟩
   have HX17 := hid_mk (HX16.out.below hb17)
   clear hb17
   go_wp2_with fail
   refine (tawake_any _ (HT.out.below HX17.out.low)).mono ?_
   rintro r wz ⟨rfl, hbz⟩
   have HZ := hid_mk (bTrans HX17.out.low hbz)
   clear hbz
   go_wp2
   go_ret
   exact ⟨rfl, HZ.out⟩
end Go.Proofs.YtfbeiedhdmndnaaGreatDoor
