/-
  WorldStarts, of any program. Conditions: its numbers are of 64 bits; what is read of the world is there.
-/
import Derived.Test.YtjdnedmhffakjaaDoorWj
import Derived.Test.YtjdnedmhffakjaaDoorWk
import Derived.Test.YtjdnedmhffakjaaDoorSmall
namespace Go.Proofs.YtjdnedmhffakjaaDoor
open Go.RowKit
section
attribute [local go_sem ↓] eq8
theorem starts_big (W : World) (vp : Value) (p : PPrg) (he : Env W) (hp : PrgV W vp p) (hs : ¬ Small p) :
    Calls Tryd.prog 3 #[vp] W fun e w' => e = .returned (.bool true) ∧ Below W.heap.size W w' := by
  have HP := hid_mk hp
  have HE := hid_mk he
  obtain ⟨vh, vb, vc, rfl, h1, h2, h3⟩ := hp
  obtain ⟨A1, c1, rfl, hl1⟩ := h1.form
  obtain ⟨A2, c2, rfl, hl2⟩ := h2.form
  obtain ⟨A3, c3, rfl, hl3⟩ := h3.form
  have hsm : small p = false := decide_eq_false hs
  clear h1 h2 h3 he hs
  go_enter Tryd.func3, Tryd.ntmps3
  go_wp2_with (first
    | (go_at_call 7; refine (small_any _ _ p (HP.out.below (by exact bAlloc (bRefl _) _))).mono ?_; rintro e w1 ⟨rfl, hb1⟩; have HB1 := hid_mk (bTrans (bAlloc (bRefl W) _) hb1); clear hb1)
    | (go_at_call 8; refine (awake_any _ (HE.out.below HB1.out)).mono ?_; rintro e w2 ⟨rfl, hb2⟩))
  go_ret
  exact ⟨rfl, bTrans HB1.out hb2⟩
set_option maxHeartbeats 1000000 in
set_option maxRecDepth 100000 in
theorem starts_no (W : World) (vp : Value) (p : PPrg) (he : Env W) (hp : PrgV W vp p) (hs : Small p) (hf : fc p ≠ 0) :
    Calls Tryd.prog 3 #[vp] W fun e w' => e = .returned (.bool true) ∧ Below W.heap.size W w' := by
  have HP := hid_mk hp
  have HE := hid_mk he
  have HF := hid_mk hf
  obtain ⟨vh, vb, vc, rfl, h1, h2, h3⟩ := hp
  obtain ⟨A1, c1, rfl, hl1⟩ := h1.form
  obtain ⟨A2, c2, rfl, hl2⟩ := h2.form
  obtain ⟨A3, c3, rfl, hl3⟩ := h3.form
  have hsm : small p = true := decide_eq_true hs
  have hfn := ne0_yes hf
  clear h1 h2 h3 he hs hf
  go_enter Tryd.func3, Tryd.ntmps3
  go_wp2_with (first
    | (go_at_call 7; refine (small_any _ _ p (HP.out.below (by exact bAlloc (bRefl _) _))).mono ?_; rintro e w1 ⟨rfl, hb1⟩; have hpb := boxAt (heap_new W (.cells #[.slice A1 p.hs.length c1, .slice A2 p.acs.length c2, .slice A3 p.bs.length c3, .int .i64 p.fuel] 26)) hb1; obtain ⟨k0, k1, k2, k3⟩ := blk4 hpb; have HB1 := hid_mk (bTrans (bAlloc (bRefl W) _) hb1); clear hb1 hpb)
    | (go_at_call 9; refine (start_no _ _ p (HE.out.below HB1.out).tab (HP.out.below HB1.out) HF.out).mono ?_; rintro e w2 ⟨rfl, hb2⟩; have HB2 := hid_mk (bTrans HB1.out hb2); clear hb2)
    | (go_at_call 8; refine (awake_any _ (HE.out.below (by exact bAlloc HB2.out _))).mono ?_; rintro e w3 ⟨rfl, hb3⟩))
  go_ret
  exact ⟨rfl, bTrans (bAlloc HB2.out _) hb3⟩
end
section
attribute [local go_sem ↓] eq8
theorem Rg.small {n : Int} (h0 : 0 ≤ n) (h1 : n ≤ 1000) : Rg n := ⟨by omega, by omega⟩
theorem ok_more {x : PWld} {y : PLoc} {r : List PLoc} (h : OkT x) (hx : x.acts = y :: r) (h0 : 0 ≤ y.over) (h1 : y.over ≤ 900) : OkT { x with acts := x.acts.set 0 { y with over := y.over + 1 } } := by
  refine ⟨by show (x.acts.set _ _).length ≤ _; rw [List.length_set]; exact h.na, h.nm, fun a ha => ?_, h.mail, h.used⟩
  have ha' : a ∈ x.acts.set 0 { y with over := y.over + 1 } := ha
  rw [hx, List.set_cons_zero] at ha'
  rcases List.mem_cons.1 ha' with rfl | ha'
  · have hy := h.acts y (by rw [hx]; exact List.mem_cons_self ..)
    refine ⟨hy.1, hy.2.1, fun n hn => ?_⟩
    unfold four at hn
    simp at hn
    rcases hn with rfl | rfl | rfl | rfl
    · exact hy.2.2 _ (by simp [four])
    · exact hy.2.2 _ (by simp [four])
    · exact hy.2.2 _ (by simp [four])
    · exact Rg.small (by omega) (by omega)
  · exact h.acts a (by rw [hx]; exact List.mem_cons_of_mem _ ha')
theorem more_ne {x : PWld} {y : PLoc} {r : List PLoc} (hx : x.acts = y :: r) : ({ x with acts := x.acts.set 0 { y with over := y.over + 1 } } : PWld) ≠ x := by
  intro e
  have e1 := congrArg PWld.acts e
  dsimp only at e1
  rw [hx, List.set_cons_zero] at e1
  have e2 := congrArg PLoc.over (List.cons.inj e1).1
  dsimp only at e2
  omega
theorem WN.row {N lo hi : Nat} {w : World} {a m : Value} {x : PWld} (h : WN N lo hi w a m x) (hk : 0 < x.acts.length) : ∃ g c, a = .slice (some ⟨g, 0, none⟩) x.acts.length c ∧ N ≤ g ∧ LR g (fun _ b => Qa N lo hi b ∧ b ≠ g) w x.acts := by
  obtain ⟨A, c, rfl, hc, ⟨e, _⟩ | ⟨g, rfl, hg, hr⟩⟩ := h.acts
  · rw [e] at hk; simp at hk
  · exact ⟨g, c, rfl, hg.1, hr⟩
theorem wldU {w : World} {u : PBud} {a m : Value} {x : PWld} (e : x.used = u) (h : WldV w (wVal x.used a m) x) : WldV w (wVal u a m) x := by rw [← e]; exact h
set_option maxHeartbeats 8000000 in
set_option maxRecDepth 100000 in
theorem starts_yes (W : World) (vp : Value) (p : PPrg) (he : Env W) (hp : PrgV W vp p) (hs : Small p) (hr : RgP p) (hf : fc p = 0) :
    Calls Tryd.prog 3 #[vp] W fun e w' => e = .returned (.bool true) ∧ Below W.heap.size W w' := by
  have HP := hid_mk hp
  have HE := hid_mk he
  have HF := hid_mk hf
  have HS := hid_mk hs
  have hcp := chk_parts (fc_chk hf)
  have hinv := start_inv hcp
  have hok := start_ok hf hr hs
  have hchk := start_chk hf
  have hnb := hcp.nb
  have hna := hcp.na
  obtain ⟨y, r, hyr⟩ : ∃ y r, (startP p).acts = y :: r := by
    cases e : (startP p).acts with
    | nil => have h1 := hinv.len; have := hcp.n0; rw [e] at h1; simp at h1; omega
    | cons y r => exact ⟨y, r, rfl⟩
  obtain ⟨a0, ha0⟩ := at_lt (l := p.acs) (k := 0) hcp.n0
  have hy0 : (startP p).acts[0]? = some y := by rw [hyr]; rfl
  obtain ⟨_, _, _, _, ho0, ho1⟩ := hinv.loc 0 y a0 hy0 ha0
  have ho2 : y.over ≤ 16 := by omega
  have HB16 : Hid (∀ (j : Nat) (z : PLoc), (startP p).acts[j]? = some z → 0 ≤ z.over ∧ z.over ≤ 16) := fun j z hz => by
    obtain ⟨a, ha⟩ := at_lt (l := p.acs) (k := j) (by rw [← hinv.len]; exact (List.getElem?_eq_some_iff.1 hz).1)
    obtain ⟨_, _, _, _, q0, q1⟩ := hinv.loc j z a hz ha
    exact ⟨q0, by omega⟩
  have HLen := hid_mk hinv.len
  have HSum := hid_mk hinv.sum
  have HU0 := hid_mk hinv.used
  have HOX := hid_mk hok.1
  have HSX := hid_mk hok.2
  have hlt0 : 0 < (startP p).acts.length := by rw [hyr]; simp
  have hltI : (0 : Int) < ((startP p).acts.length : Int) := by omega
  have hl10 : (startP p).acts.length ≤ 8 := by rw [hinv.len]; exact hna
  have hlne := lt_eq hinv.len
  have HST := hid_mk (rfl : startP p = startP p)
  generalize hX : startP p = X at *
  clear HST
  have HXe := hid_mk hX
  obtain ⟨V, hV⟩ : ∃ V, V = ({ X with acts := X.acts.set 0 { y with over := y.over + 1 } } : PWld) := ⟨_, rfl⟩
  have HV0 := hid_mk hV
  have HOV : Hid (OkT V) := by rw [hV]; exact ok_more hok.1 hyr ho0 (by omega)
  have hEV : eqB V X = false := eqB_no (by rw [hV]; exact more_ne hyr)
  obtain ⟨T0, hT0⟩ : ∃ T0, txtW X = T0 := ⟨_, rfl⟩
  obtain ⟨T1, hT1⟩ : ∃ T1, txtW V = T1 := ⟨_, rfl⟩
  have hTne : ((bs T1).toList == (bs T0).toList) = false := str_no (by rw [← hT0, ← hT1, hV]; exact txt_more hyr ho0 (by omega))
  have HTX := hid_mk hT0
  have HTV := hid_mk hT1
  have HY0 := hid_mk hy0
  have hU8 : eqB (⟨0, 0, 0, 0⟩ : PBud) ⟨0, 0, 0, 0⟩ = true := eqB_self _
  obtain ⟨vh, vb, vc, rfl, h1, h2, h3⟩ := hp
  obtain ⟨A1, c1, rfl, hl1⟩ := h1.form
  obtain ⟨A2, c2, rfl, hl2⟩ := h2.form
  obtain ⟨A3, c3, rfl, hl3⟩ := h3.form
  have hsm : small p = true := decide_eq_true hs
  clear h1 h2 h3 he hs hf hr hcp hinv hok hX hV hT0 hT1 hy0 hyr ha0 ho1 hnb hna
  go_enter Tryd.func3, Tryd.ntmps3
  go_wp2_with (first
    | (go_at_call 7; refine (small_any _ _ p (HP.out.below (by exact bAlloc (bRefl _) _))).mono ?_; rintro e w1 ⟨rfl, hb1⟩; have hpb := boxAt (heap_new W (.cells #[.slice A1 p.hs.length c1, .slice A2 p.acs.length c2, .slice A3 p.bs.length c3, .int .i64 p.fuel] 26)) hb1; obtain ⟨k0, k1, k2, k3⟩ := blk4 hpb; have HPB := hid_mk hpb; have HB1 := hid_mk (bTrans (bAlloc (bRefl W) _) hb1); clear hb1 hpb)
    | (go_at_call 9; refine (start_yes _ _ p (HE.out.below HB1.out).tab (HP.out.below HB1.out) HS.out HF.out).mono ?_; rw [HXe.out]; rintro e w2 ⟨aw, mw, low, hiw, rfl, hwn, hb2⟩; rw [HU0.out]; obtain ⟨Aw, cw, rfl⟩ := hwn.acts.form; obtain ⟨Bw, dw, rfl, _⟩ := hwn.mail.form; have hpb := boxAt HPB.out hb2; obtain ⟨j0, j1, j2, j3⟩ := blk4 hpb; have hzp : W.heap.size < w2.heap.size := (Array.getElem?_eq_some_iff.1 hpb).1; have HPB2 := hid_mk hpb; have HWN := hid_mk hwn; have HB2 := hid_mk (bTrans HB1.out hb2); clear hb2 hwn hpb)
    | (go_at_call 10; refine (check_W _ _ _ p X (HE.out.below (by exact bAlloc HB2.out _)).tab (HP.out.below (by exact bAlloc HB2.out _)) (wldU HU0.out ((HWN.out.below (by exact bAlloc (bRefl _) _)).wld HSX.out))).mono ?_; rintro e w3 ⟨rfl, hb3⟩; have hwb := boxAt (heap_new w2 (.cells #[.slice Aw X.acts.length cw, .slice Bw X.mail.length dw, .int .i64 0, .int .i64 0, .int .i64 0, .int .i64 0] 34)) hb3; obtain ⟨u0, u1, u2, u3, u4, u5⟩ := blk6 hwb; have hpb := boxAt HPB2.out (bTrans (bAlloc (bRefl _) _) hb3); obtain ⟨i0, i1, i2, i3⟩ := blk4 hpb; have HPB3 := hid_mk hpb; have HWB := hid_mk hwb; have HWN3 := hid_mk (HWN.out.below (bTrans (bAlloc (bRefl _) _) hb3)); have HB3 := hid_mk (bTrans (bAlloc HB2.out _) hb3); clear hb3 hwb hpb))
  obtain ⟨gw, rfl, hgr⟩ : ∃ gw, Aw = some ⟨gw, 0, none⟩ ∧ LR gw (fun _ b => Qa w1.heap.size low hiw b ∧ b ≠ gw) w3 X.acts := by
    obtain ⟨A, c, e, _, hA⟩ := HWN3.out.acts
    simp only [Value.slice.injEq] at e
    obtain ⟨rfl, _, _⟩ := e
    rcases hA with ⟨e, _⟩ | ⟨g, e, _, hr⟩
    · rw [e] at hlt0; simp at hlt0
    · exact ⟨g, e, hr⟩
  have HGR := hid_mk hgr
  clear hgr
  go_loopg [5, 6] X.acts.length (fun g i5 i6 wr => ∃ (k : Nat) (s : Int), g = X.acts.length - k ∧ k ≤ X.acts.length ∧ i6 = .int .i64 (k : Int) ∧ i5 = .int .i64 s ∧ Hid (s = sumO (X.acts.take k)) ∧ 0 ≤ s ∧ s ≤ 16 * (k : Int) ∧ wr = w3)
  case atStart => exact ⟨0, 0, rfl, by omega, rfl, rfl, rfl, by omega, by omega, rfl⟩
  case round =>
    obtain ⟨k, s, rfl, hk, rfl, rfl, hsk, hs0, hs1, rfl⟩ := hrel
    by_cases hlt : k < X.acts.length
    · obtain ⟨z, hz⟩ := at_lt hlt
      obtain ⟨_, _, _, _, c4⟩ := HGR.out.rd k z hz
      obtain ⟨z0, z1⟩ := HB16.out k z hz
      have HZ := hid_mk (sumO_take hz)
      clear hz
      go_wp2
      go_roundg (X.acts.length - (k + 1))
      case measure => omega
      case rel => exact ⟨k + 1, s + z.over, rfl, by omega, by go_num, by go_num, by show _ = _; rw [HZ.out, hsk.out], by omega, by push_cast; omega, rfl⟩
    · obtain rfl : k = X.acts.length := by omega
      have hss : s = sumO X.acts := by rw [hsk.out, List.take_of_length_le (Nat.le_refl _)]
      have hwl : IntKind.i64.wrap ((X.mail.length : Int) + s) = (p.bs.length : Int) := by
        have h9 := HSum.out
        rw [hss, h9]
        exact (IntWalk.i64_left _).trans (IntWalk.wrap64_in _ ⟨by omega, by omega⟩)
      have HWL := hid_mk hwl
      clear hss hwl hsk
      go_wp2_with (first
        | (go_at_call 11; refine (copyW_any _ _ X (wldU HU0.out (HWN3.out.wld HSX.out)) HSX.out).mono ?_; rw [HU0.out]; rintro e w4 ⟨av, mv, lov, hiv, rfl, hwv, hb4⟩; obtain ⟨gv, cv, rfl, hgvN, hgvr⟩ := WN.row hwv hlt0; obtain ⟨Bv, dv, rfl, _⟩ := hwv.mail.form; have hgvl := hgvr.lt; have fzv : ∀ o, w4.frozen? ⟨gv, o, none⟩ = false := hgvr.frozen; obtain ⟨_, _, _, _, v4⟩ := hgvr.rd 0 y HY0.out; have hwb := boxAt HWB.out hb4; obtain ⟨m0, m1, m2, m3, m4, m5⟩ := blk6 hwb; have hpb := boxAt HPB3.out hb4; have nv : ¬ gv = w4.heap.size := (by omega); have zw : w2.heap.size < w4.heap.size := (Array.getElem?_eq_some_iff.1 hwb).1; have HWB4 := hid_mk hwb; have HPB4 := hid_mk hpb; have HWV := hid_mk hwv; have HB4 := hid_mk hb4; clear hwv hb4 hgvr hwb hpb))
      have HWE : Hid ((w4.alloc (.cells #[.slice (some ⟨gv, 0, none⟩) X.acts.length cv, .slice Bv X.mail.length dv, .int .i64 0, .int .i64 0, .int .i64 0, .int .i64 0] 34)).setCell ⟨gv, 4, none⟩ (.int .i64 (y.over + 1)) = (w4.setCell ⟨gv, 4, none⟩ (.int .i64 (y.over + 1))).alloc (.cells #[.slice (some ⟨gv, 0, none⟩) X.acts.length cv, .slice Bv X.mail.length dv, .int .i64 0, .int .i64 0, .int .i64 0, .int .i64 0] 34)) := World.setCell_alloc_past _ _ _ _ hgvl
      have HPV : Hid (PW wr.heap.size w4.heap.size lov hiv ((w4.setCell ⟨gv, 4, none⟩ (.int .i64 (y.over + 1))).alloc (.cells #[.slice (some ⟨gv, 0, none⟩) X.acts.length cv, .slice Bv X.mail.length dv, .int .i64 0, .int .i64 0, .int .i64 0, .int .i64 0] 34)) (.slice (some ⟨gv, 0, none⟩) X.acts.length cv) (.slice Bv X.mail.length dv) V) := by
        rw [HV0.out, ← HWE.out]
        have h9 := HWV.out.toPW HB4.out.size
        rw [HU0.out] at h9
        exact h9.setAct (y' := { y with over := y.over + 1 }) (i := 4) HY0.out rfl (by omega) (by omega) rfl (Or.inr ⟨by omega, rfl⟩) (Or.inr ⟨by omega, rfl⟩) (Or.inr ⟨by omega, rfl⟩) (Or.inl ⟨rfl, rfl⟩)
      have HB35 : Hid (Below wr.heap.size wr ((w4.setCell ⟨gv, 4, none⟩ (.int .i64 (y.over + 1))).alloc (.cells #[.slice (some ⟨gv, 0, none⟩) X.acts.length cv, .slice Bv X.mail.length dv, .int .i64 0, .int .i64 0, .int .i64 0, .int .i64 0] 34))) := by
        rw [← HWE.out]
        exact (bAlloc HB4.out _).setCell (p := ⟨gv, 4, none⟩) hgvN _
      have HVB0 : Hid (((w4.setCell ⟨gv, 4, none⟩ (.int .i64 (y.over + 1))).alloc (.cells #[.slice (some ⟨gv, 0, none⟩) X.acts.length cv, .slice Bv X.mail.length dv, .int .i64 0, .int .i64 0, .int .i64 0, .int .i64 0] 34)).heap[w4.heap.size]? = some (.cells #[.slice (some ⟨gv, 0, none⟩) X.acts.length cv, .slice Bv X.mail.length dv, .int .i64 0, .int .i64 0, .int .i64 0, .int .i64 0] 34)) := by
        have h9 := HPV.out.box
        have e : V.used = ⟨0, 0, 0, 0⟩ := by rw [HV0.out]; exact HU0.out
        rw [e] at h9
        exact h9
      generalize ((w4.setCell ⟨gv, 4, none⟩ (.int .i64 (y.over + 1))).alloc (.cells #[.slice (some ⟨gv, 0, none⟩) X.acts.length cv, .slice Bv X.mail.length dv, .int .i64 0, .int .i64 0, .int .i64 0, .int .i64 0] 34)) = w5 at HPV HB35 HVB0 ⊢
      have HUV : Hid (V.used = ⟨0, 0, 0, 0⟩) := by rw [HV0.out]; exact HU0.out
      have HSV : Hid (SmW V) := by
        rw [HV0.out]
        refine ⟨by show (X.acts.set _ _).length ≤ _; rw [List.length_set]; exact HSX.out.n, fun a ha => ?_, HSX.out.mail, HSX.out.args⟩
        have ha' : a ∈ X.acts.set 0 { y with over := y.over + 1 } := ha
        rcases List.mem_or_eq_of_mem_set ha' with h | h
        · exact HSX.out.regs a h
        · rw [h]; exact HSX.out.regs y (List.mem_of_getElem? HY0.out)
      have HV : Hid (WldV w5 (wVal ⟨0, 0, 0, 0⟩ (.slice (some ⟨gv, 0, none⟩) X.acts.length cv) (.slice Bv X.mail.length dv)) V) := wldU HUV.out (HPV.out.wn.wld HSV.out)
      have HX : Hid (WldV w5 (wVal ⟨0, 0, 0, 0⟩ (.slice (some ⟨gw, 0, none⟩) X.acts.length cw) (.slice Bw X.mail.length dw)) X) := wldU HU0.out ((HWN3.out.below HB35.out).wld HSX.out)
      have HE5 := hid_mk (HE.out.below (bTrans HB3.out HB35.out))
      have HB5 := hid_mk (bTrans HB3.out HB35.out)
      have HPB5 := hid_mk (boxAt HPB3.out HB35.out)
      have HWB5 := hid_mk (boxAt HWB.out HB35.out)
      have HSA : Hid (∀ w', Below w5.heap.size w5 w' → w'.cell? ⟨W.heap.size, 2, none⟩ = some (.slice A3 p.bs.length c3) ∧ w'.cell? ⟨w2.heap.size, 0, none⟩ = some (.slice (some ⟨gw, 0, none⟩) X.acts.length cw) ∧ w'.cell? ⟨w2.heap.size, 1, none⟩ = some (.slice Bw X.mail.length dw) ∧ w'.cell? ⟨w2.heap.size, 2, none⟩ = some (.int .i64 0) ∧ w'.cell? ⟨w2.heap.size, 3, none⟩ = some (.int .i64 0) ∧ w'.cell? ⟨w2.heap.size, 4, none⟩ = some (.int .i64 0) ∧ w'.cell? ⟨w2.heap.size, 5, none⟩ = some (.int .i64 0) ∧ w'.cell? ⟨w4.heap.size, 0, none⟩ = some (.slice (some ⟨gv, 0, none⟩) X.acts.length cv) ∧ w'.cell? ⟨w4.heap.size, 1, none⟩ = some (.slice Bv X.mail.length dv) ∧ w'.cell? ⟨w4.heap.size, 2, none⟩ = some (.int .i64 0) ∧ w'.cell? ⟨w4.heap.size, 3, none⟩ = some (.int .i64 0) ∧ w'.cell? ⟨w4.heap.size, 4, none⟩ = some (.int .i64 0) ∧ w'.cell? ⟨w4.heap.size, 5, none⟩ = some (.int .i64 0)) := fun w' hb => by
        obtain ⟨a0, a1, a2, a3⟩ := blk4 (boxAt HPB5.out hb)
        obtain ⟨b0, b1, b2, b3, b4, b5⟩ := blk6 (boxAt HWB5.out hb)
        obtain ⟨d0, d1, d2, d3, d4, d5⟩ := blk6 (boxAt HVB0.out hb)
        exact ⟨a2, b0, b1, b2, b3, b4, b5, d0, d1, d2, d3, d4, d5⟩
      have hwl := HWL.out
      have hbb : Below w5.heap.size w5 w5 := bRefl w5
      clear m0 m1 m2 m3 m4 m5 v4 fzv hgvl hgvN nv zw u0 u1 u2 u3 u4 u5 i0 i1 i2 i3 j0 j1 j2 j3 k0 k1 k2 k3 HPB HPB2 HPB3 HPB4 HWB HWB4 HB1 HB2 HB3 HB4 HWN HWN3 HWV HGR HPV HE HB16 HSum
      refine wp_region_held_drew (S := fun w' => w'.cell? ⟨W.heap.size, 2, none⟩ = some (.slice A3 p.bs.length c3) ∧ w'.cell? ⟨w2.heap.size, 0, none⟩ = some (.slice (some ⟨gw, 0, none⟩) X.acts.length cw) ∧ w'.cell? ⟨w2.heap.size, 1, none⟩ = some (.slice Bw X.mail.length dw) ∧ w'.cell? ⟨w2.heap.size, 2, none⟩ = some (.int .i64 0) ∧ w'.cell? ⟨w2.heap.size, 3, none⟩ = some (.int .i64 0) ∧ w'.cell? ⟨w2.heap.size, 4, none⟩ = some (.int .i64 0) ∧ w'.cell? ⟨w2.heap.size, 5, none⟩ = some (.int .i64 0) ∧ w'.cell? ⟨w4.heap.size, 0, none⟩ = some (.slice (some ⟨gv, 0, none⟩) X.acts.length cv) ∧ w'.cell? ⟨w4.heap.size, 1, none⟩ = some (.slice Bv X.mail.length dv) ∧ w'.cell? ⟨w4.heap.size, 2, none⟩ = some (.int .i64 0) ∧ w'.cell? ⟨w4.heap.size, 3, none⟩ = some (.int .i64 0) ∧ w'.cell? ⟨w4.heap.size, 4, none⟩ = some (.int .i64 0) ∧ w'.cell? ⟨w4.heap.size, 5, none⟩ = some (.int .i64 0)) (by kernel_rfl) ?_ (fun hHeld => ?_)
      · exact HSA.out _ (by first | exact hbb | exact hbb.drew)
      refine wpAnyH_take (i := 0) (oi := { dst := some 77, op := Go.Op.fieldAddr 34 (Go.Operand.tmp 3) 1, type := 0, pos := "law.go:67", after := #[], guard := none }) (v := ?_) rfl (by kernel_rfl) (by kernel_rfl) (by kernel_rfl) (fun _ _ _ h => h) (Or.inl ⟨by rfl, ?_⟩) (by assumption) ?_
      rotate_left
      · intro w hSw
        try dsimp only at hSw
        go_simp
        try with_reducible rfl
      try simp only [Act.put, List.setIfInBounds_toArray, List.set_cons_zero, List.set_cons_succ]
      refine wpAnyH_take (i := 1) (oi := { dst := some 78, op := Go.Op.load 30 (Go.Operand.tmp 77), type := 30, pos := "law.go:67", after := #[{ on := 0, ground := Go.Ground.data }], guard := none }) (v := ?_) rfl (by kernel_rfl) (by kernel_rfl) (by kernel_rfl) (fun _ _ _ h => h) (Or.inl ⟨by rfl, ?_⟩) (by assumption) ?_
      rotate_left
      · intro w hSw
        try dsimp only at hSw
        go_simp
        try with_reducible rfl
      try simp only [Act.put, List.setIfInBounds_toArray, List.set_cons_zero, List.set_cons_succ]
      refine wpAnyH_take (i := 2) (oi := { dst := some 79, op := Go.Op.call { callee := Go.Callee.builtin Go.Builtin.len, args := #[Go.Operand.tmp 78], argTypes := #[30] }, type := 3, pos := "law.go:67", after := #[{ on := 1, ground := Go.Ground.data }], guard := none }) (v := ?_) rfl (by kernel_rfl) (by kernel_rfl) (by kernel_rfl) (fun _ _ _ h => h) (Or.inl ⟨by rfl, ?_⟩) (by assumption) ?_
      rotate_left
      · intro w hSw
        try dsimp only at hSw
        go_simp
        try with_reducible rfl
      try simp only [Act.put, List.setIfInBounds_toArray, List.set_cons_zero, List.set_cons_succ]
      refine wpAnyH_take (i := 3) (oi := { dst := some 80, op := Go.Op.move (Go.Operand.tmp 5), type := 3, pos := "law.go:67", after := #[], guard := none }) (v := ?_) rfl (by kernel_rfl) (by kernel_rfl) (by kernel_rfl) (fun _ _ _ h => h) (Or.inl ⟨by rfl, ?_⟩) (by assumption) ?_
      rotate_left
      · intro w hSw
        try dsimp only at hSw
        go_simp
        try with_reducible rfl
      try simp only [Act.put, List.setIfInBounds_toArray, List.set_cons_zero, List.set_cons_succ]
      refine wpAnyH_take (i := 4) (oi := { dst := some 81, op := Go.Op.binOp Go.BinOp.add 3 (Go.Operand.tmp 79) (Go.Operand.tmp 80) 3, type := 3, pos := "law.go:67", after := #[{ on := 2, ground := Go.Ground.data }, { on := 3, ground := Go.Ground.data }], guard := none }) (v := ?_) rfl (by kernel_rfl) (by kernel_rfl) (by kernel_rfl) (fun _ _ _ h => h) (Or.inl ⟨by rfl, ?_⟩) (by assumption) ?_
      rotate_left
      · intro w hSw
        try dsimp only at hSw
        go_simp
        try with_reducible rfl
      try simp only [Act.put, List.setIfInBounds_toArray, List.set_cons_zero, List.set_cons_succ]
      refine wpAnyH_take (i := 5) (oi := { dst := some 82, op := Go.Op.fieldAddr 26 (Go.Operand.tmp 1) 2, type := 0, pos := "law.go:67", after := #[], guard := none }) (v := ?_) rfl (by kernel_rfl) (by kernel_rfl) (by kernel_rfl) (fun _ _ _ h => h) (Or.inl ⟨by rfl, ?_⟩) (by assumption) ?_
      rotate_left
      · intro w hSw
        try dsimp only at hSw
        go_simp
        try with_reducible rfl
      try simp only [Act.put, List.setIfInBounds_toArray, List.set_cons_zero, List.set_cons_succ]
      refine wpAnyH_take (i := 6) (oi := { dst := some 83, op := Go.Op.load 24 (Go.Operand.tmp 82), type := 24, pos := "law.go:67", after := #[{ on := 5, ground := Go.Ground.data }], guard := none }) (v := ?_) rfl (by kernel_rfl) (by kernel_rfl) (by kernel_rfl) (fun _ _ _ h => h) (Or.inl ⟨by rfl, ?_⟩) (by assumption) ?_
      rotate_left
      · intro w hSw
        try dsimp only at hSw
        go_simp
        try with_reducible rfl
      try simp only [Act.put, List.setIfInBounds_toArray, List.set_cons_zero, List.set_cons_succ]
      refine wpAnyH_take (i := 7) (oi := { dst := some 84, op := Go.Op.call { callee := Go.Callee.builtin Go.Builtin.len, args := #[Go.Operand.tmp 83], argTypes := #[24] }, type := 3, pos := "law.go:67", after := #[{ on := 6, ground := Go.Ground.data }], guard := none }) (v := ?_) rfl (by kernel_rfl) (by kernel_rfl) (by kernel_rfl) (fun _ _ _ h => h) (Or.inl ⟨by rfl, ?_⟩) (by assumption) ?_
      rotate_left
      · intro w hSw
        try dsimp only at hSw
        go_simp
        try with_reducible rfl
      try simp only [Act.put, List.setIfInBounds_toArray, List.set_cons_zero, List.set_cons_succ]
      refine wpAnyH_take (i := 8) (oi := { dst := some 85, op := Go.Op.binOp Go.BinOp.eql 3 (Go.Operand.tmp 81) (Go.Operand.tmp 84) 3, type := 4, pos := "law.go:67", after := #[{ on := 4, ground := Go.Ground.data }, { on := 7, ground := Go.Ground.data }], guard := none }) (v := ?_) rfl (by kernel_rfl) (by kernel_rfl) (by kernel_rfl) (fun _ _ _ h => h) (Or.inl ⟨by rfl, ?_⟩) (by assumption) ?_
      rotate_left
      · intro w hSw
        try dsimp only at hSw
        go_simp
        try with_reducible rfl
      try simp only [Act.put, List.setIfInBounds_toArray, List.set_cons_zero, List.set_cons_succ]
      refine wpAnyH_take (i := 9) (oi := { dst := some 86, op := Go.Op.move (Go.Operand.tmp 85), type := 4, pos := "law.go:67", after := #[{ on := 8, ground := Go.Ground.data }], guard := none }) (v := ?_) rfl (by kernel_rfl) (by kernel_rfl) (by kernel_rfl) (fun _ _ _ h => h) (Or.inl ⟨by rfl, ?_⟩) (by assumption) ?_
      rotate_left
      · intro w hSw
        try dsimp only at hSw
        go_simp
        try with_reducible rfl
      try simp only [Act.put, List.setIfInBounds_toArray, List.set_cons_zero, List.set_cons_succ]
      refine wpAnyH_take (i := 10) (oi := { dst := some 87, op := Go.Op.load 34 (Go.Operand.tmp 7), type := 34, pos := "law.go:67", after := #[{ on := 9, ground := Go.Ground.guard }], guard := some (9, true) }) (v := ?_) rfl (by kernel_rfl) (by kernel_rfl) (by kernel_rfl) (fun _ _ _ h => h) (Or.inl ⟨by rfl, ?_⟩) (by assumption) ?_
      rotate_left
      · intro w hSw
        try dsimp only at hSw
        go_simp
        try with_reducible rfl
      try simp only [Act.put, List.setIfInBounds_toArray, List.set_cons_zero, List.set_cons_succ]
      refine wpAnyH_take (i := 11) (oi := { dst := some 88, op := Go.Op.load 34 (Go.Operand.tmp 3), type := 34, pos := "law.go:67", after := #[{ on := 9, ground := Go.Ground.guard }], guard := some (9, true) }) (v := ?_) rfl (by kernel_rfl) (by kernel_rfl) (by kernel_rfl) (fun _ _ _ h => h) (Or.inl ⟨by rfl, ?_⟩) (by assumption) ?_
      rotate_left
      · intro w hSw
        try dsimp only at hSw
        go_simp
        try with_reducible rfl
      try simp only [Act.put, List.setIfInBounds_toArray, List.set_cons_zero, List.set_cons_succ]
      refine wpAnyH_ready (rs := [12]) (by kernel_rfl) (by simp) ?_
      refine AllReadyH.cons (o := { dst := some 89, op := Go.Op.call { callee := Go.Callee.value (Go.Operand.func 12), args := #[Go.Operand.tmp 87, Go.Operand.tmp 88], argTypes := #[34, 34] }, type := 4, pos := "law.go:67", after := #[{ on := 10, ground := Go.Ground.data }, { on := 11, ground := Go.Ground.data }, { on := 9, ground := Go.Ground.chain }, { on := 9, ground := Go.Ground.guard }], guard := some (9, true) }) rfl (fun K hK => ?_) AllReadyH.nil
      go_simp
      (go_at_call 12; refine (sameW_any _ _ _ V X (HV.out.below ((by first | exact hbb | exact hbb.drew))) (HX.out.below ((by first | exact hbb | exact hbb.drew)))).mono ?_; rintro e w9 ⟨rfl, hb9⟩; replace hbb := bTrans (by first | exact hbb | exact hbb.drew) hb9; clear hb9)
      try (go_wp2_with fail)
      refine hK.out _ _ ?_ (fun hHeld => ?_)
      · exact HSA.out _ (by first | exact hbb | exact hbb.drew)
      clear hK K
      try simp only [Act.put, List.setIfInBounds_toArray, List.set_cons_zero, List.set_cons_succ]
      refine wpAnyH_take (i := 13) (oi := { dst := some 90, op := Go.Op.unOp Go.UnOp.not 4 (Go.Operand.tmp 89), type := 4, pos := "law.go:67", after := #[{ on := 12, ground := Go.Ground.data }, { on := 9, ground := Go.Ground.guard }], guard := some (9, true) }) (v := ?_) rfl (by kernel_rfl) (by kernel_rfl) (by kernel_rfl) (fun _ _ _ h => h) (Or.inl ⟨by rfl, ?_⟩) (by assumption) ?_
      rotate_left
      · intro w hSw
        try dsimp only at hSw
        go_simp
        try with_reducible rfl
      try simp only [Act.put, List.setIfInBounds_toArray, List.set_cons_zero, List.set_cons_succ]
      refine wpAnyH_take (i := 14) (oi := { dst := some 91, op := Go.Op.pick (Go.Operand.tmp 86) (Go.Operand.tmp 90) (Go.Operand.const (Go.Value.bool false)), type := 4, pos := "law.go:67", after := #[{ on := 9, ground := Go.Ground.data }, { on := 13, ground := Go.Ground.data }], guard := none }) (v := ?_) rfl (by kernel_rfl) (by kernel_rfl) (by kernel_rfl) (fun _ _ _ h => h) (Or.inl ⟨by rfl, ?_⟩) (by assumption) ?_
      rotate_left
      · intro w hSw
        try dsimp only at hSw
        go_simp
        try with_reducible rfl
      try simp only [Act.put, List.setIfInBounds_toArray, List.set_cons_zero, List.set_cons_succ]
      refine wpAnyH_take (i := 15) (oi := { dst := some 92, op := Go.Op.move (Go.Operand.tmp 91), type := 4, pos := "law.go:67", after := #[{ on := 14, ground := Go.Ground.data }, { on := 12, ground := Go.Ground.chain }], guard := none }) (v := ?_) rfl (by kernel_rfl) (by kernel_rfl) (by kernel_rfl) (fun _ _ _ h => h) (Or.inl ⟨by rfl, ?_⟩) (by assumption) ?_
      rotate_left
      · intro w hSw
        try dsimp only at hSw
        go_simp
        try with_reducible rfl
      try simp only [Act.put, List.setIfInBounds_toArray, List.set_cons_zero, List.set_cons_succ]
      refine wpAnyH_take (i := 16) (oi := { dst := some 93, op := Go.Op.load 34 (Go.Operand.tmp 7), type := 34, pos := "law.go:67", after := #[{ on := 15, ground := Go.Ground.guard }], guard := some (15, true) }) (v := ?_) rfl (by kernel_rfl) (by kernel_rfl) (by kernel_rfl) (fun _ _ _ h => h) (Or.inl ⟨by rfl, ?_⟩) (by assumption) ?_
      rotate_left
      · intro w hSw
        try dsimp only at hSw
        go_simp
        try with_reducible rfl
      try simp only [Act.put, List.setIfInBounds_toArray, List.set_cons_zero, List.set_cons_succ]
      refine wpAnyH_take (i := 18) (oi := { dst := some 95, op := Go.Op.load 34 (Go.Operand.tmp 3), type := 34, pos := "law.go:67", after := #[{ on := 15, ground := Go.Ground.guard }], guard := some (15, true) }) (v := ?_) rfl (by kernel_rfl) (by kernel_rfl) (by kernel_rfl) (fun _ _ _ h => h) (Or.inl ⟨by rfl, ?_⟩) (by assumption) ?_
      rotate_left
      · intro w hSw
        try dsimp only at hSw
        go_simp
        try with_reducible rfl
      try simp only [Act.put, List.setIfInBounds_toArray, List.set_cons_zero, List.set_cons_succ]
      refine wpAnyH_ready (rs := [17]) (by kernel_rfl) (by simp) ?_
      refine AllReadyH.cons (o := { dst := some 94, op := Go.Op.call { callee := Go.Callee.value (Go.Operand.func 13), args := #[Go.Operand.tmp 93], argTypes := #[34] }, type := 9, pos := "law.go:67", after := #[{ on := 16, ground := Go.Ground.data }, { on := 15, ground := Go.Ground.chain }, { on := 15, ground := Go.Ground.guard }], guard := some (15, true) }) rfl (fun K hK => ?_) AllReadyH.nil
      go_simp
      (go_at_call 13; refine (text_W _ _ _ (by first | exact HV.out.below ((by first | exact hbb | exact hbb.drew)) | exact HX.out.below ((by first | exact hbb | exact hbb.drew)) | exact HC.out) (by first | exact HOV.out | exact HOX.out) (HE5.out.below ((by first | exact hbb | exact hbb.drew)))).mono ?_; (first | rw [HTV.out] | rw [HTX.out]); rintro e wa ⟨rfl, hba⟩; replace hbb := bTrans (by first | exact hbb | exact hbb.drew) hba; clear hba)
      try (go_wp2_with fail)
      refine hK.out _ _ ?_ (fun hHeld => ?_)
      · exact HSA.out _ (by first | exact hbb | exact hbb.drew)
      clear hK K
      try simp only [Act.put, List.setIfInBounds_toArray, List.set_cons_zero, List.set_cons_succ]
      refine wpAnyH_ready (rs := [19]) (by kernel_rfl) (by simp) ?_
      refine AllReadyH.cons (o := { dst := some 96, op := Go.Op.call { callee := Go.Callee.value (Go.Operand.func 13), args := #[Go.Operand.tmp 95], argTypes := #[34] }, type := 9, pos := "law.go:67", after := #[{ on := 18, ground := Go.Ground.data }, { on := 17, ground := Go.Ground.chain }, { on := 15, ground := Go.Ground.guard }], guard := some (15, true) }) rfl (fun K hK => ?_) AllReadyH.nil
      go_simp
      (go_at_call 13; refine (text_W _ _ _ (by first | exact HV.out.below ((by first | exact hbb | exact hbb.drew)) | exact HX.out.below ((by first | exact hbb | exact hbb.drew)) | exact HC.out) (by first | exact HOV.out | exact HOX.out) (HE5.out.below ((by first | exact hbb | exact hbb.drew)))).mono ?_; (first | rw [HTV.out] | rw [HTX.out]); rintro e wa ⟨rfl, hba⟩; replace hbb := bTrans (by first | exact hbb | exact hbb.drew) hba; clear hba)
      try (go_wp2_with fail)
      refine hK.out _ _ ?_ (fun hHeld => ?_)
      · exact HSA.out _ (by first | exact hbb | exact hbb.drew)
      clear hK K
      try simp only [Act.put, List.setIfInBounds_toArray, List.set_cons_zero, List.set_cons_succ]
      refine wpAnyH_take (i := 20) (oi := { dst := some 97, op := Go.Op.binOp Go.BinOp.neq 9 (Go.Operand.tmp 94) (Go.Operand.tmp 96) 9, type := 4, pos := "law.go:67", after := #[{ on := 17, ground := Go.Ground.data }, { on := 19, ground := Go.Ground.data }, { on := 15, ground := Go.Ground.guard }], guard := some (15, true) }) (v := ?_) rfl (by kernel_rfl) (by kernel_rfl) (by kernel_rfl) (fun _ _ _ h => h) (Or.inl ⟨by rfl, ?_⟩) (by assumption) ?_
      rotate_left
      · intro w hSw
        try dsimp only at hSw
        go_simp
        try with_reducible rfl
      try simp only [Act.put, List.setIfInBounds_toArray, List.set_cons_zero, List.set_cons_succ]
      refine wpAnyH_take (i := 21) (oi := { dst := some 98, op := Go.Op.pick (Go.Operand.tmp 92) (Go.Operand.tmp 97) (Go.Operand.const (Go.Value.bool false)), type := 4, pos := "law.go:67", after := #[{ on := 15, ground := Go.Ground.data }, { on := 20, ground := Go.Ground.data }], guard := none }) (v := ?_) rfl (by kernel_rfl) (by kernel_rfl) (by kernel_rfl) (fun _ _ _ h => h) (Or.inl ⟨by rfl, ?_⟩) (by assumption) ?_
      rotate_left
      · intro w hSw
        try dsimp only at hSw
        go_simp
        try with_reducible rfl
      try simp only [Act.put, List.setIfInBounds_toArray, List.set_cons_zero, List.set_cons_succ]
      refine wpAnyH_take (i := 22) (oi := { dst := some 99, op := Go.Op.move (Go.Operand.tmp 98), type := 4, pos := "law.go:67", after := #[{ on := 21, ground := Go.Ground.data }, { on := 19, ground := Go.Ground.chain }], guard := none }) (v := ?_) rfl (by kernel_rfl) (by kernel_rfl) (by kernel_rfl) (fun _ _ _ h => h) (Or.inl ⟨by rfl, ?_⟩) (by assumption) ?_
      rotate_left
      · intro w hSw
        try dsimp only at hSw
        go_simp
        try with_reducible rfl
      try simp only [Act.put, List.setIfInBounds_toArray, List.set_cons_zero, List.set_cons_succ]
      refine wpAnyH_take (i := 23) (oi := { dst := some 100, op := Go.Op.load 34 (Go.Operand.tmp 3), type := 34, pos := "law.go:67", after := #[{ on := 22, ground := Go.Ground.guard }], guard := some (22, true) }) (v := ?_) rfl (by kernel_rfl) (by kernel_rfl) (by kernel_rfl) (fun _ _ _ h => h) (Or.inl ⟨by rfl, ?_⟩) (by assumption) ?_
      rotate_left
      · intro w hSw
        try dsimp only at hSw
        go_simp
        try with_reducible rfl
      try simp only [Act.put, List.setIfInBounds_toArray, List.set_cons_zero, List.set_cons_succ]
      refine wpAnyH_take (i := 26) (oi := { dst := some 103, op := Go.Op.load 34 (Go.Operand.tmp 3), type := 34, pos := "law.go:67", after := #[{ on := 22, ground := Go.Ground.guard }], guard := some (22, true) }) (v := ?_) rfl (by kernel_rfl) (by kernel_rfl) (by kernel_rfl) (fun _ _ _ h => h) (Or.inl ⟨by rfl, ?_⟩) (by assumption) ?_
      rotate_left
      · intro w hSw
        try dsimp only at hSw
        go_simp
        try with_reducible rfl
      try simp only [Act.put, List.setIfInBounds_toArray, List.set_cons_zero, List.set_cons_succ]
      refine wpAnyH_ready (rs := [24]) (by kernel_rfl) (by simp) ?_
      refine AllReadyH.cons (o := { dst := some 101, op := Go.Op.call { callee := Go.Callee.value (Go.Operand.func 11), args := #[Go.Operand.tmp 100], argTypes := #[34] }, type := 34, pos := "law.go:67", after := #[{ on := 23, ground := Go.Ground.data }, { on := 22, ground := Go.Ground.chain }, { on := 22, ground := Go.Ground.guard }], guard := some (22, true) }) rfl (fun K hK => ?_) AllReadyH.nil
      go_simp
      (go_at_call 11; refine (copyW_any _ _ X (HX.out.below ((by first | exact hbb | exact hbb.drew))) HSX.out).mono ?_; rintro e w8 ⟨a8, m8, lo8, hi8, rfl, hwn8, hb8⟩; have HC := hid_mk (hwn8.wld HSX.out); obtain ⟨A8, c8, rfl⟩ := hwn8.acts.form; obtain ⟨B8, d8, rfl, _⟩ := hwn8.mail.form; rw [HU0.out] at HC ⊢; replace hbb := bTrans (by first | exact hbb | exact hbb.drew) hb8; clear hb8 hwn8)
      try (go_wp2_with fail)
      refine hK.out _ _ ?_ (fun hHeld => ?_)
      · exact HSA.out _ (by first | exact hbb | exact hbb.drew)
      clear hK K
      try simp only [Act.put, List.setIfInBounds_toArray, List.set_cons_zero, List.set_cons_succ]
      refine wpAnyH_ready (rs := [25]) (by kernel_rfl) (by simp) ?_
      refine AllReadyH.cons (o := { dst := some 102, op := Go.Op.call { callee := Go.Callee.value (Go.Operand.func 13), args := #[Go.Operand.tmp 101], argTypes := #[34] }, type := 9, pos := "law.go:67", after := #[{ on := 24, ground := Go.Ground.data }, { on := 24, ground := Go.Ground.chain }, { on := 22, ground := Go.Ground.guard }], guard := some (22, true) }) rfl (fun K hK => ?_) AllReadyH.nil
      go_simp
      (go_at_call 13; refine (text_W _ _ _ (by first | exact HV.out.below ((by first | exact hbb | exact hbb.drew)) | exact HX.out.below ((by first | exact hbb | exact hbb.drew)) | exact HC.out) (by first | exact HOV.out | exact HOX.out) (HE5.out.below ((by first | exact hbb | exact hbb.drew)))).mono ?_; (first | rw [HTV.out] | rw [HTX.out]); rintro e wa ⟨rfl, hba⟩; replace hbb := bTrans (by first | exact hbb | exact hbb.drew) hba; clear hba)
      try (go_wp2_with fail)
      refine hK.out _ _ ?_ (fun hHeld => ?_)
      · exact HSA.out _ (by first | exact hbb | exact hbb.drew)
      clear hK K
      try simp only [Act.put, List.setIfInBounds_toArray, List.set_cons_zero, List.set_cons_succ]
      refine wpAnyH_ready (rs := [27]) (by kernel_rfl) (by simp) ?_
      refine AllReadyH.cons (o := { dst := some 104, op := Go.Op.call { callee := Go.Callee.value (Go.Operand.func 13), args := #[Go.Operand.tmp 103], argTypes := #[34] }, type := 9, pos := "law.go:67", after := #[{ on := 26, ground := Go.Ground.data }, { on := 25, ground := Go.Ground.chain }, { on := 22, ground := Go.Ground.guard }], guard := some (22, true) }) rfl (fun K hK => ?_) AllReadyH.nil
      go_simp
      (go_at_call 13; refine (text_W _ _ _ (by first | exact HV.out.below ((by first | exact hbb | exact hbb.drew)) | exact HX.out.below ((by first | exact hbb | exact hbb.drew)) | exact HC.out) (by first | exact HOV.out | exact HOX.out) (HE5.out.below ((by first | exact hbb | exact hbb.drew)))).mono ?_; (first | rw [HTV.out] | rw [HTX.out]); rintro e wa ⟨rfl, hba⟩; replace hbb := bTrans (by first | exact hbb | exact hbb.drew) hba; clear hba)
      try (go_wp2_with fail)
      refine hK.out _ _ ?_ (fun hHeld => ?_)
      · exact HSA.out _ (by first | exact hbb | exact hbb.drew)
      clear hK K
      try simp only [Act.put, List.setIfInBounds_toArray, List.set_cons_zero, List.set_cons_succ]
      refine wpAnyH_take (i := 28) (oi := { dst := some 105, op := Go.Op.binOp Go.BinOp.eql 9 (Go.Operand.tmp 102) (Go.Operand.tmp 104) 9, type := 4, pos := "law.go:67", after := #[{ on := 25, ground := Go.Ground.data }, { on := 27, ground := Go.Ground.data }, { on := 22, ground := Go.Ground.guard }], guard := some (22, true) }) (v := ?_) rfl (by kernel_rfl) (by kernel_rfl) (by kernel_rfl) (fun _ _ _ h => h) (Or.inl ⟨by rfl, ?_⟩) (by assumption) ?_
      rotate_left
      · intro w hSw
        try dsimp only at hSw
        go_simp
        try with_reducible rfl
      try simp only [Act.put, List.setIfInBounds_toArray, List.set_cons_zero, List.set_cons_succ]
      refine wpAnyH_take (i := 29) (oi := { dst := some 106, op := Go.Op.pick (Go.Operand.tmp 99) (Go.Operand.tmp 105) (Go.Operand.const (Go.Value.bool false)), type := 4, pos := "law.go:67", after := #[{ on := 22, ground := Go.Ground.data }, { on := 28, ground := Go.Ground.data }], guard := none }) (v := ?_) rfl (by kernel_rfl) (by kernel_rfl) (by kernel_rfl) (fun _ _ _ h => h) (Or.inl ⟨by rfl, ?_⟩) (by assumption) ?_
      rotate_left
      · intro w hSw
        try dsimp only at hSw
        go_simp
        try with_reducible rfl
      try simp only [Act.put, List.setIfInBounds_toArray, List.set_cons_zero, List.set_cons_succ]
      refine wpAnyH_take (i := 30) (oi := { dst := some 107, op := Go.Op.move (Go.Operand.tmp 106), type := 4, pos := "law.go:67", after := #[{ on := 29, ground := Go.Ground.data }, { on := 27, ground := Go.Ground.chain }], guard := none }) (v := ?_) rfl (by kernel_rfl) (by kernel_rfl) (by kernel_rfl) (fun _ _ _ h => h) (Or.inl ⟨by rfl, ?_⟩) (by assumption) ?_
      rotate_left
      · intro w hSw
        try dsimp only at hSw
        go_simp
        try with_reducible rfl
      try simp only [Act.put, List.setIfInBounds_toArray, List.set_cons_zero, List.set_cons_succ]
      refine wpAnyH_ready (rs := [31]) (by kernel_rfl) (by simp) ?_
      refine AllReadyH.cons (o := { dst := some 108, op := Go.Op.call { callee := Go.Callee.value (Go.Operand.func 8), args := #[], argTypes := #[] }, type := 4, pos := "law.go:67", after := #[{ on := 30, ground := Go.Ground.chain }, { on := 30, ground := Go.Ground.guard }], guard := some (30, true) }) rfl (fun K hK => ?_) AllReadyH.nil
      go_simp
      (go_at_call 8; refine (awake_any _ (HE5.out.below ((by first | exact hbb | exact hbb.drew)))).mono ?_; rintro e wb ⟨rfl, hbb2⟩; replace hbb := bTrans (by first | exact hbb | exact hbb.drew) hbb2; clear hbb2)
      try (go_wp2_with fail)
      refine hK.out _ _ ?_ (fun hHeld => ?_)
      · exact HSA.out _ (by first | exact hbb | exact hbb.drew)
      clear hK K
      try simp only [Act.put, List.setIfInBounds_toArray, List.set_cons_zero, List.set_cons_succ]
      refine wpAnyH_take (i := 32) (oi := { dst := some 109, op := Go.Op.pick (Go.Operand.tmp 107) (Go.Operand.tmp 108) (Go.Operand.const (Go.Value.bool false)), type := 4, pos := "law.go:67", after := #[{ on := 30, ground := Go.Ground.data }, { on := 31, ground := Go.Ground.data }], guard := none }) (v := ?_) rfl (by kernel_rfl) (by kernel_rfl) (by kernel_rfl) (fun _ _ _ h => h) (Or.inl ⟨by rfl, ?_⟩) (by assumption) ?_
      rotate_left
      · intro w hSw
        try dsimp only at hSw
        go_simp
        try with_reducible rfl
      try simp only [Act.put, List.setIfInBounds_toArray, List.set_cons_zero, List.set_cons_succ]
      refine wpAnyH_take (i := 33) (oi := { dst := some 2, op := Go.Op.assign (Go.Operand.tmp 109), type := 4, pos := "law.go:67", after := #[{ on := 32, ground := Go.Ground.data }, { on := 31, ground := Go.Ground.chain }, { on := 0, ground := Go.Ground.phase }, { on := 1, ground := Go.Ground.phase }, { on := 2, ground := Go.Ground.phase }, { on := 3, ground := Go.Ground.phase }, { on := 4, ground := Go.Ground.phase }, { on := 5, ground := Go.Ground.phase }, { on := 6, ground := Go.Ground.phase }, { on := 7, ground := Go.Ground.phase }, { on := 8, ground := Go.Ground.phase }, { on := 9, ground := Go.Ground.phase }, { on := 10, ground := Go.Ground.phase }, { on := 11, ground := Go.Ground.phase }, { on := 12, ground := Go.Ground.phase }, { on := 13, ground := Go.Ground.phase }, { on := 14, ground := Go.Ground.phase }, { on := 15, ground := Go.Ground.phase }, { on := 16, ground := Go.Ground.phase }, { on := 17, ground := Go.Ground.phase }, { on := 18, ground := Go.Ground.phase }, { on := 19, ground := Go.Ground.phase }, { on := 20, ground := Go.Ground.phase }, { on := 21, ground := Go.Ground.phase }, { on := 22, ground := Go.Ground.phase }, { on := 23, ground := Go.Ground.phase }, { on := 24, ground := Go.Ground.phase }, { on := 25, ground := Go.Ground.phase }, { on := 26, ground := Go.Ground.phase }, { on := 27, ground := Go.Ground.phase }, { on := 28, ground := Go.Ground.phase }, { on := 29, ground := Go.Ground.phase }, { on := 30, ground := Go.Ground.phase }, { on := 31, ground := Go.Ground.phase }, { on := 32, ground := Go.Ground.phase }], guard := none }) (v := ?_) rfl (by kernel_rfl) (by kernel_rfl) (by kernel_rfl) (fun _ _ _ h => h) (Or.inl ⟨by rfl, ?_⟩) (by assumption) ?_
      rotate_left
      · intro w hSw
        try dsimp only at hSw
        go_simp
        try with_reducible rfl
      try simp only [Act.put, List.setIfInBounds_toArray, List.set_cons_zero, List.set_cons_succ]
      refine wpAnyH_done (by kernel_rfl) ?_ _
      go_wp2_with fail
      go_ret
      exact ⟨rfl, bTrans HB5.out hbb⟩
end
theorem starts_any (W : World) (vp : Value) (p : PPrg) (he : Env W) (hp : PrgV W vp p) (hr : RgP p) :
    Calls Tryd.prog 3 #[vp] W fun e w' => e = .returned (.bool true) ∧ Below W.heap.size W w' := by
  by_cases hs : Small p
  · by_cases hf : fc p = 0
    · exact starts_yes W vp p he hp hs hr hf
    · exact starts_no W vp p he hp hs hf
  · exact starts_big W vp p he hp hs
end Go.Proofs.YtjdnedmhffakjaaDoor
