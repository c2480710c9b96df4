/-
  What the reference's SameProg answers of two programs: whether they are one. No further conditions.
-/
import Derived.Test.YtlpeiiejkpkpjaaDoorRNts
import Derived.Test.YtlpeiiejkpkpjaaDoorAwake
namespace Go.Proofs.YtlpeiiejkpkpjaaDoor
open Go.RowKit
attribute [local go_sem ↓] Go.wp_at_zero Go.wp_at_succ

theorem boxed2 {w wr : World} {cs ds : Array Value} {T U : TypeId} (hb : Below (w.heap.size + 2) ((w.alloc (.cells cs T)).alloc (.cells ds U)) wr) :
    Below w.heap.size w wr ∧ (∀ o, wr.cell? ⟨w.heap.size, o, none⟩ = cs[o]?) ∧ (∀ o, wr.cell? ⟨w.heap.size + 1, o, none⟩ = ds[o]?) ∧ w.heap.size < wr.heap.size ∧ w.heap.size + 1 < wr.heap.size := by
  have hz : w.heap.size + 2 ≤ wr.heap.size := by have := hb.size; simpa using this
  refine ⟨(bAlloc (bAlloc (bRefl w) _) _).trans (hb.mono (by omega)), fun o => ?_, fun o => ?_, by omega, by omega⟩
  · rw [hb.cell (p := ⟨w.heap.size, o, none⟩) (by simp)]
    rw [World.cell?_alloc_lt _ _ _ (by simp)]
    exact World.cell?_alloc_new w cs T o
  · rw [hb.cell (p := ⟨w.heap.size + 1, o, none⟩) (by simp)]
    simp
theorem bx_second {w : World} {x : Obj} {cs : Array Value} {T : TypeId} : Bx ((w.alloc x).alloc (.cells cs T)).drew (w.heap.size + 1) cs := by
  have h := (Bx.new (w.alloc x) cs T).below (bRefl _).drew
  simpa using h
theorem u_step2 {w wr w1 : World} {x y : Obj} (hb : Below (w.heap.size + 2) ((w.alloc x).alloc y) wr) (h : Below wr.heap.size wr w1) : Below (w.heap.size + 2) ((w.alloc x).alloc y) w1 :=
  hb.trans (h.mono (by have := hb.size; simpa using this))
theorem eqB_true {α : Type} [DecidableEq α] {a b : α} (h : eqB a b = true) : a = b := of_decide_eq_true h
theorem ne_bool {a b : Bool} (h : ¬ a = b) : b = !a := by cases a <;> cases b <;> simp_all
theorem hnd_eq {x y : PHnd} (h1 : x.args = y.args) (h2 : eqB x.code y.code = true) : x = y := by
  obtain ⟨a, c⟩ := x
  obtain ⟨a', c'⟩ := y
  have : c = c' := of_decide_eq_true h2
  simp_all
theorem act_eq {x y : PAct} (h1 : eqB x.regs y.regs = true) (h2 : x.cap = y.cap) (h3 : x.timer = y.timer) (h4 : x.armed = y.armed) : x = y := by
  obtain ⟨a, c, t, r⟩ := x
  obtain ⟨a', c', t', r'⟩ := y
  have : a = a' := of_decide_eq_true h1
  simp_all
theorem prg_eq {x y : PPrg} (h1 : x.hs = y.hs) (h2 : x.acs = y.acs) (h3 : x.bs = y.bs) (h4 : x.fuel = y.fuel) : x = y := by
  obtain ⟨a, c, t, r⟩ := x
  obtain ⟨a', c', t', r'⟩ := y
  simp_all

set_option maxHeartbeats 8000000 in
set_option maxRecDepth 100000 in
theorem rsame_any (w : World) (v1 v2 : Value) (n m : PPrg) (h1 : PrgV w v1 n) (h2 : PrgV w v2 m) :
    Calls Tryd.prog 14 #[v1, v2] w fun e w' => e = .returned (.bool (eqB n m)) ∧ Below w.heap.size w w' := by
  obtain ⟨va, vb, vc, rfl, h1, h1', h1''⟩ := h1
  obtain ⟨ua, ub, uc, rfl, h2, h2', h2''⟩ := h2
  obtain ⟨A1, c1, rfl, _⟩ := h1.form
  obtain ⟨A2, c2, rfl, _⟩ := h1'.form
  obtain ⟨A3, c3, rfl, _⟩ := h1''.form
  obtain ⟨D1, g1, rfl, _⟩ := h2.form
  obtain ⟨D2, g2, rfl, _⟩ := h2'.form
  obtain ⟨D3, g3, rfl, _⟩ := h2''.form
  have HB : ∀ (x y : Obj), Below w.heap.size w ((w.alloc x).alloc y) := fun x y => bAlloc (bAlloc (bRefl w) x) y
  by_cases l1 : n.hs.length = m.hs.length
  · have l1' := lt_eq l1
    have HL1 : Hid (n.hs.length = m.hs.length) := l1
    clear l1
    by_cases l2 : n.acs.length = m.acs.length
    · have l2' := lt_eq l2
      have HL2 : Hid (n.acs.length = m.acs.length) := l2
      clear l2
      by_cases l3 : n.fuel = m.fuel
      · have l3' := ne_no l3
        have HE4 : Hid (n.fuel = m.fuel) := l3
        clear l3
        cases l4 : eqB n.bs m.bs with
        | true =>
          have HE3 : Hid (n.bs = m.bs) := eqB_true l4
          go_enter Tryd.func14, Tryd.ntmps14
          go_wp2_with (go_at_call 32; refine (rSameNotes _ _ _ _ _ (h1''.below (by exact HB _ _)) (h2''.below (by exact HB _ _))).mono ?_; rintro e w1 ⟨rfl, hbn⟩; have hcn := bcell hbn)
          go_loopg [5] n.hs.length (fun g i5 wr => ∃ k : Nat, g = n.hs.length - k ∧ k ≤ n.hs.length ∧ i5 = .int .i64 k ∧ Hid (n.hs.take k = m.hs.take k) ∧ Below (w.heap.size + 2) ((w.alloc (.cells #[.slice A1 n.hs.length c1, .slice A2 n.acs.length c2, .slice A3 n.bs.length c3, .int .i64 n.fuel] 26)).alloc (.cells #[.slice D1 m.hs.length g1, .slice D2 m.acs.length g2, .slice D3 m.bs.length g3, .int .i64 m.fuel] 26)) wr)
          case atStart => exact ⟨0, rfl, by omega, rfl, rfl, by simpa using hbn⟩
          case round =>
            clear hbn hcn
            obtain ⟨k, rfl, hk, rfl, ht, hb⟩ := hrel
            obtain ⟨hb', hcA, hcB, hzA, hzB⟩ := boxed2 hb
            by_cases hlt : k < n.hs.length
            · obtain ⟨b1, o1, x, v1, rfl, hx, hz1, q1, q2, hv1⟩ := h1.cell hb' hlt
              obtain ⟨b2, o2, y, v2, rfl, hy, hz2, s1, s2, hv2⟩ := h2.cell hb' (k := k) (by have := HL1.out; omega)
              obtain ⟨V1, k1, rfl, _⟩ := hv1.form
              obtain ⟨V2, k2, rfl, _⟩ := hv2.form
              have hlt2 : (k : Int) < m.hs.length := by have := HL1.out; omega
              have HX : Hid (n.hs[k]? = some x) := hx
              have HY : Hid (m.hs[k]? = some y) := hy
              clear hx hy
              by_cases r1 : x.args = y.args
              · have r1' := ne_no r1
                cases r2 : eqB x.code y.code with
                | true =>
                  have HE : Hid (x = y) := hnd_eq r1 r2
                  clear r1
                  go_wp2
                  go_quiet ((go_at_call 33; exact Calls.quiet_of (refC anyB anyB _ _ _ _ _ ((hv1.below (by exact bDrewN (bRefl _) _)).any) ((hv2.below (by exact bDrewN (bRefl _) _)).any))))
                  go_wp2
                  go_roundg (n.hs.length - (k + 1))
                  case measure => omega
                  case rel => exact ⟨k + 1, rfl, by omega, by go_num, take_eq ht.out HX.out HY.out HE.out, bDrewN hb _⟩
                | false =>
                  have HR : Hid (eqB n m = false) := eqB_no (fun e => by subst e; have := Option.some.inj (HX.out.symm.trans HY.out); rw [this, eqB_self] at r2; cases r2)
                  clear r1
                  go_wp2
                  go_quiet ((go_at_call 33; exact Calls.quiet_of (refC anyB anyB _ _ _ _ _ ((hv1.below (by exact bDrewN (bRefl _) _)).any) ((hv2.below (by exact bDrewN (bRefl _) _)).any))))
                  go_wp2
                  go_ret
                  exact ⟨ret_b HR.out.symm, bDrewN hb' _⟩
              · have r1' := ne_yes r1
                have HR : Hid (eqB n m = false) := eqB_no (fun e => by subst e; have := Option.some.inj (HX.out.symm.trans HY.out); exact r1 (by rw [this]))
                clear r1
                go_wp2
                go_quiet (fail)
                go_wp2
                go_ret
                exact ⟨ret_b HR.out.symm, bDrewN hb' _⟩
            · have HE1 : Hid (n.hs = m.hs) := take_all HL1.out hlt ht.out
              clear ht
              go_wp2
              go_loopg [6] n.acs.length (fun g i6 wr => ∃ k : Nat, g = n.acs.length - k ∧ k ≤ n.acs.length ∧ i6 = .int .i64 k ∧ Hid (n.acs.take k = m.acs.take k) ∧ Below (w.heap.size + 2) ((w.alloc (.cells #[.slice A1 n.hs.length c1, .slice A2 n.acs.length c2, .slice A3 n.bs.length c3, .int .i64 n.fuel] 26)).alloc (.cells #[.slice D1 m.hs.length g1, .slice D2 m.acs.length g2, .slice D3 m.bs.length g3, .int .i64 m.fuel] 26)) wr)
              case atStart => exact ⟨0, rfl, by omega, rfl, rfl, hb⟩
              case round =>
                clear hb hb' hcA hcB hzA hzB
                obtain ⟨k, rfl, hk, rfl, ht, hb⟩ := hrel
                obtain ⟨hb', hcA, hcB, hzA, hzB⟩ := boxed2 hb
                by_cases hlt : k < n.acs.length
                · obtain ⟨b1, o1, x, v1, rfl, hx, hz1, q1, q2, q3, q4, hv1⟩ := h1'.cell hb' hlt
                  obtain ⟨b2, o2, y, v2, rfl, hy, hz2, s1, s2, s3, s4, hv2⟩ := h2'.cell hb' (k := k) (by have := HL2.out; omega)
                  obtain ⟨V1, k1, rfl, _⟩ := hv1.form
                  obtain ⟨V2, k2, rfl, _⟩ := hv2.form
                  have hlt2 : (k : Int) < m.acs.length := by have := HL2.out; omega
                  have HX : Hid (n.acs[k]? = some x) := hx
                  have HY : Hid (m.acs[k]? = some y) := hy
                  have nw1 : ¬ wr.heap.size = w.heap.size := by omega
                  have nw2 : ¬ wr.heap.size = w.heap.size + 1 := by omega
                  have nw3 : ¬ wr.heap.size = b1 := by omega
                  have nw4 : ¬ wr.heap.size = b2 := by omega
                  have nw5 : ¬ wr.heap.size + 1 = w.heap.size := by omega
                  have nw6 : ¬ wr.heap.size + 1 = w.heap.size + 1 := by omega
                  have nw7 : ¬ wr.heap.size + 1 = b1 := by omega
                  have nw8 : ¬ wr.heap.size + 1 = b2 := by omega
                  have zz1 : w.heap.size < wr.heap.size + 1 := by omega
                  have zz2 : w.heap.size + 1 < wr.heap.size + 1 := by omega
                  have zz3 : b1 < wr.heap.size + 1 := by omega
                  have zz4 : b2 < wr.heap.size + 1 := by omega
                  clear hx hy
                  go_wp2
                  go_cut [7, 8] (fun i7 i8 wc => ∃ bx by_, i7 = .pointer (some ⟨bx, 0, none⟩) ∧ i8 = .pointer (some ⟨by_, 0, none⟩) ∧ Bx wc bx #[.slice V1 x.regs.length k1, .int .i64 x.cap, .int .i64 x.timer, .bool x.armed] ∧ Bx wc by_ #[.slice V2 y.regs.length k2, .int .i64 y.cap, .int .i64 y.timer, .bool y.armed] ∧ Below wr.heap.size wr wc)
                  case first =>
                    go_region_held3 (fun w' => w'.cell? ⟨w.heap.size, 1, none⟩ = some (.slice (some ⟨b1, o1, none⟩) n.acs.length c2) ∧ w'.cell? ⟨w.heap.size + 1, 1, none⟩ = some (.slice (some ⟨b2, o2, none⟩) m.acs.length g2) ∧ w'.cell? ⟨b1, o1 + k * 4, none⟩ = some (.slice V1 x.regs.length k1) ∧ w'.cell? ⟨b1, o1 + k * 4 + 1, none⟩ = some (.int .i64 x.cap) ∧ w'.cell? ⟨b1, o1 + k * 4 + 2, none⟩ = some (.int .i64 x.timer) ∧ w'.cell? ⟨b1, o1 + k * 4 + 3, none⟩ = some (.bool x.armed) ∧ w'.cell? ⟨b2, o2 + k * 4, none⟩ = some (.slice V2 y.regs.length k2) ∧ w'.cell? ⟨b2, o2 + k * 4 + 1, none⟩ = some (.int .i64 y.cap) ∧ w'.cell? ⟨b2, o2 + k * 4 + 2, none⟩ = some (.int .i64 y.timer) ∧ w'.cell? ⟨b2, o2 + k * 4 + 3, none⟩ = some (.bool y.armed)) (go_keep) (fail)
                    all_goals (go_wp2_with fail; go_meet)
                    all_goals first
                      | exact ⟨_, _, rfl, rfl, (Bx.new wr _ 41).below (bAlloc (bRefl _) _).drew, bx_second, (bAlloc (bAlloc (bRefl wr) _) _).drew⟩
                      | exact ⟨_, _, rfl, rfl, bx_second, (Bx.new wr _ 41).below (bAlloc (bRefl _) _).drew, (bAlloc (bAlloc (bRefl wr) _) _).drew⟩
                  case rest =>
                    obtain ⟨bx, by_, rfl, rfl, cx, cy, hcb2⟩ := hcut
                    have hx0 := cx.cell
                    have hy0 := cy.cell
                    clear nw1 nw2 nw3 nw4 nw5 nw6 nw7 nw8 zz1 zz2 zz3 zz4
                    cases r1 : eqB x.regs y.regs with
                    | false =>
                      have HR : Hid (eqB n m = false) := eqB_no (fun e => by subst e; have := Option.some.inj (HX.out.symm.trans HY.out); rw [this, eqB_self] at r1; cases r1)
                      go_wp2_with (go_at_call 34; refine (refI anyB anyB _ _ _ _ _ ((hv1.below (by exact hcb2)).any) ((hv2.below (by exact hcb2)).any)).mono ?_; rintro e w1 ⟨rfl, hq⟩; have hk1 := (cx.below (quiet_below hq)).cell; have hk2 := (cy.below (quiet_below hq)).cell)
                      go_ret
                      exact ⟨ret_b HR.out.symm, bTrans hb' (bTrans hcb2 (quiet_below hq))⟩
                    | true =>
                      by_cases r2 : x.cap = y.cap
                      · by_cases r3 : x.timer = y.timer
                        · by_cases r4 : x.armed = y.armed
                          · have HE : Hid (x = y) := act_eq r1 r2 r3 r4
                            have r2' := ne_no r2
                            have r3' := ne_no r3
                            have r4' : y.armed = x.armed := r4.symm
                            clear r2 r3 r4
                            go_wp2_with (go_at_call 34; refine (refI anyB anyB _ _ _ _ _ ((hv1.below (by exact hcb2)).any) ((hv2.below (by exact hcb2)).any)).mono ?_; rintro e w1 ⟨rfl, hq⟩; have hk1 := (cx.below (quiet_below hq)).cell; have hk2 := (cy.below (quiet_below hq)).cell)
                            go_roundg (n.acs.length - (k + 1))
                            case measure => omega
                            case rel => exact ⟨k + 1, rfl, by omega, by go_num, take_eq ht.out HX.out HY.out HE.out, u_step2 hb (bTrans hcb2 (quiet_below hq))⟩
                          · have HR : Hid (eqB n m = false) := eqB_no (fun e => by subst e; have := Option.some.inj (HX.out.symm.trans HY.out); exact r4 (by rw [this]))
                            have r2' := ne_no r2
                            have r3' := ne_no r3
                            have r4' : y.armed = !x.armed := ne_bool r4
                            clear r2 r3 r4
                            go_wp2_with (go_at_call 34; refine (refI anyB anyB _ _ _ _ _ ((hv1.below (by exact hcb2)).any) ((hv2.below (by exact hcb2)).any)).mono ?_; rintro e w1 ⟨rfl, hq⟩; have hk1 := (cx.below (quiet_below hq)).cell; have hk2 := (cy.below (quiet_below hq)).cell)
                            go_ret
                            exact ⟨ret_b HR.out.symm, bTrans hb' (bTrans hcb2 (quiet_below hq))⟩
                        · have HR : Hid (eqB n m = false) := eqB_no (fun e => by subst e; have := Option.some.inj (HX.out.symm.trans HY.out); exact r3 (by rw [this]))
                          have r2' := ne_no r2
                          have r3' := ne_yes r3
                          clear r2 r3
                          go_wp2_with (go_at_call 34; refine (refI anyB anyB _ _ _ _ _ ((hv1.below (by exact hcb2)).any) ((hv2.below (by exact hcb2)).any)).mono ?_; rintro e w1 ⟨rfl, hq⟩; have hk1 := (cx.below (quiet_below hq)).cell; have hk2 := (cy.below (quiet_below hq)).cell)
                          go_ret
                          exact ⟨ret_b HR.out.symm, bTrans hb' (bTrans hcb2 (quiet_below hq))⟩
                      · have HR : Hid (eqB n m = false) := eqB_no (fun e => by subst e; have := Option.some.inj (HX.out.symm.trans HY.out); exact r2 (by rw [this]))
                        have r2' := ne_yes r2
                        clear r2
                        go_wp2_with (go_at_call 34; refine (refI anyB anyB _ _ _ _ _ ((hv1.below (by exact hcb2)).any) ((hv2.below (by exact hcb2)).any)).mono ?_; rintro e w1 ⟨rfl, hq⟩; have hk1 := (cx.below (quiet_below hq)).cell; have hk2 := (cy.below (quiet_below hq)).cell)
                        go_ret
                        exact ⟨ret_b HR.out.symm, bTrans hb' (bTrans hcb2 (quiet_below hq))⟩
                · have HE2 : Hid (n.acs = m.acs) := take_all HL2.out hlt ht.out
                  have HR : Hid (eqB n m = true) := eqB_yes (prg_eq HE1.out HE2.out HE3.out HE4.out)
                  go_wp2
                  go_ret
                  exact ⟨ret_b HR.out.symm, hb'⟩
        | false =>
          have HR : Hid (eqB n m = false) := eqB_no (fun e => by subst e; rw [eqB_self] at l4; cases l4)
          go_enter Tryd.func14, Tryd.ntmps14
          go_wp2_with (go_at_call 32; refine (rSameNotes _ _ _ _ _ (h1''.below (by exact HB _ _)) (h2''.below (by exact HB _ _))).mono ?_; rintro e w1 ⟨rfl, hbn⟩; have hcn := bcell hbn)
          go_ret
          exact ⟨ret_b HR.out.symm, bTrans (HB _ _) hbn⟩
      · have HR : Hid (eqB n m = false) := eqB_no (fun e => l3 (by rw [e]))
        have l3' := ne_yes l3
        go_enter Tryd.func14, Tryd.ntmps14
        go_wp2
        go_ret
        exact ⟨ret_b HR.out.symm, HB _ _⟩
    · have HR : Hid (eqB n m = false) := eqB_no (fun e => l2 (by rw [e]))
      have l2' := lt_ne l2
      go_enter Tryd.func14, Tryd.ntmps14
      go_wp2
      go_ret
      exact ⟨ret_b HR.out.symm, HB _ _⟩
  · have HR : Hid (eqB n m = false) := eqB_no (fun e => l1 (by rw [e]))
    have l1' := lt_ne l1
    go_enter Tryd.func14, Tryd.ntmps14
    go_wp2
    go_ret
    exact ⟨ret_b HR.out.symm, HB _ _⟩
end Go.Proofs.YtlpeiiejkpkpjaaDoor
