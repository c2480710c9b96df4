/-
  What the reference's CheckProg answers of a program: the same as Check. No further conditions.
-/
import Derived.Test.YtgdloonpemaijaaDoorRef
import Derived.Test.YtgdloonpemaijaaDoorChk3
import Derived.Deep.RegionHeld3
import Derived.Deep.DrawnRows
namespace Go.Proofs.YtgdloonpemaijaaDoor
open Go.RowKit
attribute [local go_sem ↓] Go.wp_at_zero Go.wp_at_succ

theorem u_next {w wq w1 : World} {x : Obj} (hb : Below (w.heap.size + 1) (w.alloc x) wq) (hb1 : Below wq.drew.heap.size wq.drew w1) : Below (w.heap.size + 1) (w.alloc x) w1 := u_step hb (undrew hb1)

set_option maxHeartbeats 8000000 in
set_option maxRecDepth 100000 in
theorem rcheck_any (w : World) (v : Value) (p : PPrg) (h : PrgV w v p) :
    Calls Tryd.prog 88 #[v] w fun e w' => e = .returned (.int .i64 (chk p)) ∧ Below w.heap.size w w' := by
  obtain ⟨va, vb, vc, rfl, h1, h2, h3⟩ := h
  obtain ⟨A1, c1, rfl, hl1⟩ := h1.form
  obtain ⟨A2, c2, rfl, hl2⟩ := h2.form
  obtain ⟨A3, c3, rfl, hl3⟩ := h3.form
  have HP : Hid (PrgV w (.agg #[.slice A1 p.hs.length c1, .slice A2 p.acs.length c2, .slice A3 p.bs.length c3, .int .i64 p.fuel]) p) := ⟨_, _, _, rfl, h1, h2, h3⟩
  have HB : ∀ (x : Obj), Below w.heap.size w (w.alloc x) := fun x => bAlloc (bRefl w) x
  by_cases e1 : p.hs.length ≤ 16
  · by_cases e2 : p.acs.length ≤ 8
    · by_cases e3 : p.bs.length ≤ 16
      · by_cases e4 : p.acs.length = 0
        · have HR : Hid (1 = chk p) := by
            have hc : chkC p = 1 := by unfold chkC; rw [if_pos ⟨e1, e2, e3⟩, if_neg (fun h => h.1 e4)]
            unfold chk; rw [hc]; rfl
          have e4' : ((p.acs.length : Int) == 0) = true := by simp; exact List.length_eq_zero_iff.1 e4
          clear e4
          go_enter Tryd.func88, Tryd.ntmps88
          go_wp2
          go_ret
          exact ⟨ret_int HR.out, HB _⟩
        · have e4' : ((p.acs.length : Int) == 0) = false := by simp; exact fun h => e4 (by rw [h]; rfl)
          by_cases e5 : 1 ≤ p.fuel
          · by_cases e6 : p.fuel ≤ 256
            · have e0 : chkC p = 0 := by unfold chkC; rw [if_pos ⟨e1, e2, e3⟩, if_pos ⟨e4, e5, e6⟩]
              have HC : Hid (chk p = if scan (chkH p.hs.length) p.hs = 0 then (if scan (chkA p.hs) p.acs = 0 then scan (chkN p.acs.length p.hs) p.bs else scan (chkA p.hs) p.acs) else scan (chkH p.hs.length) p.hs) := by unfold chk; rw [if_pos e0]; rfl
              clear e0 e4
              go_enter Tryd.func88, Tryd.ntmps88
              go_wp2
              go_loopg [3] p.hs.length (fun g i3 wr => ∃ k : Nat, g = p.hs.length - k ∧ k ≤ p.hs.length ∧ i3 = .int .i64 k ∧ Hid (scan (chkH p.hs.length) (p.hs.drop k) = scan (chkH p.hs.length) p.hs) ∧ Below (w.heap.size + 1) (w.alloc (.cells #[.slice A1 p.hs.length c1, .slice A2 p.acs.length c2, .slice A3 p.bs.length c3, .int .i64 p.fuel] 26)) wr)
              case atStart => exact ⟨0, rfl, by omega, rfl, rfl, Below.refl _ _⟩
              case round =>
                obtain ⟨k, rfl, hk, rfl, hsc, hb⟩ := hrel
                obtain ⟨hb', hcb, hz⟩ := boxed hb
                by_cases hlt : k < p.hs.length
                · obtain ⟨wo, hwo⟩ : ∃ wo, wo = wr := ⟨wr, rfl⟩
                  subst hwo
                  obtain ⟨b1, o1, x, v1, rfl, hx, hz1, q1, q2, hv1⟩ := h1.cell hb' hlt
                  obtain ⟨V1, n1, rfl, hvl⟩ := hv1.form
                  have HS : Hid (scan (chkH p.hs.length) (p.hs.drop k) = if chkH p.hs.length x = 0 then scan (chkH p.hs.length) (p.hs.drop (k + 1)) else chkH p.hs.length x) := scan_step hx
                  clear hx
                  by_cases q5 : 0 ≤ x.args
                  · by_cases q6 : x.args ≤ 4
                    · by_cases q7 : x.code.length ≤ 64
                      · have HI : Hid (chkH p.hs.length x = scan (chkI x.code.length x.args p.hs.length) x.code) := by unfold chkH; rw [if_pos ⟨q5, q6⟩, if_pos q7]; rfl
                        go_wp2
                        go_loopg [5] x.code.length (fun g i5 wr => ∃ k2 : Nat, g = x.code.length - k2 ∧ k2 ≤ x.code.length ∧ i5 = .int .i64 k2 ∧ Hid (scan (chkI x.code.length x.args p.hs.length) (x.code.drop k2) = scan (chkI x.code.length x.args p.hs.length) x.code) ∧ Below (wo.heap.size + 1) (wo.alloc (.cells #[.int .i64 x.args, .slice V1 x.code.length n1] 81)) wr)
                        case atStart => exact ⟨0, rfl, by omega, rfl, rfl, Below.refl _ _⟩
                        case round =>
                          obtain ⟨k2, rfl, hk2, rfl, hsc2, hbq⟩ := hrel
                          obtain ⟨hbq', hcq, hzq⟩ := boxed hbq
                          have hp0 : ∀ o, wr.cell? ⟨w.heap.size, o, none⟩ = (w.alloc (.cells #[.slice (some ⟨b1, o1, none⟩) p.hs.length c1, .slice A2 p.acs.length c2, .slice A3 p.bs.length c3, .int .i64 p.fuel] 26)).cell? ⟨w.heap.size, o, none⟩ := fun o => (hbq'.cell (p := ⟨w.heap.size, o, none⟩) hz).trans (hcb o)
                          have hzw : w.heap.size < wr.heap.size := Nat.lt_of_lt_of_le hz hbq'.size
                          by_cases hlt2 : k2 < x.code.length
                          · obtain ⟨b2, o2, y, rfl, hy, s1, s2⟩ := hv1.cell hbq' hlt2
                            have hz2 : b2 < wr.heap.size := World.block_lt_of_cell? _ _ s1
                            have HS2 : Hid (scan (chkI x.code.length x.args p.hs.length) (x.code.drop k2) = if chkI x.code.length x.args p.hs.length y = 0 then scan (chkI x.code.length x.args p.hs.length) (x.code.drop (k2 + 1)) else chkI x.code.length x.args p.hs.length y) := scan_step hy
                            clear hy
                            by_cases he : chkI x.code.length x.args p.hs.length y = 0
                            · have he' := ne0_no he
                              have HE : Hid (chkI x.code.length x.args p.hs.length y = 0) := he
                              clear he
                              go_wp2
                              go_region_held3 (fun w' => w'.cell? ⟨w.heap.size, 0, none⟩ = some (.slice (some ⟨b1, o1, none⟩) p.hs.length c1) ∧ w'.cell? ⟨wo.heap.size, 0, none⟩ = some (.int .i64 x.args) ∧ w'.cell? ⟨wo.heap.size, 1, none⟩ = some (.slice (some ⟨b2, o2, none⟩) x.code.length n1) ∧ w'.cell? ⟨b2, o2 + k2 * 2, none⟩ = some (.int .i64 y.op) ∧ w'.cell? ⟨b2, o2 + k2 * 2 + 1, none⟩ = some (.int .i64 y.a)) (go_keep)
                                (first | (go_at_call 122; refine (rinstr_any _ _ _ _ _).mono ?_; rintro e w1 ⟨rfl, hb1⟩; have hc1 := bcell (undrew hb1)))
                              go_wp2
                              go_roundg (x.code.length - (k2 + 1))
                              case measure => omega
                              case rel => exact ⟨k2 + 1, rfl, by omega, by go_num, by rw [← hsc2.out, HS2.out, if_pos HE.out]; rfl, u_next hbq hb1⟩
                            · have he' := ne0_yes he
                              have HE : Hid (chkI x.code.length x.args p.hs.length y = chk p) := by
                                have e0 : chkH p.hs.length x = chkI x.code.length x.args p.hs.length y := by rw [HI.out, ← hsc2.out, HS2.out, if_neg he]
                                have e1 : scan (chkH p.hs.length) p.hs = chkI x.code.length x.args p.hs.length y := by rw [← hsc.out, HS.out, if_neg (by rw [e0]; exact he)]; exact e0
                                rw [HC.out, e1, if_neg he]; rfl
                              clear he
                              go_wp2
                              go_region_held3 (fun w' => w'.cell? ⟨w.heap.size, 0, none⟩ = some (.slice (some ⟨b1, o1, none⟩) p.hs.length c1) ∧ w'.cell? ⟨wo.heap.size, 0, none⟩ = some (.int .i64 x.args) ∧ w'.cell? ⟨wo.heap.size, 1, none⟩ = some (.slice (some ⟨b2, o2, none⟩) x.code.length n1) ∧ w'.cell? ⟨b2, o2 + k2 * 2, none⟩ = some (.int .i64 y.op) ∧ w'.cell? ⟨b2, o2 + k2 * 2 + 1, none⟩ = some (.int .i64 y.a)) (go_keep)
                                (first | (go_at_call 122; refine (rinstr_any _ _ _ _ _).mono ?_; rintro e w1 ⟨rfl, hb1⟩; have hc1 := bcell (undrew hb1)))
                              go_wp2
                              go_ret
                              exact ⟨ret_int HE.out, bTrans (bTrans hb' hbq') (undrew hb1)⟩
                          · have HE : Hid (chkH p.hs.length x = 0) := by rw [HI.out, ← hsc2.out, scan_end hlt2]; rfl
                            go_wp2
                            go_roundg (p.hs.length - (k + 1))
                            case measure => omega
                            case rel => exact ⟨k + 1, rfl, by omega, by go_num, by rw [← hsc.out, HS.out, if_pos HE.out]; rfl, u_step hb (bTrans (bAlloc (bRefl _) _) (by simpa using hbq))⟩
                      · have hx0 : chkH p.hs.length x = 3 := by unfold chkH; rw [if_pos ⟨q5, q6⟩, if_neg q7]
                        have HE : Hid (3 = chk p) := by
                          have e1 : scan (chkH p.hs.length) p.hs = 3 := by rw [← hsc.out, HS.out, if_neg (by rw [hx0]; decide)]; exact hx0
                          rw [HC.out, e1, if_neg (by decide)]; rfl
                        clear hx0
                        go_wp2
                        go_ret
                        exact ⟨ret_int HE.out, bAlloc hb' _⟩
                    · have hx0 : chkH p.hs.length x = 1 := by unfold chkH; rw [if_neg (fun h => q6 h.2)]
                      have HE : Hid (1 = chk p) := by
                        have e1 : scan (chkH p.hs.length) p.hs = 1 := by rw [← hsc.out, HS.out, if_neg (by rw [hx0]; decide)]; exact hx0
                        rw [HC.out, e1, if_neg (by decide)]; rfl
                      clear hx0
                      go_wp2
                      go_ret
                      exact ⟨ret_int HE.out, bAlloc hb' _⟩
                  · have hx0 : chkH p.hs.length x = 1 := by unfold chkH; rw [if_neg (fun h => q5 h.1)]
                    have HE : Hid (1 = chk p) := by
                      have e1 : scan (chkH p.hs.length) p.hs = 1 := by rw [← hsc.out, HS.out, if_neg (by rw [hx0]; decide)]; exact hx0
                      rw [HC.out, e1, if_neg (by decide)]; rfl
                    clear hx0
                    go_wp2
                    go_ret
                    exact ⟨ret_int HE.out, bAlloc hb' _⟩
                · have HD : Hid (chk p = if scan (chkA p.hs) p.acs = 0 then scan (chkN p.acs.length p.hs) p.bs else scan (chkA p.hs) p.acs) := by
                    rw [HC.out, if_pos (by rw [← hsc.out, scan_end hlt])]; rfl
                  clear hsc HC
                  go_wp2
                  go_loopg [7] p.acs.length (fun g i7 wr => ∃ k : Nat, g = p.acs.length - k ∧ k ≤ p.acs.length ∧ i7 = .int .i64 k ∧ Hid (scan (chkA p.hs) (p.acs.drop k) = scan (chkA p.hs) p.acs) ∧ Below (w.heap.size + 1) (w.alloc (.cells #[.slice A1 p.hs.length c1, .slice A2 p.acs.length c2, .slice A3 p.bs.length c3, .int .i64 p.fuel] 26)) wr)
                  case atStart => exact ⟨0, rfl, by omega, rfl, rfl, hb⟩
                  case round =>
                    clear hb hb' hcb hz
                    obtain ⟨k2, rfl, hk2, rfl, hsc, hb⟩ := hrel
                    obtain ⟨hb', hcb, hz⟩ := boxed hb
                    by_cases hlt2 : k2 < p.acs.length
                    · obtain ⟨b1, o1, x, v1, rfl, hx, hz1, q1, q2, q3, q4, hv1⟩ := h2.cell hb' hlt2
                      obtain ⟨V1, n1, rfl, hvl⟩ := hv1.form
                      have HS : Hid (scan (chkA p.hs) (p.acs.drop k2) = if chkA p.hs x = 0 then scan (chkA p.hs) (p.acs.drop (k2 + 1)) else chkA p.hs x) := scan_step hx
                      clear hx hv1
                      obtain ⟨regs, cap, timer, armed⟩ := x
                      dsimp only at q1 q2 q3 q4 hvl
                      by_cases q5 : regs.length ≤ 8
                      · by_cases q6 : 0 ≤ cap
                        · by_cases q7 : cap ≤ 16
                          · by_cases q8 : timer = -1
                            · have q8' : (timer != -1) = false := by simp [q8]
                              have q8'' : (timer == -1) = true := by simp [q8]
                              cases armed with
                              | true =>
                                have hx0 : chkA p.hs ⟨regs, cap, timer, true⟩ = 1 := by unfold chkA; rw [if_pos q5, if_pos ⟨q6, q7⟩, if_pos q8]; rfl
                                have HE : Hid (1 = chk p) := by
                                  have e1 : scan (chkA p.hs) p.acs = 1 := by rw [← hsc.out, HS.out, if_neg (by rw [hx0]; decide)]; exact hx0
                                  rw [HD.out, e1, if_neg (by decide)]; rfl
                                clear hx0
                                clear q8
                                go_wp2
                                go_ret
                                exact ⟨ret_int HE.out, bAlloc hb' _⟩
                              | false =>
                                have HE : Hid (chkA p.hs ⟨regs, cap, timer, false⟩ = 0) := by unfold chkA; rw [if_pos q5, if_pos ⟨q6, q7⟩, if_pos q8]; rfl
                                clear q8
                                go_wp2
                                go_roundg (p.acs.length - (k2 + 1))
                                case measure => omega
                                case rel => exact ⟨k2 + 1, rfl, by omega, by go_num, by rw [← hsc.out, HS.out, if_pos HE.out]; rfl, hb.alloc (by omega) _⟩
                            · have q8' : (timer != -1) = true := by simp [q8]
                              have q8'' : (timer == -1) = false := by simp [q8]
                              by_cases q9 : 0 ≤ timer
                              · by_cases q10 : timer < p.hs.length
                                · obtain ⟨m, rfl⟩ := Int.eq_ofNat_of_zero_le q9
                                  have hm : m < p.hs.length := by omega
                                  obtain ⟨b2, o2, y, v2, rfl, hy, hz2, s1, s2, hv2⟩ := h1.cell hb' hm
                                  have HA : Hid (argsOf p.hs (m : Int) = y.args) := argsOf_at hy
                                  clear hy
                                  by_cases q11 : y.args = 0
                                  · have q11' := ne0_no q11
                                    have HE : Hid (chkA p.hs ⟨regs, cap, (m : Int), armed⟩ = 0) := by unfold chkA; rw [if_pos q5, if_pos ⟨q6, q7⟩, if_neg q8, if_pos ⟨⟨q9, q10⟩, by rw [HA.out]; exact q11⟩]; rfl
                                    clear q8 q11
                                    cases armed with
                                    | true =>
                                      go_wp2
                                      go_roundg (p.acs.length - (k2 + 1))
                                      case measure => omega
                                      case rel => exact ⟨k2 + 1, rfl, by omega, by go_num, by rw [← hsc.out, HS.out, if_pos HE.out]; rfl, hb.alloc (by omega) _⟩
                                    | false =>
                                      go_wp2
                                      go_roundg (p.acs.length - (k2 + 1))
                                      case measure => omega
                                      case rel => exact ⟨k2 + 1, rfl, by omega, by go_num, by rw [← hsc.out, HS.out, if_pos HE.out]; rfl, hb.alloc (by omega) _⟩
                                  · have q11' := ne0_yes q11
                                    have hx0 : chkA p.hs ⟨regs, cap, (m : Int), armed⟩ = 7 := by unfold chkA; rw [if_pos q5, if_pos ⟨q6, q7⟩, if_neg q8, if_neg (fun h => q11 (by rw [← HA.out]; exact h.2))]
                                    have HE : Hid (7 = chk p) := by
                                      have e1 : scan (chkA p.hs) p.acs = 7 := by rw [← hsc.out, HS.out, if_neg (by rw [hx0]; decide)]; exact hx0
                                      rw [HD.out, e1, if_neg (by decide)]; rfl
                                    clear hx0
                                    clear q8 q11
                                    go_wp2
                                    go_ret
                                    exact ⟨ret_int HE.out, bAlloc hb' _⟩
                                · have hx0 : chkA p.hs ⟨regs, cap, timer, armed⟩ = 7 := by unfold chkA; rw [if_pos q5, if_pos ⟨q6, q7⟩, if_neg q8, if_neg (fun h => q10 h.1.2)]
                                  have HE : Hid (7 = chk p) := by
                                    have e1 : scan (chkA p.hs) p.acs = 7 := by rw [← hsc.out, HS.out, if_neg (by rw [hx0]; decide)]; exact hx0
                                    rw [HD.out, e1, if_neg (by decide)]; rfl
                                  clear hx0
                                  clear q8
                                  go_wp2
                                  go_ret
                                  exact ⟨ret_int HE.out, bAlloc hb' _⟩
                              · have hx0 : chkA p.hs ⟨regs, cap, timer, armed⟩ = 7 := by unfold chkA; rw [if_pos q5, if_pos ⟨q6, q7⟩, if_neg q8, if_neg (fun h => q9 h.1.1)]
                                have HE : Hid (7 = chk p) := by
                                  have e1 : scan (chkA p.hs) p.acs = 7 := by rw [← hsc.out, HS.out, if_neg (by rw [hx0]; decide)]; exact hx0
                                  rw [HD.out, e1, if_neg (by decide)]; rfl
                                clear hx0
                                clear q8
                                go_wp2
                                go_ret
                                exact ⟨ret_int HE.out, bAlloc hb' _⟩
                          · have hx0 : chkA p.hs ⟨regs, cap, timer, armed⟩ = 1 := by unfold chkA; rw [if_pos q5, if_neg (fun h => q7 h.2)]
                            have HE : Hid (1 = chk p) := by
                              have e1 : scan (chkA p.hs) p.acs = 1 := by rw [← hsc.out, HS.out, if_neg (by rw [hx0]; decide)]; exact hx0
                              rw [HD.out, e1, if_neg (by decide)]; rfl
                            clear hx0
                            go_wp2
                            go_ret
                            exact ⟨ret_int HE.out, bAlloc hb' _⟩
                        · have hx0 : chkA p.hs ⟨regs, cap, timer, armed⟩ = 1 := by unfold chkA; rw [if_pos q5, if_neg (fun h => q6 h.1)]
                          have HE : Hid (1 = chk p) := by
                            have e1 : scan (chkA p.hs) p.acs = 1 := by rw [← hsc.out, HS.out, if_neg (by rw [hx0]; decide)]; exact hx0
                            rw [HD.out, e1, if_neg (by decide)]; rfl
                          clear hx0
                          go_wp2
                          go_ret
                          exact ⟨ret_int HE.out, bAlloc hb' _⟩
                      · have hx0 : chkA p.hs ⟨regs, cap, timer, armed⟩ = 3 := by unfold chkA; rw [if_neg q5]
                        have HE : Hid (3 = chk p) := by
                          have e1 : scan (chkA p.hs) p.acs = 3 := by rw [← hsc.out, HS.out, if_neg (by rw [hx0]; decide)]; exact hx0
                          rw [HD.out, e1, if_neg (by decide)]; rfl
                        clear hx0
                        go_wp2
                        go_ret
                        exact ⟨ret_int HE.out, bAlloc hb' _⟩
                    · have HF : Hid (chk p = scan (chkN p.acs.length p.hs) p.bs) := by
                        rw [HD.out, if_pos (by rw [← hsc.out, scan_end hlt2])]; rfl
                      clear hsc HD
                      go_wp2
                      go_loopg [9] p.bs.length (fun g i9 wr => ∃ k : Nat, g = p.bs.length - k ∧ k ≤ p.bs.length ∧ i9 = .int .i64 k ∧ Hid (scan (chkN p.acs.length p.hs) (p.bs.drop k) = scan (chkN p.acs.length p.hs) p.bs) ∧ Below (w.heap.size + 1) (w.alloc (.cells #[.slice A1 p.hs.length c1, .slice A2 p.acs.length c2, .slice A3 p.bs.length c3, .int .i64 p.fuel] 26)) wr)
                      case atStart => exact ⟨0, rfl, by omega, rfl, rfl, hb⟩
                      case round =>
                        clear hb hb' hcb hz
                        obtain ⟨k3, rfl, hk3, rfl, hsc, hb⟩ := hrel
                        obtain ⟨hb', hcb, hz⟩ := boxed hb
                        by_cases hlt3 : k3 < p.bs.length
                        · obtain ⟨b1, o1, x, v1, rfl, hx, hz1, q1, q2, q3, hv1⟩ := h3.cell hb' hlt3
                          obtain ⟨V1, n1, rfl, _⟩ := hv1.form
                          have HS : Hid (scan (chkN p.acs.length p.hs) (p.bs.drop k3) = if chkN p.acs.length p.hs x = 0 then scan (chkN p.acs.length p.hs) (p.bs.drop (k3 + 1)) else chkN p.acs.length p.hs x) := scan_step hx
                          clear hx
                          by_cases he : chkN p.acs.length p.hs x = 0
                          · have he' := ne0_no he
                            have HE : Hid (chkN p.acs.length p.hs x = 0) := he
                            clear he
                            go_wp2
                            go_region_held3 (fun w' => w'.cell? ⟨w.heap.size, 0, none⟩ = some (.slice A1 p.hs.length c1) ∧ w'.cell? ⟨w.heap.size, 1, none⟩ = some (.slice A2 p.acs.length c2) ∧ w'.cell? ⟨w.heap.size, 2, none⟩ = some (.slice (some ⟨b1, o1, none⟩) p.bs.length c3) ∧ w'.cell? ⟨w.heap.size, 3, none⟩ = some (.int .i64 p.fuel) ∧ w'.cell? ⟨b1, o1 + k3 * 3, none⟩ = some (.int .i64 x.to) ∧ w'.cell? ⟨b1, o1 + k3 * 3 + 1, none⟩ = some (.int .i64 x.hd) ∧ w'.cell? ⟨b1, o1 + k3 * 3 + 2, none⟩ = some (.slice V1 x.args.length n1)) (go_keep)
                              (first | (go_at_call 112; refine (rnte_any _ _ _ x p ⟨_, rfl, (hv1.below (by exact (bRefl _).drew)).any⟩ (HP.out.below (by exact hb'.drew))).mono ?_; rintro e w1 ⟨rfl, hb1⟩; have hc1 := bcell (undrew hb1)))
                            go_wp2
                            go_roundg (p.bs.length - (k3 + 1))
                            case measure => omega
                            case rel => exact ⟨k3 + 1, rfl, by omega, by go_num, by rw [← hsc.out, HS.out, if_pos HE.out]; rfl, u_step hb (undrew hb1)⟩
                          · have he' := ne0_yes he
                            have HE : Hid (chkN p.acs.length p.hs x = chk p) := by
                              rw [HF.out, ← hsc.out, HS.out, if_neg he]; rfl
                            clear he
                            go_wp2
                            go_region_held3 (fun w' => w'.cell? ⟨w.heap.size, 0, none⟩ = some (.slice A1 p.hs.length c1) ∧ w'.cell? ⟨w.heap.size, 1, none⟩ = some (.slice A2 p.acs.length c2) ∧ w'.cell? ⟨w.heap.size, 2, none⟩ = some (.slice (some ⟨b1, o1, none⟩) p.bs.length c3) ∧ w'.cell? ⟨w.heap.size, 3, none⟩ = some (.int .i64 p.fuel) ∧ w'.cell? ⟨b1, o1 + k3 * 3, none⟩ = some (.int .i64 x.to) ∧ w'.cell? ⟨b1, o1 + k3 * 3 + 1, none⟩ = some (.int .i64 x.hd) ∧ w'.cell? ⟨b1, o1 + k3 * 3 + 2, none⟩ = some (.slice V1 x.args.length n1)) (go_keep)
                              (first | (go_at_call 112; refine (rnte_any _ _ _ x p ⟨_, rfl, (hv1.below (by exact (bRefl _).drew)).any⟩ (HP.out.below (by exact hb'.drew))).mono ?_; rintro e w1 ⟨rfl, hb1⟩; have hc1 := bcell (undrew hb1)))
                            go_wp2
                            go_ret
                            exact ⟨ret_int HE.out, bTrans hb' (undrew hb1)⟩
                        · go_wp2
                          go_ret
                          exact ⟨ret_int (by rw [HF.out, ← hsc.out, scan_end hlt3]), hb'⟩
            · have HR : Hid (1 = chk p) := by
                have hc : chkC p = 1 := by unfold chkC; rw [if_pos ⟨e1, e2, e3⟩, if_neg (fun h => e6 h.2.2)]
                unfold chk; rw [hc]; rfl
              clear e4
              go_enter Tryd.func88, Tryd.ntmps88
              go_wp2
              go_ret
              exact ⟨ret_int HR.out, HB _⟩
          · have HR : Hid (1 = chk p) := by
              have hc : chkC p = 1 := by unfold chkC; rw [if_pos ⟨e1, e2, e3⟩, if_neg (fun h => e5 h.2.1)]
              unfold chk; rw [hc]; rfl
            clear e4
            go_enter Tryd.func88, Tryd.ntmps88
            go_wp2
            go_ret
            exact ⟨ret_int HR.out, HB _⟩
      · have HR : Hid (3 = chk p) := by
          have hc : chkC p = 3 := by unfold chkC; rw [if_neg (by omega)]
          unfold chk; rw [hc]; rfl
        go_enter Tryd.func88, Tryd.ntmps88
        go_wp2
        go_ret
        exact ⟨ret_int HR.out, HB _⟩
    · have HR : Hid (3 = chk p) := by
        have hc : chkC p = 3 := by unfold chkC; rw [if_neg (by omega)]
        unfold chk; rw [hc]; rfl
      go_enter Tryd.func88, Tryd.ntmps88
      go_wp2
      go_ret
      exact ⟨ret_int HR.out, HB _⟩
  · have HR : Hid (3 = chk p) := by
      have hc : chkC p = 3 := by unfold chkC; rw [if_neg (by omega)]
      unfold chk; rw [hc]; rfl
    go_enter Tryd.func88, Tryd.ntmps88
    go_wp2
    go_ret
    exact ⟨ret_int HR.out, HB _⟩
end Go.Proofs.YtgdloonpemaijaaDoor
