/-
  What the reference's CheckInstr and CheckNote answer. No further conditions. What the reference's CheckProg answers of a program: the same as Check. No further conditions. What the reference's Depths and CheckFlow answer of a program: the same. Condition: for Depths, Check takes the program. The reference's May. No conditions. Two results that read alike: the law's same answers true. No conditions. What the law's own look answers: whether a program is looked at. No further conditions. The memory of the reference's Run: the registers, the stack, the notes; what each store and append does to them. No conditions. The memory of the reference's Run: what does not turn, and the notes. No conditions. The switch of the reference's Run, by name. No conditions.
-/
import Derived.Test.YtfbeiedhdmndnaaDoorQk8
import Derived.Deep.RegionHeld3
import Derived.Deep.DrawnRows
import Derived.Test.YtfbeiedhdmndnaaDoorQk9
namespace Go.Proofs.YtfbeiedhdmndnaaDoor
open Go.RowKit

set_option maxHeartbeats 1600000 in
theorem rinstr_any (w : World) (i : PIns) (n args hs : Int) :
    Calls Tryd.prog 75 #[.agg #[.int .i64 i.op, .int .i64 i.a], .int .i64 n, .int .i64 args, .int .i64 hs] w fun e w' => e = .returned (.int .i64 (chkI n args hs i)) ∧ Below w.heap.size w w' := by
  have HB : ∀ (x : Obj), Below w.heap.size w (w.alloc x) := fun x => bAlloc (bRefl w) x
  cases hv : vl i.op with
  | false =>
    go_enter Tryd.func75, Tryd.ntmps75
    go_wp2_with (go_at_call 102; refine (rvalid_any _ _).mono ?_; rintro e w' ⟨rfl, rfl⟩)
    go_ret
    exact ⟨ret_int (chkI_bad hv), HB _⟩
  | true =>
    rcases opd_all i.op with ho | ho | ho | ho | ho | ho
    · by_cases h : i.a = 0
      · have h' := ne0_no h
        have HR : Hid (0 = chkI n args hs i) := by rw [← chkI_0 hv ho, h]; rfl
        clear h
        go_enter Tryd.func75, Tryd.ntmps75
        go_wp2_with (first | (go_at_call 102; refine (rvalid_any _ _).mono ?_; rintro e w' ⟨rfl, rfl⟩) | (go_at_call 103; refine (roper_any _ _).mono ?_; rintro e w' ⟨rfl, rfl⟩))
        go_ret
        exact ⟨ret_int HR.out, HB _⟩
      · have h' := ne0_yes h
        have HR : Hid (1 = chkI n args hs i) := by rw [← chkI_0 hv ho]; simp [unl, h, Hid]
        clear h
        go_enter Tryd.func75, Tryd.ntmps75
        go_wp2_with (first | (go_at_call 102; refine (rvalid_any _ _).mono ?_; rintro e w' ⟨rfl, rfl⟩) | (go_at_call 103; refine (roper_any _ _).mono ?_; rintro e w' ⟨rfl, rfl⟩))
        go_ret
        exact ⟨ret_int HR.out, HB _⟩
    · by_cases h0 : 0 ≤ i.a
      · by_cases h1 : i.a ≤ n
        · have HR : Hid (0 = chkI n args hs i) := by rw [← chkI_4 hv ho, in_yes ⟨h0, h1⟩]; rfl
          go_enter Tryd.func75, Tryd.ntmps75
          go_wp2_with (first | (go_at_call 102; refine (rvalid_any _ _).mono ?_; rintro e w' ⟨rfl, rfl⟩) | (go_at_call 103; refine (roper_any _ _).mono ?_; rintro e w' ⟨rfl, rfl⟩))
          go_ret
          exact ⟨ret_int HR.out, HB _⟩
        · have HR : Hid (4 = chkI n args hs i) := by rw [← chkI_4 hv ho, in_no (fun h => h1 h.2)]; rfl
          go_enter Tryd.func75, Tryd.ntmps75
          go_wp2_with (first | (go_at_call 102; refine (rvalid_any _ _).mono ?_; rintro e w' ⟨rfl, rfl⟩) | (go_at_call 103; refine (roper_any _ _).mono ?_; rintro e w' ⟨rfl, rfl⟩))
          go_ret
          exact ⟨ret_int HR.out, HB _⟩
      · have HR : Hid (4 = chkI n args hs i) := by rw [← chkI_4 hv ho, in_no (fun h => h0 h.1)]; rfl
        go_enter Tryd.func75, Tryd.ntmps75
        go_wp2_with (first | (go_at_call 102; refine (rvalid_any _ _).mono ?_; rintro e w' ⟨rfl, rfl⟩) | (go_at_call 103; refine (roper_any _ _).mono ?_; rintro e w' ⟨rfl, rfl⟩))
        go_ret
        exact ⟨ret_int HR.out, HB _⟩
    · by_cases h0 : 0 ≤ i.a
      · by_cases h1 : i.a < 8
        · have HR : Hid (0 = chkI n args hs i) := by rw [← chkI_2 hv ho, in_yes ⟨h0, by omega⟩]; rfl
          go_enter Tryd.func75, Tryd.ntmps75
          go_wp2_with (first | (go_at_call 102; refine (rvalid_any _ _).mono ?_; rintro e w' ⟨rfl, rfl⟩) | (go_at_call 103; refine (roper_any _ _).mono ?_; rintro e w' ⟨rfl, rfl⟩))
          go_ret
          exact ⟨ret_int HR.out, HB _⟩
        · have HR : Hid (6 = chkI n args hs i) := by rw [← chkI_2 hv ho, in_no (fun h => h1 (by omega))]; rfl
          go_enter Tryd.func75, Tryd.ntmps75
          go_wp2_with (first | (go_at_call 102; refine (rvalid_any _ _).mono ?_; rintro e w' ⟨rfl, rfl⟩) | (go_at_call 103; refine (roper_any _ _).mono ?_; rintro e w' ⟨rfl, rfl⟩))
          go_ret
          exact ⟨ret_int HR.out, HB _⟩
      · have HR : Hid (6 = chkI n args hs i) := by rw [← chkI_2 hv ho, in_no (fun h => h0 h.1)]; rfl
        go_enter Tryd.func75, Tryd.ntmps75
        go_wp2_with (first | (go_at_call 102; refine (rvalid_any _ _).mono ?_; rintro e w' ⟨rfl, rfl⟩) | (go_at_call 103; refine (roper_any _ _).mono ?_; rintro e w' ⟨rfl, rfl⟩))
        go_ret
        exact ⟨ret_int HR.out, HB _⟩
    · by_cases h0 : 0 ≤ i.a
      · by_cases h1 : i.a < args
        · have HR : Hid (0 = chkI n args hs i) := by rw [← chkI_3 hv ho, in_yes ⟨h0, by omega⟩]; rfl
          go_enter Tryd.func75, Tryd.ntmps75
          go_wp2_with (first | (go_at_call 102; refine (rvalid_any _ _).mono ?_; rintro e w' ⟨rfl, rfl⟩) | (go_at_call 103; refine (roper_any _ _).mono ?_; rintro e w' ⟨rfl, rfl⟩))
          go_ret
          exact ⟨ret_int HR.out, HB _⟩
        · have HR : Hid (6 = chkI n args hs i) := by rw [← chkI_3 hv ho, in_no (fun h => h1 (by omega))]; rfl
          go_enter Tryd.func75, Tryd.ntmps75
          go_wp2_with (first | (go_at_call 102; refine (rvalid_any _ _).mono ?_; rintro e w' ⟨rfl, rfl⟩) | (go_at_call 103; refine (roper_any _ _).mono ?_; rintro e w' ⟨rfl, rfl⟩))
          go_ret
          exact ⟨ret_int HR.out, HB _⟩
      · have HR : Hid (6 = chkI n args hs i) := by rw [← chkI_3 hv ho, in_no (fun h => h0 h.1)]; rfl
        go_enter Tryd.func75, Tryd.ntmps75
        go_wp2_with (first | (go_at_call 102; refine (rvalid_any _ _).mono ?_; rintro e w' ⟨rfl, rfl⟩) | (go_at_call 103; refine (roper_any _ _).mono ?_; rintro e w' ⟨rfl, rfl⟩))
        go_ret
        exact ⟨ret_int HR.out, HB _⟩
    · by_cases h0 : 0 ≤ i.a
      · by_cases h1 : i.a < hs
        · have HR : Hid (0 = chkI n args hs i) := by rw [← chkI_5 hv ho, in_yes ⟨h0, by omega⟩]; rfl
          go_enter Tryd.func75, Tryd.ntmps75
          go_wp2_with (first | (go_at_call 102; refine (rvalid_any _ _).mono ?_; rintro e w' ⟨rfl, rfl⟩) | (go_at_call 103; refine (roper_any _ _).mono ?_; rintro e w' ⟨rfl, rfl⟩))
          go_ret
          exact ⟨ret_int HR.out, HB _⟩
        · have HR : Hid (7 = chkI n args hs i) := by rw [← chkI_5 hv ho, in_no (fun h => h1 (by omega))]; rfl
          go_enter Tryd.func75, Tryd.ntmps75
          go_wp2_with (first | (go_at_call 102; refine (rvalid_any _ _).mono ?_; rintro e w' ⟨rfl, rfl⟩) | (go_at_call 103; refine (roper_any _ _).mono ?_; rintro e w' ⟨rfl, rfl⟩))
          go_ret
          exact ⟨ret_int HR.out, HB _⟩
      · have HR : Hid (7 = chkI n args hs i) := by rw [← chkI_5 hv ho, in_no (fun h => h0 h.1)]; rfl
        go_enter Tryd.func75, Tryd.ntmps75
        go_wp2_with (first | (go_at_call 102; refine (rvalid_any _ _).mono ?_; rintro e w' ⟨rfl, rfl⟩) | (go_at_call 103; refine (roper_any _ _).mono ?_; rintro e w' ⟨rfl, rfl⟩))
        go_ret
        exact ⟨ret_int HR.out, HB _⟩
    · go_enter Tryd.func75, Tryd.ntmps75
      go_wp2_with (first | (go_at_call 102; refine (rvalid_any _ _).mono ?_; rintro e w' ⟨rfl, rfl⟩) | (go_at_call 103; refine (roper_any _ _).mono ?_; rintro e w' ⟨rfl, rfl⟩))
      go_ret
      exact ⟨ret_int (chkI_1 hv ho), HB _⟩

set_option maxHeartbeats 1600000 in
theorem rnte_any (w : World) (v vp : Value) (n : PNte) (p : PPrg) (hv : NteV w v n) (hp : PrgV w vp p) :
    Calls Tryd.prog 76 #[vp, v] w fun e w' => e = .returned (.int .i64 (chkN p.acs.length p.hs n)) ∧ Below w.heap.size w w' := by
  obtain ⟨c, rfl, hc⟩ := hv
  obtain ⟨A, cc, rfl, hl⟩ := hc.form
  obtain ⟨va, vb, vc, rfl, h1, h2, h3⟩ := hp
  obtain ⟨A1, c1, rfl, hl1⟩ := h1.form
  obtain ⟨A2, c2, rfl, hl2⟩ := h2.form
  obtain ⟨A3, c3, rfl, hl3⟩ := h3.form
  have HB : ∀ (x y : Obj), Below w.heap.size w ((w.alloc x).alloc y) := fun x y => bAlloc (bAlloc (bRefl w) x) y
  obtain ⟨t, d, l⟩ := n
  dsimp only at hl hc ⊢
  clear hc h2 h3
  by_cases a1 : 0 ≤ t
  · by_cases a2 : t < p.acs.length
    · by_cases a3 : 0 ≤ d
      · by_cases a4 : d < p.hs.length
        · obtain ⟨k, rfl⟩ := Int.eq_ofNat_of_zero_le a3
          have hk : k < p.hs.length := by omega
          obtain ⟨b1, o1, x, v1, rfl, hx, hz1, q1, q2, hv1⟩ := h1.cell (bRefl w) hk
          have HA : Hid (argsOf p.hs (k : Int) = x.args) := argsOf_at hx
          clear hx
          by_cases e : (l.length : Int) = x.args
          · have HR : Hid (0 = chkN p.acs.length p.hs ⟨t, (k : Int), l⟩) := by unfold chkN; rw [if_pos ⟨⟨a1, a2⟩, ⟨a3, a4⟩⟩, HA.out, if_pos e]; rfl
            have e' := ne_no e
            clear e
            go_enter Tryd.func76, Tryd.ntmps76
            go_wp2
            go_quiet (fail)
            go_wp2
            go_ret
            exact ⟨ret_int HR.out, bDrewN (HB _ _) _⟩
          · have HR : Hid (1 = chkN p.acs.length p.hs ⟨t, (k : Int), l⟩) := by unfold chkN; rw [if_pos ⟨⟨a1, a2⟩, ⟨a3, a4⟩⟩, HA.out, if_neg e]; rfl
            have e' := ne_yes e
            clear e
            go_enter Tryd.func76, Tryd.ntmps76
            go_wp2
            go_quiet (fail)
            go_wp2
            go_ret
            exact ⟨ret_int HR.out, bDrewN (HB _ _) _⟩
        · have HR : Hid (7 = chkN p.acs.length p.hs ⟨t, d, l⟩) := by unfold chkN; rw [if_neg (fun h => a4 h.2.2)]; rfl
          go_enter Tryd.func76, Tryd.ntmps76
          go_wp2
          go_ret
          exact ⟨ret_int HR.out, HB _ _⟩
      · have HR : Hid (7 = chkN p.acs.length p.hs ⟨t, d, l⟩) := by unfold chkN; rw [if_neg (fun h => a3 h.2.1)]; rfl
        go_enter Tryd.func76, Tryd.ntmps76
        go_wp2
        go_ret
        exact ⟨ret_int HR.out, HB _ _⟩
    · have HR : Hid (7 = chkN p.acs.length p.hs ⟨t, d, l⟩) := by unfold chkN; rw [if_neg (fun h => a2 h.1.2)]; rfl
      go_enter Tryd.func76, Tryd.ntmps76
      go_wp2
      go_ret
      exact ⟨ret_int HR.out, HB _ _⟩
  · have HR : Hid (7 = chkN p.acs.length p.hs ⟨t, d, l⟩) := by unfold chkN; rw [if_neg (fun h => a1 h.1.1)]; rfl
    go_enter Tryd.func76, Tryd.ntmps76
    go_wp2
    go_ret
    exact ⟨ret_int HR.out, HB _ _⟩
end Go.Proofs.YtfbeiedhdmndnaaDoor
namespace Go.Proofs.YtfbeiedhdmndnaaDoor
open Go.RowKit
attribute [local go_sem ↓] Go.wp_at_zero Go.wp_at_succ

theorem u_next {w wq w1 : World} {x : Obj} (hb : Below (w.heap.size + 1) (w.alloc x) wq) (hb1 : Below wq.drew.heap.size wq.drew w1) : Below (w.heap.size + 1) (w.alloc x) w1 := u_step hb (undrew hb1)

set_option maxHeartbeats 8000000 in
set_option maxRecDepth 100000 in
theorem rcheck_any (w : World) (v : Value) (p : PPrg) (h : PrgV w v p) :
    Calls Tryd.prog 49 #[v] w fun e w' => e = .returned (.int .i64 (chk p)) ∧ Below w.heap.size w w' := by
  obtain ⟨va, vb, vc, rfl, h1, h2, h3⟩ := h
  obtain ⟨A1, c1, rfl, hl1⟩ := h1.form
  obtain ⟨A2, c2, rfl, hl2⟩ := h2.form
  obtain ⟨A3, c3, rfl, hl3⟩ := h3.form
  have HP : Hid (PrgV w (.agg #[.slice A1 p.hs.length c1, .slice A2 p.acs.length c2, .slice A3 p.bs.length c3, .int .i64 p.fuel]) p) := ⟨_, _, _, rfl, h1, h2, h3⟩
  have HB : ∀ (x : Obj), Below w.heap.size w (w.alloc x) := fun x => bAlloc (bRefl w) x
  by_cases e1 : p.hs.length ≤ 16
  · by_cases e2 : p.acs.length ≤ 8
    · by_cases e3 : p.bs.length ≤ 16
      · by_cases e4 : p.acs.length = 0
        · have HR : Hid (1 = chk p) := by
            have hc : chkC p = 1 := by unfold chkC; rw [if_pos ⟨e1, e2, e3⟩, if_neg (fun h => h.1 e4)]
            unfold chk; rw [hc]; rfl
          have e4' : ((p.acs.length : Int) == 0) = true := by simp; exact List.length_eq_zero_iff.1 e4
          clear e4
          go_enter Tryd.func49, Tryd.ntmps49
          go_wp2
          go_ret
          exact ⟨ret_int HR.out, HB _⟩
        · have e4' : ((p.acs.length : Int) == 0) = false := by simp; exact fun h => e4 (by rw [h]; rfl)
          by_cases e5 : 1 ≤ p.fuel
          · by_cases e6 : p.fuel ≤ 256
            · have e0 : chkC p = 0 := by unfold chkC; rw [if_pos ⟨e1, e2, e3⟩, if_pos ⟨e4, e5, e6⟩]
              have HC : Hid (chk p = if scan (chkH p.hs.length) p.hs = 0 then (if scan (chkA p.hs) p.acs = 0 then scan (chkN p.acs.length p.hs) p.bs else scan (chkA p.hs) p.acs) else scan (chkH p.hs.length) p.hs) := by unfold chk; rw [if_pos e0]; rfl
              clear e0 e4
              go_enter Tryd.func49, Tryd.ntmps49
              go_wp2
              go_loopg [3] p.hs.length (fun g i3 wr => ∃ k : Nat, g = p.hs.length - k ∧ k ≤ p.hs.length ∧ i3 = .int .i64 k ∧ Hid (scan (chkH p.hs.length) (p.hs.drop k) = scan (chkH p.hs.length) p.hs) ∧ Below (w.heap.size + 1) (w.alloc (.cells #[.slice A1 p.hs.length c1, .slice A2 p.acs.length c2, .slice A3 p.bs.length c3, .int .i64 p.fuel] 26)) wr)
              case atStart => exact ⟨0, rfl, by omega, rfl, rfl, Below.refl _ _⟩
              case round =>
                obtain ⟨k, rfl, hk, rfl, hsc, hb⟩ := hrel
                obtain ⟨hb', hcb, hz⟩ := boxed hb
                by_cases hlt : k < p.hs.length
                · obtain ⟨wo, hwo⟩ : ∃ wo, wo = wr := ⟨wr, rfl⟩
                  subst hwo
                  obtain ⟨b1, o1, x, v1, rfl, hx, hz1, q1, q2, hv1⟩ := h1.cell hb' hlt
                  obtain ⟨V1, n1, rfl, hvl⟩ := hv1.form
                  have HS : Hid (scan (chkH p.hs.length) (p.hs.drop k) = if chkH p.hs.length x = 0 then scan (chkH p.hs.length) (p.hs.drop (k + 1)) else chkH p.hs.length x) := scan_step hx
                  clear hx
                  by_cases q5 : 0 ≤ x.args
                  · by_cases q6 : x.args ≤ 4
                    · by_cases q7 : x.code.length ≤ 64
                      · have HI : Hid (chkH p.hs.length x = scan (chkI x.code.length x.args p.hs.length) x.code) := by unfold chkH; rw [if_pos ⟨q5, q6⟩, if_pos q7]; rfl
                        go_wp2
                        go_loopg [5] x.code.length (fun g i5 wr => ∃ k2 : Nat, g = x.code.length - k2 ∧ k2 ≤ x.code.length ∧ i5 = .int .i64 k2 ∧ Hid (scan (chkI x.code.length x.args p.hs.length) (x.code.drop k2) = scan (chkI x.code.length x.args p.hs.length) x.code) ∧ Below (wo.heap.size + 1) (wo.alloc (.cells #[.int .i64 x.args, .slice V1 x.code.length n1] 63)) wr)
                        case atStart => exact ⟨0, rfl, by omega, rfl, rfl, Below.refl _ _⟩
                        case round =>
                          obtain ⟨k2, rfl, hk2, rfl, hsc2, hbq⟩ := hrel
                          obtain ⟨hbq', hcq, hzq⟩ := boxed hbq
                          have hp0 : ∀ o, wr.cell? ⟨w.heap.size, o, none⟩ = (w.alloc (.cells #[.slice (some ⟨b1, o1, none⟩) p.hs.length c1, .slice A2 p.acs.length c2, .slice A3 p.bs.length c3, .int .i64 p.fuel] 26)).cell? ⟨w.heap.size, o, none⟩ := fun o => (hbq'.cell (p := ⟨w.heap.size, o, none⟩) hz).trans (hcb o)
                          have hzw : w.heap.size < wr.heap.size := Nat.lt_of_lt_of_le hz hbq'.size
                          by_cases hlt2 : k2 < x.code.length
                          · obtain ⟨b2, o2, y, rfl, hy, s1, s2⟩ := hv1.cell hbq' hlt2
                            have hz2 : b2 < wr.heap.size := World.block_lt_of_cell? _ _ s1
                            have HS2 : Hid (scan (chkI x.code.length x.args p.hs.length) (x.code.drop k2) = if chkI x.code.length x.args p.hs.length y = 0 then scan (chkI x.code.length x.args p.hs.length) (x.code.drop (k2 + 1)) else chkI x.code.length x.args p.hs.length y) := scan_step hy
                            clear hy
                            by_cases he : chkI x.code.length x.args p.hs.length y = 0
                            · have he' := ne0_no he
                              have HE : Hid (chkI x.code.length x.args p.hs.length y = 0) := he
                              clear he
                              go_wp2
                              go_region_held3 (fun w' => w'.cell? ⟨w.heap.size, 0, none⟩ = some (.slice (some ⟨b1, o1, none⟩) p.hs.length c1) ∧ w'.cell? ⟨wo.heap.size, 0, none⟩ = some (.int .i64 x.args) ∧ w'.cell? ⟨wo.heap.size, 1, none⟩ = some (.slice (some ⟨b2, o2, none⟩) x.code.length n1) ∧ w'.cell? ⟨b2, o2 + k2 * 2, none⟩ = some (.int .i64 y.op) ∧ w'.cell? ⟨b2, o2 + k2 * 2 + 1, none⟩ = some (.int .i64 y.a)) (go_keep)
                                (first | (go_at_call 75; refine (rinstr_any _ _ _ _ _).mono ?_; rintro e w1 ⟨rfl, hb1⟩; have hc1 := bcell (undrew hb1)))
                              go_wp2
                              go_roundg (x.code.length - (k2 + 1))
                              case measure => omega
                              case rel => exact ⟨k2 + 1, rfl, by omega, by go_num, by rw [← hsc2.out, HS2.out, if_pos HE.out]; rfl, u_next hbq hb1⟩
                            · have he' := ne0_yes he
                              have HE : Hid (chkI x.code.length x.args p.hs.length y = chk p) := by
                                have e0 : chkH p.hs.length x = chkI x.code.length x.args p.hs.length y := by rw [HI.out, ← hsc2.out, HS2.out, if_neg he]
                                have e1 : scan (chkH p.hs.length) p.hs = chkI x.code.length x.args p.hs.length y := by rw [← hsc.out, HS.out, if_neg (by rw [e0]; exact he)]; exact e0
                                rw [HC.out, e1, if_neg he]; rfl
                              clear he
                              go_wp2
                              go_region_held3 (fun w' => w'.cell? ⟨w.heap.size, 0, none⟩ = some (.slice (some ⟨b1, o1, none⟩) p.hs.length c1) ∧ w'.cell? ⟨wo.heap.size, 0, none⟩ = some (.int .i64 x.args) ∧ w'.cell? ⟨wo.heap.size, 1, none⟩ = some (.slice (some ⟨b2, o2, none⟩) x.code.length n1) ∧ w'.cell? ⟨b2, o2 + k2 * 2, none⟩ = some (.int .i64 y.op) ∧ w'.cell? ⟨b2, o2 + k2 * 2 + 1, none⟩ = some (.int .i64 y.a)) (go_keep)
                                (first | (go_at_call 75; refine (rinstr_any _ _ _ _ _).mono ?_; rintro e w1 ⟨rfl, hb1⟩; have hc1 := bcell (undrew hb1)))
                              go_wp2
                              go_ret
                              exact ⟨ret_int HE.out, bTrans (bTrans hb' hbq') (undrew hb1)⟩
                          · have HE : Hid (chkH p.hs.length x = 0) := by rw [HI.out, ← hsc2.out, scan_end hlt2]; rfl
                            go_wp2
                            go_roundg (p.hs.length - (k + 1))
                            case measure => omega
                            case rel => exact ⟨k + 1, rfl, by omega, by go_num, by rw [← hsc.out, HS.out, if_pos HE.out]; rfl, u_step hb (bTrans (bAlloc (bRefl _) _) (by simpa using hbq))⟩
                      · have hx0 : chkH p.hs.length x = 3 := by unfold chkH; rw [if_pos ⟨q5, q6⟩, if_neg q7]
                        have HE : Hid (3 = chk p) := by
                          have e1 : scan (chkH p.hs.length) p.hs = 3 := by rw [← hsc.out, HS.out, if_neg (by rw [hx0]; decide)]; exact hx0
                          rw [HC.out, e1, if_neg (by decide)]; rfl
                        clear hx0
                        go_wp2
                        go_ret
                        exact ⟨ret_int HE.out, bAlloc hb' _⟩
                    · have hx0 : chkH p.hs.length x = 1 := by unfold chkH; rw [if_neg (fun h => q6 h.2)]
                      have HE : Hid (1 = chk p) := by
                        have e1 : scan (chkH p.hs.length) p.hs = 1 := by rw [← hsc.out, HS.out, if_neg (by rw [hx0]; decide)]; exact hx0
                        rw [HC.out, e1, if_neg (by decide)]; rfl
                      clear hx0
                      go_wp2
                      go_ret
                      exact ⟨ret_int HE.out, bAlloc hb' _⟩
                  · have hx0 : chkH p.hs.length x = 1 := by unfold chkH; rw [if_neg (fun h => q5 h.1)]
                    have HE : Hid (1 = chk p) := by
                      have e1 : scan (chkH p.hs.length) p.hs = 1 := by rw [← hsc.out, HS.out, if_neg (by rw [hx0]; decide)]; exact hx0
                      rw [HC.out, e1, if_neg (by decide)]; rfl
                    clear hx0
                    go_wp2
                    go_ret
                    exact ⟨ret_int HE.out, bAlloc hb' _⟩
                · have HD : Hid (chk p = if scan (chkA p.hs) p.acs = 0 then scan (chkN p.acs.length p.hs) p.bs else scan (chkA p.hs) p.acs) := by
                    rw [HC.out, if_pos (by rw [← hsc.out, scan_end hlt])]; rfl
                  clear hsc HC
                  go_wp2
                  go_loopg [7] p.acs.length (fun g i7 wr => ∃ k : Nat, g = p.acs.length - k ∧ k ≤ p.acs.length ∧ i7 = .int .i64 k ∧ Hid (scan (chkA p.hs) (p.acs.drop k) = scan (chkA p.hs) p.acs) ∧ Below (w.heap.size + 1) (w.alloc (.cells #[.slice A1 p.hs.length c1, .slice A2 p.acs.length c2, .slice A3 p.bs.length c3, .int .i64 p.fuel] 26)) wr)
                  case atStart => exact ⟨0, rfl, by omega, rfl, rfl, hb⟩
                  case round =>
                    clear hb hb' hcb hz
                    obtain ⟨k2, rfl, hk2, rfl, hsc, hb⟩ := hrel
                    obtain ⟨hb', hcb, hz⟩ := boxed hb
                    by_cases hlt2 : k2 < p.acs.length
                    · obtain ⟨b1, o1, x, v1, rfl, hx, hz1, q1, q2, q3, q4, hv1⟩ := h2.cell hb' hlt2
                      obtain ⟨V1, n1, rfl, hvl⟩ := hv1.form
                      have HS : Hid (scan (chkA p.hs) (p.acs.drop k2) = if chkA p.hs x = 0 then scan (chkA p.hs) (p.acs.drop (k2 + 1)) else chkA p.hs x) := scan_step hx
                      clear hx hv1
                      obtain ⟨regs, cap, timer, armed⟩ := x
                      dsimp only at q1 q2 q3 q4 hvl
                      by_cases q5 : regs.length ≤ 8
                      · by_cases q6 : 0 ≤ cap
                        · by_cases q7 : cap ≤ 16
                          · by_cases q8 : timer = -1
                            · have q8' : (timer != -1) = false := by simp [q8]
                              have q8'' : (timer == -1) = true := by simp [q8]
                              cases armed with
                              | true =>
                                have hx0 : chkA p.hs ⟨regs, cap, timer, true⟩ = 1 := by unfold chkA; rw [if_pos q5, if_pos ⟨q6, q7⟩, if_pos q8]; rfl
                                have HE : Hid (1 = chk p) := by
                                  have e1 : scan (chkA p.hs) p.acs = 1 := by rw [← hsc.out, HS.out, if_neg (by rw [hx0]; decide)]; exact hx0
                                  rw [HD.out, e1, if_neg (by decide)]; rfl
                                clear hx0
                                clear q8
                                go_wp2
                                go_ret
                                exact ⟨ret_int HE.out, bAlloc hb' _⟩
                              | false =>
                                have HE : Hid (chkA p.hs ⟨regs, cap, timer, false⟩ = 0) := by unfold chkA; rw [if_pos q5, if_pos ⟨q6, q7⟩, if_pos q8]; rfl
                                clear q8
                                go_wp2
                                go_roundg (p.acs.length - (k2 + 1))
                                case measure => omega
                                case rel => exact ⟨k2 + 1, rfl, by omega, by go_num, by rw [← hsc.out, HS.out, if_pos HE.out]; rfl, hb.alloc (by omega) _⟩
                            · have q8' : (timer != -1) = true := by simp [q8]
                              have q8'' : (timer == -1) = false := by simp [q8]
                              by_cases q9 : 0 ≤ timer
                              · by_cases q10 : timer < p.hs.length
                                · obtain ⟨m, rfl⟩ := Int.eq_ofNat_of_zero_le q9
                                  have hm : m < p.hs.length := by omega
                                  obtain ⟨b2, o2, y, v2, rfl, hy, hz2, s1, s2, hv2⟩ := h1.cell hb' hm
                                  have HA : Hid (argsOf p.hs (m : Int) = y.args) := argsOf_at hy
                                  clear hy
                                  by_cases q11 : y.args = 0
                                  · have q11' := ne0_no q11
                                    have HE : Hid (chkA p.hs ⟨regs, cap, (m : Int), armed⟩ = 0) := by unfold chkA; rw [if_pos q5, if_pos ⟨q6, q7⟩, if_neg q8, if_pos ⟨⟨q9, q10⟩, by rw [HA.out]; exact q11⟩]; rfl
                                    clear q8 q11
                                    cases armed with
                                    | true =>
                                      go_wp2
                                      go_roundg (p.acs.length - (k2 + 1))
                                      case measure => omega
                                      case rel => exact ⟨k2 + 1, rfl, by omega, by go_num, by rw [← hsc.out, HS.out, if_pos HE.out]; rfl, hb.alloc (by omega) _⟩
                                    | false =>
                                      go_wp2
                                      go_roundg (p.acs.length - (k2 + 1))
                                      case measure => omega
                                      case rel => exact ⟨k2 + 1, rfl, by omega, by go_num, by rw [← hsc.out, HS.out, if_pos HE.out]; rfl, hb.alloc (by omega) _⟩
                                  · have q11' := ne0_yes q11
                                    have hx0 : chkA p.hs ⟨regs, cap, (m : Int), armed⟩ = 7 := by unfold chkA; rw [if_pos q5, if_pos ⟨q6, q7⟩, if_neg q8, if_neg (fun h => q11 (by rw [← HA.out]; exact h.2))]
                                    have HE : Hid (7 = chk p) := by
                                      have e1 : scan (chkA p.hs) p.acs = 7 := by rw [← hsc.out, HS.out, if_neg (by rw [hx0]; decide)]; exact hx0
                                      rw [HD.out, e1, if_neg (by decide)]; rfl
                                    clear hx0
                                    clear q8 q11
                                    go_wp2
                                    go_ret
                                    exact ⟨ret_int HE.out, bAlloc hb' _⟩
                                · have hx0 : chkA p.hs ⟨regs, cap, timer, armed⟩ = 7 := by unfold chkA; rw [if_pos q5, if_pos ⟨q6, q7⟩, if_neg q8, if_neg (fun h => q10 h.1.2)]
                                  have HE : Hid (7 = chk p) := by
                                    have e1 : scan (chkA p.hs) p.acs = 7 := by rw [← hsc.out, HS.out, if_neg (by rw [hx0]; decide)]; exact hx0
                                    rw [HD.out, e1, if_neg (by decide)]; rfl
                                  clear hx0
                                  clear q8
                                  go_wp2
                                  go_ret
                                  exact ⟨ret_int HE.out, bAlloc hb' _⟩
                              · have hx0 : chkA p.hs ⟨regs, cap, timer, armed⟩ = 7 := by unfold chkA; rw [if_pos q5, if_pos ⟨q6, q7⟩, if_neg q8, if_neg (fun h => q9 h.1.1)]
                                have HE : Hid (7 = chk p) := by
                                  have e1 : scan (chkA p.hs) p.acs = 7 := by rw [← hsc.out, HS.out, if_neg (by rw [hx0]; decide)]; exact hx0
                                  rw [HD.out, e1, if_neg (by decide)]; rfl
                                clear hx0
                                clear q8
                                go_wp2
                                go_ret
                                exact ⟨ret_int HE.out, bAlloc hb' _⟩
                          · have hx0 : chkA p.hs ⟨regs, cap, timer, armed⟩ = 1 := by unfold chkA; rw [if_pos q5, if_neg (fun h => q7 h.2)]
                            have HE : Hid (1 = chk p) := by
                              have e1 : scan (chkA p.hs) p.acs = 1 := by rw [← hsc.out, HS.out, if_neg (by rw [hx0]; decide)]; exact hx0
                              rw [HD.out, e1, if_neg (by decide)]; rfl
                            clear hx0
                            go_wp2
                            go_ret
                            exact ⟨ret_int HE.out, bAlloc hb' _⟩
                        · have hx0 : chkA p.hs ⟨regs, cap, timer, armed⟩ = 1 := by unfold chkA; rw [if_pos q5, if_neg (fun h => q6 h.1)]
                          have HE : Hid (1 = chk p) := by
                            have e1 : scan (chkA p.hs) p.acs = 1 := by rw [← hsc.out, HS.out, if_neg (by rw [hx0]; decide)]; exact hx0
                            rw [HD.out, e1, if_neg (by decide)]; rfl
                          clear hx0
                          go_wp2
                          go_ret
                          exact ⟨ret_int HE.out, bAlloc hb' _⟩
                      · have hx0 : chkA p.hs ⟨regs, cap, timer, armed⟩ = 3 := by unfold chkA; rw [if_neg q5]
                        have HE : Hid (3 = chk p) := by
                          have e1 : scan (chkA p.hs) p.acs = 3 := by rw [← hsc.out, HS.out, if_neg (by rw [hx0]; decide)]; exact hx0
                          rw [HD.out, e1, if_neg (by decide)]; rfl
                        clear hx0
                        go_wp2
                        go_ret
                        exact ⟨ret_int HE.out, bAlloc hb' _⟩
                    · have HF : Hid (chk p = scan (chkN p.acs.length p.hs) p.bs) := by
                        rw [HD.out, if_pos (by rw [← hsc.out, scan_end hlt2])]; rfl
                      clear hsc HD
                      go_wp2
                      go_loopg [9] p.bs.length (fun g i9 wr => ∃ k : Nat, g = p.bs.length - k ∧ k ≤ p.bs.length ∧ i9 = .int .i64 k ∧ Hid (scan (chkN p.acs.length p.hs) (p.bs.drop k) = scan (chkN p.acs.length p.hs) p.bs) ∧ Below (w.heap.size + 1) (w.alloc (.cells #[.slice A1 p.hs.length c1, .slice A2 p.acs.length c2, .slice A3 p.bs.length c3, .int .i64 p.fuel] 26)) wr)
                      case atStart => exact ⟨0, rfl, by omega, rfl, rfl, hb⟩
                      case round =>
                        clear hb hb' hcb hz
                        obtain ⟨k3, rfl, hk3, rfl, hsc, hb⟩ := hrel
                        obtain ⟨hb', hcb, hz⟩ := boxed hb
                        by_cases hlt3 : k3 < p.bs.length
                        · obtain ⟨b1, o1, x, v1, rfl, hx, hz1, q1, q2, q3, hv1⟩ := h3.cell hb' hlt3
                          obtain ⟨V1, n1, rfl, _⟩ := hv1.form
                          have HS : Hid (scan (chkN p.acs.length p.hs) (p.bs.drop k3) = if chkN p.acs.length p.hs x = 0 then scan (chkN p.acs.length p.hs) (p.bs.drop (k3 + 1)) else chkN p.acs.length p.hs x) := scan_step hx
                          clear hx
                          by_cases he : chkN p.acs.length p.hs x = 0
                          · have he' := ne0_no he
                            have HE : Hid (chkN p.acs.length p.hs x = 0) := he
                            clear he
                            go_wp2
                            go_region_held3 (fun w' => w'.cell? ⟨w.heap.size, 0, none⟩ = some (.slice A1 p.hs.length c1) ∧ w'.cell? ⟨w.heap.size, 1, none⟩ = some (.slice A2 p.acs.length c2) ∧ w'.cell? ⟨w.heap.size, 2, none⟩ = some (.slice (some ⟨b1, o1, none⟩) p.bs.length c3) ∧ w'.cell? ⟨w.heap.size, 3, none⟩ = some (.int .i64 p.fuel) ∧ w'.cell? ⟨b1, o1 + k3 * 3, none⟩ = some (.int .i64 x.to) ∧ w'.cell? ⟨b1, o1 + k3 * 3 + 1, none⟩ = some (.int .i64 x.hd) ∧ w'.cell? ⟨b1, o1 + k3 * 3 + 2, none⟩ = some (.slice V1 x.args.length n1)) (go_keep)
                              (first | (go_at_call 76; refine (rnte_any _ _ _ x p ⟨_, rfl, (hv1.below (by exact (bRefl _).drew)).any⟩ (HP.out.below (by exact hb'.drew))).mono ?_; rintro e w1 ⟨rfl, hb1⟩; have hc1 := bcell (undrew hb1)))
                            go_wp2
                            go_roundg (p.bs.length - (k3 + 1))
                            case measure => omega
                            case rel => exact ⟨k3 + 1, rfl, by omega, by go_num, by rw [← hsc.out, HS.out, if_pos HE.out]; rfl, u_step hb (undrew hb1)⟩
                          · have he' := ne0_yes he
                            have HE : Hid (chkN p.acs.length p.hs x = chk p) := by
                              rw [HF.out, ← hsc.out, HS.out, if_neg he]; rfl
                            clear he
                            go_wp2
                            go_region_held3 (fun w' => w'.cell? ⟨w.heap.size, 0, none⟩ = some (.slice A1 p.hs.length c1) ∧ w'.cell? ⟨w.heap.size, 1, none⟩ = some (.slice A2 p.acs.length c2) ∧ w'.cell? ⟨w.heap.size, 2, none⟩ = some (.slice (some ⟨b1, o1, none⟩) p.bs.length c3) ∧ w'.cell? ⟨w.heap.size, 3, none⟩ = some (.int .i64 p.fuel) ∧ w'.cell? ⟨b1, o1 + k3 * 3, none⟩ = some (.int .i64 x.to) ∧ w'.cell? ⟨b1, o1 + k3 * 3 + 1, none⟩ = some (.int .i64 x.hd) ∧ w'.cell? ⟨b1, o1 + k3 * 3 + 2, none⟩ = some (.slice V1 x.args.length n1)) (go_keep)
                              (first | (go_at_call 76; refine (rnte_any _ _ _ x p ⟨_, rfl, (hv1.below (by exact (bRefl _).drew)).any⟩ (HP.out.below (by exact hb'.drew))).mono ?_; rintro e w1 ⟨rfl, hb1⟩; have hc1 := bcell (undrew hb1)))
                            go_wp2
                            go_ret
                            exact ⟨ret_int HE.out, bTrans hb' (undrew hb1)⟩
                        · go_wp2
                          go_ret
                          exact ⟨ret_int (by rw [HF.out, ← hsc.out, scan_end hlt3]), hb'⟩
            · have HR : Hid (1 = chk p) := by
                have hc : chkC p = 1 := by unfold chkC; rw [if_pos ⟨e1, e2, e3⟩, if_neg (fun h => e6 h.2.2)]
                unfold chk; rw [hc]; rfl
              clear e4
              go_enter Tryd.func49, Tryd.ntmps49
              go_wp2
              go_ret
              exact ⟨ret_int HR.out, HB _⟩
          · have HR : Hid (1 = chk p) := by
              have hc : chkC p = 1 := by unfold chkC; rw [if_pos ⟨e1, e2, e3⟩, if_neg (fun h => e5 h.2.1)]
              unfold chk; rw [hc]; rfl
            clear e4
            go_enter Tryd.func49, Tryd.ntmps49
            go_wp2
            go_ret
            exact ⟨ret_int HR.out, HB _⟩
      · have HR : Hid (3 = chk p) := by
          have hc : chkC p = 3 := by unfold chkC; rw [if_neg (by omega)]
          unfold chk; rw [hc]; rfl
        go_enter Tryd.func49, Tryd.ntmps49
        go_wp2
        go_ret
        exact ⟨ret_int HR.out, HB _⟩
    · have HR : Hid (3 = chk p) := by
        have hc : chkC p = 3 := by unfold chkC; rw [if_neg (by omega)]
        unfold chk; rw [hc]; rfl
      go_enter Tryd.func49, Tryd.ntmps49
      go_wp2
      go_ret
      exact ⟨ret_int HR.out, HB _⟩
  · have HR : Hid (3 = chk p) := by
      have hc : chkC p = 3 := by unfold chkC; rw [if_neg (by omega)]
      unfold chk; rw [hc]; rfl
    go_enter Tryd.func49, Tryd.ntmps49
    go_wp2
    go_ret
    exact ⟨ret_int HR.out, HB _⟩
end Go.Proofs.YtfbeiedhdmndnaaDoor
namespace Go.Proofs.YtfbeiedhdmndnaaDoor
open Go.RowKit
attribute [local go_sem ↓] Go.wp_at_zero Go.wp_at_succ

set_option maxHeartbeats 2000000 in
set_option maxRecDepth 100000 in
theorem rdepths_any (w : World) (v : Value) (p : PPrg) (h : Int) (hp : PrgV w v p) (hc0 : chk p = 0) :
    Calls Tryd.prog 50 #[v, .int .i64 h] w fun e w' => ∃ u, e = .returned (.tuple #[u, .int .i64 (fm p h), .int .i64 (fe p h)]) ∧ Ints anyB w' u (fl p h) ∧ Below w.heap.size w w' := by
  by_cases g0 : 0 ≤ h
  · by_cases g1 : h < p.hs.length
    · obtain ⟨k, rfl⟩ := Int.eq_ofNat_of_zero_le g0
      exact rdepths_in w v p k hp hc0 (by omega)
    · have HE : Hid (fe p h = 7 ∧ fl p h = [] ∧ fm p h = -1) := by
        have h1 : fe p h = 7 := by unfold fe; rw [if_pos hc0, if_neg (fun x => g1 x.2)]
        exact ⟨h1, by unfold fl; rw [if_pos hc0, if_neg (fun x => g1 x.2)], by unfold fm; rw [if_neg (by rw [h1]; decide)]⟩
      obtain ⟨va, vb, vc, rfl, h1, h2, h3⟩ := hp
      obtain ⟨A1, c1, rfl, hl1⟩ := h1.form
      obtain ⟨A2, c2, rfl, hl2⟩ := h2.form
      obtain ⟨A3, c3, rfl, hl3⟩ := h3.form
      clear h1 h2 h3 hc0
      go_enter Tryd.func50, Tryd.ntmps50
      go_wp2
      go_ret3
      exact ⟨_, by rw [HE.out.1, HE.out.2.2]; rfl, by rw [HE.out.2.1]; exact sl0, bAlloc (bRefl w) _⟩
  · have HE : Hid (fe p h = 7 ∧ fl p h = [] ∧ fm p h = -1) := by
      have h1 : fe p h = 7 := by unfold fe; rw [if_pos hc0, if_neg (fun x => g0 x.1)]
      exact ⟨h1, by unfold fl; rw [if_pos hc0, if_neg (fun x => g0 x.1)], by unfold fm; rw [if_neg (by rw [h1]; decide)]⟩
    obtain ⟨va, vb, vc, rfl, h1, h2, h3⟩ := hp
    obtain ⟨A1, c1, rfl, hl1⟩ := h1.form
    obtain ⟨A2, c2, rfl, hl2⟩ := h2.form
    obtain ⟨A3, c3, rfl, hl3⟩ := h3.form
    clear h1 h2 h3 hc0
    go_enter Tryd.func50, Tryd.ntmps50
    go_wp2
    go_ret3
    exact ⟨_, by rw [HE.out.1, HE.out.2.2]; rfl, by rw [HE.out.2.1]; exact sl0, bAlloc (bRefl w) _⟩

set_option maxHeartbeats 4000000 in
theorem rflow_any (w : World) (v : Value) (p : PPrg) (hp : PrgV w v p) :
    Calls Tryd.prog 26 #[v] w fun e w' => e = .returned (.int .i64 (fc p)) ∧ Below w.heap.size w w' := by
  have HP : Hid (PrgV w v p) := hp
  obtain ⟨va, vb, vc, rfl, h1, h2, h3⟩ := hp
  obtain ⟨A1, c1, rfl, hl1⟩ := h1.form
  obtain ⟨A2, c2, rfl, hl2⟩ := h2.form
  obtain ⟨A3, c3, rfl, hl3⟩ := h3.form
  have HB : ∀ (x : Obj), Below w.heap.size w (w.alloc x) := fun x => bAlloc (bRefl w) x
  clear h1 h2 h3
  have HC : Hid ((chk p = 0 → scan (fun h => de p.hs h.code) (p.hs.drop 0) = fc p) ∧ (chk p ≠ 0 → chk p = fc p)) := by
    unfold fc
    exact ⟨fun h => by rw [if_pos h]; rfl, fun h => by rw [if_neg h]⟩
  go_enter Tryd.func26, Tryd.ntmps26
  go_wp2_with (go_at_call 49; refine (rcheck_any _ _ p (HP.out.below (by exact HB _))).mono ?_; rintro e w0 ⟨rfl, hb0⟩; have hc0 := bcell hb0)
  go_loopg [3, 4] p.hs.length (fun g i3 i4 wr => ∃ (k : Nat) (e : Int), g = p.hs.length - k ∧ k ≤ p.hs.length ∧ i4 = .int .i64 k ∧ i3 = .int .i64 e ∧ Hid ((e = 0 → chk p = 0 ∧ scan (fun h => de p.hs h.code) (p.hs.drop k) = fc p) ∧ (e ≠ 0 → e = fc p)) ∧ Below (w.heap.size + 1) (w.alloc (.cells #[.slice A1 p.hs.length c1, .slice A2 p.acs.length c2, .slice A3 p.bs.length c3, .int .i64 p.fuel] 26)) wr)
  case atStart => exact ⟨0, chk p, rfl, by omega, rfl, rfl, ⟨fun h => ⟨h, HC.out.1 h⟩, HC.out.2⟩, by simpa using hb0⟩
  case round =>
    clear HC hc0 hb0
    obtain ⟨k, e, rfl, hk, rfl, rfl, hsc, hb⟩ := hrel
    obtain ⟨hb', hcb, hz⟩ := boxed hb
    by_cases he : e = 0
    · have he' := int_eq he
      obtain ⟨x0, x1⟩ := hsc.out.1 he
      have HS0 : Hid (chk p = 0) := x0
      have HS1 : Hid (scan (fun h => de p.hs h.code) (p.hs.drop k) = fc p) := x1
      clear x0 x1 hsc
      by_cases hlt : k < p.hs.length
      · obtain ⟨x, hx⟩ := at_lt hlt
        have HE : Hid (fe p k = de p.hs x.code) := by unfold fe; rw [if_pos HS0.out, if_pos ⟨by omega, by omega⟩, fcode_at hx]; rfl
        have HS : Hid (scan (fun h => de p.hs h.code) (p.hs.drop k) = if de p.hs x.code = 0 then scan (fun h => de p.hs h.code) (p.hs.drop (k + 1)) else de p.hs x.code) := scan_step hx
        clear hx he
        go_wp2_with (go_at_call 50; refine (rdepths_any _ _ p _ (HP.out.below (by exact hb')) HS0.out).mono ?_; rintro e' w2 ⟨u, rfl, hu, hb2⟩; obtain ⟨Au, cu, rfl, hul⟩ := hu.form)
        go_roundg (p.hs.length - (k + 1))
        case measure => omega
        case rel =>
          refine ⟨k + 1, fe p k, rfl, by omega, by go_num, rfl, ⟨fun h => ⟨HS0.out, ?_⟩, fun h => ?_⟩, u_step hb hb2⟩
          · rw [← HS1.out, HS.out, if_pos (by rw [← HE.out]; exact h)]
          · rw [← HS1.out, HS.out, if_neg (by rw [← HE.out]; exact h)]; exact HE.out
      · clear he
        have HR : Hid (e = fc p) := by rw [← HS1.out, scan_end hlt]; exact beq_iff_eq.1 he'
        go_wp2
        go_ret
        exact ⟨ret_int HR.out, hb'⟩
    · have he' := int_ne he
      have HR : Hid (e = fc p) := hsc.out.2 he
      clear he hsc
      by_cases hlt : k < p.hs.length
      · go_wp2
        go_ret
        exact ⟨ret_int HR.out, hb'⟩
      · go_wp2
        go_ret
        exact ⟨ret_int HR.out, hb'⟩
end Go.Proofs.YtfbeiedhdmndnaaDoor
namespace Go.Proofs.YtfbeiedhdmndnaaDoor
open Go.RowKit
attribute [local go_sem ↓] Go.wp_at_zero Go.wp_at_succ
theorem beq_noV {a b : Int} (h : a ≠ b) : (a == b) = false := by simp [h]
theorem beq_yesV {a b : Int} (h : a = b) : (a == b) = true := by simp [h]
set_option maxHeartbeats 2000000 in
set_option maxRecDepth 100000 in
theorem rmay_any (ok oka : Nat → Prop) (w : World) (v vl va : Value) (p : PPrg) (who : Int) (l : PLoc) (h : Int) (args : List Int) (hp : PrgV w v p) (hl : LocV ok w vl l) (ha : Ints oka w va args) :
    Calls Tryd.prog 9 #[v, .int .i64 who, vl, .int .i64 h, va] w fun e w' => e = .returned (.bool (mayBV p who l h args)) ∧ Below w.heap.size w w' := by
  have HP : Hid (PrgV w v p) := hp
  obtain ⟨v1, v2, v3, rfl, h1, h2, h3⟩ := hp
  obtain ⟨A1, c1, rfl, hl1⟩ := h1.form
  obtain ⟨A2, c2, rfl, hl2⟩ := h2.form
  obtain ⟨A3, c3, rfl, hl3⟩ := h3.form
  obtain ⟨vr, rfl, hr⟩ := hl
  obtain ⟨A4, c4, rfl, hl4⟩ := hr.form
  obtain ⟨A5, c5, rfl, hl5⟩ := ha.form
  have HB : Hid (Below w.heap.size w ((w.alloc (.cells #[.slice A1 p.hs.length c1, .slice A2 p.acs.length c2, .slice A3 p.bs.length c3, .int .i64 p.fuel] 26)).alloc (.cells #[.slice A4 l.regs.length c4, .bool l.armed, .int .i64 l.down, .int .i64 l.sent, .int .i64 l.over] 29))) := bAlloc (bAlloc (bRefl w) _) _
  clear h2 h3 hr ha
  by_cases e0 : fc p = 0
  · have e0' := beq_yesV e0
    by_cases g0 : 0 ≤ who
    · by_cases g1 : who < p.acs.length
      · by_cases g2 : 0 ≤ h
        · by_cases g3 : h < p.hs.length
          · obtain ⟨k, rfl⟩ := Int.eq_ofNat_of_zero_le g2
            obtain ⟨b1, o1, x, u1, rfl, hx, hz1, q1, _, _⟩ := h1.cell (bRefl w) (k := k) (by omega)
            have hx2 : argsOf p.hs (k : Int) = x.args := argsOf_at hx
            have hk : k < p.hs.length := by omega
            have hzb : b1 < w.heap.size := hz1
            by_cases t1 : (args.length : Int) = x.args
            · have e1 := beq_yesV t1
              by_cases t2 : (l.regs.length : Int) ≤ 8
              · by_cases t3 : l.down = 0
                · have e3 := beq_yesV t3
                  have HM : Hid (mayBV p who l (k : Int) args = true) := mayB_yes ⟨e0, ⟨g0, g1⟩, ⟨g2, g3⟩, by rw [hx2]; exact t1, by omega, t3⟩
                  clear hx t1 t3 e0
                  go_enter Tryd.func9, Tryd.ntmps9
                  go_wp2_with (go_at_call 26; refine (rflow_any _ _ p (HP.out.below (by exact HB.out))).mono ?_; rintro e w1 ⟨rfl, hb1⟩; have hc1 := bcell hb1; have HB1 : Hid (Below w.heap.size w w1) := bTrans HB.out hb1; have hz2 : w.heap.size + 1 < w1.heap.size := (by have := hb1.size; simp at this; omega); have q2 := (HB1.out.cell (p := ⟨b1, o1 + k * 2, none⟩) hzb).trans q1; clear hb1)
                  go_ret
                  exact ⟨ret_b HM.out.symm, HB1.out⟩
                · have e3 := beq_noV t3
                  have HM : Hid (mayBV p who l (k : Int) args = false) := mayB_no fun m => t3 m.2.2.2.2.2
                  clear hx t1 t3 e0
                  go_enter Tryd.func9, Tryd.ntmps9
                  go_wp2_with (go_at_call 26; refine (rflow_any _ _ p (HP.out.below (by exact HB.out))).mono ?_; rintro e w1 ⟨rfl, hb1⟩; have hc1 := bcell hb1; have HB1 : Hid (Below w.heap.size w w1) := bTrans HB.out hb1; have hz2 : w.heap.size + 1 < w1.heap.size := (by have := hb1.size; simp at this; omega); have q2 := (HB1.out.cell (p := ⟨b1, o1 + k * 2, none⟩) hzb).trans q1; clear hb1)
                  go_ret
                  exact ⟨ret_b HM.out.symm, HB1.out⟩
              · have HM : Hid (mayBV p who l (k : Int) args = false) := mayB_no fun m => t2 (by have := m.2.2.2.2.1; omega)
                clear hx t1 e0
                go_enter Tryd.func9, Tryd.ntmps9
                go_wp2_with (go_at_call 26; refine (rflow_any _ _ p (HP.out.below (by exact HB.out))).mono ?_; rintro e w1 ⟨rfl, hb1⟩; have hc1 := bcell hb1; have HB1 : Hid (Below w.heap.size w w1) := bTrans HB.out hb1; have hz2 : w.heap.size + 1 < w1.heap.size := (by have := hb1.size; simp at this; omega); have q2 := (HB1.out.cell (p := ⟨b1, o1 + k * 2, none⟩) hzb).trans q1; clear hb1)
                go_ret
                exact ⟨ret_b HM.out.symm, HB1.out⟩
            · have e1 := beq_noV t1
              have HM : Hid (mayBV p who l (k : Int) args = false) := mayB_no fun m => t1 (by rw [← hx2]; exact m.2.2.2.1)
              clear hx t1 e0
              go_enter Tryd.func9, Tryd.ntmps9
              go_wp2_with (go_at_call 26; refine (rflow_any _ _ p (HP.out.below (by exact HB.out))).mono ?_; rintro e w1 ⟨rfl, hb1⟩; have hc1 := bcell hb1; have HB1 : Hid (Below w.heap.size w w1) := bTrans HB.out hb1; have hz2 : w.heap.size + 1 < w1.heap.size := (by have := hb1.size; simp at this; omega); have q2 := (HB1.out.cell (p := ⟨b1, o1 + k * 2, none⟩) hzb).trans q1; clear hb1)
              go_ret
              exact ⟨ret_b HM.out.symm, HB1.out⟩
          · have HM : Hid (mayBV p who l h args = false) := mayB_no fun m => g3 m.2.2.1.2
            clear e0
            go_enter Tryd.func9, Tryd.ntmps9
            go_wp2_with (go_at_call 26; refine (rflow_any _ _ p (HP.out.below (by exact HB.out))).mono ?_; rintro e w1 ⟨rfl, hb1⟩; have hc1 := bcell hb1; have HB1 : Hid (Below w.heap.size w w1) := bTrans HB.out hb1; have hz2 : w.heap.size + 1 < w1.heap.size := (by have := hb1.size; simp at this; omega); clear hb1)
            go_ret
            exact ⟨ret_b HM.out.symm, HB1.out⟩
        · have HM : Hid (mayBV p who l h args = false) := mayB_no fun m => g2 m.2.2.1.1
          clear e0
          go_enter Tryd.func9, Tryd.ntmps9
          go_wp2_with (go_at_call 26; refine (rflow_any _ _ p (HP.out.below (by exact HB.out))).mono ?_; rintro e w1 ⟨rfl, hb1⟩; have hc1 := bcell hb1; have HB1 : Hid (Below w.heap.size w w1) := bTrans HB.out hb1; have hz2 : w.heap.size + 1 < w1.heap.size := (by have := hb1.size; simp at this; omega); clear hb1)
          go_ret
          exact ⟨ret_b HM.out.symm, HB1.out⟩
      · have HM : Hid (mayBV p who l h args = false) := mayB_no fun m => g1 m.2.1.2
        clear e0
        go_enter Tryd.func9, Tryd.ntmps9
        go_wp2_with (go_at_call 26; refine (rflow_any _ _ p (HP.out.below (by exact HB.out))).mono ?_; rintro e w1 ⟨rfl, hb1⟩; have hc1 := bcell hb1; have HB1 : Hid (Below w.heap.size w w1) := bTrans HB.out hb1; have hz2 : w.heap.size + 1 < w1.heap.size := (by have := hb1.size; simp at this; omega); clear hb1)
        go_ret
        exact ⟨ret_b HM.out.symm, HB1.out⟩
    · have HM : Hid (mayBV p who l h args = false) := mayB_no fun m => g0 m.2.1.1
      clear e0
      go_enter Tryd.func9, Tryd.ntmps9
      go_wp2_with (go_at_call 26; refine (rflow_any _ _ p (HP.out.below (by exact HB.out))).mono ?_; rintro e w1 ⟨rfl, hb1⟩; have hc1 := bcell hb1; have HB1 : Hid (Below w.heap.size w w1) := bTrans HB.out hb1; have hz2 : w.heap.size + 1 < w1.heap.size := (by have := hb1.size; simp at this; omega); clear hb1)
      go_ret
      exact ⟨ret_b HM.out.symm, HB1.out⟩
  · have e0' := beq_noV e0
    have HM : Hid (mayBV p who l h args = false) := mayB_no fun m => e0 m.1
    clear e0
    go_enter Tryd.func9, Tryd.ntmps9
    go_wp2_with (go_at_call 26; refine (rflow_any _ _ p (HP.out.below (by exact HB.out))).mono ?_; rintro e w1 ⟨rfl, hb1⟩; have hc1 := bcell hb1; have HB1 : Hid (Below w.heap.size w w1) := bTrans HB.out hb1; have hz2 : w.heap.size + 1 < w1.heap.size := (by have := hb1.size; simp at this; omega); clear hb1)
    go_ret
    exact ⟨ret_b HM.out.symm, HB1.out⟩
end Go.Proofs.YtfbeiedhdmndnaaDoor
namespace Go.Proofs.YtfbeiedhdmndnaaDoor
open Go.RowKit
attribute [local go_sem ↓] Go.wp_at_zero Go.wp_at_succ
set_option maxHeartbeats 2000000 in
set_option maxRecDepth 100000 in
theorem lsame_anyV (ok ok' : Nat → Prop) (w : World) (v1 v2 : Value) (r : PRes) (h1 : ResV ok w v1 r) (h2 : ResV ok' w v2 r) :
    Calls Tryd.prog 10 #[v1, v2] w fun e w' => e = .returned (.bool true) ∧ Below w.heap.size w w' := by
  obtain ⟨cr, cn, rfl, hr, hn⟩ := h1
  obtain ⟨cr', cn', rfl, hr', hn'⟩ := h2
  obtain ⟨A1, c1, rfl, _⟩ := hr.form
  obtain ⟨A2, c2, rfl, _⟩ := hr'.form
  obtain ⟨A3, c3, rfl, _⟩ := hn.form
  obtain ⟨A4, c4, rfl, _⟩ := hn'.form
  have hb0 : Below w.heap.size w ((w.alloc (.cells #[.slice A1 r.loc.regs.length c1, .bool r.loc.armed, .int .i64 r.loc.down, .int .i64 r.loc.sent, .int .i64 r.loc.over, .slice A3 r.notes.length c3, .int .i64 r.steps] 35)).alloc (.cells #[.slice A2 r.loc.regs.length c2, .bool r.loc.armed, .int .i64 r.loc.down, .int .i64 r.loc.sent, .int .i64 r.loc.over, .slice A4 r.notes.length c4, .int .i64 r.steps] 37)) := bAlloc (bAlloc (bRefl w) _) _
  have HR : Hid (Ints ok _ (.slice A1 r.loc.regs.length c1) r.loc.regs) := hr.below hb0
  have HR' : Hid (Ints ok' _ (.slice A2 r.loc.regs.length c2) r.loc.regs) := hr'.below hb0
  have HN : Hid (Ntes anyB anyB _ (.slice A3 r.notes.length c3) r.notes) := Ntes.below (hn.imp (ok' := anyB) (R' := rNte anyB) (fun _ _ => trivial) (Nat.le_refl _) fun _ _ _ _ _ ⟨a1, a2, c, a3, a4⟩ => ⟨a1, a2, c, a3, a4.any⟩) hb0
  have HN' : Hid (Ntes anyB anyB _ (.slice A4 r.notes.length c4) r.notes) := Ntes.below (hn'.imp (ok' := anyB) (R' := rNte anyB) (fun _ _ => trivial) (Nat.le_refl _) fun _ _ _ _ _ ⟨a1, a2, c, a3, a4⟩ => ⟨a1, a2, c, a3, a4.any⟩) hb0
  have HB0 : Hid (Below w.heap.size w _) := hb0
  have k0 := heap_new w (.cells #[.slice A1 r.loc.regs.length c1, .bool r.loc.armed, .int .i64 r.loc.down, .int .i64 r.loc.sent, .int .i64 r.loc.over, .slice A3 r.notes.length c3, .int .i64 r.steps] 35)
  have e1 := eqB_self r.loc.regs
  have e2 := eqB_self r.notes
  clear hr hr' hn hn' hb0
  go_enter Tryd.func10, Tryd.ntmps10
  go_wp2_with fail
  refine (alikeI ok ok' _ _ _ _ _ HR.out HR'.out).mono ?_
  rintro e w1 ⟨rfl, n, rfl⟩
  go_wp2_with fail
  refine (rSameNotes _ _ _ _ _ (HN.out.below (bDrewN (bRefl _) _)) (HN'.out.below (bDrewN (bRefl _) _))).mono ?_
  rintro e w2 ⟨rfl, hb⟩
  have HB2 : Hid (Below w.heap.size w w2) := bTrans (bDrewN HB0.out n) hb
  have hz2 : w.heap.size + 1 < w2.heap.size := by have := hb.size; simp at this; omega
  have hc2 := bcell hb
  clear hb k0
  go_wp2
  go_ret
  exact ⟨rfl, HB2.out⟩
end Go.Proofs.YtfbeiedhdmndnaaDoor
namespace Go.Proofs.YtfbeiedhdmndnaaDoor
open Go.RowKit

theorem all_next {α : Type} {l : List α} {k : Nat} {x : α} {P : α → Prop} (h : ∀ y ∈ l.take k, P y) (hx : l[k]? = some x) (hp : P x) : ∀ y ∈ l.take (k + 1), P y := by
  rw [List.take_add_one, hx]
  intro y hy
  simp only [Option.toList_some, List.mem_append, List.mem_singleton] at hy
  rcases hy with hy | rfl
  · exact h y hy
  · exact hp

set_option maxHeartbeats 4000000 in
theorem small_any (w : World) (v : Value) (p : PPrg) (h : PrgV w v p) :
    Calls Tryd.prog 6 #[v] w fun e w' => e = .returned (.bool (small p)) ∧ Below w.heap.size w w' := by
  obtain ⟨va, vb, vc, rfl, h1, h2, h3⟩ := h
  obtain ⟨A1, c1, rfl, hl1⟩ := h1.form
  obtain ⟨A2, c2, rfl, hl2⟩ := h2.form
  obtain ⟨A3, c3, rfl, hl3⟩ := h3.form
  have HB : ∀ (x : Obj), Below w.heap.size w (w.alloc x) := fun x => bAlloc (bRefl w) x
  by_cases s1 : p.hs.length ≤ 18
  · by_cases s2 : p.acs.length ≤ 10
    · by_cases s3 : p.bs.length ≤ 18
      · go_enter Tryd.func6, Tryd.ntmps6
        go_wp2
        go_loopg [3] p.hs.length (fun g i3 wr => ∃ k : Nat, g = p.hs.length - k ∧ k ≤ p.hs.length ∧ i3 = .int .i64 k ∧ Hid (∀ y ∈ p.hs.take k, y.code.length ≤ 70) ∧ Below (w.heap.size + 1) (w.alloc (.cells #[.slice A1 p.hs.length c1, .slice A2 p.acs.length c2, .slice A3 p.bs.length c3, .int .i64 p.fuel] 26)) wr)
        case atStart => exact ⟨0, rfl, by omega, rfl, fun y hy => by simp at hy, Below.refl _ _⟩
        case round =>
          skip
          obtain ⟨k, rfl, hk, rfl, hal, hb⟩ := hrel
          obtain ⟨hb', hcb, hz⟩ := boxed hb
          by_cases hlt : k < p.hs.length
          · obtain ⟨b1, o1, x, v1, rfl, hx, hz1, q1, q2, hv1⟩ := h1.cell hb' hlt
            obtain ⟨V1, n1, rfl, hvl⟩ := hv1.form
            have HX : Hid (p.hs[k]? = some x) := hx
            clear hx hv1
            by_cases q : x.code.length ≤ 70
            · go_wp2
              go_roundg (p.hs.length - (k + 1))
              case measure => omega
              case rel => exact ⟨k + 1, rfl, by omega, by go_num, all_next hal.out HX.out q, hb⟩
            · have HR : Hid (small p = false) := decide_eq_false (fun h => q (h.2.2.2.1 x (List.mem_of_getElem? HX.out)))
              go_wp2
              go_ret
              exact ⟨ret_b HR.out.symm, hb'⟩
          · have HA0 : Hid (∀ y ∈ p.hs, y.code.length ≤ 70) := by
              have := hal.out
              rwa [List.take_of_length_le (by omega)] at this
            clear hal
            go_wp2
            go_loopg [4] p.acs.length (fun g i4 wr => ∃ k : Nat, g = p.acs.length - k ∧ k ≤ p.acs.length ∧ i4 = .int .i64 k ∧ Hid (∀ y ∈ p.acs.take k, y.regs.length ≤ 10) ∧ Below (w.heap.size + 1) (w.alloc (.cells #[.slice A1 p.hs.length c1, .slice A2 p.acs.length c2, .slice A3 p.bs.length c3, .int .i64 p.fuel] 26)) wr)
            case atStart => exact ⟨0, rfl, by omega, rfl, fun y hy => by simp at hy, hb⟩
            case round =>
              clear hb hb' hcb hz
              obtain ⟨k, rfl, hk, rfl, hal, hb⟩ := hrel
              obtain ⟨hb', hcb, hz⟩ := boxed hb
              by_cases hlt : k < p.acs.length
              · obtain ⟨b1, o1, x, v1, rfl, hx, hz1, q1, q2, q3, q4, hv1⟩ := h2.cell hb' hlt
                obtain ⟨V1, n1, rfl, hvl⟩ := hv1.form
                have HX : Hid (p.acs[k]? = some x) := hx
                clear hx hv1
                by_cases q : x.regs.length ≤ 10
                · go_wp2
                  go_roundg (p.acs.length - (k + 1))
                  case measure => omega
                  case rel => exact ⟨k + 1, rfl, by omega, by go_num, all_next hal.out HX.out q, hb⟩
                · have HR : Hid (small p = false) := decide_eq_false (fun h => q (h.2.2.2.2.1 x (List.mem_of_getElem? HX.out)))
                  go_wp2
                  go_ret
                  exact ⟨ret_b HR.out.symm, hb'⟩
              · have HA1 : Hid (∀ y ∈ p.acs, y.regs.length ≤ 10) := by
                  have := hal.out
                  rwa [List.take_of_length_le (by omega)] at this
                clear hal
                go_wp2
                go_loopg [5] p.bs.length (fun g i5 wr => ∃ k : Nat, g = p.bs.length - k ∧ k ≤ p.bs.length ∧ i5 = .int .i64 k ∧ Hid (∀ y ∈ p.bs.take k, y.args.length ≤ 6) ∧ Below (w.heap.size + 1) (w.alloc (.cells #[.slice A1 p.hs.length c1, .slice A2 p.acs.length c2, .slice A3 p.bs.length c3, .int .i64 p.fuel] 26)) wr)
                case atStart => exact ⟨0, rfl, by omega, rfl, fun y hy => by simp at hy, hb⟩
                case round =>
                  clear hb hb' hcb hz
                  obtain ⟨k, rfl, hk, rfl, hal, hb⟩ := hrel
                  obtain ⟨hb', hcb, hz⟩ := boxed hb
                  by_cases hlt : k < p.bs.length
                  · obtain ⟨b1, o1, x, v1, rfl, hx, hz1, q1, q2, q3, hv1⟩ := h3.cell hb' hlt
                    obtain ⟨V1, n1, rfl, hvl⟩ := hv1.form
                    have HX : Hid (p.bs[k]? = some x) := hx
                    clear hx hv1
                    by_cases q : x.args.length ≤ 6
                    · go_wp2
                      go_roundg (p.bs.length - (k + 1))
                      case measure => omega
                      case rel => exact ⟨k + 1, rfl, by omega, by go_num, all_next hal.out HX.out q, hb⟩
                    · have HR : Hid (small p = false) := decide_eq_false (fun h => q (h.2.2.2.2.2 x (List.mem_of_getElem? HX.out)))
                      go_wp2
                      go_ret
                      exact ⟨ret_b HR.out.symm, hb'⟩
                  · have HA2 : Hid (∀ y ∈ p.bs, y.args.length ≤ 6) := by
                      have := hal.out
                      rwa [List.take_of_length_le (by omega)] at this
                    clear hal
                    go_wp2
                    go_ret
                    exact ⟨ret_b (decide_eq_true ⟨s1, s2, s3, HA0.out, HA1.out, HA2.out⟩).symm, hb'⟩
      · have HR : Hid (small p = false) := decide_eq_false (fun h => s3 h.2.2.1)
        go_enter Tryd.func6, Tryd.ntmps6
        go_wp2
        go_ret
        exact ⟨ret_b HR.out.symm, HB _⟩
    · have HR : Hid (small p = false) := decide_eq_false (fun h => s2 h.2.1)
      go_enter Tryd.func6, Tryd.ntmps6
      go_wp2
      go_ret
      exact ⟨ret_b HR.out.symm, HB _⟩
  · have HR : Hid (small p = false) := decide_eq_false (fun h => s1 h.1)
    go_enter Tryd.func6, Tryd.ntmps6
    go_wp2
    go_ret
    exact ⟨ret_b HR.out.symm, HB _⟩
end Go.Proofs.YtfbeiedhdmndnaaDoor
namespace Go.Proofs.YtfbeiedhdmndnaaDoor
open Go.RowKit
/-- Numbers as values. -/
def nIV (l : List Int) : List Value := l.map (Value.int .i64)
theorem nI_len (l : List Int) : (nIV l).length = l.length := by simp [nIV]
theorem nI_app (a b : List Int) : nIV (a ++ b) = nIV a ++ nIV b := by simp [nIV]
theorem nI_at {l : List Int} {k : Nat} {x : Int} (h : l[k]? = some x) : (nIV l)[k]? = some (.int .i64 x) := by simp [nIV, h]
theorem rown0V {P : Program} {w : World} {base e size k : Nat} {v : Value} {xs : List Value} (t ty : TypeId) (i : TypeInfo) (ht : P.underlying t = some (.slice e)) (hi : P.info? e = some i) (h : w.ownsRow base e size v k xs) (A : Option Addr) (c : Nat) :
    (Builtin.append_ #[t, t] ty #[v, .slice A 0 c]).run P w = .ok v w := by
  obtain ⟨h1, h2⟩ := h
  rcases h2 with ⟨rfl, _⟩ | ⟨g, cap, cur, rfl, hb, hh, h3, h4, h5, h6⟩
  · exact run_append_empty t ty e i ht hi A c
  · cases A with
    | none =>
      have hst : ∀ a : Addr, (storeCells a []).run P w = .ok () w := fun a => by rw [storeCells]; rfl
      simp [Builtin.append_, run_underlying ht, sizeOf, typeInfo, hi, Builtin.lenOf, Builtin.firstCells, h3, hst, Result.andThen]
    | some a =>
      have := run_append_room_cells (P := P) w t ty e i ht hi g 0 k cap a 0 c [] (by simp) (by simp) (by simp) (by omega) (by simp) (by simp)
      rw [this]
      rfl
theorem raddV (b o j : Nat) : (⟨b, o, none⟩ : Addr).add j = ⟨b, o + j, none⟩ := by
  unfold Addr.add
  by_cases h0 : j = 0
  · subst h0; rfl
  · rw [if_neg h0]
theorem rnewsV {w : World} {b o : Nat} {cs : List Int} (h : ∀ k x, cs[k]? = some x → rInt w b (o + k * 1) x) : ∀ j u, (nIV cs)[j]? = some u → w.cell? ((⟨b, o, none⟩ : Addr).add j) = some u := by
  intro j u hu
  rw [raddV]
  rw [nIV, List.getElem?_map] at hu
  cases hx : cs[j]? with
  | none => rw [hx] at hu; cases hu
  | some x =>
    rw [hx] at hu
    have := h j x hx
    rw [Nat.mul_one] at this
    rw [← Option.some.inj hu]
    exact this
/-- Numbers in a row of the call's own. -/
abbrev OwnIV (base : Nat) (w : World) (v : Value) (l : List Int) : Prop := w.ownsRow base 3 1 v l.length (nIV l)
/-- What an append of numbers leaves. -/
def IAV (base : Nat) (W : World) (v : Value) (l : List Int) (v' : Value) (W' : World) : Prop := OwnIV base W' v' l ∧ W.grownBy W' v.ownBlock ∧ (v'.ownBlock = v.ownBlock ∨ v'.ownBlock = some W.heap.size)
section
variable {base : Nat} {w W W' : World} {v v' : Value} {l a b : List Int} {ok : Nat → Prop}
theorem OwnIV.form (h : OwnIV base w v l) : ∃ A c, v = .slice A l.length c := by
  obtain ⟨h1, h2⟩ := h
  rcases h2 with ⟨rfl, h2⟩ | ⟨g, cap, cur, rfl, _⟩
  · exact ⟨none, 0, by rw [h2]⟩
  · exact ⟨_, cap, rfl⟩
theorem OwnIV.ints (h : OwnIV base w v l) (hl : l.length ≤ 1000000) : Ints (fun b => base ≤ b ∧ v.ownBlock = some b) w v l := by
  obtain ⟨h1, h2⟩ := h
  rcases h2 with ⟨rfl, h2⟩ | ⟨g, cap, cur, rfl, hb, hh, h3, h4, h5, h6⟩
  · have : l = [] := List.length_eq_zero_iff.1 h2
    subst this; exact ⟨_, _, rfl, by simp, by simp, Or.inl rfl⟩
  · refine ⟨_, cap, rfl, by omega, h3, Or.inr ⟨g, 0, rfl, ⟨hb, rfl⟩, (Array.getElem?_eq_some_iff.1 hh).1, fun k x hx => ?_⟩⟩
    have hk := (List.getElem?_eq_some_iff.1 hx).1
    show w.cell? ⟨g, 0 + k * 1, none⟩ = _
    rw [Nat.zero_add, Nat.mul_one, cell_of_row _ _ _ _ _ _ hh]
    have : cur[k]? = (nIV l)[k]? := by rw [← h6, List.getElem?_take, if_pos (by omega)]; simp
    rw [this]; exact nI_at hx
theorem OwnIV.cell {A : Option Addr} {n c : Nat} (h : OwnIV base w (.slice A n c) l) {k : Nat} {x : Int} (hx : l[k]? = some x) : ∃ g, A = some ⟨g, 0, none⟩ ∧ base ≤ g ∧ g < w.heap.size ∧ w.cell? ⟨g, k, none⟩ = some (.int .i64 x) ∧ (∀ j, w.frozen? ⟨g, j, none⟩ = false) ∧ l.length ≤ c := by
  obtain ⟨h1, h2⟩ := h
  have hk := (List.getElem?_eq_some_iff.1 hx).1
  rcases h2 with ⟨e, h2⟩ | ⟨g, cap, cur, e, hb, hh, h3, h4, h5, h6⟩
  · omega
  · cases e
    refine ⟨g, rfl, hb, (Array.getElem?_eq_some_iff.1 hh).1, ?_, fun j => by simp [World.frozen?, hh], h3⟩
    rw [cell_of_row _ _ _ _ _ _ hh]
    have : cur[k]? = (nIV l)[k]? := by rw [← h6, List.getElem?_take, if_pos (by omega)]; simp
    rw [this]; exact nI_at hx
/-- The first m of them. -/
theorem OwnIV.take {A : Option Addr} {n c m : Nat} (h : OwnIV base w (.slice A n c) l) (hm : m ≤ l.length) : OwnIV base w (.slice A m c) (l.take m) := by
  obtain ⟨h1, h2⟩ := h
  have e1 : (l.take m).length = m := by simp; omega
  refine ⟨by rw [nI_len]; simp, ?_⟩
  rcases h2 with ⟨e, h2⟩ | ⟨g, cap, cur, e, hb, hh, h3, h4, h5, h6⟩
  · cases e
    exact Or.inl ⟨by rw [show m = 0 by omega], by omega⟩
  · cases e
    refine Or.inr ⟨g, c, cur, by rw [e1], hb, hh, by omega, h4, h5, ?_⟩
    rw [e1, Nat.mul_one]
    rw [Nat.mul_one] at h6
    have := congrArg (List.take m) h6
    rw [List.take_take, Nat.min_eq_left hm] at this
    rw [this]; simp [nIV, List.map_take]
theorem OwnIV.set {A : Option Addr} {n c g k : Nat} (h : OwnIV base w (.slice A n c) l) (hA : A = some ⟨g, 0, none⟩) (hk : k < l.length) (y : Int) : OwnIV base (w.setCell ⟨g, k, none⟩ (.int .i64 y)) (.slice A n c) (l.set k y) := by
  obtain ⟨h1, h2⟩ := h
  refine ⟨by rw [nI_len]; simp, ?_⟩
  rcases h2 with ⟨e, h2⟩ | ⟨g', cap, cur, e, hb, hh, h3, h4, h5, h6⟩
  · omega
  · cases e
    cases hA
    refine Or.inr ⟨g, c, cur.setIfInBounds k (.int .i64 y), by rw [List.length_set], hb, setCell_heap hh, by rw [List.length_set]; exact h3, h4, by simpa using h5, ?_⟩
    rw [List.length_set, Nat.mul_one]
    rw [Nat.mul_one] at h6
    rw [Array.toList_setIfInBounds, List.take_set, h6]
    simp [nIV, List.map_set]
theorem OwnIV.same (h : OwnIV base w v l) (hs : ∀ g, v.ownBlock = some g → W.heap[g]? = w.heap[g]?) : OwnIV base W v l := own_block h fun g hg _ => hs g hg
theorem run_appIV (ty : TypeId) (h : OwnIV base W v a) {A : Option Addr} {c n : Nat} (h2 : Ints ok W (.slice A n c) b) (hl : a.length + b.length ≤ 1000000) (hbase : base ≤ W.heap.size) :
    ∃ A' c' W', (Builtin.append_ #[27, 27] ty #[v, .slice A n c]).run Tryd.prog W = .ok (.slice A' (a.length + b.length) c') W' ∧ IAV base W v (a ++ b) (.slice A' (a.length + b.length) c') W' := by
  obtain ⟨i0, hi0, hz0, hz1, hz2⟩ := info_parts info3
  obtain ⟨A1, c1, e1, _, _, hr⟩ := h2
  cases e1
  by_cases h0 : b = []
  · subst h0
    obtain ⟨A2, c2, rfl⟩ := h.form
    exact ⟨A2, c2, W, rown0V 27 ty i0 Tryd.underlying27 hi0 h A c, by simpa using h, ⟨rfl, rfl, rfl, Nat.le_refl _, fun _ _ _ => rfl⟩, Or.inl rfl⟩
  · rcases hr with hr | ⟨bb, o, rfl, _, hlt, hcell⟩
    · exact absurd hr h0
    · obtain ⟨g, cap, W', hrun, ho, hg, hat, _⟩ := run_append_lies (P := Tryd.prog) W 27 ty base 3 i0 _ 1 8 Tryd.underlying27 hi0 hz0 hz1 hz2 rfl (by decide) v a.length _ h ⟨bb, o, none⟩ b.length c (nIV b) (by rw [nI_len, Nat.mul_one]) (rnewsV hcell) (fun u hu => by simp only [nIV, List.mem_map] at hu; obtain ⟨_, _, rfl⟩ := hu; rfl) (List.length_pos_iff.2 h0) (by unfold maxLen; omega) (by omega) hbase W.heap.size rfl
      refine ⟨_, cap, W', hrun, by unfold OwnIV; rw [List.length_append, nI_app]; exact ho, hg, ?_⟩
      rcases hat with hat | hat
      · exact Or.inl hat.symm
      · subst hat; exact Or.inr rfl
variable {ops : Array Oper} {rest : List Oper} {o : Oper} {ac : Act} {Q : Exit → Act → World → Prop} {K : Act → World → Prop}
theorem wp_appIV (s x : Operand) (ho : o.op = .call { callee := .builtin .append, args := #[s, x], argTypes := #[27, 27] }) {A : Option Addr} {c n : Nat} (h : OwnIV base W v a) (hs : ac.eval s = v) (hx : ac.eval x = .slice A n c)
    (hm : Ints ok W (.slice A n c) b) (hl : a.length + b.length ≤ 1000000) (hbase : base ≤ W.heap.size)
    (hK : ∀ A' c' W', IAV base W v (a ++ b) (.slice A' (a.length + b.length) c') W' → K (ac.put o.dst (.slice A' (a.length + b.length) c')) W') : o.wp Tryd.prog ac W K Q := by
  obtain ⟨A', c', W', hr, hma⟩ := run_appIV o.type h hm hl hbase
  unfold Oper.wp execOp
  simp only [ho, resolve, invoke, builtin, Sem.run_bind, Sem.run_pure, Result.andThen_ok, List.map_toArray, List.map_cons, List.map_nil, hs, hx, hr]
  exact hK A' c' W' hma
theorem appIV (hgd : o.guard = none) (s x : Operand) (ho : o.op = .call { callee := .builtin .append, args := #[s, x], argTypes := #[27, 27] }) {A : Option Addr} {c n : Nat} (h : OwnIV base W v a) (hs : ac.eval s = v) (hx : ac.eval x = .slice A n c)
    (hm : Ints ok W (.slice A n c) b) (hl : a.length + b.length ≤ 1000000) (hbase : base ≤ W.heap.size)
    (hK : ∀ A' c' W', IAV base W v (a ++ b) (.slice A' (a.length + b.length) c') W' → wpList Tryd.prog ops Q rest (ac.put o.dst (.slice A' (a.length + b.length) c')) W') : wpList Tryd.prog ops Q (o :: rest) ac W :=
  wpList_plain hgd fun _ hK' => wp_appIV s x ho h hs hx hm hl hbase fun A' c' W' hma => hK' _ _ (hK A' c' W' hma)
theorem step_appIV (hgd : o.guard = none) (s x : Operand) (ho : o.op = .call { callee := .builtin .append, args := #[s, x], argTypes := #[27, 27] }) {A : Option Addr} {c n : Nat} {E : Prop} (h : OwnIV base W v a) (hs : ac.eval s = v) (hx : ac.eval x = .slice A n c)
    (hm : Ints ok W (.slice A n c) b) (hl : a.length + b.length ≤ 1000000) (hbase : base ≤ W.heap.size)
    (hK : ∀ A' c' W', IAV base W v (a ++ b) (.slice A' (a.length + b.length) c') W' → K (ac.put o.dst (.slice A' (a.length + b.length) c')) W') :
    if Region.wanted o (yielded ops ac.tmps) = true then Oper.wp Tryd.prog o ac W K Q else E := by
  have hw : Region.wanted o (yielded ops ac.tmps) = true := by simp [Region.wanted, hgd]
  rw [if_pos hw]
  exact wp_appIV s x ho h hs hx hm hl hbase hK
end
theorem OwnIV.empty {base : Nat} {W : World} {e : Nat} (h : W.heap[e]? = some (.cells #[] 3)) (he : base ≤ e) : OwnIV base W (.slice (some ⟨e, 0, none⟩) 0 0) [] :=
  ⟨rfl, Or.inr ⟨e, 0, #[], rfl, he, h, by simp, by simp [maxLen], rfl, rfl⟩⟩
theorem ints1V {W : World} {B : Nat} {n : Int} (h : W.heap[B]? = some (.cells #[.int .i64 n] 3)) : Ints (fun b => b = B) W (.slice (some ⟨B, 0, none⟩) 1 1) [n] := by
  refine ⟨_, 1, rfl, by simp, by simp, Or.inr ⟨B, 0, rfl, rfl, (Array.getElem?_eq_some_iff.1 h).1, fun k x hx => ?_⟩⟩
  cases k with
  | zero => cases hx; show W.cell? ⟨B, 0, none⟩ = _; rw [cell_of_row _ _ _ _ _ _ h]; rfl
  | succ k => cases hx
theorem ints2V {W : World} {B : Nat} {n m : Int} (h : W.heap[B]? = some (.cells #[.int .i64 n, .int .i64 m] 3)) : Ints (fun b => b = B) W (.slice (some ⟨B, 0, none⟩) 2 2) [n, m] := by
  refine ⟨_, 2, rfl, by simp, by simp, Or.inr ⟨B, 0, rfl, rfl, (Array.getElem?_eq_some_iff.1 h).1, fun k x hx => ?_⟩⟩
  match k, hx with
  | 0, hx => cases hx; show W.cell? ⟨B, 0, none⟩ = _; rw [cell_of_row _ _ _ _ _ _ h]; rfl
  | 1, hx => cases hx; show W.cell? ⟨B, 1, none⟩ = _; rw [cell_of_row _ _ _ _ _ _ h]; rfl
  | k + 2, hx => simp at hx
/-- An actor's state in its box. -/
def nv (vr : Value) (ar : Bool) (l : PLoc) : Nat → Value
  | 0 => vr
  | 1 => .bool ar
  | 2 => .int .i64 l.down
  | 3 => .int .i64 l.sent
  | _ => .int .i64 l.over
theorem NT.exc {w0 w : World} {ex ex' : Nat → Prop} {v : Value} {l : List PNte} {us : List Value} (h : NT w0 ex w v l us) (he : ∀ b, b < w.heap.size → ex' b → ex b) : NT w0 ex' w v l us :=
  ⟨h.own, h.len, fun k n u hn hu => (Sl.lt (h.rd k n u hn hu)).imp (fun b hb => ⟨hb.1.1, fun e => hb.1.2.1 (he b hb.2 e), hb.1.2.2⟩) (Nat.le_refl _) fun _ _ _ _ _ h => h, fun g hg e => h.nx g hg (he g (own_lt h.own hg).2 e)⟩
/-- The memory between two instructions. w1: the world at the first; Bn: the state's box; gR: the registers' block. -/
structure RS (w1 : World) (Bn gR : Nat) (l : PLoc) (vr vs vn : Value) (us : List Value) (s : MS) (w : World) : Prop where
  sz : w1.heap.size ≤ w.heap.size
  os : w.os = w1.os ∧ w.tape = w1.tape ∧ w.output = w1.output
  fix : ∀ b, b < w1.heap.size → b ≠ Bn → b ≠ gR → w.heap[b]? = w1.heap[b]?
  now : w.rowIs Bn 29 5 (nv vr s.armed l)
  lts : Bn < w1.heap.size ∧ gR < w1.heap.size ∧ Bn ≠ gR
  rg : OwnIV 0 w vr s.regs
  rb : vr.ownBlock = some gR
  st : OwnIV w1.heap.size w vs s.st.reverse
  nt : NT w1 (fun b => vs.ownBlock = some b) w vn s.notes us
section
variable {w1 w W W' : World} {Bn gR : Nat} {l : PLoc} {vr vs vn vs' : Value} {us : List Value} {s : MS}
theorem RS.below (h : RS w1 Bn gR l vr vs vn us s w) (hb : Below w.heap.size w W) : RS w1 Bn gR l vr vs vn us s W :=
  ⟨Nat.le_trans h.sz hb.size, ⟨hb.os.trans h.os.1, hb.tape.trans h.os.2.1, hb.output.trans h.os.2.2⟩, fun b h1 h2 h3 => (hb.block b (Nat.lt_of_lt_of_le h1 h.sz)).trans (h.fix b h1 h2 h3),
    h.now.of_block (hb.block Bn (Nat.lt_of_lt_of_le h.lts.1 h.sz)), h.lts, h.rg.same fun g hg => hb.block g (own_lt h.rg hg).2, h.rb, h.st.same fun g hg => hb.block g (own_lt h.st hg).2, h.nt.same hb.size fun b hlt _ => hb.block b hlt⟩
/-- Another stack, in the row of the elder one or in a new row. -/
theorem RS.stk (h : RS w1 Bn gR l vr vs vn us s W) {st' : List Int} (hg : W.grownBy W' vs.ownBlock) (ho : OwnIV w1.heap.size W' vs' st'.reverse) (hat : vs'.ownBlock = vs.ownBlock ∨ ∃ b, vs'.ownBlock = some b ∧ W.heap.size ≤ b) : RS w1 Bn gR l vr vs' vn us { s with st := st' } W' := by
  have key : ∀ b, b < W.heap.size → vs.ownBlock ≠ some b → W'.heap[b]? = W.heap[b]? := fun b hb hn => hg.block b hb fun e => hn e.symm
  have low : ∀ b, b < w1.heap.size → vs.ownBlock ≠ some b := fun b hb e => by have := (own_lt h.st e).1; omega
  have h2 : NT w1 (fun b => vs.ownBlock = some b) W' vn s.notes us := h.nt.same hg.size fun b hb hn => key b hb hn
  refine ⟨Nat.le_trans h.sz hg.size, ⟨hg.os.trans h.os.1, hg.tape.trans h.os.2.1, hg.output.trans h.os.2.2⟩, fun b h1 h3 h4 => (key b (Nat.lt_of_lt_of_le h1 h.sz) (low b h1)).trans (h.fix b h1 h3 h4), h.now.of_block (key Bn (Nat.lt_of_lt_of_le h.lts.1 h.sz) (low Bn h.lts.1)), h.lts,
    h.rg.same fun g hg' => by
      rw [h.rb] at hg'
      cases hg'
      exact key gR (Nat.lt_of_lt_of_le h.lts.2.1 h.sz) (low gR h.lts.2.1), h.rb, ho, ?_⟩
  have h3 : NT w1 (fun b => vs.ownBlock = some b) W vn s.notes us := h.nt
  rcases hat with hat | ⟨b, hb, hlt⟩
  · rw [hat]; exact h2
  · -- the notes' blocks are elder than the new row
    refine ⟨h2.own, h2.len, fun k n u hn hu => ?_, fun g hg' e => ?_⟩
    · refine (Sl.lt (h3.rd k n u hn hu)).imp (fun b' hb' => ⟨hb'.1.1, fun e => ?_, hb'.1.2.2⟩) hg.size fun b' o x hb' hlt' hr => (World.cell?_of_block (w := W) (key b' hlt' hb'.1.2.1)).trans hr
      rw [hb] at e
      have : b = b' := Option.some.inj e
      have := hb'.2
      omega
    · rw [hb] at e
      have : b = g := Option.some.inj e
      have := (own_lt h3.own hg').2
      omega
/-- The stack cut down. -/
theorem RS.cut {As : Option Addr} {n c m : Nat} {st' : List Int} (h : RS w1 Bn gR l vr (.slice As n c) vn us s w) (hm : m ≤ s.st.length) (e : st'.reverse = s.st.reverse.take m) : RS w1 Bn gR l vr (.slice As m c) vn us { s with st := st' } w :=
  h.stk ⟨rfl, rfl, rfl, Nat.le_refl _, fun _ _ _ => rfl⟩ (by rw [e]; exact h.st.take (by simpa using hm)) (Or.inl (by cases As <;> rfl))
theorem RS.push {x : Int} (h : RS w1 Bn gR l vr vs vn us s W) (hi : IAV w1.heap.size W vs (s.st.reverse ++ [x]) vs' W') : RS w1 Bn gR l vr vs' vn us { s with st := x :: s.st } W' :=
  h.stk hi.2.1 (by rw [List.reverse_cons]; exact hi.1) (hi.2.2.imp id fun e => ⟨_, e, Nat.le_refl _⟩)
/-- A stack made anew. -/
theorem RS.anew {st' : List Int} (h : RS w1 Bn gR l vr vs vn us s w) (hb : Below w.heap.size w W) (ho : OwnIV w.heap.size W vs' st'.reverse) (hn : ∃ b, vs'.ownBlock = some b) : RS w1 Bn gR l vr vs' vn us { s with st := st' } W := by
  obtain ⟨b, hb'⟩ := hn
  refine h.stk (W' := W) ⟨hb.os, hb.tape, hb.output, hb.size, fun i hi _ => hb.block i hi⟩ ?_ (Or.inr ⟨b, hb', (own_lt ho hb').1⟩)
  obtain ⟨h1, h2⟩ := ho
  exact ⟨h1, h2.imp id fun ⟨g, cap, cur, a1, a2, a3⟩ => ⟨g, cap, cur, a1, Nat.le_trans h.sz a2, a3⟩⟩
theorem RS.setFix {b j : Nat} {y : Value} (h : RS w1 Bn gR l vr vs vn us s w) (hb : b < w1.heap.size) : OwnIV w1.heap.size (w.setCell ⟨b, j, none⟩ y) vs s.st.reverse ∧ NT w1 (fun b => vs.ownBlock = some b) (w.setCell ⟨b, j, none⟩ y) vn s.notes us := by
  have hne : ∀ b', b' ≠ b → (w.setCell ⟨b, j, none⟩ y).heap[b']? = w.heap[b']? := fun b' hb' => Below.heap_setCell _ _ _ _ (fun e => hb' (by have e' : b' = b := e; exact e'))
  refine ⟨h.st.same fun g hg => hne g (by have := (own_lt h.st hg).1; omega), own_block h.nt.own fun g hg _ => hne g (by have := (own_lt h.nt.own hg).1; omega), h.nt.len, fun k n u hn hu => (h.nt.rd k n u hn hu).same ⟨by simp, fun b' hb' _ => hne b' (by have := hb'.1; omega)⟩, h.nt.nx⟩
theorem RS.arm (h : RS w1 Bn gR l vr vs vn us s w) (z : Bool) : RS w1 Bn gR l vr vs vn us { s with armed := z } (w.setCell ⟨Bn, 1, none⟩ (.bool z)) := by
  obtain ⟨h1, h2⟩ := h.setFix (j := 1) (y := .bool z) h.lts.1
  have hne : ∀ b', b' ≠ Bn → (w.setCell ⟨Bn, 1, none⟩ (.bool z)).heap[b']? = w.heap[b']? := fun b' hb' => Below.heap_setCell _ _ _ _ (fun e => hb' (by have e' : b' = Bn := e; exact e'))
  refine ⟨by simpa using h.sz, h.os, fun b q1 q2 q3 => (hne b q2).trans (h.fix b q1 q2 q3), (h.now.set 1 (.bool z)).congr fun i hi => ?_, h.lts, h.rg.same fun g hg => hne g (fun e => by rw [h.rb] at hg; have := Option.some.inj hg; exact h.lts.2.2 (by omega)), h.rb, h1, h2⟩
  match i, hi with
  | 0, _ => rfl
  | 1, _ => rfl
  | 2, _ => rfl
  | 3, _ => rfl
  | 4, _ => rfl
theorem RS.reg {A : Option Addr} {n c k : Nat} (h : RS w1 Bn gR l (.slice A n c) vs vn us s w) (hk : k < s.regs.length) (y : Int) : RS w1 Bn gR l (.slice A n c) vs vn us { s with regs := s.regs.set k y } (w.setCell ⟨gR, k, none⟩ (.int .i64 y)) := by
  obtain ⟨h1, h2⟩ := h.setFix (j := k) (y := .int .i64 y) h.lts.2.1
  have hne : ∀ b', b' ≠ gR → (w.setCell ⟨gR, k, none⟩ (.int .i64 y)).heap[b']? = w.heap[b']? := fun b' hb' => Below.heap_setCell _ _ _ _ (fun e => hb' (by have e' : b' = gR := e; exact e'))
  obtain ⟨x, hx⟩ := at_lt hk
  obtain ⟨g, hA, _⟩ := h.rg.cell hx
  have hg : g = gR := by have := h.rb; rw [hA] at this; exact Option.some.inj this
  subst hg
  exact ⟨by simpa using h.sz, h.os, fun b q1 q2 q3 => (hne b q3).trans (h.fix b q1 q2 q3), h.now.of_block (hne Bn h.lts.2.2), h.lts, h.rg.set hA hk y, h.rb, h1, h2⟩
end
end Go.Proofs.YtfbeiedhdmndnaaDoor
namespace Go.Proofs.YtfbeiedhdmndnaaDoor
open Go.RowKit
theorem infoNt : (Tryd.prog.info? 50).map (fun i => (i.zero, i.size, i.bytes)) = some (some (.agg #[.int .i64 0, .int .i64 0, .slice none 0 0]), 3, 40) := by kernel_rfl
section
variable {w1 w W W' : World} {Bn gR B : Nat} {l : PLoc} {vr vs vn vs' u : Value} {us : List Value} {s : MS} {n : PNte}
/-- A note appended: what is left. -/
def NA (w1 : World) (Bn gR : Nat) (l : PLoc) (vr vs : Value) (us : List Value) (s : MS) (n : PNte) (u : Value) (v' : Value) (W' : World) : Prop := RS w1 Bn gR l vr vs v' (us ++ [u]) { s with notes := s.notes ++ [n] } W'
theorem run_note (ty : TypeId) (h : RS w1 Bn gR l vr vs vn us s w) (hb : Below w.heap.size w W) (hB : W.heap[B]? = some (.cells #[.int .i64 n.to, .int .i64 n.hd, u] 50)) (hu : Ints (fun b => w.heap.size ≤ b) W u n.args) (hl : s.notes.length ≤ 1000) :
    ∃ g cap W', (Builtin.append_ #[24, 24] ty #[vn, .slice (some ⟨B, 0, none⟩) 1 1]).run Tryd.prog W = .ok (.slice (some ⟨g, 0, none⟩) (s.notes.length + 1) cap) W' ∧ NA w1 Bn gR l vr vs us s n u (.slice (some ⟨g, 0, none⟩) (s.notes.length + 1) cap) W' := by
  obtain ⟨i0, hi0, hz0, hz1, hz2⟩ := info_parts infoNt
  have hW := h.below hb
  obtain ⟨g, cap, W', hr, ho, hg, hat, _⟩ := run_append_lies (P := Tryd.prog) W 24 ty w1.heap.size 50 i0 _ 3 40 Tryd.underlying24 hi0 hz0 hz1 hz2 rfl (by decide) vn s.notes.length _ hW.nt.own ⟨B, 0, none⟩ 1 1 [.int .i64 n.to, .int .i64 n.hd, u] rfl (fun j v hv => World.news_of_block hB j v (by simpa using hv))
    (fun v hv => by
      obtain ⟨A, c, rfl, _⟩ := hu.form
      simp only [List.mem_cons, List.not_mem_nil, or_false] at hv
      rcases hv with rfl | rfl | rfl <;> rfl) (by decide) (by unfold maxLen; omega) (by omega) hW.sz W.heap.size rfl
  refine ⟨g, cap, W', hr, ?_⟩
  have key : ∀ b, b < W.heap.size → vn.ownBlock ≠ some b → W'.heap[b]? = W.heap[b]? := fun b hb hn => hg.block b hb fun e => hn e.symm
  have low : ∀ b, b < w1.heap.size → vn.ownBlock ≠ some b := fun b hb e => by have := (own_lt hW.nt.own e).1; omega
  have hex : ∀ b, vs.ownBlock = some b → b < w.heap.size := fun b e => (own_lt h.st e).2
  exact ⟨Nat.le_trans hW.sz hg.size, ⟨hg.os.trans hW.os.1, hg.tape.trans hW.os.2.1, hg.output.trans hW.os.2.2⟩, fun b q1 q2 q3 => (key b (Nat.lt_of_lt_of_le q1 hW.sz) (low b q1)).trans (hW.fix b q1 q2 q3),
    hW.now.of_block (key Bn (Nat.lt_of_lt_of_le hW.lts.1 hW.sz) (low Bn hW.lts.1)), hW.lts, hW.rg.same fun g' hg' => by
      rw [hW.rb] at hg'
      cases hg'
      exact key gR (Nat.lt_of_lt_of_le hW.lts.2.1 hW.sz) (low gR hW.lts.2.1), hW.rb,
    hW.st.same fun g' hg' => key g' (own_lt hW.st hg').2 (fun e => hW.nt.nx g' e hg'),
    h.nt.push h.sz hb hex ho hg hat hu⟩
variable {ops : Array Oper} {o : Oper} {ac : Act} {Q : Exit → Act → World → Prop} {K : Act → World → Prop}
theorem step_note (hgd : o.guard = none) (a x : Operand) (ho : o.op = .call { callee := .builtin .append, args := #[a, x], argTypes := #[24, 24] }) {E : Prop} (h : RS w1 Bn gR l vr vs vn us s w) (hs : ac.eval a = vn) (hx : ac.eval x = .slice (some ⟨B, 0, none⟩) 1 1)
    (hb : Below w.heap.size w W) (hB : W.heap[B]? = some (.cells #[.int .i64 n.to, .int .i64 n.hd, u] 50)) (hu : Ints (fun b => w.heap.size ≤ b) W u n.args) (hl : s.notes.length ≤ 1000)
    (hK : ∀ g cap W', NA w1 Bn gR l vr vs us s n u (.slice (some ⟨g, 0, none⟩) (s.notes.length + 1) cap) W' → K (ac.put o.dst (.slice (some ⟨g, 0, none⟩) (s.notes.length + 1) cap)) W') :
    if Region.wanted o (yielded ops ac.tmps) = true then Oper.wp Tryd.prog o ac W K Q else E := by
  have hw : Region.wanted o (yielded ops ac.tmps) = true := by simp [Region.wanted, hgd]
  rw [if_pos hw]
  obtain ⟨g, cap, W', hr, hna⟩ := run_note o.type h hb hB hu hl
  unfold Oper.wp execOp
  simp only [ho, resolve, invoke, builtin, Sem.run_bind, Sem.run_pure, Result.andThen_ok, List.map_toArray, List.map_cons, List.map_nil, hs, hx, hr]
  exact hK g cap W' hna
theorem RS.pcs (h : RS w1 Bn gR l vr vs vn us s w) (a b : Nat) : RS w1 Bn gR l vr vs vn us { s with pc := a, steps := b } w := ⟨h.sz, h.os, h.fix, h.now, h.lts, h.rg, h.rb, h.st, h.nt⟩
end
/-- What does not turn: the program's box, the result's, the state to fall back to. -/
structure FF (w0 : World) (Bf gF : Nat) (l : PLoc) (vf : Value) (pc : Array Value) (w : World) : Prop where
  low : Below w0.heap.size w0 w
  pb : w.heap[w0.heap.size]? = some (.cells pc 26)
  rs : w.heap[w0.heap.size + 2]? = some (.cells #[.slice none 0 0, .bool false, .int .i64 0, .int .i64 0, .int .i64 0, .slice none 0 0, .int .i64 0] 37)
  fl : w.heap[Bf]? = some (.cells #[vf, .bool l.armed, .int .i64 l.down, .int .i64 l.sent, .int .i64 l.over] 29)
  fr : OwnIV w0.heap.size w vf l.regs
  fb : vf.ownBlock = some gF
  ne : w0.heap.size + 2 < Bf ∧ w0.heap.size + 2 < gF ∧ gF ≠ Bf
section
variable {w0 w1 w W : World} {Bn gR Bf gF : Nat} {l : PLoc} {vr vs vn vf : Value} {us : List Value} {s : MS} {pc : Array Value}
theorem FF.of_rs (h : FF w0 Bf gF l vf pc w1) (r : RS w1 Bn gR l vr vs vn us s w) (hB : w0.heap.size + 2 < Bn ∧ Bn ≠ Bf ∧ Bn ≠ gF) (hR : w0.heap.size + 2 < gR ∧ gR ≠ Bf ∧ gR ≠ gF) : FF w0 Bf gF l vf pc w := by
  have hz : ∀ {b : Nat} {o : Obj}, w1.heap[b]? = some o → b < w1.heap.size := fun e => (Array.getElem?_eq_some_iff.1 e).1
  refine ⟨⟨r.os.1.trans h.low.os, r.os.2.1.trans h.low.tape, r.os.2.2.trans h.low.output, Nat.le_trans h.low.size r.sz, fun b hb => (r.fix b (Nat.lt_of_lt_of_le hb h.low.size) (by omega) (by omega)).trans (h.low.block b hb)⟩, (r.fix _ (hz h.pb) (by omega) (by omega)).trans h.pb, (r.fix _ (hz h.rs) (by omega) (by omega)).trans h.rs, (r.fix _ (hz h.fl) (fun e => hB.2.1 e.symm) (fun e => hR.2.1 e.symm)).trans h.fl, ?_, h.fb, h.ne⟩
  exact h.fr.same fun g hg => by
    rw [h.fb] at hg
    cases hg
    exact r.fix gF (own_lt h.fr h.fb).2 (fun e => hB.2.2 e.symm) (fun e => hR.2.2 e.symm)
theorem FF.below (h : FF w0 Bf gF l vf pc w) (hb : Below w.heap.size w W) : FF w0 Bf gF l vf pc W := by
  have hz : ∀ {b : Nat} {o : Obj}, w.heap[b]? = some o → b < w.heap.size := fun e => (Array.getElem?_eq_some_iff.1 e).1
  exact ⟨bTrans h.low hb, (hb.block _ (hz h.pb)).trans h.pb, (hb.block _ (hz h.rs)).trans h.rs, (hb.block _ (hz h.fl)).trans h.fl, h.fr.same fun g hg => hb.block g (own_lt h.fr hg).2, h.fb, h.ne⟩
end
end Go.Proofs.YtfbeiedhdmndnaaDoor
namespace Go.Proofs.YtfbeiedhdmndnaaDoor
open Go.RowKit
attribute [local go_sem ↓] Go.wp_at_zero Go.wp_at_succ
def cBV : Go.Code → Go.Code | .seq _ b => b | c => c
def cAV : Go.Code → Go.Code | .seq a _ => a | c => c
def cI : Go.Code → Go.Code | .block _ c => c | .loop c => c | c => c
def cT : Go.Code → Go.Code | .cond _ t _ => t | c => c
def cE : Go.Code → Go.Code | .cond _ _ e => e | c => c
noncomputable def sw : Go.Code := cI (cBV (cBV (cBV (cBV (cBV (cBV (cI (cBV (cI (cI (cAV (cBV (cBV (cBV (cBV (cBV (cBV (cBV (cBV (cBV (cBV (cBV (Tryd.f12.body.getD .skip)))))))))))))))))))))))
/-- The frame's slots below 77 (the variables, and c.Op) are as they were. -/
def Ag (a b : Act) : Prop := b.tmps.size = 330 ∧ b.defers = a.defers ∧ ∀ t, t < 77 → b.tmps[t]? = a.tmps[t]?
theorem Ag.refl {a : Act} (h : a.tmps.size = 330) : Ag a a := ⟨h, rfl, fun _ _ => rfl⟩
theorem Ag.trans {a b c : Act} (h : Ag a b) (k : Ag b c) : Ag a c := ⟨k.1, k.2.1.trans h.2.1, fun t ht => (k.2.2 t ht).trans (h.2.2 t ht)⟩
theorem Ag.put {a b : Act} (h : Ag a b) {d : Nat} (hd : 77 ≤ d) (v : Value) : Ag a (b.put (some d) v) :=
  ⟨by simp [Act.put, h.1], h.2.1, fun t ht => by
    show (b.tmps.setIfInBounds d v)[t]? = _
    rw [Array.getElem?_setIfInBounds_ne (by omega)]; exact h.2.2 t ht⟩
set_option maxHeartbeats 1000000 in
theorem cmp_step {t1 t2 id d1 d2 : Nat} {p1 p2 : String} {f1 f2 : Array Edge} {k op : Int} {leaf rest : Go.Code} {a : Act} {Q : Exit → Act → World → Prop} {w : World} (hs : a.tmps.size = 330) (h1 : 77 ≤ d1) (hd1 : d1 < 330) (h2 : 77 ≤ d2) (hd2 : d2 < 330) (h76 : a.tmps[76]? = some (.int .i64 op))
    (H : ∀ b, Ag a b → (if op = k then leaf else rest).wp Tryd.prog Q b w) :
    Go.Code.wp Tryd.prog ((Go.Code.region id #[{ dst := some d1, op := .binOp .eql 3 (.tmp 76) (.const (.int .i64 k)) 3, type := t1, pos := p1, after := f1, guard := none }, { dst := some d2, op := .assign (.tmp d1), type := t2, pos := p2, after := f2, guard := none }] false).seq (Go.Code.cond (.tmp d2) leaf rest)) Q a w := by
  have h76' : a.tmps[76]'(by omega) = .int .i64 op := by
    rw [Array.getElem?_eq_getElem (by omega)] at h76
    exact Option.some.inj h76
  have HH := H _ (((Ag.refl hs).put h1 (.bool (op == k))).put h2 (.bool (op == k)))
  clear H h76
  go_wp2
  refine wp_cond (t := op == k) (by simp [Act.eval, hs, hd2]) ?_
  have e : (if (op == k) = true then leaf else rest) = (if op = k then leaf else rest) := by simp
  rw [e]
  exact HH
theorem cmp_no {t1 t2 id d1 d2 : Nat} {p1 p2 : String} {f1 f2 : Array Edge} {k op : Int} {leaf rest : Go.Code} {a : Act} {Q : Exit → Act → World → Prop} {w : World} (hs : a.tmps.size = 330) (h76 : a.tmps[76]? = some (.int .i64 op)) (hne : op ≠ k) (h1 : 77 ≤ d1 ∧ d1 < 330 ∧ 77 ≤ d2 ∧ d2 < 330)
    (H : ∀ b, Ag a b → rest.wp Tryd.prog Q b w) :
    Go.Code.wp Tryd.prog ((Go.Code.region id #[{ dst := some d1, op := .binOp .eql 3 (.tmp 76) (.const (.int .i64 k)) 3, type := t1, pos := p1, after := f1, guard := none }, { dst := some d2, op := .assign (.tmp d1), type := t2, pos := p2, after := f2, guard := none }] false).seq (Go.Code.cond (.tmp d2) leaf rest)) Q a w :=
  cmp_step hs h1.1 h1.2.1 h1.2.2.1 h1.2.2.2 h76 fun b hb => by rw [if_neg hne]; exact H b hb
theorem cmp_yes {t1 t2 id d1 d2 : Nat} {p1 p2 : String} {f1 f2 : Array Edge} {k op : Int} {leaf rest : Go.Code} {a : Act} {Q : Exit → Act → World → Prop} {w : World} (hs : a.tmps.size = 330) (h76 : a.tmps[76]? = some (.int .i64 op)) (he : op = k) (h1 : 77 ≤ d1 ∧ d1 < 330 ∧ 77 ≤ d2 ∧ d2 < 330)
    (H : ∀ b, Ag a b → leaf.wp Tryd.prog Q b w) :
    Go.Code.wp Tryd.prog ((Go.Code.region id #[{ dst := some d1, op := .binOp .eql 3 (.tmp 76) (.const (.int .i64 k)) 3, type := t1, pos := p1, after := f1, guard := none }, { dst := some d2, op := .assign (.tmp d1), type := t2, pos := p2, after := f2, guard := none }] false).seq (Go.Code.cond (.tmp d2) leaf rest)) Q a w :=
  cmp_step hs h1.1 h1.2.1 h1.2.2.1 h1.2.2.2 h76 fun b hb => by rw [if_pos he]; exact H b hb
end Go.Proofs.YtfbeiedhdmndnaaDoor
