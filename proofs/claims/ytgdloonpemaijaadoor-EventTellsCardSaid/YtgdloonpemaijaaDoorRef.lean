/-
  What the reference's CheckInstr and CheckNote answer. No further conditions.
-/
import Derived.Test.YtgdloonpemaijaaDoorChk2
namespace Go.Proofs.YtgdloonpemaijaaDoor
open Go.RowKit

set_option maxHeartbeats 1600000 in
theorem rinstr_any (w : World) (i : PIns) (n args hs : Int) :
    Calls Tryd.prog 122 #[.agg #[.int .i64 i.op, .int .i64 i.a], .int .i64 n, .int .i64 args, .int .i64 hs] w fun e w' => e = .returned (.int .i64 (chkI n args hs i)) ∧ Below w.heap.size w w' := by
  have HB : ∀ (x : Obj), Below w.heap.size w (w.alloc x) := fun x => bAlloc (bRefl w) x
  cases hv : vl i.op with
  | false =>
    go_enter Tryd.func122, Tryd.ntmps122
    go_wp2_with (go_at_call 149; refine (rvalid_any _ _).mono ?_; rintro e w' ⟨rfl, rfl⟩)
    go_ret
    exact ⟨ret_int (chkI_bad hv), HB _⟩
  | true =>
    rcases opd_all i.op with ho | ho | ho | ho | ho | ho
    · by_cases h : i.a = 0
      · have h' := ne0_no h
        have HR : Hid (0 = chkI n args hs i) := by rw [← chkI_0 hv ho, h]; rfl
        clear h
        go_enter Tryd.func122, Tryd.ntmps122
        go_wp2_with (first | (go_at_call 149; refine (rvalid_any _ _).mono ?_; rintro e w' ⟨rfl, rfl⟩) | (go_at_call 150; refine (roper_any _ _).mono ?_; rintro e w' ⟨rfl, rfl⟩))
        go_ret
        exact ⟨ret_int HR.out, HB _⟩
      · have h' := ne0_yes h
        have HR : Hid (1 = chkI n args hs i) := by rw [← chkI_0 hv ho]; simp [unl, h, Hid]
        clear h
        go_enter Tryd.func122, Tryd.ntmps122
        go_wp2_with (first | (go_at_call 149; refine (rvalid_any _ _).mono ?_; rintro e w' ⟨rfl, rfl⟩) | (go_at_call 150; refine (roper_any _ _).mono ?_; rintro e w' ⟨rfl, rfl⟩))
        go_ret
        exact ⟨ret_int HR.out, HB _⟩
    · by_cases h0 : 0 ≤ i.a
      · by_cases h1 : i.a ≤ n
        · have HR : Hid (0 = chkI n args hs i) := by rw [← chkI_4 hv ho, in_yes ⟨h0, h1⟩]; rfl
          go_enter Tryd.func122, Tryd.ntmps122
          go_wp2_with (first | (go_at_call 149; refine (rvalid_any _ _).mono ?_; rintro e w' ⟨rfl, rfl⟩) | (go_at_call 150; refine (roper_any _ _).mono ?_; rintro e w' ⟨rfl, rfl⟩))
          go_ret
          exact ⟨ret_int HR.out, HB _⟩
        · have HR : Hid (4 = chkI n args hs i) := by rw [← chkI_4 hv ho, in_no (fun h => h1 h.2)]; rfl
          go_enter Tryd.func122, Tryd.ntmps122
          go_wp2_with (first | (go_at_call 149; refine (rvalid_any _ _).mono ?_; rintro e w' ⟨rfl, rfl⟩) | (go_at_call 150; refine (roper_any _ _).mono ?_; rintro e w' ⟨rfl, rfl⟩))
          go_ret
          exact ⟨ret_int HR.out, HB _⟩
      · have HR : Hid (4 = chkI n args hs i) := by rw [← chkI_4 hv ho, in_no (fun h => h0 h.1)]; rfl
        go_enter Tryd.func122, Tryd.ntmps122
        go_wp2_with (first | (go_at_call 149; refine (rvalid_any _ _).mono ?_; rintro e w' ⟨rfl, rfl⟩) | (go_at_call 150; refine (roper_any _ _).mono ?_; rintro e w' ⟨rfl, rfl⟩))
        go_ret
        exact ⟨ret_int HR.out, HB _⟩
    · by_cases h0 : 0 ≤ i.a
      · by_cases h1 : i.a < 8
        · have HR : Hid (0 = chkI n args hs i) := by rw [← chkI_2 hv ho, in_yes ⟨h0, by omega⟩]; rfl
          go_enter Tryd.func122, Tryd.ntmps122
          go_wp2_with (first | (go_at_call 149; refine (rvalid_any _ _).mono ?_; rintro e w' ⟨rfl, rfl⟩) | (go_at_call 150; refine (roper_any _ _).mono ?_; rintro e w' ⟨rfl, rfl⟩))
          go_ret
          exact ⟨ret_int HR.out, HB _⟩
        · have HR : Hid (6 = chkI n args hs i) := by rw [← chkI_2 hv ho, in_no (fun h => h1 (by omega))]; rfl
          go_enter Tryd.func122, Tryd.ntmps122
          go_wp2_with (first | (go_at_call 149; refine (rvalid_any _ _).mono ?_; rintro e w' ⟨rfl, rfl⟩) | (go_at_call 150; refine (roper_any _ _).mono ?_; rintro e w' ⟨rfl, rfl⟩))
          go_ret
          exact ⟨ret_int HR.out, HB _⟩
      · have HR : Hid (6 = chkI n args hs i) := by rw [← chkI_2 hv ho, in_no (fun h => h0 h.1)]; rfl
        go_enter Tryd.func122, Tryd.ntmps122
        go_wp2_with (first | (go_at_call 149; refine (rvalid_any _ _).mono ?_; rintro e w' ⟨rfl, rfl⟩) | (go_at_call 150; refine (roper_any _ _).mono ?_; rintro e w' ⟨rfl, rfl⟩))
        go_ret
        exact ⟨ret_int HR.out, HB _⟩
    · by_cases h0 : 0 ≤ i.a
      · by_cases h1 : i.a < args
        · have HR : Hid (0 = chkI n args hs i) := by rw [← chkI_3 hv ho, in_yes ⟨h0, by omega⟩]; rfl
          go_enter Tryd.func122, Tryd.ntmps122
          go_wp2_with (first | (go_at_call 149; refine (rvalid_any _ _).mono ?_; rintro e w' ⟨rfl, rfl⟩) | (go_at_call 150; refine (roper_any _ _).mono ?_; rintro e w' ⟨rfl, rfl⟩))
          go_ret
          exact ⟨ret_int HR.out, HB _⟩
        · have HR : Hid (6 = chkI n args hs i) := by rw [← chkI_3 hv ho, in_no (fun h => h1 (by omega))]; rfl
          go_enter Tryd.func122, Tryd.ntmps122
          go_wp2_with (first | (go_at_call 149; refine (rvalid_any _ _).mono ?_; rintro e w' ⟨rfl, rfl⟩) | (go_at_call 150; refine (roper_any _ _).mono ?_; rintro e w' ⟨rfl, rfl⟩))
          go_ret
          exact ⟨ret_int HR.out, HB _⟩
      · have HR : Hid (6 = chkI n args hs i) := by rw [← chkI_3 hv ho, in_no (fun h => h0 h.1)]; rfl
        go_enter Tryd.func122, Tryd.ntmps122
        go_wp2_with (first | (go_at_call 149; refine (rvalid_any _ _).mono ?_; rintro e w' ⟨rfl, rfl⟩) | (go_at_call 150; refine (roper_any _ _).mono ?_; rintro e w' ⟨rfl, rfl⟩))
        go_ret
        exact ⟨ret_int HR.out, HB _⟩
    · by_cases h0 : 0 ≤ i.a
      · by_cases h1 : i.a < hs
        · have HR : Hid (0 = chkI n args hs i) := by rw [← chkI_5 hv ho, in_yes ⟨h0, by omega⟩]; rfl
          go_enter Tryd.func122, Tryd.ntmps122
          go_wp2_with (first | (go_at_call 149; refine (rvalid_any _ _).mono ?_; rintro e w' ⟨rfl, rfl⟩) | (go_at_call 150; refine (roper_any _ _).mono ?_; rintro e w' ⟨rfl, rfl⟩))
          go_ret
          exact ⟨ret_int HR.out, HB _⟩
        · have HR : Hid (7 = chkI n args hs i) := by rw [← chkI_5 hv ho, in_no (fun h => h1 (by omega))]; rfl
          go_enter Tryd.func122, Tryd.ntmps122
          go_wp2_with (first | (go_at_call 149; refine (rvalid_any _ _).mono ?_; rintro e w' ⟨rfl, rfl⟩) | (go_at_call 150; refine (roper_any _ _).mono ?_; rintro e w' ⟨rfl, rfl⟩))
          go_ret
          exact ⟨ret_int HR.out, HB _⟩
      · have HR : Hid (7 = chkI n args hs i) := by rw [← chkI_5 hv ho, in_no (fun h => h0 h.1)]; rfl
        go_enter Tryd.func122, Tryd.ntmps122
        go_wp2_with (first | (go_at_call 149; refine (rvalid_any _ _).mono ?_; rintro e w' ⟨rfl, rfl⟩) | (go_at_call 150; refine (roper_any _ _).mono ?_; rintro e w' ⟨rfl, rfl⟩))
        go_ret
        exact ⟨ret_int HR.out, HB _⟩
    · go_enter Tryd.func122, Tryd.ntmps122
      go_wp2_with (first | (go_at_call 149; refine (rvalid_any _ _).mono ?_; rintro e w' ⟨rfl, rfl⟩) | (go_at_call 150; refine (roper_any _ _).mono ?_; rintro e w' ⟨rfl, rfl⟩))
      go_ret
      exact ⟨ret_int (chkI_1 hv ho), HB _⟩

set_option maxHeartbeats 1600000 in
theorem rnte_any (w : World) (v vp : Value) (n : PNte) (p : PPrg) (hv : NteV w v n) (hp : PrgV w vp p) :
    Calls Tryd.prog 112 #[vp, v] w fun e w' => e = .returned (.int .i64 (chkN p.acs.length p.hs n)) ∧ Below w.heap.size w w' := by
  obtain ⟨c, rfl, hc⟩ := hv
  obtain ⟨A, cc, rfl, hl⟩ := hc.form
  obtain ⟨va, vb, vc, rfl, h1, h2, h3⟩ := hp
  obtain ⟨A1, c1, rfl, hl1⟩ := h1.form
  obtain ⟨A2, c2, rfl, hl2⟩ := h2.form
  obtain ⟨A3, c3, rfl, hl3⟩ := h3.form
  have HB : ∀ (x y : Obj), Below w.heap.size w ((w.alloc x).alloc y) := fun x y => bAlloc (bAlloc (bRefl w) x) y
  obtain ⟨t, d, l⟩ := n
  dsimp only at hl hc ⊢
  clear hc h2 h3
  by_cases a1 : 0 ≤ t
  · by_cases a2 : t < p.acs.length
    · by_cases a3 : 0 ≤ d
      · by_cases a4 : d < p.hs.length
        · obtain ⟨k, rfl⟩ := Int.eq_ofNat_of_zero_le a3
          have hk : k < p.hs.length := by omega
          obtain ⟨b1, o1, x, v1, rfl, hx, hz1, q1, q2, hv1⟩ := h1.cell (bRefl w) hk
          have HA : Hid (argsOf p.hs (k : Int) = x.args) := argsOf_at hx
          clear hx
          by_cases e : (l.length : Int) = x.args
          · have HR : Hid (0 = chkN p.acs.length p.hs ⟨t, (k : Int), l⟩) := by unfold chkN; rw [if_pos ⟨⟨a1, a2⟩, ⟨a3, a4⟩⟩, HA.out, if_pos e]; rfl
            have e' := ne_no e
            clear e
            go_enter Tryd.func112, Tryd.ntmps112
            go_wp2
            go_quiet (fail)
            go_wp2
            go_ret
            exact ⟨ret_int HR.out, bDrewN (HB _ _) _⟩
          · have HR : Hid (1 = chkN p.acs.length p.hs ⟨t, (k : Int), l⟩) := by unfold chkN; rw [if_pos ⟨⟨a1, a2⟩, ⟨a3, a4⟩⟩, HA.out, if_neg e]; rfl
            have e' := ne_yes e
            clear e
            go_enter Tryd.func112, Tryd.ntmps112
            go_wp2
            go_quiet (fail)
            go_wp2
            go_ret
            exact ⟨ret_int HR.out, bDrewN (HB _ _) _⟩
        · have HR : Hid (7 = chkN p.acs.length p.hs ⟨t, d, l⟩) := by unfold chkN; rw [if_neg (fun h => a4 h.2.2)]; rfl
          go_enter Tryd.func112, Tryd.ntmps112
          go_wp2
          go_ret
          exact ⟨ret_int HR.out, HB _ _⟩
      · have HR : Hid (7 = chkN p.acs.length p.hs ⟨t, d, l⟩) := by unfold chkN; rw [if_neg (fun h => a3 h.2.1)]; rfl
        go_enter Tryd.func112, Tryd.ntmps112
        go_wp2
        go_ret
        exact ⟨ret_int HR.out, HB _ _⟩
    · have HR : Hid (7 = chkN p.acs.length p.hs ⟨t, d, l⟩) := by unfold chkN; rw [if_neg (fun h => a2 h.1.2)]; rfl
      go_enter Tryd.func112, Tryd.ntmps112
      go_wp2
      go_ret
      exact ⟨ret_int HR.out, HB _ _⟩
  · have HR : Hid (7 = chkN p.acs.length p.hs ⟨t, d, l⟩) := by unfold chkN; rw [if_neg (fun h => a1 h.1.1)]; rfl
    go_enter Tryd.func112, Tryd.ntmps112
    go_wp2
    go_ret
    exact ⟨ret_int HR.out, HB _ _⟩
end Go.Proofs.YtgdloonpemaijaaDoor
