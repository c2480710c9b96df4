/-
  What Check's own parts answer, more: of the counts, an actor, a note. No further conditions.
-/
import Derived.Test.YtgdloonpemaijaaDoorChk
namespace Go.Proofs.YtgdloonpemaijaaDoor
open Go.RowKit

theorem argsOf_at {hs : List PHnd} {k : Nat} {x : PHnd} (h : hs[k]? = some x) : argsOf hs (k : Int) = x.args := by
  unfold argsOf
  rw [if_pos (by omega), Int.toNat_natCast, h]
  rfl

set_option maxHeartbeats 800000 in
theorem counts_any (w : World) (v : Value) (p : PPrg) (h : PrgV w v p) :
    Calls Tryd.prog 116 #[v] w fun e w' => e = .returned (.int .i64 (chkC p)) ∧ Below w.heap.size w w' := by
  obtain ⟨a, b, c, rfl, h1, h2, h3⟩ := h
  obtain ⟨A1, c1, rfl, _⟩ := h1.form
  obtain ⟨A2, c2, rfl, _⟩ := h2.form
  obtain ⟨A3, c3, rfl, _⟩ := h3.form
  clear h1 h2 h3
  have HB : ∀ (x : Obj), Below w.heap.size w (w.alloc x) := fun x => bAlloc (bRefl w) x
  by_cases e1 : p.hs.length ≤ 16
  · by_cases e2 : p.acs.length ≤ 8
    · by_cases e3 : p.bs.length ≤ 16
      · by_cases e4 : p.acs.length = 0
        · have HR : Hid (1 = chkC p) := by unfold chkC; rw [if_pos ⟨e1, e2, e3⟩, if_neg (fun h => h.1 e4)]; rfl
          have e4' : ((p.acs.length : Int) == 0) = true := by simp; exact List.length_eq_zero_iff.1 e4
          clear e4
          go_enter Tryd.func116, Tryd.ntmps116
          go_wp2
          go_ret
          exact ⟨ret_int HR.out, HB _⟩
        · have e4' : ((p.acs.length : Int) == 0) = false := by simp; exact fun h => e4 (by rw [h]; rfl)
          by_cases e5 : 1 ≤ p.fuel ∧ p.fuel ≤ 256
          · have HR : Hid (0 = chkC p) := by unfold chkC; rw [if_pos ⟨e1, e2, e3⟩, if_pos ⟨e4, e5⟩]; rfl
            have hi := in_yes e5
            clear e4 e5
            go_enter Tryd.func116, Tryd.ntmps116
            go_wp2_with (go_at_call 144; refine (within_any _ _ _ _).mono ?_; rintro e w' ⟨rfl, rfl⟩)
            go_ret
            exact ⟨ret_int HR.out, HB _⟩
          · have HR : Hid (1 = chkC p) := by unfold chkC; rw [if_pos ⟨e1, e2, e3⟩, if_neg (fun h => e5 h.2)]; rfl
            have hi := in_no e5
            clear e4 e5
            go_enter Tryd.func116, Tryd.ntmps116
            go_wp2_with (go_at_call 144; refine (within_any _ _ _ _).mono ?_; rintro e w' ⟨rfl, rfl⟩)
            go_ret
            exact ⟨ret_int HR.out, HB _⟩
      · have HR : Hid (3 = chkC p) := by unfold chkC; rw [if_neg (by omega)]; rfl
        go_enter Tryd.func116, Tryd.ntmps116
        go_wp2
        go_ret
        exact ⟨ret_int HR.out, HB _⟩
    · have HR : Hid (3 = chkC p) := by unfold chkC; rw [if_neg (by omega)]; rfl
      go_enter Tryd.func116, Tryd.ntmps116
      go_wp2
      go_ret
      exact ⟨ret_int HR.out, HB _⟩
  · have HR : Hid (3 = chkC p) := by unfold chkC; rw [if_neg (by omega)]; rfl
    go_enter Tryd.func116, Tryd.ntmps116
    go_wp2
    go_ret
    exact ⟨ret_int HR.out, HB _⟩

set_option maxHeartbeats 800000 in
theorem act_any (w : World) (v vh : Value) (a : PAct) (hs : List PHnd) (hv : ActV w v a) (hh : Hnds anyB anyB w vh hs) :
    Calls Tryd.prog 118 #[v, vh] w fun e w' => e = .returned (.int .i64 (chkA hs a)) ∧ Below w.heap.size w w' := by
  obtain ⟨c, rfl, hc⟩ := hv
  obtain ⟨A, cc, rfl, hl⟩ := hc.form
  obtain ⟨A1, c1, rfl, hl1⟩ := hh.form
  have HB : ∀ (x : Obj), Below w.heap.size w (w.alloc x) := fun x => bAlloc (bRefl w) x
  obtain ⟨regs, cap, timer, armed⟩ := a
  dsimp only at hl hc ⊢
  clear hc
  by_cases e1 : regs.length ≤ 8
  · by_cases e2 : 0 ≤ cap ∧ cap ≤ 16
    · have hi := in_yes e2
      by_cases e3 : timer = -1
      · subst e3
        have HR : Hid (unl (!armed) 1 = chkA hs ⟨regs, cap, -1, armed⟩) := by unfold chkA; rw [if_pos e1, if_pos e2, if_pos rfl]; cases armed <;> rfl
        clear e2
        go_enter Tryd.func118, Tryd.ntmps118
        go_wp2_with (first
          | (go_at_call 144; refine (within_any _ _ _ _).mono ?_; rintro e w' ⟨rfl, rfl⟩)
          | (go_at_call 146; refine (unless_any _ _ _).mono ?_; rintro e w' ⟨rfl, rfl⟩))
        go_ret
        exact ⟨ret_int HR.out, HB _⟩
      · have e3' : (timer == -1) = false := by simp [e3]
        by_cases e4 : 0 ≤ timer ∧ timer < hs.length
        · have hi2 : inB timer 0 ((hs.length : Int) - 1) = true := in_yes (by omega)
          obtain ⟨k, rfl⟩ := Int.eq_ofNat_of_zero_le e4.1
          have hk : k < hs.length := by omega
          obtain ⟨b1, o1, x, v1, rfl, hx, hz1, q1, q2, hv1⟩ := hh.cell (bRefl w) hk
          have HA : Hid (argsOf hs (k : Int) = x.args) := argsOf_at hx
          clear hx
          by_cases e5 : x.args = 0
          · have HR : Hid (0 = chkA hs ⟨regs, cap, (k : Int), armed⟩) := by unfold chkA; rw [if_pos e1, if_pos e2, if_neg e3, if_pos ⟨e4, by rw [HA.out]; exact e5⟩]; rfl
            have e5' := ne0_no e5
            clear e2 e3 e5
            go_enter Tryd.func118, Tryd.ntmps118
            go_wp2_with (go_at_call 144; refine (within_any _ _ _ _).mono ?_; rintro e w' ⟨rfl, rfl⟩)
            go_ret
            exact ⟨ret_int HR.out, HB _⟩
          · have HR : Hid (7 = chkA hs ⟨regs, cap, (k : Int), armed⟩) := by unfold chkA; rw [if_pos e1, if_pos e2, if_neg e3, if_neg (fun h => e5 (by rw [← HA.out]; exact h.2))]; rfl
            have e5' := ne0_yes e5
            clear e2 e3 e5
            go_enter Tryd.func118, Tryd.ntmps118
            go_wp2_with (go_at_call 144; refine (within_any _ _ _ _).mono ?_; rintro e w' ⟨rfl, rfl⟩)
            go_ret
            exact ⟨ret_int HR.out, HB _⟩
        · have hi2 : inB timer 0 ((hs.length : Int) - 1) = false := in_no (by omega)
          have HR : Hid (7 = chkA hs ⟨regs, cap, timer, armed⟩) := by unfold chkA; rw [if_pos e1, if_pos e2, if_neg e3, if_neg (fun h => e4 h.1)]; rfl
          clear e2 e3 e4
          go_enter Tryd.func118, Tryd.ntmps118
          go_wp2_with (go_at_call 144; refine (within_any _ _ _ _).mono ?_; rintro e w' ⟨rfl, rfl⟩)
          go_ret
          exact ⟨ret_int HR.out, HB _⟩
    · have hi := in_no e2
      have HR : Hid (1 = chkA hs ⟨regs, cap, timer, armed⟩) := by unfold chkA; rw [if_pos e1, if_neg e2]; rfl
      clear e2
      go_enter Tryd.func118, Tryd.ntmps118
      go_wp2_with (go_at_call 144; refine (within_any _ _ _ _).mono ?_; rintro e w' ⟨rfl, rfl⟩)
      go_ret
      exact ⟨ret_int HR.out, HB _⟩
  · have HR : Hid (3 = chkA hs ⟨regs, cap, timer, armed⟩) := by unfold chkA; rw [if_neg e1]; rfl
    go_enter Tryd.func118, Tryd.ntmps118
    go_wp2
    go_ret
    exact ⟨ret_int HR.out, HB _⟩

set_option maxHeartbeats 800000 in
theorem nte_any (w : World) (v vp : Value) (n : PNte) (p : PPrg) (hv : NteV w v n) (hp : PrgV w vp p) :
    Calls Tryd.prog 119 #[v, vp] w fun e w' => e = .returned (.int .i64 (chkN p.acs.length p.hs n)) ∧ Below w.heap.size w w' := by
  obtain ⟨c, rfl, hc⟩ := hv
  obtain ⟨A, cc, rfl, hl⟩ := hc.form
  obtain ⟨va, vb, vc, rfl, h1, h2, h3⟩ := hp
  obtain ⟨A1, c1, rfl, hl1⟩ := h1.form
  obtain ⟨A2, c2, rfl, hl2⟩ := h2.form
  obtain ⟨A3, c3, rfl, hl3⟩ := h3.form
  have HB : ∀ (x y : Obj), Below w.heap.size w ((w.alloc x).alloc y) := fun x y => bAlloc (bAlloc (bRefl w) x) y
  obtain ⟨t, d, l⟩ := n
  dsimp only at hl hc ⊢
  clear hc h2 h3
  by_cases e1 : 0 ≤ t ∧ t < p.acs.length
  · have hi1 : inB t 0 ((p.acs.length : Int) - 1) = true := in_yes (by omega)
    by_cases e2 : 0 ≤ d ∧ d < p.hs.length
    · have hi2 : inB d 0 ((p.hs.length : Int) - 1) = true := in_yes (by omega)
      obtain ⟨k, rfl⟩ := Int.eq_ofNat_of_zero_le e2.1
      have hk : k < p.hs.length := by omega
      obtain ⟨b1, o1, x, v1, rfl, hx, hz1, q1, q2, hv1⟩ := h1.cell (bRefl w) hk
      have HA : Hid (argsOf p.hs (k : Int) = x.args) := argsOf_at hx
      have HR : Hid (unl ((l.length : Int) == x.args) 1 = chkN p.acs.length p.hs ⟨t, (k : Int), l⟩) := by
        unfold chkN; rw [if_pos ⟨e1, e2⟩, HA.out]; simp [unl, Hid]
      clear hx e1
      go_enter Tryd.func119, Tryd.ntmps119
      go_wp2_with (go_at_call 144; refine (within_any _ _ _ _).mono ?_; rintro e w' ⟨rfl, rfl⟩)
      go_quiet ((go_at_call 146; exact Calls.quiet_of_same (unless_any _ _ _)))
      go_wp2
      go_ret
      exact ⟨ret_int HR.out, bDrewN (HB _ _) _⟩
    · have hi2 : inB d 0 ((p.hs.length : Int) - 1) = false := in_no (by omega)
      have HR : Hid (7 = chkN p.acs.length p.hs ⟨t, d, l⟩) := by unfold chkN; rw [if_neg (fun h => e2 h.2)]; rfl
      clear e1 e2
      go_enter Tryd.func119, Tryd.ntmps119
      go_wp2_with (go_at_call 144; refine (within_any _ _ _ _).mono ?_; rintro e w' ⟨rfl, rfl⟩)
      go_ret
      exact ⟨ret_int HR.out, HB _ _⟩
  · have hi1 : inB t 0 ((p.acs.length : Int) - 1) = false := in_no (by omega)
    have HR : Hid (7 = chkN p.acs.length p.hs ⟨t, d, l⟩) := by unfold chkN; rw [if_neg (fun h => e1 h.1)]; rfl
    clear e1
    go_enter Tryd.func119, Tryd.ntmps119
    go_wp2_with (go_at_call 144; refine (within_any _ _ _ _).mono ?_; rintro e w' ⟨rfl, rfl⟩)
    go_ret
    exact ⟨ret_int HR.out, HB _ _⟩
end Go.Proofs.YtgdloonpemaijaaDoor
