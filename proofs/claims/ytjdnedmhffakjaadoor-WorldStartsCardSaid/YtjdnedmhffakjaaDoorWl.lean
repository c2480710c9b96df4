/-
  WorldStarts, walked. Conditions: the program is not too great, its numbers of 64 bits; what is read of the world is there.
-/
import Derived.Test.YtjdnedmhffakjaaDoorWj
import Derived.Test.YtjdnedmhffakjaaDoorWk
import Derived.Test.YtjdnedmhffakjaaDoorSmall
namespace Go.Proofs.YtjdnedmhffakjaaDoor
open Go.RowKit
attribute [local go_sem ↓] eq8
theorem starts_big (W : World) (vp : Value) (p : PPrg) (he : Env W) (hp : PrgV W vp p) (hs : ¬ Small p) :
    Calls Tryd.prog 3 #[vp] W fun e w' => e = .returned (.bool true) ∧ Below W.heap.size W w' := by
  have HP := hid_mk hp
  have HE := hid_mk he
  obtain ⟨vh, vb, vc, rfl, h1, h2, h3⟩ := hp
  obtain ⟨A1, c1, rfl, hl1⟩ := h1.form
  obtain ⟨A2, c2, rfl, hl2⟩ := h2.form
  obtain ⟨A3, c3, rfl, hl3⟩ := h3.form
  have hsm : small p = false := decide_eq_false hs
  clear h1 h2 h3 he hs
  go_enter Tryd.func3, Tryd.ntmps3
  go_wp2_with (first
    | (go_at_call 7; refine (small_any _ _ p (HP.out.below (by exact bAlloc (bRefl _) _))).mono ?_; rintro e w1 ⟨rfl, hb1⟩; have HB1 := hid_mk (bTrans (bAlloc (bRefl W) _) hb1); clear hb1)
    | (go_at_call 8; refine (awake_any _ (HE.out.below HB1.out)).mono ?_; rintro e w2 ⟨rfl, hb2⟩))
  go_ret
  exact ⟨rfl, bTrans HB1.out hb2⟩
set_option maxHeartbeats 1000000 in
set_option maxRecDepth 100000 in
theorem starts_no (W : World) (vp : Value) (p : PPrg) (he : Env W) (hp : PrgV W vp p) (hs : Small p) (hf : fc p ≠ 0) :
    Calls Tryd.prog 3 #[vp] W fun e w' => e = .returned (.bool true) ∧ Below W.heap.size W w' := by
  have HP := hid_mk hp
  have HE := hid_mk he
  have HF := hid_mk hf
  obtain ⟨vh, vb, vc, rfl, h1, h2, h3⟩ := hp
  obtain ⟨A1, c1, rfl, hl1⟩ := h1.form
  obtain ⟨A2, c2, rfl, hl2⟩ := h2.form
  obtain ⟨A3, c3, rfl, hl3⟩ := h3.form
  have hsm : small p = true := decide_eq_true hs
  have hfn := ne0_yes hf
  clear h1 h2 h3 he hs hf
  go_enter Tryd.func3, Tryd.ntmps3
  go_wp2_with (first
    | (go_at_call 7; refine (small_any _ _ p (HP.out.below (by exact bAlloc (bRefl _) _))).mono ?_; rintro e w1 ⟨rfl, hb1⟩; have hpb := boxAt (heap_new W (.cells #[.slice A1 p.hs.length c1, .slice A2 p.acs.length c2, .slice A3 p.bs.length c3, .int .i64 p.fuel] 26)) hb1; obtain ⟨k0, k1, k2, k3⟩ := blk4 hpb; have HB1 := hid_mk (bTrans (bAlloc (bRefl W) _) hb1); clear hb1 hpb)
    | (go_at_call 9; refine (start_no _ _ p (HE.out.below HB1.out).tab (HP.out.below HB1.out) HF.out).mono ?_; rintro e w2 ⟨rfl, hb2⟩; have HB2 := hid_mk (bTrans HB1.out hb2); clear hb2)
    | (go_at_call 8; refine (awake_any _ (HE.out.below (by exact bAlloc HB2.out _))).mono ?_; rintro e w3 ⟨rfl, hb3⟩))
  go_ret
  exact ⟨rfl, bTrans (bAlloc HB2.out _) hb3⟩
end Go.Proofs.YtjdnedmhffakjaaDoor
