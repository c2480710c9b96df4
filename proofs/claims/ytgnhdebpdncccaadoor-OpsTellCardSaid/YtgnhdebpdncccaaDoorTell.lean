/-
  For every number and every text OpsTell answers true, and its arguments read as they did; the table of the instructions is tied to the program's own text. No further conditions.
-/
import Derived.Test.YtgnhdebpdncccaaDoorRows
import Derived.Test.YtgnhdebpdncccaaDoorTie
import Derived.Test.YtgnhdebpdncccaaDoorCards
import Derived.Test.YtgnhdebpdncccaaDoorRef
import Derived.Test.YtgnhdebpdncccaaDoorLaid
import Derived.SevenTiedAt
namespace Go.Proofs.YtgnhdebpdncccaaDoor
open Go.ChangeShapes Go.WideShapes Go.ChangeAt Go.RowKit
open Go.ChangeMaps (open_string shut_string)

set_option maxRecDepth 100000 in
set_option maxHeartbeats 1000000 in
theorem tell_long (op : Int) (s : ByteArray) (w0 w : World) (h : Up w0 w) (hs : 100 < s.size) (hm : s.size ≤ maxLen) : Calls Tryd.prog 3 #[.int .i64 op, .string s] w fun e w' => e = .returned (.bool true) ∧ Up w0 w' := by
  unfold maxLen at hm
  go_enter Tryd.func3, Tryd.ntmps3
  go_wp2_with (go_at_call 6; refine (awake_up w0 _ (by assumption)).mono ?_; rintro e w' ⟨rfl, hu⟩)
  go_ret
  exact ⟨rfl, by assumption⟩

set_option maxRecDepth 100000 in
set_option maxHeartbeats 1000000 in
theorem tell_short (op : Int) (s : ByteArray) (w0 w : World) (h : Up w0 w) (hs : s.size ≤ 100) : Calls Tryd.prog 3 #[.int .i64 op, .string s] w fun e w' => e = .returned (.bool true) ∧ Up w0 w' := by
  go_enter Tryd.func3, Tryd.ntmps3
  go_wp2_with (first
    | (go_at_call 9; refine (valid_up _ _).mono ?_; rintro e w' ⟨rfl, rfl⟩)
    | (go_at_call 10; refine (rvalid_up _ _).mono ?_; rintro e w' ⟨rfl, rfl⟩)
    | (go_at_call 18; refine (roper_up _ _).mono ?_; rintro e w' ⟨rfl, rfl⟩)
    | (go_at_call 7; refine (find_up w0 _ _ (by assumption)).mono ?_; rintro e w' ⟨rfl, rfl⟩)
    | (go_at_call 8; refine (rfind_up w0 _ _ (by assumption)).mono ?_; rintro e w' ⟨rfl, hu⟩)
    | (go_at_call 6; refine (awake_up w0 _ (by assumption)).mono ?_; rintro e w' ⟨rfl, hu⟩)
    | (go_at_call 11; refine (name_up w0 _ _ (by assumption)).mono ?_; rintro e w' ⟨rfl, hu⟩)
    | (go_at_call 12; refine (rname_up w0 _ _ (by assumption)).mono ?_; rintro e w' ⟨rfl, hu⟩)
    | (go_at_call 13; refine (pops_up w0 _ _ (by assumption)).mono ?_; rintro e w' ⟨rfl, hu⟩)
    | (go_at_call 14; refine (rpops_up w0 _ _ (by assumption)).mono ?_; rintro e w' ⟨rfl, hu⟩)
    | (go_at_call 15; refine (puts_up w0 _ _ (by assumption)).mono ?_; rintro e w' ⟨rfl, hu⟩)
    | (go_at_call 16; refine (rputs_up w0 _ _ (by assumption)).mono ?_; rintro e w' ⟨rfl, hu⟩)
    | (go_at_call 17; refine (oper_up w0 _ _ (by assumption)).mono ?_; rintro e w' ⟨rfl, hu⟩))
  go_ret
  exact ⟨rfl, by assumption⟩

theorem tell_all (op : Int) (s : ByteArray) (w0 w : World) (h : Up w0 w) (hm : s.size ≤ maxLen) : Calls Tryd.prog 3 #[.int .i64 op, .string s] w fun e w' => e = .returned (.bool true) ∧ Up w0 w' := by
  by_cases hs : s.size ≤ 100
  · exact tell_short op s w0 w h hs
  · exact tell_long op s w0 w h (by omega) hm

set_option maxRecDepth 100000 in
theorem tell_lifted (os : Os) (started : os.Started) (H : Type) (enc : TypeId × Value → H) :
    ReturnsInHanded {} Tryd.checked os 3 .any (fun w args => (Rows.opsTellSpec.pre enc Tryd.prog Tryd.f3 [] false w args ∧ laidMetH Tryd.prog laid1 w) ∧ sizedMet enc Tryd.prog Tryd.f3 (OpenSpec.ofChange Rows.opsTellSpec) false w args)
      (Rows.opsTellSpec.post enc Tryd.prog Tryd.f3 false true false false) := by
  refine returnsInHanded_of_change_and (C := Tryd.checked) (X := fun w _ => laidMetH Tryd.prog laid1 w) (fun _ _ _ hh h => h.of_heap hh) own started (by kernel_rfl) Tryd.func3
    (ChangeSpec.witness_shaped (enc := enc) (C := Tryd.checked) (os := os) (X := fun w _ => laidMetH Tryd.prog laid1 w) false (World.doorLaid Tryd.prog 400 os) #[.int .i64 0, .string ByteArray.empty] 8 rfl (World.shaped_of_RefB (by kernel_rfl) (by kernel_rfl)) (by kernel_rfl) (by kernel_rfl) (by kernel_rfl) (door_met os _)) ?_
  intro W base args ds gs before hval0 hW _ _ hL _
  have hval : ∀ (j : Nat) t v, Tryd.f3.params[j]? = some t → args[j]? = some v → Value.okWide Tryd.prog W .any base t v := hval0
  have hW' := hW
  obtain ⟨p, q, hA0, hV, rfl, hfz, hnd⟩ := hW
  have hA : DataW.TrodAll enc Tryd.prog W 0 (fun _ => true) true Tryd.f3.params.toList args.toList ds p := hA0
  rw [Tryd.params3] at hA hval
  obtain ⟨v0, v1, d0, d1, p0, p1, rfl, rfl, rfl, h0, h1⟩ := trodAll_two hA
  obtain ⟨rfl, rfl⟩ := trodVars_none hV
  obtain ⟨a0, rfl, rfl, rfl, w0⟩ := open_int Tryd.underlying3 (hval 0 3 v0 rfl rfl) h0
  obtain ⟨a1, rfl, rfl, rfl, w1⟩ := open_string Tryd.underlying9 (hval 1 9 v1 rfl rfl) h1
  clear hA0 hval0
  simp only [List.append_nil] at hW'
  refine (tell_all a0 a1 W W (Up.start hL) w1).mono fun e W' ⟨he, hu⟩ => ?_
  subst he
  exact ⟨_, rfl, _, _, _, [], [], [], hW', trodAll_mk1 (shut_bool Tryd.underlying4 _), trodAll_mk2 (shut_int Tryd.underlying3 w0) (shut_string Tryd.underlying9 w1), rfl, hu.low.frame _, fun h => by cases h⟩

theorem tell_row : Rows.OpsTellSaid :=
  OpenClaim.holds_of_wide 3 Tryd.f3 rfl rfl rfl rfl rfl rfl rfl ⟨rfl, rfl, rfl, rfl, rfl⟩ rfl rfl rfl rfl rfl (by kernel_rfl) Tryd.func3 (by kernel_rfl)
    (of_decide_eq_true (by kernel_rfl)) (by unfold Func.isWrapper; first | (rw [if_pos (by decide +kernel)]; kernel_rfl) | (rw [if_neg (by decide +kernel)]; exact ⟨rfl, rfl⟩))
    (fun os started H enc _ => tell_lifted os started H enc)

theorem opsTell_card : Rows.OpsTellCardSaid :=
  Claim7.holds_tied_plain_at .later [] [.data] true (true, "3e2d9ed18818c0abd2dc6637d59905ded169a428ff5574d96a842d68ee2e16d3") false
    tell_row (fun _ h => by cases h) (by kernel_rfl) (fun _ h => by cases h) opsTell_row_tie rfl ⟨rfl, rfl⟩ (by kernel_rfl) rfl
    (fun f fn hf hfn => by
      obtain rfl : f = 3 := Option.some.inj ((show Tryd.prog.funcNamed Rows.opsTellRow.func = some 3 by kernel_rfl).symm.trans hf) |>.symm
      obtain rfl : fn = Tryd.f3 := (Option.some.inj (Tryd.func3.symm.trans hfn)).symm
      exact ⟨by kernel_rfl, fun j t ht => by
        rw [Tryd.params3] at ht
        have hm : t ∈ [3, 9] := by simpa using Array.mem_of_getElem? ht
        have hall : ([3, 9].all fun u => !Tryd.prog.wantsStandIn u) = true := by kernel_rfl
        exact (show Tryd.prog.wantsStandIn t = false by simpa using List.all_eq_true.1 hall t hm)⟩)
    (by kernel_rfl)
#print axioms opsTell_card
end Go.Proofs.YtgnhdebpdncccaaDoor
