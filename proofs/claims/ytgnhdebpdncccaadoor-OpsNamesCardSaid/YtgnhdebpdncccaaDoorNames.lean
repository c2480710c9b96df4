/-
  For every two numbers OpsNames answers true, and its arguments read as they did; the table of the instructions is tied to the program's own text. No further conditions.
-/
import Derived.Test.YtgnhdebpdncccaaDoorRows
import Derived.Test.YtgnhdebpdncccaaDoorTie
import Derived.Test.YtgnhdebpdncccaaDoorCards
import Derived.Test.YtgnhdebpdncccaaDoorUp
import Derived.Test.YtgnhdebpdncccaaDoorLaid
import Derived.SevenTiedAt
namespace Go.Proofs.YtgnhdebpdncccaaDoor
open Go.ChangeShapes Go.WideShapes Go.ChangeAt Go.RowKit

theorem fnd_nm_all : ∀ i : Fin 26, fnd (nm i.val) = i.val := by decide +kernel
theorem fnd_nm {i : Nat} (h : i < 26) : fnd (nm i) = i := fnd_nm_all ⟨i, h⟩
theorem nm_ne {i j : Nat} (hi : i < 26) (hj : j < 26) (h : i ≠ j) : ((nm i).toList == (nm j).toList) = false := by
  cases e : ((nm i).toList == (nm j).toList) with
  | false => rfl
  | true => exact absurd (by rw [← fnd_nm hi, ← fnd_nm hj, eq_of_toList e]) h

set_option maxRecDepth 100000 in
set_option maxHeartbeats 1000000 in
theorem names_no (a b : Int) (w0 w : World) (h : Up w0 w) (ha : a < 1 ∨ 25 < a) : Calls Tryd.prog 4 #[.int .i64 a, .int .i64 b] w fun e w' => e = .returned (.bool true) ∧ Up w0 w' := by
  have v := vl_no ha
  have q : at_ a = 0 := at_no ha
  have n0 : nm 0 = ⟨#[]⟩ := rfl
  have f0 := fnd_none
  clear ha
  go_enter Tryd.func4, Tryd.ntmps4
  go_wp2_with (first
    | (go_at_call 9; refine (valid_up _ _).mono ?_; rintro e w' ⟨rfl, rfl⟩)
    | (go_at_call 7; refine (find_up w0 _ _ (by assumption)).mono ?_; rintro e w' ⟨rfl, rfl⟩)
    | (go_at_call 6; refine (awake_up w0 _ (by assumption)).mono ?_; rintro e w' ⟨rfl, hu⟩)
    | (go_at_call 11; refine (name_up w0 _ _ (by assumption)).mono ?_; rintro e w' ⟨rfl, hu⟩))
  go_ret
  exact ⟨rfl, by assumption⟩

set_option maxRecDepth 100000 in
set_option maxHeartbeats 1000000 in
theorem names_half (i : Nat) (b : Int) (w0 w : World) (h : Up w0 w) (h1 : 1 ≤ i) (h2 : i ≤ 25) (hb : b < 1 ∨ 25 < b) : Calls Tryd.prog 4 #[.int .i64 (i : Int), .int .i64 b] w fun e w' => e = .returned (.bool true) ∧ Up w0 w' := by
  have v := vl_yes (op := (i : Int)) (by omega) (by omega)
  have u := vl_no hb
  have q : at_ (i : Int) = i := (at_yes (by omega) (by omega)).trans (Int.toNat_natCast i)
  have f0 := fnd_nm (i := i) (by omega)
  have d0 : decide (0 < i) = true := decide_eq_true (by omega)
  clear hb
  go_enter Tryd.func4, Tryd.ntmps4
  go_wp2_with (first
    | (go_at_call 9; refine (valid_up _ _).mono ?_; rintro e w' ⟨rfl, rfl⟩)
    | (go_at_call 7; refine (find_up w0 _ _ (by assumption)).mono ?_; rintro e w' ⟨rfl, rfl⟩)
    | (go_at_call 6; refine (awake_up w0 _ (by assumption)).mono ?_; rintro e w' ⟨rfl, hu⟩)
    | (go_at_call 11; refine (name_up w0 _ _ (by assumption)).mono ?_; rintro e w' ⟨rfl, hu⟩))
  go_ret
  exact ⟨rfl, by assumption⟩

set_option maxRecDepth 100000 in
set_option maxHeartbeats 1000000 in
theorem names_same (i : Nat) (w0 w : World) (h : Up w0 w) (h1 : 1 ≤ i) (h2 : i ≤ 25) : Calls Tryd.prog 4 #[.int .i64 (i : Int), .int .i64 (i : Int)] w fun e w' => e = .returned (.bool true) ∧ Up w0 w' := by
  have v := vl_yes (op := (i : Int)) (by omega) (by omega)
  have q : at_ (i : Int) = i := (at_yes (by omega) (by omega)).trans (Int.toNat_natCast i)
  have f0 := fnd_nm (i := i) (by omega)
  have d0 : decide (0 < i) = true := decide_eq_true (by omega)
  go_enter Tryd.func4, Tryd.ntmps4
  go_wp2_with (first
    | (go_at_call 9; refine (valid_up _ _).mono ?_; rintro e w' ⟨rfl, rfl⟩)
    | (go_at_call 7; refine (find_up w0 _ _ (by assumption)).mono ?_; rintro e w' ⟨rfl, rfl⟩)
    | (go_at_call 6; refine (awake_up w0 _ (by assumption)).mono ?_; rintro e w' ⟨rfl, hu⟩)
    | (go_at_call 11; refine (name_up w0 _ _ (by assumption)).mono ?_; rintro e w' ⟨rfl, hu⟩))
  go_ret
  exact ⟨rfl, by assumption⟩

set_option maxRecDepth 100000 in
set_option maxHeartbeats 1000000 in
theorem names_two (i j : Nat) (w0 w : World) (h : Up w0 w) (h1 : 1 ≤ i) (h2 : i ≤ 25) (h3 : 1 ≤ j) (h4 : j ≤ 25) (hne : i ≠ j) : Calls Tryd.prog 4 #[.int .i64 (i : Int), .int .i64 (j : Int)] w fun e w' => e = .returned (.bool true) ∧ Up w0 w' := by
  have v := vl_yes (op := (i : Int)) (by omega) (by omega)
  have u := vl_yes (op := (j : Int)) (by omega) (by omega)
  have q : at_ (i : Int) = i := (at_yes (by omega) (by omega)).trans (Int.toNat_natCast i)
  have r : at_ (j : Int) = j := (at_yes (by omega) (by omega)).trans (Int.toNat_natCast j)
  have f0 := fnd_nm (i := i) (by omega)
  have d0 : decide (0 < i) = true := decide_eq_true (by omega)
  have n0 := nm_ne (i := i) (j := j) (by omega) (by omega) hne
  have n1 : ((i : Int) == (j : Int)) = false := beq_eq_false_iff_ne.2 (by omega)
  go_enter Tryd.func4, Tryd.ntmps4
  go_wp2_with (first
    | (go_at_call 9; refine (valid_up _ _).mono ?_; rintro e w' ⟨rfl, rfl⟩)
    | (go_at_call 7; refine (find_up w0 _ _ (by assumption)).mono ?_; rintro e w' ⟨rfl, rfl⟩)
    | (go_at_call 6; refine (awake_up w0 _ (by assumption)).mono ?_; rintro e w' ⟨rfl, hu⟩)
    | (go_at_call 11; refine (name_up w0 _ _ (by assumption)).mono ?_; rintro e w' ⟨rfl, hu⟩))
  go_ret
  exact ⟨rfl, by assumption⟩

theorem names_all (a b : Int) (w0 w : World) (h : Up w0 w) : Calls Tryd.prog 4 #[.int .i64 a, .int .i64 b] w fun e w' => e = .returned (.bool true) ∧ Up w0 w' := by
  by_cases ha : 1 ≤ a ∧ a ≤ 25
  · obtain ⟨i, rfl⟩ := Int.eq_ofNat_of_zero_le (show 0 ≤ a by omega)
    by_cases hb : 1 ≤ b ∧ b ≤ 25
    · obtain ⟨j, rfl⟩ := Int.eq_ofNat_of_zero_le (show 0 ≤ b by omega)
      by_cases e : i = j
      · subst e; exact names_same i w0 w h (by omega) (by omega)
      · exact names_two i j w0 w h (by omega) (by omega) (by omega) (by omega) e
    · exact names_half i b w0 w h (by omega) (by omega) (by omega)
  · exact names_no a b w0 w h (by omega)

set_option maxRecDepth 100000 in
theorem names_lifted (os : Os) (started : os.Started) (H : Type) (enc : TypeId × Value → H) :
    ReturnsInHanded {} Tryd.checked os 4 .any (fun w args => (Rows.opsNamesSpec.pre enc Tryd.prog Tryd.f4 [] false w args ∧ laidMetH Tryd.prog laid1 w) ∧ sizedMet enc Tryd.prog Tryd.f4 (OpenSpec.ofChange Rows.opsNamesSpec) false w args)
      (Rows.opsNamesSpec.post enc Tryd.prog Tryd.f4 false true false false) := by
  refine returnsInHanded_of_change_and (C := Tryd.checked) (X := fun w _ => laidMetH Tryd.prog laid1 w) (fun _ _ _ hh h => h.of_heap hh) own started (by kernel_rfl) Tryd.func4
    (ChangeSpec.witness_shaped (enc := enc) (C := Tryd.checked) (os := os) (X := fun w _ => laidMetH Tryd.prog laid1 w) false (World.doorLaid Tryd.prog 400 os) #[.int .i64 0, .int .i64 0] 8 rfl (World.shaped_of_RefB (by kernel_rfl) (by kernel_rfl)) (by kernel_rfl) (by kernel_rfl) (by kernel_rfl) (door_met os _)) ?_
  intro W base args ds gs before hval0 hW _ _ hL _
  have hval : ∀ (j : Nat) t v, Tryd.f4.params[j]? = some t → args[j]? = some v → Value.okWide Tryd.prog W .any base t v := hval0
  have hW' := hW
  obtain ⟨p, q, hA0, hV, rfl, hfz, hnd⟩ := hW
  have hA : DataW.TrodAll enc Tryd.prog W 0 (fun _ => true) true Tryd.f4.params.toList args.toList ds p := hA0
  rw [Tryd.params4] at hA hval
  obtain ⟨v0, v1, d0, d1, p0, p1, rfl, rfl, rfl, h0, h1⟩ := trodAll_two hA
  obtain ⟨rfl, rfl⟩ := trodVars_none hV
  obtain ⟨a0, rfl, rfl, rfl, w0⟩ := open_int Tryd.underlying3 (hval 0 3 v0 rfl rfl) h0
  obtain ⟨a1, rfl, rfl, rfl, w1⟩ := open_int Tryd.underlying3 (hval 1 3 v1 rfl rfl) h1
  clear hA0 hval0
  simp only [List.append_nil] at hW'
  refine (names_all a0 a1 W W (Up.start hL)).mono fun e W' ⟨he, hu⟩ => ?_
  subst he
  exact ⟨_, rfl, _, _, _, [], [], [], hW', trodAll_mk1 (shut_bool Tryd.underlying4 _), trodAll_mk2 (shut_int Tryd.underlying3 w0) (shut_int Tryd.underlying3 w1), rfl, hu.low.frame _, fun h => by cases h⟩

theorem names_row : Rows.OpsNamesSaid :=
  OpenClaim.holds_of_wide 4 Tryd.f4 rfl rfl rfl rfl rfl rfl rfl ⟨rfl, rfl, rfl, rfl, rfl⟩ rfl rfl rfl rfl rfl (by kernel_rfl) Tryd.func4 (by kernel_rfl)
    (of_decide_eq_true (by kernel_rfl)) (by unfold Func.isWrapper; first | (rw [if_pos (by decide +kernel)]; kernel_rfl) | (rw [if_neg (by decide +kernel)]; exact ⟨rfl, rfl⟩))
    (fun os started H enc _ => names_lifted os started H enc)

theorem opsNames_card : Rows.OpsNamesCardSaid :=
  Claim7.holds_tied_plain_at .later [] [.data] true (true, "3e2d9ed18818c0abd2dc6637d59905ded169a428ff5574d96a842d68ee2e16d3") false
    names_row (fun _ h => by cases h) (by kernel_rfl) (fun _ h => by cases h) opsNames_row_tie rfl ⟨rfl, rfl⟩ (by kernel_rfl) rfl
    (fun f fn hf hfn => by
      obtain rfl : f = 4 := Option.some.inj ((show Tryd.prog.funcNamed Rows.opsNamesRow.func = some 4 by kernel_rfl).symm.trans hf) |>.symm
      obtain rfl : fn = Tryd.f4 := (Option.some.inj (Tryd.func4.symm.trans hfn)).symm
      exact ⟨by kernel_rfl, fun j t ht => by
        rw [Tryd.params4] at ht
        have hm : t ∈ [3, 3] := by simpa using Array.mem_of_getElem? ht
        have hall : ([3, 3].all fun u => !Tryd.prog.wantsStandIn u) = true := by kernel_rfl
        exact (show Tryd.prog.wantsStandIn t = false by simpa using List.all_eq_true.1 hall t hm)⟩)
    (by kernel_rfl)
#print axioms opsNames_card
end Go.Proofs.YtgnhdebpdncccaaDoor
