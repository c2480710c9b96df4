/-
  For all numbers the law SumsLaws answers true: sums and products wrap, what was divided is made again of its parts, less and alike are told one way alone. No conditions.
-/
import Derived.Test.YtijogfikmcedbaaAwake
namespace Go.Proofs.Ytijogfikmcedbaa.sumsLaws
open Go.Proofs.Ytijogfikmcedbaa
open Go.ChangeShapes Go.WideShapes Go.ChangeAt Go.RowKit
set_option linter.unusedVariables false      -- a walk need not use every 'w<i>' (that an integer argument fits its kind)

theorem own : ownKnob Try.prog.godebug = none := by kernel_rfl

/-! ### STEP 1: THE WALK: the Go text returns true. 'Grown w w'': the world has at most new blocks (Derived/RowKit3.lean). Part the cases AHEAD of 'go_enter' where a test parts the walk; take each callee by a contract of your own. -/
set_option maxRecDepth 100000 in
set_option maxHeartbeats 2000000 in
theorem walk (a0 : Int) (a1 : Int) (a2 : Int) (w0 : (Lit.int .i64 a0).wf = true) (w1 : (Lit.int .i64 a1).wf = true) (w2 : (Lit.int .i64 a2).wf = true) (w : World) :
    Calls Try.prog 4 #[.int .i64 a0, .int .i64 a1, .int .i64 a2] w fun e w' => e = .returned (.bool true) ∧ Grown w w' := by
  have e1 := add_sub (b := a1) w0
  have e2 := mul_swap a0 a1
  have e3 := add_neg a0
  have e4 := mul_sum a0 a1 a2
  rcases Int.lt_trichotomy a0 a1 with h | h | h
  · have l1 : tw 16 a0 a1 = 1 := by rw [tw_less]; simp [tr, h]
    have l2 : tw 16 a1 a0 = 0 := by rw [tw_less]; simp [tr]; omega
    have l3 : tw 15 a0 a1 = 0 := by rw [tw_eq]; simp [tr]; omega
    by_cases hb : a1 = 0
    · subst hb
      have d1 := tw_div0 a0
      have d2 := tw_mod0 a0
      have d3 : dn 12 0 = 3 := rfl
      have d4 : dn 13 0 = 3 := rfl
      go_enter Try.func4, Try.ntmps4
      go_wp2_with (first
    | (go_at_call 7; refine (two_any _ _ _ _).mono ?_; rintro e w' ⟨rfl, rfl⟩)
    | (go_at_call 8; refine (rtwo_any _ _ _ _).mono ?_; rintro e w' ⟨rfl, rfl⟩)
    | (go_at_call 9; refine (one_any _ _ _).mono ?_; rintro e w' ⟨rfl, rfl⟩)
    | (go_at_call 10; refine (rone_any _ _ _).mono ?_; rintro e w' ⟨rfl, rfl⟩)
    | (go_at_call 11; refine (awake_true _).mono ?_; rintro e w' ⟨rfl, rfl⟩)
    | (go_at_call 12; refine (truth_any _ _).mono ?_; rintro e w' ⟨rfl, rfl⟩))
      go_ret
      exact ⟨rfl, Grown.refl _⟩
    · have d1 := div_back w0 hb
      have d2 := dn_div hb
      have d3 := dn_mod hb
      go_enter Try.func4, Try.ntmps4
      go_wp2_with (first
    | (go_at_call 7; refine (two_any _ _ _ _).mono ?_; rintro e w' ⟨rfl, rfl⟩)
    | (go_at_call 8; refine (rtwo_any _ _ _ _).mono ?_; rintro e w' ⟨rfl, rfl⟩)
    | (go_at_call 9; refine (one_any _ _ _).mono ?_; rintro e w' ⟨rfl, rfl⟩)
    | (go_at_call 10; refine (rone_any _ _ _).mono ?_; rintro e w' ⟨rfl, rfl⟩)
    | (go_at_call 11; refine (awake_true _).mono ?_; rintro e w' ⟨rfl, rfl⟩)
    | (go_at_call 12; refine (truth_any _ _).mono ?_; rintro e w' ⟨rfl, rfl⟩))
      go_ret
      exact ⟨rfl, Grown.refl _⟩
  · subst h
    clear e2
    have l1 : tw 16 a0 a0 = 0 := by rw [tw_less]; simp [tr]
    have l3 : tw 15 a0 a0 = 1 := by rw [tw_eq]; simp [tr]
    by_cases hb : a0 = 0
    · subst hb
      have d1 := tw_div0 0
      have d2 := tw_mod0 0
      have d3 : dn 12 0 = 3 := rfl
      have d4 : dn 13 0 = 3 := rfl
      go_enter Try.func4, Try.ntmps4
      go_wp2_with (first
    | (go_at_call 7; refine (two_any _ _ _ _).mono ?_; rintro e w' ⟨rfl, rfl⟩)
    | (go_at_call 8; refine (rtwo_any _ _ _ _).mono ?_; rintro e w' ⟨rfl, rfl⟩)
    | (go_at_call 9; refine (one_any _ _ _).mono ?_; rintro e w' ⟨rfl, rfl⟩)
    | (go_at_call 10; refine (rone_any _ _ _).mono ?_; rintro e w' ⟨rfl, rfl⟩)
    | (go_at_call 11; refine (awake_true _).mono ?_; rintro e w' ⟨rfl, rfl⟩)
    | (go_at_call 12; refine (truth_any _ _).mono ?_; rintro e w' ⟨rfl, rfl⟩))
      go_ret
      exact ⟨rfl, Grown.refl _⟩
    · have d1 := div_back w0 hb
      have d2 := dn_div hb
      have d3 := dn_mod hb
      go_enter Try.func4, Try.ntmps4
      go_wp2_with (first
    | (go_at_call 7; refine (two_any _ _ _ _).mono ?_; rintro e w' ⟨rfl, rfl⟩)
    | (go_at_call 8; refine (rtwo_any _ _ _ _).mono ?_; rintro e w' ⟨rfl, rfl⟩)
    | (go_at_call 9; refine (one_any _ _ _).mono ?_; rintro e w' ⟨rfl, rfl⟩)
    | (go_at_call 10; refine (rone_any _ _ _).mono ?_; rintro e w' ⟨rfl, rfl⟩)
    | (go_at_call 11; refine (awake_true _).mono ?_; rintro e w' ⟨rfl, rfl⟩)
    | (go_at_call 12; refine (truth_any _ _).mono ?_; rintro e w' ⟨rfl, rfl⟩))
      go_ret
      exact ⟨rfl, Grown.refl _⟩
  · have l1 : tw 16 a1 a0 = 1 := by rw [tw_less]; simp [tr, h]
    have l2 : tw 16 a0 a1 = 0 := by rw [tw_less]; simp [tr]; omega
    have l3 : tw 15 a0 a1 = 0 := by rw [tw_eq]; simp [tr]; omega
    by_cases hb : a1 = 0
    · subst hb
      have d1 := tw_div0 a0
      have d2 := tw_mod0 a0
      have d3 : dn 12 0 = 3 := rfl
      have d4 : dn 13 0 = 3 := rfl
      go_enter Try.func4, Try.ntmps4
      go_wp2_with (first
    | (go_at_call 7; refine (two_any _ _ _ _).mono ?_; rintro e w' ⟨rfl, rfl⟩)
    | (go_at_call 8; refine (rtwo_any _ _ _ _).mono ?_; rintro e w' ⟨rfl, rfl⟩)
    | (go_at_call 9; refine (one_any _ _ _).mono ?_; rintro e w' ⟨rfl, rfl⟩)
    | (go_at_call 10; refine (rone_any _ _ _).mono ?_; rintro e w' ⟨rfl, rfl⟩)
    | (go_at_call 11; refine (awake_true _).mono ?_; rintro e w' ⟨rfl, rfl⟩)
    | (go_at_call 12; refine (truth_any _ _).mono ?_; rintro e w' ⟨rfl, rfl⟩))
      go_ret
      exact ⟨rfl, Grown.refl _⟩
    · have d1 := div_back w0 hb
      have d2 := dn_div hb
      have d3 := dn_mod hb
      go_enter Try.func4, Try.ntmps4
      go_wp2_with (first
    | (go_at_call 7; refine (two_any _ _ _ _).mono ?_; rintro e w' ⟨rfl, rfl⟩)
    | (go_at_call 8; refine (rtwo_any _ _ _ _).mono ?_; rintro e w' ⟨rfl, rfl⟩)
    | (go_at_call 9; refine (one_any _ _ _).mono ?_; rintro e w' ⟨rfl, rfl⟩)
    | (go_at_call 10; refine (rone_any _ _ _).mono ?_; rintro e w' ⟨rfl, rfl⟩)
    | (go_at_call 11; refine (awake_true _).mono ?_; rintro e w' ⟨rfl, rfl⟩)
    | (go_at_call 12; refine (truth_any _ _).mono ?_; rintro e w' ⟨rfl, rfl⟩))
      go_ret
      exact ⟨rfl, Grown.refl _⟩

/-! ### THE ROW's STEP: WRITTEN OUT: LEAVE IT -/
set_option maxRecDepth 100000 in
theorem lifted (os : Os) (started : os.Started) (H : Type) (enc : TypeId × Value → H) :
    ReturnsInHanded {} Try.checked os 4 .any (Rows.sumsLawsSpec.pre6 enc Try.prog Try.f4 Rows.sumsLawsRow.domain false) (Rows.sumsLawsSpec.post enc Try.prog Try.f4 false true false false) := by
  refine returnsInHanded_of_change (C := Try.checked) own started (by kernel_rfl) Try.func4
    (ChangeSpec.witness6 (enc := enc) (C := Try.checked) false ⟨#[], #[.int .i64 0, .int .i64 0, .int .i64 0], []⟩ 8 (by kernel_rfl) (by kernel_rfl) (by kernel_rfl) (by kernel_rfl)) ?_
  intro W base args ds gs before hval0 hW hcnd _
  have hval : ∀ (j : Nat) t v, Try.f4.params[j]? = some t → args[j]? = some v → Value.okWide Try.prog W .any base t v := hval0
  have hW' := hW
  obtain ⟨p, q, hA0, hV, rfl, hfz, hnd⟩ := hW
  have hA : DataW.TrodAll enc Try.prog W 0 (fun _ => true) true Try.f4.params.toList args.toList ds p := hA0
  rw [Try.params4] at hA hval
  obtain ⟨v0, vs0, d0, ds0, p0, q0, hargs, rfl, rfl, h0, r0⟩ := trodAll_cons hA
  obtain ⟨v1, vs1, d1, ds1, p1, q1, rfl, rfl, rfl, h1, r1⟩ := trodAll_cons r0
  obtain ⟨v2, vs2, d2, ds2, p2, q2, rfl, rfl, rfl, h2, r2⟩ := trodAll_cons r1
  obtain ⟨rfl, rfl, rfl⟩ := trodAll_nil r2
  obtain rfl : args = #[v0, v1, v2] := by cases args; simp_all
  obtain ⟨rfl, rfl⟩ := trodVars_none hV
  obtain ⟨a0, rfl, rfl, rfl, w0⟩ := open_int Try.underlying3 (hval 0 3 v0 rfl rfl) h0
  obtain ⟨a1, rfl, rfl, rfl, w1⟩ := open_int Try.underlying3 (hval 1 3 v1 rfl rfl) h1
  obtain ⟨a2, rfl, rfl, rfl, w2⟩ := open_int Try.underlying3 (hval 2 3 v2 rfl rfl) h2
  clear hA0 hval0
  simp only [List.append_nil] at hW'
  refine (walk a0 a1 a2 w0 w1 w2 W).mono fun e W' ⟨he, hg⟩ => ?_
  subst he
  exact ⟨_, rfl, post_of_same (pa := []) (pv := []) hW' (fun _ _ _ => (trodAll_cons_mk (shut_bool Try.underlying4 _) trodAll_mk0)) (fun sp _ => (trodAll_cons_mk (shut_int Try.underlying3 w0) (trodAll_cons_mk (shut_int Try.underlying3 w1) (trodAll_cons_mk (shut_int Try.underlying3 w2) trodAll_mk0)))) (fun _ _ => rfl) rfl
    (hg.frame _) hg.2.1 (ok_one (by kernel_rfl) rfl (okWide_bool_mk Try.underlying4 _))⟩

theorem over : Rows.sumsLawsRow.holds Try.pinned (OpenSpec.ofChange Rows.sumsLawsSpec) :=
  OpenClaim.holds_of_wide 4 Try.f4 rfl rfl rfl rfl rfl rfl rfl ⟨rfl, rfl, rfl, rfl, rfl⟩ rfl rfl rfl rfl rfl (by kernel_rfl) Try.func4 (by kernel_rfl)
    (of_decide_eq_true (by kernel_rfl)) (by unfold Func.isWrapper; first | (rw [if_pos (by decide +kernel)]; kernel_rfl) | (rw [if_neg (by decide +kernel)]; exact ⟨rfl, rfl⟩))
    (fun os started H enc _ => lifted os started H enc)

/-- ████ THE STATEMENT ████ -/
theorem proved : Rows.SumsLawsSaid :=
  over
end Go.Proofs.Ytijogfikmcedbaa.sumsLaws
namespace Go.Proofs.Ytijogfikmcedbaa
theorem sumsLaws_holds : Rows.SumsLawsSaid := sumsLaws.proved
#print axioms sumsLaws_holds
end Go.Proofs.Ytijogfikmcedbaa
