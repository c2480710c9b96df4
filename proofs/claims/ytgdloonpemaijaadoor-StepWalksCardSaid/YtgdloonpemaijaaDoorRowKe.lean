/-
  StepWalks: whatever of what may happen is done, from the start on, each world may be, faults are counted by the budget, and no world that was handed in is another behind it, and its arguments read as they did; the listed variables are tied to the program's own text. No further conditions.
-/
import Derived.Test.YtgdloonpemaijaaDoorRows
import Derived.Test.YtgdloonpemaijaaDoorTie
import Derived.Test.YtgdloonpemaijaaDoorCards
import Derived.Test.YtgdloonpemaijaaDoorKe
import Derived.Test.YtgdloonpemaijaaDoorPk14
import Derived.Test.YtgdloonpemaijaaDoorOpk
import Derived.SevenTiedAt
import Derived.Carry
import Derived.ChangeMaps
namespace Go.Proofs.YtgdloonpemaijaaDoor
open Go.ChangeShapes Go.WideShapes Go.ChangeAt Go.RowKit

theorem lay : laidOutB Tryd.prog = true := by kernel_rfl

set_option maxRecDepth 100000 in
theorem rowKe_lifted (os : Os) (started : os.Started) (H : Type) (enc : TypeId × Value → H) :
    ReturnsInHanded {} Tryd.checked os 8 .any (fun w args => (Rows.stepWalksSpec.pre enc Tryd.prog Tryd.f8 [] false w args ∧ laidMetH Tryd.prog laidE w) ∧ sizedMet enc Tryd.prog Tryd.f8 (OpenSpec.ofChange Rows.stepWalksSpec) false w args)
      (Rows.stepWalksSpec.post enc Tryd.prog Tryd.f8 false true false false) := by
  refine handed_both (C := Tryd.checked) (X := fun w _ => laidMetH Tryd.prog laidE w) (fun _ _ _ hh h => h.of_heap hh) own started (by kernel_rfl) Tryd.func8
    (ChangeSpec.witness_shaped (enc := enc) (C := Tryd.checked) (os := os) (X := fun w _ => laidMetH Tryd.prog laidE w) false (World.doorLaid Tryd.prog 400 os) #[.agg #[.slice none 0 0, .slice none 0 0, .slice none 0 0, .int .i64 0], .agg #[.int .i64 0, .int .i64 0, .int .i64 0, .int .i64 0], .slice none 0 0] 8 rfl (World.shaped_of_RefB (by kernel_rfl) (by kernel_rfl)) (by kernel_rfl) (by kernel_rfl) (by kernel_rfl) (door_metE os _)) ?_
  intro W base args ds gs before hval0 hW hL hS
  have hval : ∀ (j : Nat) t v, Tryd.f8.params[j]? = some t → args[j]? = some v → Value.okWide Tryd.prog W .any base t v := hval0
  have hW' := hW
  obtain ⟨p, q, hA0, hV, rfl, hfz, hnd⟩ := hW
  have hA : DataW.TrodAll enc Tryd.prog W 0 (fun _ => true) true Tryd.f8.params.toList args.toList ds p := hA0
  rw [Tryd.params8] at hA hval
  obtain ⟨v0, v1, v2, d0, d1, d2, p0, p1, p2, rfl, rfl, rfl, h0, h1, h2⟩ := trodAll_three hA
  obtain ⟨rfl, rfl⟩ := trodVars_none hV
  have hlt : ∀ x ∈ p0 ++ p1 ++ p2, x.block < W.heap.size := fun x hx => by simpa using hW'.lt x (by simpa using hx)
  obtain ⟨x0, hx0⟩ := open_prg (hval 0 26 v0 rfl rfl) h0
  obtain ⟨x1, rfl, g1⟩ := open_bud (hval 1 42 v1 rfl rfl) h1
  obtain ⟨x2, hx2⟩ := open_intsV (hval 2 27 v2 rfl rfl) h2
  clear hA0 hval0
  simp only [List.append_nil] at hW'
  refine (walks_any W _ _ x0 x1 x2 (of_laidE hL) hx0.1 hx2.1).mono fun e W' ⟨he, hu⟩ => ?_
  subst he
  exact ⟨_, rfl, _, _, _, [], _, [], hW', trodAll_mk1 (shut_bool Tryd.underlying4 _), trodAll_mk3 (Below.trod lay (by kernel_rfl) (of_decide_eq_true (by kernel_rfl)) h0 hu (fun x hx => hlt x (List.mem_append_left _ (List.mem_append_left _ (hx))))) (Below.trod lay (by kernel_rfl) (of_decide_eq_true (by kernel_rfl)) h1 hu (fun x hx => hlt x (List.mem_append_left _ (List.mem_append_right _ hx)))) (Below.trod lay (by kernel_rfl) (of_decide_eq_true (by kernel_rfl)) h2 hu (fun x hx => hlt x (List.mem_append_right _ hx))), rfl, hu.frame _, fun h => by cases h⟩

theorem rowKe_row : Rows.StepWalksSaid :=
  OpenClaim.holds_of_wide 8 Tryd.f8 rfl rfl rfl rfl rfl rfl rfl ⟨rfl, rfl, rfl, rfl, rfl⟩ rfl rfl rfl rfl rfl (by kernel_rfl) Tryd.func8 (by kernel_rfl)
    (of_decide_eq_true (by kernel_rfl)) (by unfold Func.isWrapper; first | (rw [if_pos (by decide +kernel)]; kernel_rfl) | (rw [if_neg (by decide +kernel)]; exact ⟨rfl, rfl⟩))
    (fun os started H enc _ => rowKe_lifted os started H enc)

theorem stepWalks_card : Rows.StepWalksCardSaid :=
  Claim7.holds_tied_plain_at .later [] [.data] true (true, "5b3646bd4415776cf741f76b8a37185dbf1d7db7eb5d4a8a9bdaf8d89ae5b139") false
    rowKe_row (fun _ h => by cases h) (by kernel_rfl) (fun _ h => by cases h) stepWalks_row_tie rfl ⟨rfl, rfl⟩ (by kernel_rfl) rfl
    (fun f fn hf hfn => by
      obtain rfl : f = 8 := Option.some.inj ((show Tryd.prog.funcNamed Rows.stepWalksRow.func = some 8 by kernel_rfl).symm.trans hf) |>.symm
      obtain rfl : fn = Tryd.f8 := (Option.some.inj (Tryd.func8.symm.trans hfn)).symm
      exact ⟨by kernel_rfl, fun j t ht => by
        rw [Tryd.params8] at ht
        have hm : t ∈ [26, 42, 27] := by simpa using Array.mem_of_getElem? ht
        have hall : ([26, 42, 27].all fun u => !Tryd.prog.wantsStandIn u) = true := by kernel_rfl
        exact (show Tryd.prog.wantsStandIn t = false by simpa using List.all_eq_true.1 hall t hm)⟩)
    (by kernel_rfl)
#print axioms stepWalks_card
end Go.Proofs.YtgdloonpemaijaaDoor
