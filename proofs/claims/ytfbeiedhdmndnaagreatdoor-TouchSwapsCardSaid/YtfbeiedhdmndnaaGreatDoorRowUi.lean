/-
 For every program, budget, world and two events the call of TouchSwaps returns true, and its arguments read as they did; the listed variables are tied to the program's own text. No further conditions.
-/
import Derived.Test.YtfbeiedhdmndnaaGreatDoorRows
import Derived.Test.YtfbeiedhdmndnaaGreatDoorTie
import Derived.Test.YtfbeiedhdmndnaaGreatDoorCards
import Derived.Test.YtfbeiedhdmndnaaGreatDoorUi
import Derived.Test.YtfbeiedhdmndnaaGreatDoorPk14
import Derived.Test.YtfbeiedhdmndnaaGreatDoorOpz
import Derived.SevenTiedAt
import Derived.Carry
import Derived.ChangeMaps
namespace Go.Proofs.YtfbeiedhdmndnaaGreatDoor
open Go.ChangeShapes Go.WideShapes Go.ChangeAt Go.RowKit

theorem lay : laidOutB Tryz.prog = true := by kernel_rfl

set_option maxRecDepth 100000 in
theorem rowUi_lifted (os : Os) (started : os.Started) (H : Type) (enc : TypeId × Value → H) :
  ReturnsInHanded {} Tryz.checked os 5 .any (fun w args => (Rows.touchSwapsSpec.pre enc Tryz.prog Tryz.f5 [] false w args ∧ laidMetH Tryz.prog laidE w) ∧ sizedMet enc Tryz.prog Tryz.f5 (OpenSpec.ofChange Rows.touchSwapsSpec) false w args)
   (Rows.touchSwapsSpec.post enc Tryz.prog Tryz.f5 false true false false) := by
 refine handed_both (C := Tryz.checked) (X := fun w _ => laidMetH Tryz.prog laidE w) (fun _ _ _ hh h => h.of_heap hh) own started (by kernel_rfl) Tryz.func5
  (ChangeSpec.witness_shaped (enc := enc) (C := Tryz.checked) (os := os) (X := fun w _ => laidMetH Tryz.prog laidE w) false (World.doorLaid Tryz.prog 400 os) #[.agg #[.slice none 0 0, .slice none 0 0, .slice none 0 0, .int .i64 0], .agg #[.int .i64 0, .int .i64 0, .int .i64 0, .int .i64 0], .agg #[.slice none 0 0, .slice none 0 0, .int .i64 0, .int .i64 0, .int .i64 0, .int .i64 0], .agg #[.int .i64 0, .int .i64 0, .int .i64 0, .int .i64 0, .int .i64 0], .agg #[.int .i64 0, .int .i64 0, .int .i64 0, .int .i64 0, .int .i64 0]] 8 rfl (World.shaped_of_RefB (by kernel_rfl) (by kernel_rfl)) (by kernel_rfl) (by kernel_rfl) (by kernel_rfl) (door_metE os _)) ?_
 intro W base args ds gs before hval0 hW hL hS
 have hval : ∀ (j : Nat) t v, Tryz.f5.params[j]? = some t → args[j]? = some v → Value.okWide Tryz.prog W .any base t v := hval0
 have hW' := hW
 obtain ⟨p, q, hA0, hV, rfl, hfz, hnd⟩ := hW
 have hA : DataW.TrodAll enc Tryz.prog W 0 (fun _ => true) true Tryz.f5.params.toList args.toList ds p := hA0
 rw [Tryz.params5] at hA hval
 obtain ⟨v0, v1, v2, v3, v4, d0, d1, d2, d3, d4, p0, p1, p2, p3, p4, rfl, rfl, rfl, h0, h1, h2, h3, h4⟩ := trodAll_five hA
 obtain ⟨rfl, rfl⟩ := trodVars_none hV
 have hlt : ∀ x ∈ p0 ++ p1 ++ p2 ++ p3 ++ p4, x.block < W.heap.size := fun x hx => by simpa using hW'.lt x (by simpa using hx)
 obtain ⟨x0, hx0⟩ := open_prg (hval 0 26 v0 rfl rfl) h0
 obtain ⟨x1, rfl, g1⟩ := open_bud (hval 1 28 v1 rfl rfl) h1
 obtain ⟨x2, hx2⟩ := open_wldV (hval 2 32 v2 rfl rfl) h2
 obtain ⟨x3, rfl, g3⟩ := open_ev (hval 3 36 v3 rfl rfl) h3
 obtain ⟨x4, rfl, g4⟩ := open_ev (hval 4 36 v4 rfl rfl) h4
 clear hA0 hval0
 simp only [List.append_nil] at hW'
 refine (swaps_any W _ _ x0 x1 x2 x3 x4 (of_laidE hL) hx0.1 hx2.1 hx2.2).mono fun e W' ⟨he, hu⟩ => ?_
 subst he
 exact ⟨_, rfl, _, _, _, [], _, [], hW', trodAll_mk1 (shut_bool Tryz.underlying4 _), trodAll_mk5 (Below.trod lay (by kernel_rfl) (of_decide_eq_true (by kernel_rfl)) h0 hu (fun x hx => hlt x (List.mem_append_left _ (List.mem_append_left _ (List.mem_append_left _ (List.mem_append_left _ (hx))))))) (Below.trod lay (by kernel_rfl) (of_decide_eq_true (by kernel_rfl)) h1 hu (fun x hx => hlt x (List.mem_append_left _ (List.mem_append_left _ (List.mem_append_left _ (List.mem_append_right _ hx)))))) (Below.trod lay (by kernel_rfl) (of_decide_eq_true (by kernel_rfl)) h2 hu (fun x hx => hlt x (List.mem_append_left _ (List.mem_append_left _ (List.mem_append_right _ hx))))) (Below.trod lay (by kernel_rfl) (of_decide_eq_true (by kernel_rfl)) h3 hu (fun x hx => hlt x (List.mem_append_left _ (List.mem_append_right _ hx)))) (Below.trod lay (by kernel_rfl) (of_decide_eq_true (by kernel_rfl)) h4 hu (fun x hx => hlt x (List.mem_append_right _ hx))), rfl, hu.frame _, fun h => by cases h⟩

theorem rowUi_row : Rows.TouchSwapsSaid :=
 OpenClaim.holds_of_wide 5 Tryz.f5 rfl rfl rfl rfl rfl rfl rfl ⟨rfl, rfl, rfl, rfl, rfl⟩ rfl rfl rfl rfl rfl (by kernel_rfl) Tryz.func5 (by kernel_rfl)
  (of_decide_eq_true (by kernel_rfl)) (by unfold Func.isWrapper; first | (rw [if_pos (by decide +kernel)]; kernel_rfl) | (rw [if_neg (by decide +kernel)]; exact ⟨rfl, rfl⟩))
  (fun os started H enc _ => rowUi_lifted os started H enc)

theorem touchSwaps_card : Rows.TouchSwapsCardSaid :=
 Claim7.holds_tied_plain_at .later [] [.data] true (true, "90759c36a70ae48b10b164fd21c70aae5f1fd561b478b139cbb9d4f6bab9b6a8") false
  rowUi_row (fun _ h => by cases h) (by kernel_rfl) (fun _ h => by cases h) touchSwaps_row_tie rfl ⟨rfl, rfl⟩ (by kernel_rfl) rfl
  (fun f fn hf hfn => by
   obtain rfl : f = 5 := Option.some.inj ((show Tryz.prog.funcNamed Rows.touchSwapsRow.func = some 5 by kernel_rfl).symm.trans hf) |>.symm
   obtain rfl : fn = Tryz.f5 := (Option.some.inj (Tryz.func5.symm.trans hfn)).symm
   exact ⟨by kernel_rfl, fun j t ht => by
    rw [Tryz.params5] at ht
    have hm : t ∈ [26, 28, 32, 36, 36] := by simpa using Array.mem_of_getElem? ht
    have hall : ([26, 28, 32, 36, 36].all fun u => !Tryz.prog.wantsStandIn u) = true := by kernel_rfl
    exact (show Tryz.prog.wantsStandIn t = false by simpa using List.all_eq_true.1 hall t hm)⟩)
  (by kernel_rfl)
#print axioms touchSwaps_card
end Go.Proofs.YtfbeiedhdmndnaaGreatDoor
