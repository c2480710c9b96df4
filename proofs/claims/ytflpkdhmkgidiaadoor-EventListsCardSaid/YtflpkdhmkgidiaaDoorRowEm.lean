/-
  All that is listed may happen, each once, in order, and nothing else: of any program, budget and events the law EventLists answers yes, and its arguments read as they did; the listed variables are tied to the program's own text. No further conditions.
-/
import Derived.Test.YtflpkdhmkgidiaaDoorRows
import Derived.Test.YtflpkdhmkgidiaaDoorTie
import Derived.Test.YtflpkdhmkgidiaaDoorCards
import Derived.Test.YtflpkdhmkgidiaaDoorEm
import Derived.Test.YtflpkdhmkgidiaaDoorLaid
import Derived.Test.YtflpkdhmkgidiaaDoorOpe
import Derived.SevenTiedAt
import Derived.Carry
import Derived.ChangeMaps
namespace Go.Proofs.YtflpkdhmkgidiaaDoor
open Go.ChangeShapes Go.WideShapes Go.ChangeAt Go.RowKit

theorem lay : laidOutB Tryd.prog = true := by kernel_rfl

set_option maxRecDepth 100000 in
theorem rowEm_lifted (os : Os) (started : os.Started) (H : Type) (enc : TypeId × Value → H) :
    ReturnsInHanded {} Tryd.checked os 7 .any (fun w args => (Rows.eventListsSpec.pre enc Tryd.prog Tryd.f7 [] false w args ∧ laidMetH Tryd.prog laidE w) ∧ sizedMet enc Tryd.prog Tryd.f7 (OpenSpec.ofChange Rows.eventListsSpec) false w args)
      (Rows.eventListsSpec.post enc Tryd.prog Tryd.f7 false true false false) := by
  refine handed_both (C := Tryd.checked) (X := fun w _ => laidMetH Tryd.prog laidE w) (fun _ _ _ hh h => h.of_heap hh) own started (by kernel_rfl) Tryd.func7
    (ChangeSpec.witness_shaped (enc := enc) (C := Tryd.checked) (os := os) (X := fun w _ => laidMetH Tryd.prog laidE w) false (World.doorLaid Tryd.prog 400 os) #[.agg #[.slice none 0 0, .slice none 0 0, .slice none 0 0, .int .i64 0], .agg #[.int .i64 0, .int .i64 0, .int .i64 0, .int .i64 0], .slice none 0 0] 8 rfl (World.shaped_of_RefB (by kernel_rfl) (by kernel_rfl)) (by kernel_rfl) (by kernel_rfl) (by kernel_rfl) (door_metE os _)) ?_
  intro W base args ds gs before hval0 hW hL hS
  have hval : ∀ (j : Nat) t v, Tryd.f7.params[j]? = some t → args[j]? = some v → Value.okWide Tryd.prog W .any base t v := hval0
  have hW' := hW
  obtain ⟨p, q, hA0, hV, rfl, hfz, hnd⟩ := hW
  have hA : DataW.TrodAll enc Tryd.prog W 0 (fun _ => true) true Tryd.f7.params.toList args.toList ds p := hA0
  rw [Tryd.params7] at hA hval
  obtain ⟨v0, v1, v2, d0, d1, d2, p0, p1, p2, rfl, rfl, rfl, h0, h1, h2⟩ := trodAll_three hA
  obtain ⟨rfl, rfl⟩ := trodVars_none hV
  have hlt : ∀ x ∈ p0 ++ p1 ++ p2, x.block < W.heap.size := fun x hx => by simpa using hW'.lt x (by simpa using hx)
  obtain ⟨x0, hx0⟩ := open_prg (hval 0 27 v0 rfl rfl) h0
  obtain ⟨x1, rfl, g1⟩ := open_bud (hval 1 32 v1 rfl rfl) h1
  obtain ⟨x2, hx2⟩ := open_evs (hval 2 61 v2 rfl rfl) h2
  clear hA0 hval0
  simp only [List.append_nil] at hW'
  refine (elist_any W _ _ x0 x1 x2 (of_laidE hL) hx0.1 hx0.2 hx2).mono fun e W' ⟨he, hu⟩ => ?_
  subst he
  exact ⟨_, rfl, _, _, _, [], _, [], hW', trodAll_mk1 (shut_bool Tryd.underlying4 _), trodAll_mk3 (Below.trod lay (by kernel_rfl) (of_decide_eq_true (by kernel_rfl)) h0 hu (fun x hx => hlt x (List.mem_append_left _ (List.mem_append_left _ (hx))))) (Below.trod lay (by kernel_rfl) (of_decide_eq_true (by kernel_rfl)) h1 hu (fun x hx => hlt x (List.mem_append_left _ (List.mem_append_right _ hx)))) (Below.trod lay (by kernel_rfl) (of_decide_eq_true (by kernel_rfl)) h2 hu (fun x hx => hlt x (List.mem_append_right _ hx))), rfl, hu.frame _, fun h => by cases h⟩

theorem rowEm_row : Rows.EventListsSaid :=
  OpenClaim.holds_of_wide 7 Tryd.f7 rfl rfl rfl rfl rfl rfl rfl ⟨rfl, rfl, rfl, rfl, rfl⟩ rfl rfl rfl rfl rfl (by kernel_rfl) Tryd.func7 (by kernel_rfl)
    (of_decide_eq_true (by kernel_rfl)) (by unfold Func.isWrapper; first | (rw [if_pos (by decide +kernel)]; kernel_rfl) | (rw [if_neg (by decide +kernel)]; exact ⟨rfl, rfl⟩))
    (fun os started H enc _ => rowEm_lifted os started H enc)

theorem eventLists_card : Rows.EventListsCardSaid :=
  Claim7.holds_tied_plain_at .later [] [.data] true (true, "6ff35c5dda0aeb78ec7ecd7f1607e93fbe46560c86f0144a86202b5f05b416e5") false
    rowEm_row (fun _ h => by cases h) (by kernel_rfl) (fun _ h => by cases h) eventLists_row_tie rfl ⟨rfl, rfl⟩ (by kernel_rfl) rfl
    (fun f fn hf hfn => by
      obtain rfl : f = 7 := Option.some.inj ((show Tryd.prog.funcNamed Rows.eventListsRow.func = some 7 by kernel_rfl).symm.trans hf) |>.symm
      obtain rfl : fn = Tryd.f7 := (Option.some.inj (Tryd.func7.symm.trans hfn)).symm
      exact ⟨by kernel_rfl, fun j t ht => by
        rw [Tryd.params7] at ht
        have hm : t ∈ [27, 32, 61] := by simpa using Array.mem_of_getElem? ht
        have hall : ([27, 32, 61].all fun u => !Tryd.prog.wantsStandIn u) = true := by kernel_rfl
        exact (show Tryd.prog.wantsStandIn t = false by simpa using List.all_eq_true.1 hall t hm)⟩)
    (by kernel_rfl)
#print axioms eventLists_card
end Go.Proofs.YtflpkdhmkgidiaaDoor
