/-
  What ProgNotes answers of any two notes: true; and nothing old has turned. Condition: the table of the instructions is in the world.
-/
import Derived.Test.YtlpeiiejkpkpjaaDoorAwake
namespace Go.Proofs.YtlpeiiejkpkpjaaDoor
open Go.RowKit

theorem eqB_sym {α : Type} [DecidableEq α] (a b : α) : eqB a b = eqB b a := by
  unfold eqB; exact decide_eq_decide.2 ⟨Eq.symm, Eq.symm⟩

set_option maxHeartbeats 4000000 in
theorem notes_all (w : World) (ht : Tab w) (v1 v2 : Value) (n m : PNte) (h1 : NteV w v1 n) (h2 : NteV w v2 m) :
    Calls Tryd.prog 8 #[v1, v2] w fun e w' => e = .returned (.bool true) ∧ Below w.heap.size w w' := by
  obtain ⟨c1, rfl, h1⟩ := h1
  obtain ⟨c2, rfl, h2⟩ := h2
  obtain ⟨V1, k1, rfl, _⟩ := h1.form
  obtain ⟨V2, k2, rfl, _⟩ := h2.form
  obtain ⟨t1, d1, l1⟩ := n
  obtain ⟨t2, d2, l2⟩ := m
  dsimp only at h1 h2
  have HB : ∀ (x y : Obj), Below w.heap.size w ((w.alloc x).alloc y) := fun x y => bAlloc (bAlloc (bRefl w) x) y
  by_cases s1 : l1.length ≤ 20
  · by_cases s2 : l2.length ≤ 20
    · have HE : Hid (eqB (PNte.mk t1 d1 l1) ⟨t2, d2, l2⟩ = (decide (t1 = t2) && decide (d1 = d2) && eqB l1 l2)) := eqB_nte _ _
      have HS : Hid (eqB (PNte.mk t2 d2 l2) ⟨t1, d1, l1⟩ = eqB (PNte.mk t1 d1 l1) ⟨t2, d2, l2⟩) := eqB_sym _ _
      have g0 := eqB_self (PNte.mk t1 d1 l1)
      have HT : Hid (Tab w) := ht
      have HV1 : Hid (NteV w (.agg #[.int .i64 t1, .int .i64 d1, .slice V1 l1.length k1]) ⟨t1, d1, l1⟩) := ⟨_, rfl, h1⟩
      have HV2 : Hid (NteV w (.agg #[.int .i64 t2, .int .i64 d2, .slice V2 l2.length k2]) ⟨t2, d2, l2⟩) := ⟨_, rfl, h2⟩
      clear ht
      have X1 := (Bx.new w #[.int .i64 t1, .int .i64 d1, .slice V1 l1.length k1] 43).below (bAlloc (bRefl _) (.cells #[.int .i64 t2, .int .i64 d2, .slice V2 l2.length k2] 43))
      have X2 := Bx.new (w.alloc (.cells #[.int .i64 t1, .int .i64 d1, .slice V1 l1.length k1] 43)) #[.int .i64 t2, .int .i64 d2, .slice V2 l2.length k2] 43
      have X2' : Bx ((w.alloc (.cells #[.int .i64 t1, .int .i64 d1, .slice V1 l1.length k1] 43)).alloc (.cells #[.int .i64 t2, .int .i64 d2, .slice V2 l2.length k2] 43)) (w.heap.size + 1) #[.int .i64 t2, .int .i64 d2, .slice V2 l2.length k2] := by simpa using X2
      clear X2
      by_cases e1 : t1 = t2
      · by_cases e2 : d1 = d2
        · cases e3 : eqB l1 l2
          all_goals
            have g1 : eqB (PNte.mk t1 d1 l1) ⟨t2, d2, l2⟩ = eqB l1 l2 := by rw [HE.out, decide_eq_true e1, decide_eq_true e2]; simp
            have g2 : eqB (PNte.mk t2 d2 l2) ⟨t1, d1, l1⟩ = eqB l1 l2 := HS.out.trans g1
            have e1' : (t1 == t2) = true := by simp [e1]
            have e2' : (d1 == d2) = true := by simp [e2]
            clear e1 e2
            go_enter Tryd.func8, Tryd.ntmps8
            go_wp2_with fail
            refine (alikeI anyB anyB _ _ _ _ _ (h1.below (by exact HB _ _)) (h2.below (by exact HB _ _))).mono ?_
            rintro e w1 ⟨rfl, hq⟩
            have hb1 := quiet_below hq
            have q1 := (X1.below hb1).cell
            have q2 := (X2'.below hb1).cell
            clear hq
            go_wp2_with fail
            refine (sameNote _ _ _ _ _ (HV1.out.below (bTrans (HB _ _) hb1)) (HV2.out.below (bTrans (HB _ _) hb1))).mono ?_
            rintro e w2 ⟨rfl, hb2⟩
            have q3 := ((X1.below hb1).below hb2).cell
            have q4 := ((X2'.below hb1).below hb2).cell
            go_wp2_with fail
            refine (sameNote _ _ _ _ _ (HV2.out.below (bTrans (bTrans (HB _ _) hb1) hb2)) (HV1.out.below (bTrans (bTrans (HB _ _) hb1) hb2))).mono ?_
            rintro e w3 ⟨rfl, hb3⟩
            have q5 := (((X1.below hb1).below hb2).below hb3).cell
            go_wp2_with fail
            refine (sameNote _ _ _ _ _ (HV1.out.below (bTrans (bTrans (bTrans (HB _ _) hb1) hb2) hb3)) (HV1.out.below (bTrans (bTrans (bTrans (HB _ _) hb1) hb2) hb3))).mono ?_
            rintro e w4 ⟨rfl, hb4⟩
            go_wp2_with fail
            refine (awake_any _ (HT.out.below (bTrans (bTrans (bTrans (bTrans (HB _ _) hb1) hb2) hb3) hb4))).mono ?_
            rintro e w5 ⟨rfl, hb5⟩
            go_wp2_with fail
            go_ret
            exact ⟨rfl, bTrans (bTrans (bTrans (bTrans (bTrans (HB _ _) hb1) hb2) hb3) hb4) hb5⟩
        · have g1 : eqB (PNte.mk t1 d1 l1) ⟨t2, d2, l2⟩ = false := by rw [HE.out, decide_eq_false e2]; simp
          have g2 : eqB (PNte.mk t2 d2 l2) ⟨t1, d1, l1⟩ = false := HS.out.trans g1
          have e1' : (t1 == t2) = true := by simp [e1]
          have e2' : (d1 == d2) = false := by simp [e2]
          clear e1 e2
          go_enter Tryd.func8, Tryd.ntmps8
          go_wp2_with fail
          refine (sameNote _ _ _ _ _ (HV1.out.below (by exact HB _ _)) (HV2.out.below (by exact HB _ _))).mono ?_
          rintro e w2 ⟨rfl, hb2⟩
          have q3 := (X1.below hb2).cell
          have q4 := (X2'.below hb2).cell
          go_wp2_with fail
          refine (sameNote _ _ _ _ _ (HV2.out.below (bTrans (HB _ _) hb2)) (HV1.out.below (bTrans (HB _ _) hb2))).mono ?_
          rintro e w3 ⟨rfl, hb3⟩
          have q5 := ((X1.below hb2).below hb3).cell
          go_wp2_with fail
          refine (sameNote _ _ _ _ _ (HV1.out.below (bTrans (bTrans (HB _ _) hb2) hb3)) (HV1.out.below (bTrans (bTrans (HB _ _) hb2) hb3))).mono ?_
          rintro e w4 ⟨rfl, hb4⟩
          go_wp2_with fail
          refine (awake_any _ (HT.out.below (bTrans (bTrans (bTrans (HB _ _) hb2) hb3) hb4))).mono ?_
          rintro e w5 ⟨rfl, hb5⟩
          go_wp2_with fail
          go_ret
          exact ⟨rfl, bTrans (bTrans (bTrans (bTrans (HB _ _) hb2) hb3) hb4) hb5⟩
      · have g1 : eqB (PNte.mk t1 d1 l1) ⟨t2, d2, l2⟩ = false := by rw [HE.out, decide_eq_false e1]; simp
        have g2 : eqB (PNte.mk t2 d2 l2) ⟨t1, d1, l1⟩ = false := HS.out.trans g1
        have e1' : (t1 == t2) = false := by simp [e1]
        clear e1
        go_enter Tryd.func8, Tryd.ntmps8
        go_wp2_with fail
        refine (sameNote _ _ _ _ _ (HV1.out.below (by exact HB _ _)) (HV2.out.below (by exact HB _ _))).mono ?_
        rintro e w2 ⟨rfl, hb2⟩
        have q3 := (X1.below hb2).cell
        have q4 := (X2'.below hb2).cell
        go_wp2_with fail
        refine (sameNote _ _ _ _ _ (HV2.out.below (bTrans (HB _ _) hb2)) (HV1.out.below (bTrans (HB _ _) hb2))).mono ?_
        rintro e w3 ⟨rfl, hb3⟩
        have q5 := ((X1.below hb2).below hb3).cell
        go_wp2_with fail
        refine (sameNote _ _ _ _ _ (HV1.out.below (bTrans (bTrans (HB _ _) hb2) hb3)) (HV1.out.below (bTrans (bTrans (HB _ _) hb2) hb3))).mono ?_
        rintro e w4 ⟨rfl, hb4⟩
        go_wp2_with fail
        refine (awake_any _ (HT.out.below (bTrans (bTrans (bTrans (HB _ _) hb2) hb3) hb4))).mono ?_
        rintro e w5 ⟨rfl, hb5⟩
        go_wp2_with fail
        go_ret
        exact ⟨rfl, bTrans (bTrans (bTrans (bTrans (HB _ _) hb2) hb3) hb4) hb5⟩
    · go_enter Tryd.func8, Tryd.ntmps8
      go_wp2_with (go_at_call 10; refine (awake_any _ (ht.below (by exact HB _ _))).mono ?_; rintro e w1 ⟨rfl, hb1⟩)
      go_ret
      exact ⟨rfl, bTrans (HB _ _) hb1⟩
  · go_enter Tryd.func8, Tryd.ntmps8
    go_wp2_with (go_at_call 10; refine (awake_any _ (ht.below (by exact HB _ _))).mono ?_; rintro e w1 ⟨rfl, hb1⟩)
    go_ret
    exact ⟨rfl, bTrans (HB _ _) hb1⟩
end Go.Proofs.YtlpeiiejkpkpjaaDoor
