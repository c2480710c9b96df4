/-
  What the laws ask besides: awake. Condition: the variables are there.
-/
import Derived.Test.YtkfndedphpehiaaDoorRParse
namespace Go.Proofs.YtkfndedphpehiaaDoor
open Go.RowKit
attribute [local go_sem ↓] Go.wp_at_zero Go.wp_at_succ

def awT : List UInt8 := [112, 117, 115, 104, 32, 45, 53, 10, 97, 100, 100, 10]
def awC : List PIns := [⟨1, -5⟩, ⟨9, 0⟩]
theorem awC_rg : ∀ i ∈ awC, RgI i := by
  intro i hi
  simp [awC] at hi
  rcases hi with rfl | rfl <;> exact ⟨⟨by decide, by decide⟩, ⟨by decide, by decide⟩⟩
theorem aw_txt : txtO awC = some awT := by decide +kernel
theorem aw_prs : prs awT = some awC := prs_txt awC_rg aw_txt
def awB : List UInt8 := [112, 117, 115, 104, 32, 48, 53, 10]
theorem aw_rd : rd [112, 117, 115, 104, 32, 48, 53] = none := by decide +kernel
theorem aw_bad : prs awB = none := prs_bad (a := [112, 117, 115, 104, 32, 48, 53]) (b := []) (by decide +kernel) aw_rd
theorem aw_l1 : line ⟨25, 0⟩ = [101, 110, 100] := by decide +kernel
theorem aw_l2 : line ⟨25, 1⟩ = [] := by decide +kernel
theorem parse1 (w : World) (he : Env w) : Calls Tryd.prog 8 #[.string ⟨#[112, 117, 115, 104, 32, 45, 53, 10, 97, 100, 100, 10]⟩] w fun e w' => ∃ v, e = .returned (.tuple #[v, .int .i64 0]) ∧ CO w v awC w' := by
  have := parse_any w awT (by decide) he
  rw [(pc_of aw_prs).1, (pc_of aw_prs).2] at this
  exact this
theorem parse2 (w : World) (he : Env w) : Calls Tryd.prog 8 #[.string ⟨#[112, 117, 115, 104, 32, 48, 53, 10]⟩] w fun e w' => ∃ v, e = .returned (.tuple #[v, .int .i64 2]) ∧ CO w v [] w' := by
  have := parse_any w awB (by decide) he
  rw [(pc_no aw_bad).1, (pc_no aw_bad).2] at this
  exact this
theorem parse3 (w : World) (he : Env w) : Calls Tryd.prog 8 #[.string ⟨#[]⟩] w fun e w' => ∃ v, e = .returned (.tuple #[v, .int .i64 0]) ∧ CO w v [] w' := by
  have := parse_any w [] (by decide) he
  rw [(pc_of prs_nil).1, (pc_of prs_nil).2] at this
  exact this
theorem text1 {w0 w : World} {v : Value} (h : CO w0 v awC w) (he : Env w) : Calls Tryd.prog 10 #[v] w fun e w' => e = .returned (.string ⟨#[112, 117, 115, 104, 32, 45, 53, 10, 97, 100, 100, 10]⟩) ∧ Below w.heap.size w w' := by
  have := text_any anyB w v awC (by decide) awC_rg (h.cd (by decide)) he
  rw [show txt awC = awT by unfold txt; rw [aw_txt]; rfl] at this
  exact this
theorem line1 (w : World) (he : Env w) : Calls Tryd.prog 13 #[.agg #[.int .i64 25, .int .i64 0]] w fun e w' => e = .returned (.string ⟨#[101, 110, 100]⟩) ∧ Below w.heap.size w w' := by
  have := line_any w ⟨25, 0⟩ rg0 he
  rw [aw_l1] at this
  exact this
theorem line2 (w : World) (he : Env w) : Calls Tryd.prog 13 #[.agg #[.int .i64 25, .int .i64 1]] w fun e w' => e = .returned (.string ⟨#[]⟩) ∧ Below w.heap.size w w' := by
  have := line_any w ⟨25, 1⟩ ⟨by decide, by decide⟩ he
  rw [aw_l2] at this
  exact this

/-- Code that is written down. -/
theorem CO.lit (W : World) (c : List PIns) (hl : c.length ≤ 1000000) : CO W (.slice (some ⟨W.heap.size, 0, none⟩) c.length c.length) c (W.alloc (.cells (cv c).toArray 24)) :=
  ⟨bAlloc (bRefl W) _, cv_len c, Or.inr ⟨W.heap.size, c.length, (cv c).toArray, rfl, Nat.le_refl _, heap_new _ _, Nat.le_refl _, by unfold maxLen; omega, by simp [cv_len], by rw [List.take_of_length_le (by simp [cv_len])]⟩⟩
theorem eqC_self (a : List PIns) : eqB a a = true := eqB_yes rfl

set_option maxHeartbeats 400000 in
set_option maxRecDepth 100000 in
theorem awake_any (w : World) (he : Env w) :
    Calls Tryd.prog 7 #[] w fun e w' => e = .returned (.bool true) ∧ Below w.heap.size w w' := by
  have HE : Hid (Env w) := he
  clear he
  go_enter Tryd.func7, Tryd.ntmps7
  go_wp2_with fail
  refine (parse1 _ HE.out).mono ?_
  rintro e w1 ⟨v1, rfl, hc1⟩
  obtain ⟨A1, c1, rfl⟩ := hc1.form
  go_wp2_with fail
  refine (parse2 _ (HE.out.below hc1.low)).mono ?_
  rintro e w2 ⟨v2, rfl, hc2⟩
  obtain ⟨A2, c2, rfl⟩ := hc2.form
  go_wp2_with fail
  refine (parse3 _ (HE.out.below (bTrans hc1.low hc2.low))).mono ?_
  rintro e w3 ⟨v3, rfl, hc3⟩
  obtain ⟨A3, c3, rfl⟩ := hc3.form
  have hl3 : Below w.heap.size w w3 := bTrans (bTrans hc1.low hc2.low) hc3.low
  have hb3 : Below w1.heap.size w1 w3 := bTrans hc2.low hc3.low
  go_wp2_with fail
  refine (refC anyB anyB _ _ _ awC awC (((hc1.below hb3).below (bAlloc (bRefl _) _)).cd (by decide)) ((CO.lit w3 awC (by decide)).cd (by decide))).mono ?_
  rw [eqC_self]
  rintro e w4 ⟨rfl, hq4⟩
  have hb4 : Below w3.heap.size w3 w4 := bTrans (bAlloc (bRefl w3) _) (quiet_below hq4)
  clear hq4
  go_wp2_with fail
  refine (text1 ((hc1.below hb3).below hb4) (HE.out.below (bTrans hl3 hb4))).mono ?_
  rintro e w5 ⟨rfl, hb5⟩
  go_wp2_with fail
  refine (line1 _ (HE.out.below (bTrans (bTrans hl3 hb4) hb5))).mono ?_
  rintro e w6 ⟨rfl, hb6⟩
  go_wp2_with fail
  refine (line2 _ (HE.out.below (bTrans (bTrans (bTrans hl3 hb4) hb5) hb6))).mono ?_
  rintro e w7 ⟨rfl, hb7⟩
  go_wp2_with fail
  go_ret
  exact ⟨rfl, bTrans (bTrans (bTrans (bTrans hl3 hb4) hb5) hb6) hb7⟩
end Go.Proofs.YtkfndedphpehiaaDoor
