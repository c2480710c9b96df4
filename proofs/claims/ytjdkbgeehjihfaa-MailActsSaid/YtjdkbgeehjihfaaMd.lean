/-
  What the document fixes: awake answers true. No conditions.
-/
import Derived.Test.YtjdkbgeehjihfaaMc
namespace Go.Proofs.Ytjdkbgeehjihfaa
open Go.RowKit
theorem fieldM (a b c d e f : Value) (w : World) : (Instr.field 29 (.agg #[a, b, c, d, e, f]) 0).run Try.prog w = .ok (.agg #[a, b, c]) w := by kernel_rfl
attribute [local go_sem ↓] Go.wp_at_zero Go.wp_at_succ fieldM
def l1 : List PMsg := [msgN 4]
def l2 : List PMsg := [msgN 1, msgN 4]
theorem few1 : Few l1 := ⟨by decide, by decide⟩
theorem few2 : Few l2 := ⟨by decide, by decide⟩
theorem few0 : Few [] := ⟨by decide, by decide⟩
theorem msgs0 (w : World) : Msgs anyB anyB w (.slice none 0 0) [] := ⟨none, 0, rfl, by simp, by simp, Or.inl rfl⟩
set_option maxHeartbeats 8000000 in
set_option maxRecDepth 100000 in
theorem awake_any (w : World) : Calls Try.prog 7 #[] w fun e w' => e = .returned (.bool true) ∧ Below w.heap.size w w' := by
  have f0 : fnd [] (msgN 4).id = -1 := by decide
  have f1 : fnd l1 (msgN 1).id = -1 := by decide
  have f2 : fnd l2 (msgN 4).id = (1 : Nat) := by decide
  have f3 : fnd l2 (msgN 1).id = (0 : Nat) := by decide
  have g0 : putP [] (msgN 4) = l1 := by decide
  have g1 : putP l1 (msgN 1) = l2 := by decide
  have g2 : cutP l2 0 = l1 := by decide
  have g3 : l2[0]? = some (msgN 1) := by decide
  go_enter Try.func7, Try.ntmps7
  go_wp2_with fail
  refine (message_any w 4 (by decide) (by decide)).mono ?_
  rintro e w1 ⟨a1, rfl, hI1, hb1⟩
  go_wp2_with fail
  refine (put_new _ _ _ [] (msgN 4) (msgs0 _) ⟨a1, rfl, hI1.any⟩ f0 few0 (by decide)).mono ?_
  rintro e w2 ⟨u1, rfl, hm1, hb2⟩
  rw [g0] at hm1
  replace hm1 := hm1.any2
  replace hb1 := bTrans hb1 hb2
  clear hb2 hI1 f0 g0
  go_wp2_with fail
  refine (message_any _ 1 (by decide) (by decide)).mono ?_
  rintro e w3 ⟨a3, rfl, hI3, hb3⟩
  replace hm1 := hm1.below hb3
  replace hb1 := bTrans hb1 hb3
  clear hb3
  go_wp2_with fail
  refine (put_new _ _ _ l1 (msgN 1) hm1 ⟨a3, rfl, hI3.any⟩ f1 few1 (by decide)).mono ?_
  rintro e w4 ⟨u2, rfl, hm2, hb4⟩
  rw [g1] at hm2
  replace hm2 := hm2.any2
  replace hm1 := hm1.below hb4
  replace hb1 := bTrans hb1 hb4
  clear hb4 hI3 g1
  go_wp2_with fail
  refine (message_any _ 4 (by decide) (by decide)).mono ?_
  rintro e w5 ⟨a5, rfl, hI5, hb5⟩
  replace hm2 := hm2.below hb5
  replace hm1 := hm1.below hb5
  replace hb1 := bTrans hb1 hb5
  clear hb5
  go_wp2_with fail
  refine (put_there _ _ _ l2 (msgN 4) hm2 ⟨a5, rfl, hI5.any⟩ 1 f2).mono ?_
  rintro e w6 ⟨rfl, hb6⟩
  replace hm2 := hm2.below hb6
  replace hm1 := hm1.below hb6
  replace hb1 := bTrans hb1 hb6
  clear hb6 hI5
  go_wp2_with fail
  refine (message_any _ 1 (by decide) (by decide)).mono ?_
  rintro e w7 ⟨a7, rfl, hI7, hb7⟩
  replace hm2 := hm2.below hb7
  replace hm1 := hm1.below hb7
  replace hb1 := bTrans hb1 hb7
  obtain ⟨A7, c7, rfl, _⟩ := hI7.form
  clear hb7 hI7
  go_wp2_with fail
  refine (take_there _ _ l2 (msgN 1).id hm2 0 (msgN 1) f3 g3 few2).mono ?_
  rintro e w8 ⟨u3, a8, rfl, hm3, hI8, hb8⟩
  rw [g2] at hm3
  replace hm3 := hm3.any2
  replace hm2 := hm2.below hb8
  replace hm1 := hm1.below hb8
  replace hb1 := bTrans hb1 hb8
  obtain ⟨A8, c8, rfl, _⟩ := hI8.form
  clear hb8 g2 g3 f3
  go_wp2_with fail
  have hbA := bAlloc (bRefl w8) (.cells #[.int .i64 (msgN 1).id.f, .int .i64 (msgN 1).id.n, .int .i64 (msgN 1).id.c, .int .i64 (msgN 1).nt.to, .int .i64 (msgN 1).nt.hd, .slice A8 (msgN 1).nt.args.length c8] 29)
  obtain ⟨-, -, -, p3, -, -⟩ := blk6 (heap_new w8 (.cells #[.int .i64 (msgN 1).id.f, .int .i64 (msgN 1).id.n, .int .i64 (msgN 1).id.c, .int .i64 (msgN 1).nt.to, .int .i64 (msgN 1).nt.hd, .slice A8 (msgN 1).nt.args.length c8] 29))
  refine (message_any _ 1 (by decide) (by decide)).mono ?_
  rintro e w9 ⟨a9, rfl, hI9, hb9⟩
  have hz9 : w8.heap.size < w9.heap.size := by have := hb9.size; simp at this; omega
  replace p3 := (hb9.cell (p := ⟨w8.heap.size, 3, none⟩) (by simp)).trans p3
  replace hm3 := (hm3.below hbA).below hb9
  replace hm2 := (hm2.below hbA).below hb9
  replace hm1 := (hm1.below hbA).below hb9
  replace hb1 := bTrans hb1 (bTrans hbA hb9)
  obtain ⟨A9, c9, rfl, _⟩ := hI9.form
  clear hb9 hI9 hbA hI8
  go_wp2_with fail
  refine (take_none _ _ l1 (msgN 1).id hm1 f1).mono ?_
  rintro e wa ⟨rfl, hba⟩
  replace p3 := (hba.cell (p := ⟨w8.heap.size, 3, none⟩) hz9).trans p3
  replace hz9 := Nat.lt_of_lt_of_le hz9 hba.size
  replace hm3 := hm3.below hba
  replace hm2 := hm2.below hba
  replace hm1 := hm1.below hba
  replace hb1 := bTrans hb1 hba
  clear hba
  obtain ⟨A2, c2, rfl, _⟩ := hm2.form
  have x1 : srt l2 = true := by decide
  have x2 : eqB l1 l1 = true := by decide
  have x3 : toN l2 0 = 1 := by decide
  have x4 : (msgN 1).nt.to = 1 := by decide
  have x5 : (l2.length : Int) = 2 := by decide
  have f4 : fnd l2 (msgN 4).id = 1 := f2
  have hbb := bAlloc (bRefl wa) (.cells #[.int .i64 msg0.id.f, .int .i64 msg0.id.n, .int .i64 msg0.id.c, .int .i64 msg0.nt.to, .int .i64 msg0.nt.hd, .slice none 0 0] 29)
  replace p3 := (hbb.cell (p := ⟨w8.heap.size, 3, none⟩) hz9).trans p3
  replace hz9 := Nat.lt_of_lt_of_le hz9 hbb.size
  replace hm3 := hm3.below hbb
  replace hm2 := hm2.below hbb
  replace hm1 := hm1.below hbb
  replace hb1 := bTrans hb1 hbb
  clear hbb f2
  go_wp2_with fail
  refine (sorted_any _ _ l2 hm2).mono ?_
  rintro e wb ⟨rfl, hbb⟩
  replace p3 := (hbb.cell (p := ⟨w8.heap.size, 3, none⟩) hz9).trans p3
  replace hz9 := Nat.lt_of_lt_of_le hz9 hbb.size
  replace hm3 := hm3.below hbb
  replace hm2 := hm2.below hbb
  replace hm1 := hm1.below hbb
  replace hb1 := bTrans hb1 hbb
  clear hbb
  go_wp2_with fail
  refine (same_any _ _ _ l1 l1 hm3 hm1).mono ?_
  rintro e wc ⟨rfl, hbb⟩
  replace p3 := (hbb.cell (p := ⟨w8.heap.size, 3, none⟩) hz9).trans p3
  replace hm2 := hm2.below hbb
  replace hm1 := hm1.below hbb
  replace hb1 := bTrans hb1 hbb
  clear hbb hm3
  go_wp2_with fail
  refine (message_any _ 4 (by decide) (by decide)).mono ?_
  rintro e wd ⟨ad, rfl, hId, hbb⟩
  obtain ⟨Ad, cd, rfl, _⟩ := hId.form
  replace hm2 := hm2.below hbb
  replace hm1 := hm1.below hbb
  replace hb1 := bTrans hb1 hbb
  clear hbb hId p3
  go_wp2_with fail
  refine (find_any _ _ l2 (msgN 4).id hm2).mono ?_
  rintro e we ⟨rfl, hbb⟩
  replace hm2 := hm2.below hbb
  replace hm1 := hm1.below hbb
  replace hb1 := bTrans hb1 hbb
  clear hbb
  go_wp2_with fail
  refine (message_any _ 1 (by decide) (by decide)).mono ?_
  rintro e wf ⟨af, rfl, hIf, hbb⟩
  obtain ⟨Af, cf, rfl, _⟩ := hIf.form
  replace hm2 := hm2.below hbb
  replace hm1 := hm1.below hbb
  replace hb1 := bTrans hb1 hbb
  clear hbb hIf
  go_wp2_with fail
  refine (find_any _ _ l1 (msgN 1).id hm1).mono ?_
  rintro e wg ⟨rfl, hbb⟩
  replace hm2 := hm2.below hbb
  replace hb1 := bTrans hb1 hbb
  clear hbb hm1
  go_wp2_with fail
  refine (to_any _ _ l2 0 hm2).mono ?_
  rintro e wh ⟨rfl, hbb⟩
  replace hb1 := bTrans hb1 hbb
  clear hbb hm2
  go_wp2
  go_ret
  exact ⟨rfl, hb1⟩
end Go.Proofs.Ytjdkbgeehjihfaa
