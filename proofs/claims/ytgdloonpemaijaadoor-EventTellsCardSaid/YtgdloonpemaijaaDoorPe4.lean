/-
  What the document fixes of chapter 10 (the law's awake). Conditions: the table of the instructions is in the world.
-/
import Derived.Test.YtgdloonpemaijaaDoorPe3
namespace Go.Proofs.YtgdloonpemaijaaDoor
open Go.RowKit
section
variable {W wr : World} {v : Value} {l : List PEv}
theorem EN.cell {g n c j : Nat} {u : Value} (h : EN W wr (.slice (some ⟨g, 0, none⟩) n c) l) (hu : ((l.map erow).flatten)[j]? = some u) : wr.cell? ⟨g, j, none⟩ = some u := by
  obtain ⟨h1, h2⟩ := h.own
  rcases h2 with ⟨h3, _⟩ | ⟨g', cap, cur, e, hb, hh, h3, h4, h5, h6⟩
  · cases h3
  · cases e
    have hj := (List.getElem?_eq_some_iff.1 hu).1
    rw [cell_of_row _ _ _ _ _ _ hh, ← hu, ← h6, List.getElem?_take, if_pos (by omega)]; simp
theorem EN.blk (h : EN W wr v l) (hl : 0 < l.length) : ∃ g c, v = .slice (some ⟨g, 0, none⟩) l.length c ∧ l.length ≤ c ∧ g < wr.heap.size := by
  obtain ⟨h1, h2⟩ := h.own
  rcases h2 with ⟨_, h3⟩ | ⟨g', cap, cur, e, hb, hh, h3, h4, h5, h6⟩
  · omega
  · exact ⟨g', cap, e, h3, (Array.getElem?_eq_some_iff.1 hh).1⟩
end
theorem wldU {w : World} {u : PBud} {a m : Value} {x : PWld} (e : x.used = u) (h : WldV w (wVal x.used a m) x) : WldV w (wVal u a m) x := by rw [← e]; exact h
/-- The start of the laws' program. -/
theorem oneS (W : World) (vp : Value) {n : Nat} (hn : n ≤ 4) (ht : Tab W) (hp : PrgV W vp (oneP n)) :
    Calls Tryd.prog 21 #[vp] W fun e w' => ∃ ga ca B d lo hi, e = .returned (.tuple #[wVal ⟨0, 0, 0, 0⟩ (.slice (some ⟨ga, 0, none⟩) 2 ca) (.slice B (n + 2) d), .int .i64 0]) ∧ WN W.heap.size lo hi w' (.slice (some ⟨ga, 0, none⟩) 2 ca) (.slice B (n + 2) d) (xn n) ∧ Below W.heap.size W w' := by
  refine (start_yes W vp (oneP n) ht hp (one_small hn) (one_fc hn)).mono ?_
  rintro e w' ⟨a, m, lo, hi, rfl, hwn, hb⟩
  have hu := xn_used hn
  have hm := xn_mail hn
  have ha := xn_acts hn
  have hal : (xn n).acts.length = 2 := by rw [ha]; rfl
  obtain ⟨A, c, rfl, hc, hl⟩ := hwn.acts
  obtain ⟨B, d, rfl, _⟩ := hwn.mail.form
  change WN W.heap.size lo hi w' (.slice A (xn n).acts.length c) (.slice B (xn n).mail.length d) (xn n) at hwn
  change _ ∨ _ at hl
  rcases hl with ⟨e, _⟩ | ⟨g, rfl, _, _⟩
  · have : (xn n).acts = [] := e
    rw [ha] at this; cases this
  · refine ⟨g, c, B, d, lo, hi, ?_, by rw [hal, hm] at hwn; exact hwn, hb⟩
    show Ending.returned (.tuple #[wVal (xn n).used (.slice (some ⟨g, 0, none⟩) (xn n).acts.length c) (.slice B (xn n).mail.length d), .int .i64 0]) = _
    rw [hu, hal, hm]
theorem is_5 (w : World) (vp vw : Value) (p : PPrg) (b : PBud) (x : PWld) (k f n c who : Int) (ht : Tab w) (hp : PrgV w vp p) (hx : WldV w vw x) :
    Calls Tryd.prog 30 #[vp, .agg #[.int .i64 b.drop, .int .i64 b.dup, .int .i64 b.time, .int .i64 b.crash], vw, .agg #[.int .i64 k, .int .i64 f, .int .i64 n, .int .i64 c, .int .i64 who]] w fun r w' => r = .returned (.bool (isP p b x ⟨k, ⟨f, n, c⟩, who⟩)) ∧ Below w.heap.size w w' :=
  is_any w vp vw p b x ⟨k, ⟨f, n, c⟩, who⟩ ht hp hx
theorem may_4 (w : World) (a b c d : Int) : Calls Tryd.prog 37 #[.agg #[.int .i64 a, .int .i64 b, .int .i64 c, .int .i64 d]] w fun e w' => e = .returned (.bool (mayB ⟨a, b, c, d⟩)) ∧ Below w.heap.size w w' := may_any w ⟨a, b, c, d⟩
section
attribute [local go_sem ↓] eq10 eq8
set_option maxHeartbeats 8000000 in
set_option maxRecDepth 100000 in
theorem ewake_any (w : World) (ht : Tab w) : Calls Tryd.prog 29 #[] w fun e w' => e = .returned (.bool true) ∧ Below w.heap.size w w' := by
  have HT := hid_mk ht
  have hgE := gE
  have hq0 : sameE ⟨1, ⟨-1, 0, 0⟩, 0⟩ ⟨1, ⟨-1, 0, 0⟩, 0⟩ = true := by decide
  have hq2 : sameE ⟨4, ⟨0, 0, 0⟩, 0⟩ ⟨4, ⟨0, 0, 0⟩, 0⟩ = true := by decide
  have hq4 : sameE ⟨5, ⟨0, 0, 0⟩, 1⟩ ⟨5, ⟨0, 0, 0⟩, 1⟩ = true := by decide
  have hqb : eqB (⟨2, 0, 0, 0⟩ : PBud) ⟨2, 0, 0, 0⟩ = true := by decide
  have ha1 := aw_1
  have ha2 := aw_2
  have ha4 := aw_4
  have ha5 := aw_5
  clear ht
  go_enter Tryd.func29, Tryd.ntmps29
  go_wp2_with fail
  refine (oneL_any _).mono ?_
  rintro e w1 ⟨rfl, ho, hb1⟩
  have HO := hid_mk ho
  have HB1 := hid_mk hb1
  clear ho hb1
  go_wp2_with fail
  refine (oneS (n := 0) _ _ (by decide) (HT.out.below (bAlloc HB1.out _)) (HO.out.below (bAlloc (bRefl _) _)).prg).mono ?_
  rintro e w2 ⟨ga, ca, B, d, lo, hi, rfl, hwn, hb2⟩
  have HPB := hid_mk (boxAt (heap_new w1 (.cells #[.slice (some ⟨w.heap.size + 1, 0, none⟩) 1 1, .slice (some ⟨w.heap.size + 1 + 1, 0, none⟩) 2 2, .slice (some ⟨w.heap.size + 1 + 1 + 1, 0, none⟩) 2 2, .int .i64 5] 26)) hb2)
  have HO2 := hid_mk (HO.out.below (bTrans (bAlloc (bRefl _) _) hb2))
  have HB2 := hid_mk (bTrans (bAlloc HB1.out _) hb2)
  have HWN := hid_mk hwn
  obtain ⟨p0, p1, p2, p3⟩ := blk4 HPB.out
  have z1 : w1.heap.size < w2.heap.size := (Array.getElem?_eq_some_iff.1 HPB.out).1
  clear hb2 hwn
  go_wp2_with fail
  have hZ : Below w2.heap.size w2 (w2.alloc (.cells #[.slice (some ⟨ga, 0, none⟩) 2 ca, .slice B (0 + 2) d, .int .i64 0, .int .i64 0, .int .i64 0, .int .i64 0] 44)) := bAlloc (bRefl _) _
  have hWB := heap_new w2 (.cells #[.slice (some ⟨ga, 0, none⟩) 2 ca, .slice B (0 + 2) d, .int .i64 0, .int .i64 0, .int .i64 0, .int .i64 0] 44)
  generalize (w2.alloc (.cells #[.slice (some ⟨ga, 0, none⟩) 2 ca, .slice B (0 + 2) d, .int .i64 0, .int .i64 0, .int .i64 0, .int .i64 0] 44)) = w3 at hZ hWB ⊢
  have HX : Hid (WldV w3 (wVal ⟨0, 0, 0, 0⟩ (.slice (some ⟨ga, 0, none⟩) 2 ca) (.slice B (0 + 2) d)) (xn 0)) := wldU (xn_used (by decide)) ((HWN.out.below hZ).wld (xn_sm (by decide)))
  have HO3 := hid_mk (HO2.out.below hZ)
  have HB3 := hid_mk (bTrans HB2.out hZ)
  have HPB3 := hid_mk (boxAt HPB.out hZ)
  have HWB3 := hid_mk hWB
  have HT3 := hid_mk (HT.out.below HB3.out)
  clear p0 p1 p2 p3 z1 hZ hWB
  obtain ⟨p0, p1, p2, p3⟩ := blk4 HPB3.out
  obtain ⟨x0, x1, x2, x3, x4, x5⟩ := blk6 HWB3.out
  go_wp2_with fail
  refine (enab_any _ _ _ (oneP 0) ⟨0, 0, 1, 1⟩ (xn 0) HT3.out HO3.out.prg HX.out (by rw [xn_mail (by decide)]; decide) (by rw [xn_acts (by decide)]; decide)).mono ?_
  rintro e w4 ⟨v4, rfl, hen⟩
  rw [aw_l] at hen
  obtain ⟨g4, c4, rfl, hc4, hg4⟩ := hen.blk (by decide)
  have HEN := hid_mk hen
  have HB4 := hid_mk (bTrans HB3.out hen.low)
  have HP4 := hid_mk (boxAt HPB3.out hen.low)
  have HW4 := hid_mk (boxAt HWB3.out hen.low)
  have HT4 := hid_mk (HT3.out.below hen.low)
  have HO4 := hid_mk (HO3.out.below hen.low)
  have HX4 := hid_mk (HX.out.below hen.low)
  clear hen p0 p1 p2 p3 x0 x1 x2 x3 x4 x5
  go_wp2_with fail
  refine (left_any _ ⟨3, 1, 0, 0⟩ ⟨1, 2, 0, 0⟩ none 0 0 none 0 0).mono ?_
  rw [aw_3]
  rintro e w5 ⟨rfl, hb5⟩
  go_wp2_with fail
  have hZ : Below w4.heap.size w4 (w5.alloc (.cells #[.int .i64 2, .int .i64 0, .int .i64 0, .int .i64 0] 42)) := bAlloc hb5 _
  have hLB := heap_new w5 (.cells #[.int .i64 2, .int .i64 0, .int .i64 0, .int .i64 0] 42)
  generalize (w5.alloc (.cells #[.int .i64 2, .int .i64 0, .int .i64 0, .int .i64 0] 42)) = w6 at hZ hLB ⊢
  have HL6 := hid_mk hLB
  have HEN6 := hid_mk (HEN.out.below hZ)
  have HB6 := hid_mk (bTrans HB4.out hZ)
  have HP6 := hid_mk (boxAt HP4.out hZ)
  have HW6 := hid_mk (boxAt HW4.out hZ)
  have HT6 := hid_mk (HT4.out.below hZ)
  have HO6 := hid_mk (HO4.out.below hZ)
  have HX6 := hid_mk (HX4.out.below hZ)
  clear hZ hLB hb5
  have HSA : Hid (∀ w', Below w6.heap.size w6 w' → w'.cell? ⟨w1.heap.size, 0, none⟩ = some (.slice (some ⟨w.heap.size + 1, 0, none⟩) 1 1) ∧ w'.cell? ⟨w1.heap.size, 1, none⟩ = some (.slice (some ⟨w.heap.size + 1 + 1, 0, none⟩) 2 2) ∧ w'.cell? ⟨w1.heap.size, 2, none⟩ = some (.slice (some ⟨w.heap.size + 1 + 1 + 1, 0, none⟩) 2 2) ∧ w'.cell? ⟨w1.heap.size, 3, none⟩ = some (.int .i64 5) ∧ w'.cell? ⟨w2.heap.size, 0, none⟩ = some (.slice (some ⟨ga, 0, none⟩) 2 ca) ∧ w'.cell? ⟨w2.heap.size, 1, none⟩ = some (.slice B (0 + 2) d) ∧ w'.cell? ⟨w2.heap.size, 2, none⟩ = some (.int .i64 0) ∧ w'.cell? ⟨w2.heap.size, 3, none⟩ = some (.int .i64 0) ∧ w'.cell? ⟨w2.heap.size, 4, none⟩ = some (.int .i64 0) ∧ w'.cell? ⟨w2.heap.size, 5, none⟩ = some (.int .i64 0) ∧ w'.cell? ⟨w5.heap.size, 0, none⟩ = some (.int .i64 2) ∧ w'.cell? ⟨w5.heap.size, 1, none⟩ = some (.int .i64 0) ∧ w'.cell? ⟨w5.heap.size, 2, none⟩ = some (.int .i64 0) ∧ w'.cell? ⟨w5.heap.size, 3, none⟩ = some (.int .i64 0) ∧ w'.cell? ⟨g4, 0, none⟩ = some (.int .i64 1) ∧ w'.cell? ⟨g4, 1, none⟩ = some (.int .i64 (-1)) ∧ w'.cell? ⟨g4, 2, none⟩ = some (.int .i64 0) ∧ w'.cell? ⟨g4, 3, none⟩ = some (.int .i64 0) ∧ w'.cell? ⟨g4, 4, none⟩ = some (.int .i64 0) ∧ w'.cell? ⟨g4, 10, none⟩ = some (.int .i64 4) ∧ w'.cell? ⟨g4, 11, none⟩ = some (.int .i64 0) ∧ w'.cell? ⟨g4, 12, none⟩ = some (.int .i64 0) ∧ w'.cell? ⟨g4, 13, none⟩ = some (.int .i64 0) ∧ w'.cell? ⟨g4, 14, none⟩ = some (.int .i64 0) ∧ w'.cell? ⟨g4, 20, none⟩ = some (.int .i64 5) ∧ w'.cell? ⟨g4, 21, none⟩ = some (.int .i64 0) ∧ w'.cell? ⟨g4, 22, none⟩ = some (.int .i64 0) ∧ w'.cell? ⟨g4, 23, none⟩ = some (.int .i64 0) ∧ w'.cell? ⟨g4, 24, none⟩ = some (.int .i64 1)) := fun w' hb => by
    obtain ⟨a0, a1, a2, a3⟩ := blk4 (boxAt HP6.out hb)
    obtain ⟨b0, b1, b2, b3, b4, b5⟩ := blk6 (boxAt HW6.out hb)
    obtain ⟨d0, d1, d2, d3⟩ := blk4 (boxAt HL6.out hb)
    have hen := HEN6.out.below hb
    exact ⟨a0, a1, a2, a3, b0, b1, b2, b3, b4, b5, d0, d1, d2, d3, hen.cell rfl, hen.cell rfl, hen.cell rfl, hen.cell rfl, hen.cell rfl, hen.cell rfl, hen.cell rfl, hen.cell rfl, hen.cell rfl, hen.cell rfl, hen.cell rfl, hen.cell rfl, hen.cell rfl, hen.cell rfl, hen.cell rfl⟩
  have hbb : Below w6.heap.size w6 w6 := bRefl _
  clear HO HB1 HPB HO2 HB2 HWN HX HO3 HB3 HPB3 HWB3 HT3 HEN HB4 HP4 HW4 HT4 HO4 HX4 HT
  go_wp2_with fail
  refine wp_region_held_drew (S := fun w' => w'.cell? ⟨w1.heap.size, 0, none⟩ = some (.slice (some ⟨w.heap.size + 1, 0, none⟩) 1 1) ∧ w'.cell? ⟨w1.heap.size, 1, none⟩ = some (.slice (some ⟨w.heap.size + 1 + 1, 0, none⟩) 2 2) ∧ w'.cell? ⟨w1.heap.size, 2, none⟩ = some (.slice (some ⟨w.heap.size + 1 + 1 + 1, 0, none⟩) 2 2) ∧ w'.cell? ⟨w1.heap.size, 3, none⟩ = some (.int .i64 5) ∧ w'.cell? ⟨w2.heap.size, 0, none⟩ = some (.slice (some ⟨ga, 0, none⟩) 2 ca) ∧ w'.cell? ⟨w2.heap.size, 1, none⟩ = some (.slice B (0 + 2) d) ∧ w'.cell? ⟨w2.heap.size, 2, none⟩ = some (.int .i64 0) ∧ w'.cell? ⟨w2.heap.size, 3, none⟩ = some (.int .i64 0) ∧ w'.cell? ⟨w2.heap.size, 4, none⟩ = some (.int .i64 0) ∧ w'.cell? ⟨w2.heap.size, 5, none⟩ = some (.int .i64 0) ∧ w'.cell? ⟨w5.heap.size, 0, none⟩ = some (.int .i64 2) ∧ w'.cell? ⟨w5.heap.size, 1, none⟩ = some (.int .i64 0) ∧ w'.cell? ⟨w5.heap.size, 2, none⟩ = some (.int .i64 0) ∧ w'.cell? ⟨w5.heap.size, 3, none⟩ = some (.int .i64 0) ∧ w'.cell? ⟨g4, 0, none⟩ = some (.int .i64 1) ∧ w'.cell? ⟨g4, 1, none⟩ = some (.int .i64 (-1)) ∧ w'.cell? ⟨g4, 2, none⟩ = some (.int .i64 0) ∧ w'.cell? ⟨g4, 3, none⟩ = some (.int .i64 0) ∧ w'.cell? ⟨g4, 4, none⟩ = some (.int .i64 0) ∧ w'.cell? ⟨g4, 10, none⟩ = some (.int .i64 4) ∧ w'.cell? ⟨g4, 11, none⟩ = some (.int .i64 0) ∧ w'.cell? ⟨g4, 12, none⟩ = some (.int .i64 0) ∧ w'.cell? ⟨g4, 13, none⟩ = some (.int .i64 0) ∧ w'.cell? ⟨g4, 14, none⟩ = some (.int .i64 0) ∧ w'.cell? ⟨g4, 20, none⟩ = some (.int .i64 5) ∧ w'.cell? ⟨g4, 21, none⟩ = some (.int .i64 0) ∧ w'.cell? ⟨g4, 22, none⟩ = some (.int .i64 0) ∧ w'.cell? ⟨g4, 23, none⟩ = some (.int .i64 0) ∧ w'.cell? ⟨g4, 24, none⟩ = some (.int .i64 1)) (by kernel_rfl) ?_ (fun hHeld => ?_)
  · exact HSA.out _ (by first | exact hbb | exact hbb.drew)
  refine wpAnyH_take (i := 0) (oi := ⟨some 22, .load 26 (.tmp 1), 26, "law.go:29", #[], none⟩) (v := ?_) rfl (by kernel_rfl) (by kernel_rfl) (by kernel_rfl) (fun _ _ _ h => h) (Or.inl ⟨by rfl, ?_⟩) (by assumption) ?_
  rotate_left
  · intro w hSw
    try dsimp only at hSw
    go_simp
    try with_reducible rfl
  try simp only [Act.put, List.setIfInBounds_toArray, List.set_cons_zero, List.set_cons_succ]
  refine wpAnyH_take (i := 1) (oi := ⟨some 23, .build 42 #[], 42, "law.go:29", #[], none⟩) (v := ?_) rfl (by kernel_rfl) (by kernel_rfl) (by kernel_rfl) (fun _ _ _ h => h) (Or.inl ⟨by rfl, ?_⟩) (by assumption) ?_
  rotate_left
  · intro w hSw
    try dsimp only at hSw
    go_simp
    try with_reducible rfl
  try simp only [Act.put, List.setIfInBounds_toArray, List.set_cons_zero, List.set_cons_succ]
  refine wpAnyH_take (i := 2) (oi := ⟨some 24, .load 44 (.tmp 2), 44, "law.go:29", #[], none⟩) (v := ?_) rfl (by kernel_rfl) (by kernel_rfl) (by kernel_rfl) (fun _ _ _ h => h) (Or.inl ⟨by rfl, ?_⟩) (by assumption) ?_
  rotate_left
  · intro w hSw
    try dsimp only at hSw
    go_simp
    try with_reducible rfl
  try simp only [Act.put, List.setIfInBounds_toArray, List.set_cons_zero, List.set_cons_succ]
  refine wpAnyH_ready (rs := [3]) (by kernel_rfl) (by simp) ?_
  refine AllReadyH.cons (o := ⟨some 25, .call { callee := .value (.func 33), args := #[.tmp 22, .tmp 23, .tmp 24], argTypes := #[26, 42, 44] }, 66, "law.go:29", #[⟨0, .data⟩, ⟨1, .data⟩, ⟨2, .data⟩], none⟩) rfl (fun K hK => ?_) AllReadyH.nil
  go_simp
  (go_at_call 33; refine (enab_any _ _ _ (oneP 0) ⟨0, 0, 0, 0⟩ (xn 0) (HT6.out.below (by first | exact hbb | exact hbb.drew)) (HO6.out.below (by first | exact hbb | exact hbb.drew)).prg (HX6.out.below (by first | exact hbb | exact hbb.drew)) (by rw [xn_mail (by decide)]; decide) (by rw [xn_acts (by decide)]; decide)).mono ?_; rintro e w7 ⟨v7, rfl, hen7⟩; have hl7 := aw_0; obtain ⟨A7, c7, rfl⟩ := hen7.form; rw [hl7]; have hbb7 := hen7.low; replace hbb := bTrans (by first | exact hbb | exact hbb.drew) hbb7; clear hen7 hbb7)
  try (go_wp2_with fail)
  refine hK.out _ _ ?_ (fun hHeld => ?_)
  · exact HSA.out _ (by first | exact hbb | exact hbb.drew)
  clear hK K
  try simp only [Act.put, List.setIfInBounds_toArray, List.set_cons_zero, List.set_cons_succ]
  refine wpAnyH_take (i := 4) (oi := ⟨some 26, .call { callee := .builtin .len, args := #[.tmp 25], argTypes := #[66] }, 3, "law.go:29", #[⟨3, .data⟩], none⟩) (v := ?_) rfl (by kernel_rfl) (by kernel_rfl) (by kernel_rfl) (fun _ _ _ h => h) (Or.inl ⟨by rfl, ?_⟩) (by assumption) ?_
  rotate_left
  · intro w hSw
    try dsimp only at hSw
    go_simp
    try with_reducible rfl
  try simp only [Act.put, List.setIfInBounds_toArray, List.set_cons_zero, List.set_cons_succ]
  refine wpAnyH_take (i := 5) (oi := ⟨some 27, .binOp .eql 3 (.tmp 26) (.const (.int .i64 2)) 3, 4, "law.go:29", #[⟨4, .data⟩], none⟩) (v := ?_) rfl (by kernel_rfl) (by kernel_rfl) (by kernel_rfl) (fun _ _ _ h => h) (Or.inl ⟨by rfl, ?_⟩) (by assumption) ?_
  rotate_left
  · intro w hSw
    try dsimp only at hSw
    go_simp
    try with_reducible rfl
  try simp only [Act.put, List.setIfInBounds_toArray, List.set_cons_zero, List.set_cons_succ]
  refine wpAnyH_take (i := 6) (oi := ⟨some 28, .move (.tmp 27), 4, "law.go:29", #[⟨5, .data⟩, ⟨3, .chain⟩], none⟩) (v := ?_) rfl (by kernel_rfl) (by kernel_rfl) (by kernel_rfl) (fun _ _ _ h => h) (Or.inl ⟨by rfl, ?_⟩) (by assumption) ?_
  rotate_left
  · intro w hSw
    try dsimp only at hSw
    go_simp
    try with_reducible rfl
  try simp only [Act.put, List.setIfInBounds_toArray, List.set_cons_zero, List.set_cons_succ]
  refine wpAnyH_take (i := 7) (oi := ⟨some 29, .move (.tmp 4), 66, "law.go:29", #[⟨6, .guard⟩], some (6, true)⟩) (v := ?_) rfl (by kernel_rfl) (by kernel_rfl) (by kernel_rfl) (fun _ _ _ h => h) (Or.inl ⟨by rfl, ?_⟩) (by assumption) ?_
  rotate_left
  · intro w hSw
    try dsimp only at hSw
    go_simp
    try with_reducible rfl
  try simp only [Act.put, List.setIfInBounds_toArray, List.set_cons_zero, List.set_cons_succ]
  refine wpAnyH_take (i := 8) (oi := ⟨some 30, .call { callee := .builtin .len, args := #[.tmp 29], argTypes := #[66] }, 3, "law.go:29", #[⟨7, .data⟩, ⟨6, .guard⟩], some (6, true)⟩) (v := ?_) rfl (by kernel_rfl) (by kernel_rfl) (by kernel_rfl) (fun _ _ _ h => h) (Or.inl ⟨by rfl, ?_⟩) (by assumption) ?_
  rotate_left
  · intro w hSw
    try dsimp only at hSw
    go_simp
    try with_reducible rfl
  try simp only [Act.put, List.setIfInBounds_toArray, List.set_cons_zero, List.set_cons_succ]
  refine wpAnyH_take (i := 9) (oi := ⟨some 31, .binOp .eql 3 (.tmp 30) (.const (.int .i64 5)) 3, 4, "law.go:29", #[⟨8, .data⟩, ⟨6, .guard⟩], some (6, true)⟩) (v := ?_) rfl (by kernel_rfl) (by kernel_rfl) (by kernel_rfl) (fun _ _ _ h => h) (Or.inl ⟨by rfl, ?_⟩) (by assumption) ?_
  rotate_left
  · intro w hSw
    try dsimp only at hSw
    go_simp
    try with_reducible rfl
  try simp only [Act.put, List.setIfInBounds_toArray, List.set_cons_zero, List.set_cons_succ]
  refine wpAnyH_take (i := 10) (oi := ⟨some 32, .pick (.tmp 28) (.tmp 31) (.const (.bool false)), 4, "law.go:29", #[⟨6, .data⟩, ⟨9, .data⟩], none⟩) (v := ?_) rfl (by kernel_rfl) (by kernel_rfl) (by kernel_rfl) (fun _ _ _ h => h) (Or.inl ⟨by rfl, ?_⟩) (by assumption) ?_
  rotate_left
  · intro w hSw
    try dsimp only at hSw
    go_simp
    try with_reducible rfl
  try simp only [Act.put, List.setIfInBounds_toArray, List.set_cons_zero, List.set_cons_succ]
  refine wpAnyH_take (i := 11) (oi := ⟨some 33, .move (.tmp 32), 4, "law.go:29", #[⟨10, .data⟩, ⟨6, .chain⟩], none⟩) (v := ?_) rfl (by kernel_rfl) (by kernel_rfl) (by kernel_rfl) (fun _ _ _ h => h) (Or.inl ⟨by rfl, ?_⟩) (by assumption) ?_
  rotate_left
  · intro w hSw
    try dsimp only at hSw
    go_simp
    try with_reducible rfl
  try simp only [Act.put, List.setIfInBounds_toArray, List.set_cons_zero, List.set_cons_succ]
  refine wpAnyH_take (i := 12) (oi := ⟨some 34, .move (.tmp 4), 66, "law.go:29", #[⟨11, .guard⟩], some (11, true)⟩) (v := ?_) rfl (by kernel_rfl) (by kernel_rfl) (by kernel_rfl) (fun _ _ _ h => h) (Or.inl ⟨by rfl, ?_⟩) (by assumption) ?_
  rotate_left
  · intro w hSw
    try dsimp only at hSw
    go_simp
    try with_reducible rfl
  try simp only [Act.put, List.setIfInBounds_toArray, List.set_cons_zero, List.set_cons_succ]
  refine wpAnyH_take (i := 13) (oi := ⟨some 35, .indexAddr 66 (.tmp 34) (.const (.int .i64 0)), 0, "law.go:29", #[⟨12, .data⟩, ⟨11, .guard⟩], some (11, true)⟩) (v := ?_) rfl (by kernel_rfl) (by kernel_rfl) (by kernel_rfl) (fun _ _ _ h => h) (Or.inl ⟨by rfl, ?_⟩) (by assumption) ?_
  rotate_left
  · intro w hSw
    try dsimp only at hSw
    go_simp
    try with_reducible rfl
  try simp only [Act.put, List.setIfInBounds_toArray, List.set_cons_zero, List.set_cons_succ]
  refine wpAnyH_take (i := 14) (oi := ⟨some 36, .load 62 (.tmp 35), 62, "law.go:29", #[⟨13, .data⟩, ⟨11, .guard⟩], some (11, true)⟩) (v := ?_) rfl (by kernel_rfl) (by kernel_rfl) (by kernel_rfl) (fun _ _ _ h => h) (Or.inl ⟨by rfl, ?_⟩) (by assumption) ?_
  rotate_left
  · intro w hSw
    try dsimp only at hSw
    go_simp
    try with_reducible rfl
  try simp only [Act.put, List.setIfInBounds_toArray, List.set_cons_zero, List.set_cons_succ]
  refine wpAnyH_take (i := 15) (oi := ⟨some 37, .build 56 #[(0, .const (.int .i64 (-1)))], 56, "law.go:29", #[⟨11, .guard⟩], some (11, true)⟩) (v := ?_) rfl (by kernel_rfl) (by kernel_rfl) (by kernel_rfl) (fun _ _ _ h => h) (Or.inl ⟨by rfl, ?_⟩) (by assumption) ?_
  rotate_left
  · intro w hSw
    try dsimp only at hSw
    go_simp
    try with_reducible rfl
  try simp only [Act.put, List.setIfInBounds_toArray, List.set_cons_zero, List.set_cons_succ]
  refine wpAnyH_take (i := 16) (oi := ⟨some 38, .build 62 #[(0, .const (.int .i64 1)), (1, .tmp 37)], 62, "law.go:29", #[⟨15, .data⟩, ⟨11, .guard⟩], some (11, true)⟩) (v := ?_) rfl (by kernel_rfl) (by kernel_rfl) (by kernel_rfl) (fun _ _ _ h => h) (Or.inl ⟨by rfl, ?_⟩) (by assumption) ?_
  rotate_left
  · intro w hSw
    try dsimp only at hSw
    go_simp
    try with_reducible rfl
  try simp only [Act.put, List.setIfInBounds_toArray, List.set_cons_zero, List.set_cons_succ]
  refine wpAnyH_take (i := 17) (oi := ⟨some 39, .binOp .eql 62 (.tmp 36) (.tmp 38) 62, 4, "law.go:29", #[⟨14, .data⟩, ⟨16, .data⟩, ⟨11, .guard⟩], some (11, true)⟩) (v := ?_) rfl (by kernel_rfl) (by kernel_rfl) (by kernel_rfl) (fun _ _ _ h => h) (Or.inl ⟨by rfl, ?_⟩) (by assumption) ?_
  rotate_left
  · intro w hSw
    try dsimp only at hSw
    go_simp
    try with_reducible rfl
  try simp only [Act.put, List.setIfInBounds_toArray, List.set_cons_zero, List.set_cons_succ]
  refine wpAnyH_take (i := 18) (oi := ⟨some 40, .pick (.tmp 33) (.tmp 39) (.const (.bool false)), 4, "law.go:29", #[⟨11, .data⟩, ⟨17, .data⟩], none⟩) (v := ?_) rfl (by kernel_rfl) (by kernel_rfl) (by kernel_rfl) (fun _ _ _ h => h) (Or.inl ⟨by rfl, ?_⟩) (by assumption) ?_
  rotate_left
  · intro w hSw
    try dsimp only at hSw
    go_simp
    try with_reducible rfl
  try simp only [Act.put, List.setIfInBounds_toArray, List.set_cons_zero, List.set_cons_succ]
  refine wpAnyH_take (i := 19) (oi := ⟨some 41, .move (.tmp 40), 4, "law.go:29", #[⟨18, .data⟩, ⟨11, .chain⟩], none⟩) (v := ?_) rfl (by kernel_rfl) (by kernel_rfl) (by kernel_rfl) (fun _ _ _ h => h) (Or.inl ⟨by rfl, ?_⟩) (by assumption) ?_
  rotate_left
  · intro w hSw
    try dsimp only at hSw
    go_simp
    try with_reducible rfl
  try simp only [Act.put, List.setIfInBounds_toArray, List.set_cons_zero, List.set_cons_succ]
  refine wpAnyH_take (i := 20) (oi := ⟨some 42, .move (.tmp 4), 66, "law.go:29", #[⟨19, .guard⟩], some (19, true)⟩) (v := ?_) rfl (by kernel_rfl) (by kernel_rfl) (by kernel_rfl) (fun _ _ _ h => h) (Or.inl ⟨by rfl, ?_⟩) (by assumption) ?_
  rotate_left
  · intro w hSw
    try dsimp only at hSw
    go_simp
    try with_reducible rfl
  try simp only [Act.put, List.setIfInBounds_toArray, List.set_cons_zero, List.set_cons_succ]
  refine wpAnyH_take (i := 21) (oi := ⟨some 43, .indexAddr 66 (.tmp 42) (.const (.int .i64 2)), 0, "law.go:29", #[⟨20, .data⟩, ⟨19, .guard⟩], some (19, true)⟩) (v := ?_) rfl (by kernel_rfl) (by kernel_rfl) (by kernel_rfl) (fun _ _ _ h => h) (Or.inl ⟨by rfl, ?_⟩) (by assumption) ?_
  rotate_left
  · intro w hSw
    try dsimp only at hSw
    go_simp
    try with_reducible rfl
  try simp only [Act.put, List.setIfInBounds_toArray, List.set_cons_zero, List.set_cons_succ]
  refine wpAnyH_take (i := 22) (oi := ⟨some 44, .load 62 (.tmp 43), 62, "law.go:29", #[⟨21, .data⟩, ⟨19, .guard⟩], some (19, true)⟩) (v := ?_) rfl (by kernel_rfl) (by kernel_rfl) (by kernel_rfl) (fun _ _ _ h => h) (Or.inl ⟨by rfl, ?_⟩) (by assumption) ?_
  rotate_left
  · intro w hSw
    try dsimp only at hSw
    go_simp
    try with_reducible rfl
  try simp only [Act.put, List.setIfInBounds_toArray, List.set_cons_zero, List.set_cons_succ]
  refine wpAnyH_take (i := 23) (oi := ⟨some 45, .build 62 #[(0, .const (.int .i64 4))], 62, "law.go:29", #[⟨19, .guard⟩], some (19, true)⟩) (v := ?_) rfl (by kernel_rfl) (by kernel_rfl) (by kernel_rfl) (fun _ _ _ h => h) (Or.inl ⟨by rfl, ?_⟩) (by assumption) ?_
  rotate_left
  · intro w hSw
    try dsimp only at hSw
    go_simp
    try with_reducible rfl
  try simp only [Act.put, List.setIfInBounds_toArray, List.set_cons_zero, List.set_cons_succ]
  refine wpAnyH_take (i := 24) (oi := ⟨some 46, .binOp .eql 62 (.tmp 44) (.tmp 45) 62, 4, "law.go:29", #[⟨22, .data⟩, ⟨23, .data⟩, ⟨19, .guard⟩], some (19, true)⟩) (v := ?_) rfl (by kernel_rfl) (by kernel_rfl) (by kernel_rfl) (fun _ _ _ h => h) (Or.inl ⟨by rfl, ?_⟩) (by assumption) ?_
  rotate_left
  · intro w hSw
    try dsimp only at hSw
    go_simp
    try with_reducible rfl
  try simp only [Act.put, List.setIfInBounds_toArray, List.set_cons_zero, List.set_cons_succ]
  refine wpAnyH_take (i := 25) (oi := ⟨some 47, .pick (.tmp 41) (.tmp 46) (.const (.bool false)), 4, "law.go:29", #[⟨19, .data⟩, ⟨24, .data⟩], none⟩) (v := ?_) rfl (by kernel_rfl) (by kernel_rfl) (by kernel_rfl) (fun _ _ _ h => h) (Or.inl ⟨by rfl, ?_⟩) (by assumption) ?_
  rotate_left
  · intro w hSw
    try dsimp only at hSw
    go_simp
    try with_reducible rfl
  try simp only [Act.put, List.setIfInBounds_toArray, List.set_cons_zero, List.set_cons_succ]
  refine wpAnyH_take (i := 26) (oi := ⟨some 48, .move (.tmp 47), 4, "law.go:29", #[⟨25, .data⟩, ⟨19, .chain⟩], none⟩) (v := ?_) rfl (by kernel_rfl) (by kernel_rfl) (by kernel_rfl) (fun _ _ _ h => h) (Or.inl ⟨by rfl, ?_⟩) (by assumption) ?_
  rotate_left
  · intro w hSw
    try dsimp only at hSw
    go_simp
    try with_reducible rfl
  try simp only [Act.put, List.setIfInBounds_toArray, List.set_cons_zero, List.set_cons_succ]
  refine wpAnyH_take (i := 27) (oi := ⟨some 49, .move (.tmp 4), 66, "law.go:29", #[⟨26, .guard⟩], some (26, true)⟩) (v := ?_) rfl (by kernel_rfl) (by kernel_rfl) (by kernel_rfl) (fun _ _ _ h => h) (Or.inl ⟨by rfl, ?_⟩) (by assumption) ?_
  rotate_left
  · intro w hSw
    try dsimp only at hSw
    go_simp
    try with_reducible rfl
  try simp only [Act.put, List.setIfInBounds_toArray, List.set_cons_zero, List.set_cons_succ]
  refine wpAnyH_take (i := 28) (oi := ⟨some 50, .indexAddr 66 (.tmp 49) (.const (.int .i64 4)), 0, "law.go:29", #[⟨27, .data⟩, ⟨26, .guard⟩], some (26, true)⟩) (v := ?_) rfl (by kernel_rfl) (by kernel_rfl) (by kernel_rfl) (fun _ _ _ h => h) (Or.inl ⟨by rfl, ?_⟩) (by assumption) ?_
  rotate_left
  · intro w hSw
    try dsimp only at hSw
    go_simp
    try with_reducible rfl
  try simp only [Act.put, List.setIfInBounds_toArray, List.set_cons_zero, List.set_cons_succ]
  refine wpAnyH_take (i := 29) (oi := ⟨some 51, .load 62 (.tmp 50), 62, "law.go:29", #[⟨28, .data⟩, ⟨26, .guard⟩], some (26, true)⟩) (v := ?_) rfl (by kernel_rfl) (by kernel_rfl) (by kernel_rfl) (fun _ _ _ h => h) (Or.inl ⟨by rfl, ?_⟩) (by assumption) ?_
  rotate_left
  · intro w hSw
    try dsimp only at hSw
    go_simp
    try with_reducible rfl
  try simp only [Act.put, List.setIfInBounds_toArray, List.set_cons_zero, List.set_cons_succ]
  refine wpAnyH_take (i := 30) (oi := ⟨some 52, .build 62 #[(0, .const (.int .i64 5)), (2, .const (.int .i64 1))], 62, "law.go:29", #[⟨26, .guard⟩], some (26, true)⟩) (v := ?_) rfl (by kernel_rfl) (by kernel_rfl) (by kernel_rfl) (fun _ _ _ h => h) (Or.inl ⟨by rfl, ?_⟩) (by assumption) ?_
  rotate_left
  · intro w hSw
    try dsimp only at hSw
    go_simp
    try with_reducible rfl
  try simp only [Act.put, List.setIfInBounds_toArray, List.set_cons_zero, List.set_cons_succ]
  refine wpAnyH_take (i := 31) (oi := ⟨some 53, .binOp .eql 62 (.tmp 51) (.tmp 52) 62, 4, "law.go:29", #[⟨29, .data⟩, ⟨30, .data⟩, ⟨26, .guard⟩], some (26, true)⟩) (v := ?_) rfl (by kernel_rfl) (by kernel_rfl) (by kernel_rfl) (fun _ _ _ h => h) (Or.inl ⟨by rfl, ?_⟩) (by assumption) ?_
  rotate_left
  · intro w hSw
    try dsimp only at hSw
    go_simp
    try with_reducible rfl
  try simp only [Act.put, List.setIfInBounds_toArray, List.set_cons_zero, List.set_cons_succ]
  refine wpAnyH_take (i := 32) (oi := ⟨some 54, .pick (.tmp 48) (.tmp 53) (.const (.bool false)), 4, "law.go:29", #[⟨26, .data⟩, ⟨31, .data⟩], none⟩) (v := ?_) rfl (by kernel_rfl) (by kernel_rfl) (by kernel_rfl) (fun _ _ _ h => h) (Or.inl ⟨by rfl, ?_⟩) (by assumption) ?_
  rotate_left
  · intro w hSw
    try dsimp only at hSw
    go_simp
    try with_reducible rfl
  try simp only [Act.put, List.setIfInBounds_toArray, List.set_cons_zero, List.set_cons_succ]
  refine wpAnyH_take (i := 33) (oi := ⟨some 55, .move (.tmp 54), 4, "law.go:29", #[⟨32, .data⟩, ⟨26, .chain⟩], none⟩) (v := ?_) rfl (by kernel_rfl) (by kernel_rfl) (by kernel_rfl) (fun _ _ _ h => h) (Or.inl ⟨by rfl, ?_⟩) (by assumption) ?_
  rotate_left
  · intro w hSw
    try dsimp only at hSw
    go_simp
    try with_reducible rfl
  try simp only [Act.put, List.setIfInBounds_toArray, List.set_cons_zero, List.set_cons_succ]
  refine wpAnyH_take (i := 34) (oi := ⟨some 56, .load 26 (.tmp 1), 26, "law.go:29", #[⟨33, .guard⟩], some (33, true)⟩) (v := ?_) rfl (by kernel_rfl) (by kernel_rfl) (by kernel_rfl) (fun _ _ _ h => h) (Or.inl ⟨by rfl, ?_⟩) (by assumption) ?_
  rotate_left
  · intro w hSw
    try dsimp only at hSw
    go_simp
    try with_reducible rfl
  try simp only [Act.put, List.setIfInBounds_toArray, List.set_cons_zero, List.set_cons_succ]
  refine wpAnyH_take (i := 35) (oi := ⟨some 57, .build 42 #[], 42, "law.go:29", #[⟨33, .guard⟩], some (33, true)⟩) (v := ?_) rfl (by kernel_rfl) (by kernel_rfl) (by kernel_rfl) (fun _ _ _ h => h) (Or.inl ⟨by rfl, ?_⟩) (by assumption) ?_
  rotate_left
  · intro w hSw
    try dsimp only at hSw
    go_simp
    try with_reducible rfl
  try simp only [Act.put, List.setIfInBounds_toArray, List.set_cons_zero, List.set_cons_succ]
  refine wpAnyH_take (i := 36) (oi := ⟨some 58, .load 44 (.tmp 2), 44, "law.go:29", #[⟨33, .guard⟩], some (33, true)⟩) (v := ?_) rfl (by kernel_rfl) (by kernel_rfl) (by kernel_rfl) (fun _ _ _ h => h) (Or.inl ⟨by rfl, ?_⟩) (by assumption) ?_
  rotate_left
  · intro w hSw
    try dsimp only at hSw
    go_simp
    try with_reducible rfl
  try simp only [Act.put, List.setIfInBounds_toArray, List.set_cons_zero, List.set_cons_succ]
  refine wpAnyH_take (i := 37) (oi := ⟨some 59, .move (.tmp 4), 66, "law.go:29", #[⟨33, .guard⟩], some (33, true)⟩) (v := ?_) rfl (by kernel_rfl) (by kernel_rfl) (by kernel_rfl) (fun _ _ _ h => h) (Or.inl ⟨by rfl, ?_⟩) (by assumption) ?_
  rotate_left
  · intro w hSw
    try dsimp only at hSw
    go_simp
    try with_reducible rfl
  try simp only [Act.put, List.setIfInBounds_toArray, List.set_cons_zero, List.set_cons_succ]
  refine wpAnyH_take (i := 38) (oi := ⟨some 60, .indexAddr 66 (.tmp 59) (.const (.int .i64 0)), 0, "law.go:29", #[⟨37, .data⟩, ⟨33, .guard⟩], some (33, true)⟩) (v := ?_) rfl (by kernel_rfl) (by kernel_rfl) (by kernel_rfl) (fun _ _ _ h => h) (Or.inl ⟨by rfl, ?_⟩) (by assumption) ?_
  rotate_left
  · intro w hSw
    try dsimp only at hSw
    go_simp
    try with_reducible rfl
  try simp only [Act.put, List.setIfInBounds_toArray, List.set_cons_zero, List.set_cons_succ]
  refine wpAnyH_take (i := 39) (oi := ⟨some 61, .load 62 (.tmp 60), 62, "law.go:29", #[⟨38, .data⟩, ⟨33, .guard⟩], some (33, true)⟩) (v := ?_) rfl (by kernel_rfl) (by kernel_rfl) (by kernel_rfl) (fun _ _ _ h => h) (Or.inl ⟨by rfl, ?_⟩) (by assumption) ?_
  rotate_left
  · intro w hSw
    try dsimp only at hSw
    go_simp
    try with_reducible rfl
  try simp only [Act.put, List.setIfInBounds_toArray, List.set_cons_zero, List.set_cons_succ]
  refine wpAnyH_ready (rs := [40]) (by kernel_rfl) (by simp) ?_
  refine AllReadyH.cons (o := ⟨some 62, .call { callee := .value (.func 30), args := #[.tmp 56, .tmp 57, .tmp 58, .tmp 61], argTypes := #[26, 42, 44, 62] }, 4, "law.go:29", #[⟨34, .data⟩, ⟨35, .data⟩, ⟨36, .data⟩, ⟨39, .data⟩, ⟨33, .chain⟩, ⟨33, .guard⟩], some (33, true)⟩) rfl (fun K hK => ?_) AllReadyH.nil
  go_simp
  (go_at_call 30; refine (is_5 _ _ _ (oneP 0) ⟨0, 0, 0, 0⟩ (xn 0) _ _ _ _ _ (HT6.out.below (by first | exact hbb | exact hbb.drew)) (HO6.out.below (by first | exact hbb | exact hbb.drew)).prg (HX6.out.below (by first | exact hbb | exact hbb.drew))).mono ?_; rintro e w8 ⟨rfl, hb8⟩; replace hbb := bTrans (by first | exact hbb | exact hbb.drew) hb8; clear hb8)
  try (go_wp2_with fail)
  refine hK.out _ _ ?_ (fun hHeld => ?_)
  · exact HSA.out _ (by first | exact hbb | exact hbb.drew)
  clear hK K
  try simp only [Act.put, List.setIfInBounds_toArray, List.set_cons_zero, List.set_cons_succ]
  refine wpAnyH_take (i := 41) (oi := ⟨some 63, .pick (.tmp 55) (.tmp 62) (.const (.bool false)), 4, "law.go:29", #[⟨33, .data⟩, ⟨40, .data⟩], none⟩) (v := ?_) rfl (by kernel_rfl) (by kernel_rfl) (by kernel_rfl) (fun _ _ _ h => h) (Or.inl ⟨by rfl, ?_⟩) (by assumption) ?_
  rotate_left
  · intro w hSw
    try dsimp only at hSw
    go_simp
    try with_reducible rfl
  try simp only [Act.put, List.setIfInBounds_toArray, List.set_cons_zero, List.set_cons_succ]
  refine wpAnyH_take (i := 42) (oi := ⟨some 64, .move (.tmp 63), 4, "law.go:29", #[⟨41, .data⟩, ⟨40, .chain⟩], none⟩) (v := ?_) rfl (by kernel_rfl) (by kernel_rfl) (by kernel_rfl) (fun _ _ _ h => h) (Or.inl ⟨by rfl, ?_⟩) (by assumption) ?_
  rotate_left
  · intro w hSw
    try dsimp only at hSw
    go_simp
    try with_reducible rfl
  try simp only [Act.put, List.setIfInBounds_toArray, List.set_cons_zero, List.set_cons_succ]
  refine wpAnyH_take (i := 43) (oi := ⟨some 65, .load 26 (.tmp 1), 26, "law.go:29", #[⟨42, .guard⟩], some (42, true)⟩) (v := ?_) rfl (by kernel_rfl) (by kernel_rfl) (by kernel_rfl) (fun _ _ _ h => h) (Or.inl ⟨by rfl, ?_⟩) (by assumption) ?_
  rotate_left
  · intro w hSw
    try dsimp only at hSw
    go_simp
    try with_reducible rfl
  try simp only [Act.put, List.setIfInBounds_toArray, List.set_cons_zero, List.set_cons_succ]
  refine wpAnyH_take (i := 44) (oi := ⟨some 66, .build 42 #[], 42, "law.go:29", #[⟨42, .guard⟩], some (42, true)⟩) (v := ?_) rfl (by kernel_rfl) (by kernel_rfl) (by kernel_rfl) (fun _ _ _ h => h) (Or.inl ⟨by rfl, ?_⟩) (by assumption) ?_
  rotate_left
  · intro w hSw
    try dsimp only at hSw
    go_simp
    try with_reducible rfl
  try simp only [Act.put, List.setIfInBounds_toArray, List.set_cons_zero, List.set_cons_succ]
  refine wpAnyH_take (i := 45) (oi := ⟨some 67, .load 44 (.tmp 2), 44, "law.go:29", #[⟨42, .guard⟩], some (42, true)⟩) (v := ?_) rfl (by kernel_rfl) (by kernel_rfl) (by kernel_rfl) (fun _ _ _ h => h) (Or.inl ⟨by rfl, ?_⟩) (by assumption) ?_
  rotate_left
  · intro w hSw
    try dsimp only at hSw
    go_simp
    try with_reducible rfl
  try simp only [Act.put, List.setIfInBounds_toArray, List.set_cons_zero, List.set_cons_succ]
  refine wpAnyH_take (i := 46) (oi := ⟨some 68, .move (.tmp 4), 66, "law.go:29", #[⟨42, .guard⟩], some (42, true)⟩) (v := ?_) rfl (by kernel_rfl) (by kernel_rfl) (by kernel_rfl) (fun _ _ _ h => h) (Or.inl ⟨by rfl, ?_⟩) (by assumption) ?_
  rotate_left
  · intro w hSw
    try dsimp only at hSw
    go_simp
    try with_reducible rfl
  try simp only [Act.put, List.setIfInBounds_toArray, List.set_cons_zero, List.set_cons_succ]
  refine wpAnyH_take (i := 47) (oi := ⟨some 69, .indexAddr 66 (.tmp 68) (.const (.int .i64 2)), 0, "law.go:29", #[⟨46, .data⟩, ⟨42, .guard⟩], some (42, true)⟩) (v := ?_) rfl (by kernel_rfl) (by kernel_rfl) (by kernel_rfl) (fun _ _ _ h => h) (Or.inl ⟨by rfl, ?_⟩) (by assumption) ?_
  rotate_left
  · intro w hSw
    try dsimp only at hSw
    go_simp
    try with_reducible rfl
  try simp only [Act.put, List.setIfInBounds_toArray, List.set_cons_zero, List.set_cons_succ]
  refine wpAnyH_take (i := 48) (oi := ⟨some 70, .load 62 (.tmp 69), 62, "law.go:29", #[⟨47, .data⟩, ⟨42, .guard⟩], some (42, true)⟩) (v := ?_) rfl (by kernel_rfl) (by kernel_rfl) (by kernel_rfl) (fun _ _ _ h => h) (Or.inl ⟨by rfl, ?_⟩) (by assumption) ?_
  rotate_left
  · intro w hSw
    try dsimp only at hSw
    go_simp
    try with_reducible rfl
  try simp only [Act.put, List.setIfInBounds_toArray, List.set_cons_zero, List.set_cons_succ]
  refine wpAnyH_ready (rs := [49]) (by kernel_rfl) (by simp) ?_
  refine AllReadyH.cons (o := ⟨some 71, .call { callee := .value (.func 30), args := #[.tmp 65, .tmp 66, .tmp 67, .tmp 70], argTypes := #[26, 42, 44, 62] }, 4, "law.go:29", #[⟨43, .data⟩, ⟨44, .data⟩, ⟨45, .data⟩, ⟨48, .data⟩, ⟨42, .chain⟩, ⟨42, .guard⟩], some (42, true)⟩) rfl (fun K hK => ?_) AllReadyH.nil
  go_simp
  (go_at_call 30; refine (is_5 _ _ _ (oneP 0) ⟨0, 0, 0, 0⟩ (xn 0) _ _ _ _ _ (HT6.out.below (by first | exact hbb | exact hbb.drew)) (HO6.out.below (by first | exact hbb | exact hbb.drew)).prg (HX6.out.below (by first | exact hbb | exact hbb.drew))).mono ?_; rintro e w8 ⟨rfl, hb8⟩; replace hbb := bTrans (by first | exact hbb | exact hbb.drew) hb8; clear hb8)
  try (go_wp2_with fail)
  refine hK.out _ _ ?_ (fun hHeld => ?_)
  · exact HSA.out _ (by first | exact hbb | exact hbb.drew)
  clear hK K
  try simp only [Act.put, List.setIfInBounds_toArray, List.set_cons_zero, List.set_cons_succ]
  refine wpAnyH_take (i := 50) (oi := ⟨some 72, .unOp .not 4 (.tmp 71), 4, "law.go:29", #[⟨49, .data⟩, ⟨42, .guard⟩], some (42, true)⟩) (v := ?_) rfl (by kernel_rfl) (by kernel_rfl) (by kernel_rfl) (fun _ _ _ h => h) (Or.inl ⟨by rfl, ?_⟩) (by assumption) ?_
  rotate_left
  · intro w hSw
    try dsimp only at hSw
    go_simp
    try with_reducible rfl
  try simp only [Act.put, List.setIfInBounds_toArray, List.set_cons_zero, List.set_cons_succ]
  refine wpAnyH_take (i := 51) (oi := ⟨some 73, .pick (.tmp 64) (.tmp 72) (.const (.bool false)), 4, "law.go:29", #[⟨42, .data⟩, ⟨50, .data⟩], none⟩) (v := ?_) rfl (by kernel_rfl) (by kernel_rfl) (by kernel_rfl) (fun _ _ _ h => h) (Or.inl ⟨by rfl, ?_⟩) (by assumption) ?_
  rotate_left
  · intro w hSw
    try dsimp only at hSw
    go_simp
    try with_reducible rfl
  try simp only [Act.put, List.setIfInBounds_toArray, List.set_cons_zero, List.set_cons_succ]
  refine wpAnyH_take (i := 52) (oi := ⟨some 74, .move (.tmp 73), 4, "law.go:29", #[⟨51, .data⟩, ⟨49, .chain⟩], none⟩) (v := ?_) rfl (by kernel_rfl) (by kernel_rfl) (by kernel_rfl) (fun _ _ _ h => h) (Or.inl ⟨by rfl, ?_⟩) (by assumption) ?_
  rotate_left
  · intro w hSw
    try dsimp only at hSw
    go_simp
    try with_reducible rfl
  try simp only [Act.put, List.setIfInBounds_toArray, List.set_cons_zero, List.set_cons_succ]
  refine wpAnyH_take (i := 53) (oi := ⟨some 75, .load 42 (.tmp 5), 42, "law.go:29", #[⟨52, .guard⟩], some (52, true)⟩) (v := ?_) rfl (by kernel_rfl) (by kernel_rfl) (by kernel_rfl) (fun _ _ _ h => h) (Or.inl ⟨by rfl, ?_⟩) (by assumption) ?_
  rotate_left
  · intro w hSw
    try dsimp only at hSw
    go_simp
    try with_reducible rfl
  try simp only [Act.put, List.setIfInBounds_toArray, List.set_cons_zero, List.set_cons_succ]
  refine wpAnyH_take (i := 54) (oi := ⟨some 76, .build 42 #[(0, .const (.int .i64 2))], 42, "law.go:29", #[⟨52, .guard⟩], some (52, true)⟩) (v := ?_) rfl (by kernel_rfl) (by kernel_rfl) (by kernel_rfl) (fun _ _ _ h => h) (Or.inl ⟨by rfl, ?_⟩) (by assumption) ?_
  rotate_left
  · intro w hSw
    try dsimp only at hSw
    go_simp
    try with_reducible rfl
  try simp only [Act.put, List.setIfInBounds_toArray, List.set_cons_zero, List.set_cons_succ]
  refine wpAnyH_take (i := 55) (oi := ⟨some 77, .binOp .eql 42 (.tmp 75) (.tmp 76) 42, 4, "law.go:29", #[⟨53, .data⟩, ⟨54, .data⟩, ⟨52, .guard⟩], some (52, true)⟩) (v := ?_) rfl (by kernel_rfl) (by kernel_rfl) (by kernel_rfl) (fun _ _ _ h => h) (Or.inl ⟨by rfl, ?_⟩) (by assumption) ?_
  rotate_left
  · intro w hSw
    try dsimp only at hSw
    go_simp
    try with_reducible rfl
  try simp only [Act.put, List.setIfInBounds_toArray, List.set_cons_zero, List.set_cons_succ]
  refine wpAnyH_take (i := 56) (oi := ⟨some 78, .pick (.tmp 74) (.tmp 77) (.const (.bool false)), 4, "law.go:29", #[⟨52, .data⟩, ⟨55, .data⟩], none⟩) (v := ?_) rfl (by kernel_rfl) (by kernel_rfl) (by kernel_rfl) (fun _ _ _ h => h) (Or.inl ⟨by rfl, ?_⟩) (by assumption) ?_
  rotate_left
  · intro w hSw
    try dsimp only at hSw
    go_simp
    try with_reducible rfl
  try simp only [Act.put, List.setIfInBounds_toArray, List.set_cons_zero, List.set_cons_succ]
  refine wpAnyH_take (i := 57) (oi := ⟨some 79, .move (.tmp 78), 4, "law.go:29", #[⟨56, .data⟩, ⟨52, .chain⟩], none⟩) (v := ?_) rfl (by kernel_rfl) (by kernel_rfl) (by kernel_rfl) (fun _ _ _ h => h) (Or.inl ⟨by rfl, ?_⟩) (by assumption) ?_
  rotate_left
  · intro w hSw
    try dsimp only at hSw
    go_simp
    try with_reducible rfl
  try simp only [Act.put, List.setIfInBounds_toArray, List.set_cons_zero, List.set_cons_succ]
  refine wpAnyH_take (i := 58) (oi := ⟨some 80, .build 42 #[], 42, "law.go:29", #[⟨57, .guard⟩], some (57, true)⟩) (v := ?_) rfl (by kernel_rfl) (by kernel_rfl) (by kernel_rfl) (fun _ _ _ h => h) (Or.inl ⟨by rfl, ?_⟩) (by assumption) ?_
  rotate_left
  · intro w hSw
    try dsimp only at hSw
    go_simp
    try with_reducible rfl
  try simp only [Act.put, List.setIfInBounds_toArray, List.set_cons_zero, List.set_cons_succ]
  refine wpAnyH_ready (rs := [59]) (by kernel_rfl) (by simp) ?_
  refine AllReadyH.cons (o := ⟨some 81, .call { callee := .value (.func 37), args := #[.tmp 80], argTypes := #[42] }, 4, "law.go:29", #[⟨58, .data⟩, ⟨57, .chain⟩, ⟨57, .guard⟩], some (57, true)⟩) rfl (fun K hK => ?_) AllReadyH.nil
  go_simp
  (go_at_call 37; refine (may_4 _ _ _ _ _).mono ?_; rintro e wa ⟨rfl, hba⟩; replace hbb := bTrans (by first | exact hbb | exact hbb.drew) hba; clear hba)
  try (go_wp2_with fail)
  refine hK.out _ _ ?_ (fun hHeld => ?_)
  · exact HSA.out _ (by first | exact hbb | exact hbb.drew)
  clear hK K
  try simp only [Act.put, List.setIfInBounds_toArray, List.set_cons_zero, List.set_cons_succ]
  refine wpAnyH_take (i := 60) (oi := ⟨some 82, .pick (.tmp 79) (.tmp 81) (.const (.bool false)), 4, "law.go:29", #[⟨57, .data⟩, ⟨59, .data⟩], none⟩) (v := ?_) rfl (by kernel_rfl) (by kernel_rfl) (by kernel_rfl) (fun _ _ _ h => h) (Or.inl ⟨by rfl, ?_⟩) (by assumption) ?_
  rotate_left
  · intro w hSw
    try dsimp only at hSw
    go_simp
    try with_reducible rfl
  try simp only [Act.put, List.setIfInBounds_toArray, List.set_cons_zero, List.set_cons_succ]
  refine wpAnyH_take (i := 61) (oi := ⟨some 83, .move (.tmp 82), 4, "law.go:29", #[⟨60, .data⟩, ⟨59, .chain⟩], none⟩) (v := ?_) rfl (by kernel_rfl) (by kernel_rfl) (by kernel_rfl) (fun _ _ _ h => h) (Or.inl ⟨by rfl, ?_⟩) (by assumption) ?_
  rotate_left
  · intro w hSw
    try dsimp only at hSw
    go_simp
    try with_reducible rfl
  try simp only [Act.put, List.setIfInBounds_toArray, List.set_cons_zero, List.set_cons_succ]
  refine wpAnyH_take (i := 62) (oi := ⟨some 84, .build 42 #[(1, .const (.int .i64 1001))], 42, "law.go:29", #[⟨61, .guard⟩], some (61, true)⟩) (v := ?_) rfl (by kernel_rfl) (by kernel_rfl) (by kernel_rfl) (fun _ _ _ h => h) (Or.inl ⟨by rfl, ?_⟩) (by assumption) ?_
  rotate_left
  · intro w hSw
    try dsimp only at hSw
    go_simp
    try with_reducible rfl
  try simp only [Act.put, List.setIfInBounds_toArray, List.set_cons_zero, List.set_cons_succ]
  refine wpAnyH_ready (rs := [63]) (by kernel_rfl) (by simp) ?_
  refine AllReadyH.cons (o := ⟨some 85, .call { callee := .value (.func 37), args := #[.tmp 84], argTypes := #[42] }, 4, "law.go:29", #[⟨62, .data⟩, ⟨61, .chain⟩, ⟨61, .guard⟩], some (61, true)⟩) rfl (fun K hK => ?_) AllReadyH.nil
  go_simp
  (go_at_call 37; refine (may_4 _ _ _ _ _).mono ?_; rintro e wa ⟨rfl, hba⟩; replace hbb := bTrans (by first | exact hbb | exact hbb.drew) hba; clear hba)
  try (go_wp2_with fail)
  refine hK.out _ _ ?_ (fun hHeld => ?_)
  · exact HSA.out _ (by first | exact hbb | exact hbb.drew)
  clear hK K
  try simp only [Act.put, List.setIfInBounds_toArray, List.set_cons_zero, List.set_cons_succ]
  refine wpAnyH_take (i := 64) (oi := ⟨some 86, .unOp .not 4 (.tmp 85), 4, "law.go:29", #[⟨63, .data⟩, ⟨61, .guard⟩], some (61, true)⟩) (v := ?_) rfl (by kernel_rfl) (by kernel_rfl) (by kernel_rfl) (fun _ _ _ h => h) (Or.inl ⟨by rfl, ?_⟩) (by assumption) ?_
  rotate_left
  · intro w hSw
    try dsimp only at hSw
    go_simp
    try with_reducible rfl
  try simp only [Act.put, List.setIfInBounds_toArray, List.set_cons_zero, List.set_cons_succ]
  refine wpAnyH_take (i := 65) (oi := ⟨some 87, .pick (.tmp 83) (.tmp 86) (.const (.bool false)), 4, "law.go:29", #[⟨61, .data⟩, ⟨64, .data⟩], none⟩) (v := ?_) rfl (by kernel_rfl) (by kernel_rfl) (by kernel_rfl) (fun _ _ _ h => h) (Or.inl ⟨by rfl, ?_⟩) (by assumption) ?_
  rotate_left
  · intro w hSw
    try dsimp only at hSw
    go_simp
    try with_reducible rfl
  try simp only [Act.put, List.setIfInBounds_toArray, List.set_cons_zero, List.set_cons_succ]
  refine wpAnyH_take (i := 66) (oi := { dst := some 0, op := Go.Op.assign (Go.Operand.tmp 87), type := 4, pos := "law.go:29", after := ([⟨65, .data⟩, ⟨63, .chain⟩, ⟨0, .phase⟩, ⟨1, .phase⟩, ⟨2, .phase⟩, ⟨3, .phase⟩, ⟨4, .phase⟩, ⟨5, .phase⟩, ⟨6, .phase⟩, ⟨7, .phase⟩, ⟨8, .phase⟩, ⟨9, .phase⟩, ⟨10, .phase⟩, ⟨11, .phase⟩, ⟨12, .phase⟩, ⟨13, .phase⟩, ⟨14, .phase⟩, ⟨15, .phase⟩, ⟨16, .phase⟩, ⟨17, .phase⟩, ⟨18, .phase⟩, ⟨19, .phase⟩, ⟨20, .phase⟩, ⟨21, .phase⟩, ⟨22, .phase⟩, ⟨23, .phase⟩, ⟨24, .phase⟩, ⟨25, .phase⟩, ⟨26, .phase⟩, ⟨27, .phase⟩, ⟨28, .phase⟩, ⟨29, .phase⟩, ⟨30, .phase⟩, ⟨31, .phase⟩].append [⟨32, .phase⟩, ⟨33, .phase⟩, ⟨34, .phase⟩, ⟨35, .phase⟩, ⟨36, .phase⟩, ⟨37, .phase⟩, ⟨38, .phase⟩, ⟨39, .phase⟩, ⟨40, .phase⟩, ⟨41, .phase⟩, ⟨42, .phase⟩, ⟨43, .phase⟩, ⟨44, .phase⟩, ⟨45, .phase⟩, ⟨46, .phase⟩, ⟨47, .phase⟩, ⟨48, .phase⟩, ⟨49, .phase⟩, ⟨50, .phase⟩, ⟨51, .phase⟩, ⟨52, .phase⟩, ⟨53, .phase⟩, ⟨54, .phase⟩, ⟨55, .phase⟩, ⟨56, .phase⟩, ⟨57, .phase⟩, ⟨58, .phase⟩, ⟨59, .phase⟩, ⟨60, .phase⟩, ⟨61, .phase⟩, ⟨62, .phase⟩, ⟨63, .phase⟩, ⟨64, .phase⟩, ⟨65, .phase⟩]).toArray, guard := none }) (v := ?_) rfl (by kernel_rfl) (by kernel_rfl) (by kernel_rfl) (fun _ _ _ h => h) (Or.inl ⟨by rfl, ?_⟩) (by assumption) ?_
  rotate_left
  · intro w hSw
    try dsimp only at hSw
    go_simp
    try with_reducible rfl
  try simp only [Act.put, List.setIfInBounds_toArray, List.set_cons_zero]
  refine wpAnyH_done (by kernel_rfl) ?_ _
  go_wp2_with fail
  go_ret
  exact ⟨rfl, bTrans HB6.out hbb⟩
end
end Go.Proofs.YtgdloonpemaijaaDoor
