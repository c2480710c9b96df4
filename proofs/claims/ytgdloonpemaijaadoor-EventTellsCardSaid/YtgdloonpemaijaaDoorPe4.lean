/-
  What the document fixes of chapter 10 (the law's awake). Conditions: the table of the instructions is in the world.
-/
import Derived.Test.YtgdloonpemaijaaDoorPe3
namespace Go.Proofs.YtgdloonpemaijaaDoor
open Go.RowKit
section
variable {W wr : World} {v : Value} {l : List PEv}
theorem EN.cell {g n c j : Nat} {u : Value} (h : EN W wr (.slice (some ⟨g, 0, none⟩) n c) l) (hu : ((l.map erow).flatten)[j]? = some u) : wr.cell? ⟨g, j, none⟩ = some u := by
  obtain ⟨h1, h2⟩ := h.own
  rcases h2 with ⟨h3, _⟩ | ⟨g', cap, cur, e, hb, hh, h3, h4, h5, h6⟩
  · cases h3
  · cases e
    have hj := (List.getElem?_eq_some_iff.1 hu).1
    rw [cell_of_row _ _ _ _ _ _ hh, ← hu, ← h6, List.getElem?_take, if_pos (by omega)]; simp
theorem EN.blk (h : EN W wr v l) (hl : 0 < l.length) : ∃ g c, v = .slice (some ⟨g, 0, none⟩) l.length c ∧ l.length ≤ c ∧ g < wr.heap.size := by
  obtain ⟨h1, h2⟩ := h.own
  rcases h2 with ⟨_, h3⟩ | ⟨g', cap, cur, e, hb, hh, h3, h4, h5, h6⟩
  · omega
  · exact ⟨g', cap, e, h3, (Array.getElem?_eq_some_iff.1 hh).1⟩
end
theorem wldU {w : World} {u : PBud} {a m : Value} {x : PWld} (e : x.used = u) (h : WldV w (wVal x.used a m) x) : WldV w (wVal u a m) x := by rw [← e]; exact h
/-- The start of the laws' program. -/
theorem oneS (W : World) (vp : Value) {n : Nat} (hn : n ≤ 4) (ht : Tab W) (hp : PrgV W vp (oneP n)) :
    Calls Tryd.prog 21 #[vp] W fun e w' => ∃ ga ca B d lo hi, e = .returned (.tuple #[wVal ⟨0, 0, 0, 0⟩ (.slice (some ⟨ga, 0, none⟩) 2 ca) (.slice B (n + 2) d), .int .i64 0]) ∧ WN W.heap.size lo hi w' (.slice (some ⟨ga, 0, none⟩) 2 ca) (.slice B (n + 2) d) (xn n) ∧ Below W.heap.size W w' := by
  refine (start_yes W vp (oneP n) ht hp (one_small hn) (one_fc hn)).mono ?_
  rintro e w' ⟨a, m, lo, hi, rfl, hwn, hb⟩
  have hu := xn_used hn
  have hm := xn_mail hn
  have ha := xn_acts hn
  have hal : (xn n).acts.length = 2 := by rw [ha]; rfl
  obtain ⟨A, c, rfl, hc, hl⟩ := hwn.acts
  obtain ⟨B, d, rfl, _⟩ := hwn.mail.form
  change WN W.heap.size lo hi w' (.slice A (xn n).acts.length c) (.slice B (xn n).mail.length d) (xn n) at hwn
  change _ ∨ _ at hl
  rcases hl with ⟨e, _⟩ | ⟨g, rfl, _, _⟩
  · have : (xn n).acts = [] := e
    rw [ha] at this; cases this
  · refine ⟨g, c, B, d, lo, hi, ?_, by rw [hal, hm] at hwn; exact hwn, hb⟩
    show Ending.returned (.tuple #[wVal (xn n).used (.slice (some ⟨g, 0, none⟩) (xn n).acts.length c) (.slice B (xn n).mail.length d), .int .i64 0]) = _
    rw [hu, hal, hm]
theorem is_5 (w : World) (vp vw : Value) (p : PPrg) (b : PBud) (x : PWld) (k f n c who : Int) (ht : Tab w) (hp : PrgV w vp p) (hx : WldV w vw x) :
    Calls Tryd.prog 30 #[vp, .agg #[.int .i64 b.drop, .int .i64 b.dup, .int .i64 b.time, .int .i64 b.crash], vw, .agg #[.int .i64 k, .int .i64 f, .int .i64 n, .int .i64 c, .int .i64 who]] w fun r w' => r = .returned (.bool (isP p b x ⟨k, ⟨f, n, c⟩, who⟩)) ∧ Below w.heap.size w w' :=
  is_any w vp vw p b x ⟨k, ⟨f, n, c⟩, who⟩ ht hp hx
theorem may_4 (w : World) (a b c d : Int) : Calls Tryd.prog 37 #[.agg #[.int .i64 a, .int .i64 b, .int .i64 c, .int .i64 d]] w fun e w' => e = .returned (.bool (mayB ⟨a, b, c, d⟩)) ∧ Below w.heap.size w w' := may_any w ⟨a, b, c, d⟩
section
attribute [local go_sem ↓] eq10 eq8
set_option maxHeartbeats 8000000 in
set_option maxRecDepth 100000 in
theorem ewake_any (w : World) (ht : Tab w) : Calls Tryd.prog 29 #[] w fun e w' => e = .returned (.bool true) ∧ Below w.heap.size w w' := by
  have HT := hid_mk ht
  have hgE := gE
  have hq0 : sameE ⟨1, ⟨-1, 0, 0⟩, 0⟩ ⟨1, ⟨-1, 0, 0⟩, 0⟩ = true := by decide
  have hq2 : sameE ⟨4, ⟨0, 0, 0⟩, 0⟩ ⟨4, ⟨0, 0, 0⟩, 0⟩ = true := by decide
  have hq4 : sameE ⟨5, ⟨0, 0, 0⟩, 1⟩ ⟨5, ⟨0, 0, 0⟩, 1⟩ = true := by decide
  have hqb : eqB (⟨2, 0, 0, 0⟩ : PBud) ⟨2, 0, 0, 0⟩ = true := by decide
  have ha1 := aw_1
  have ha2 := aw_2
  have ha4 := aw_4
  have ha5 := aw_5
  clear ht
  go_enter Tryd.func29, Tryd.ntmps29
  go_wp2_with fail
  refine (oneL_any _).mono ?_
  rintro e w1 ⟨rfl, ho, hb1⟩
  have HO := hid_mk ho
  have HB1 := hid_mk hb1
  clear ho hb1
  go_wp2_with fail
  refine (oneS (n := 0) _ _ (by decide) (HT.out.below (bAlloc HB1.out _)) (HO.out.below (bAlloc (bRefl _) _)).prg).mono ?_
  rintro e w2 ⟨ga, ca, B, d, lo, hi, rfl, hwn, hb2⟩
  have HPB := hid_mk (boxAt (heap_new w1 (.cells #[.slice (some ⟨w.heap.size + 1, 0, none⟩) 1 1, .slice (some ⟨w.heap.size + 1 + 1, 0, none⟩) 2 2, .slice (some ⟨w.heap.size + 1 + 1 + 1, 0, none⟩) 2 2, .int .i64 5] 26)) hb2)
  have HO2 := hid_mk (HO.out.below (bTrans (bAlloc (bRefl _) _) hb2))
  have HB2 := hid_mk (bTrans (bAlloc HB1.out _) hb2)
  have HWN := hid_mk hwn
  obtain ⟨p0, p1, p2, p3⟩ := blk4 HPB.out
  have z1 : w1.heap.size < w2.heap.size := (Array.getElem?_eq_some_iff.1 HPB.out).1
  clear hb2 hwn
  go_wp2_with fail
  have hZ : Below w2.heap.size w2 (w2.alloc (.cells #[.slice (some ⟨ga, 0, none⟩) 2 ca, .slice B (0 + 2) d, .int .i64 0, .int .i64 0, .int .i64 0, .int .i64 0] 44)) := bAlloc (bRefl _) _
  have hWB := heap_new w2 (.cells #[.slice (some ⟨ga, 0, none⟩) 2 ca, .slice B (0 + 2) d, .int .i64 0, .int .i64 0, .int .i64 0, .int .i64 0] 44)
  generalize (w2.alloc (.cells #[.slice (some ⟨ga, 0, none⟩) 2 ca, .slice B (0 + 2) d, .int .i64 0, .int .i64 0, .int .i64 0, .int .i64 0] 44)) = w3 at hZ hWB ⊢
  have HX : Hid (WldV w3 (wVal ⟨0, 0, 0, 0⟩ (.slice (some ⟨ga, 0, none⟩) 2 ca) (.slice B (0 + 2) d)) (xn 0)) := wldU (xn_used (by decide)) ((HWN.out.below hZ).wld (xn_sm (by decide)))
  have HO3 := hid_mk (HO2.out.below hZ)
  have HB3 := hid_mk (bTrans HB2.out hZ)
  have HPB3 := hid_mk (boxAt HPB.out hZ)
  have HWB3 := hid_mk hWB
  have HT3 := hid_mk (HT.out.below HB3.out)
  clear p0 p1 p2 p3 z1 hZ hWB
  obtain ⟨p0, p1, p2, p3⟩ := blk4 HPB3.out
  obtain ⟨x0, x1, x2, x3, x4, x5⟩ := blk6 HWB3.out
  go_wp2_with fail
  refine (enab_any _ _ _ (oneP 0) ⟨0, 0, 1, 1⟩ (xn 0) HT3.out HO3.out.prg HX.out (by rw [xn_mail (by decide)]; decide) (by rw [xn_acts (by decide)]; decide)).mono ?_
  rintro e w4 ⟨v4, rfl, hen⟩
  rw [aw_l] at hen
  obtain ⟨g4, c4, rfl, hc4, hg4⟩ := hen.blk (by decide)
  have HEN := hid_mk hen
  have HB4 := hid_mk (bTrans HB3.out hen.low)
  have HP4 := hid_mk (boxAt HPB3.out hen.low)
  have HW4 := hid_mk (boxAt HWB3.out hen.low)
  have HT4 := hid_mk (HT3.out.below hen.low)
  have HO4 := hid_mk (HO3.out.below hen.low)
  have HX4 := hid_mk (HX.out.below hen.low)
  clear hen p0 p1 p2 p3 x0 x1 x2 x3 x4 x5
  go_wp2_with fail
  refine (left_any _ ⟨3, 1, 0, 0⟩ ⟨1, 2, 0, 0⟩ none 0 0 none 0 0).mono ?_
  rw [aw_3]
  rintro e w5 ⟨rfl, hb5⟩
  go_wp2_with fail
  have hZ : Below w4.heap.size w4 (w5.alloc (.cells #[.int .i64 2, .int .i64 0, .int .i64 0, .int .i64 0] 42)) := bAlloc hb5 _
  have hLB := heap_new w5 (.cells #[.int .i64 2, .int .i64 0, .int .i64 0, .int .i64 0] 42)
  generalize (w5.alloc (.cells #[.int .i64 2, .int .i64 0, .int .i64 0, .int .i64 0] 42)) = w6 at hZ hLB ⊢
  have HL6 := hid_mk hLB
  have HEN6 := hid_mk (HEN.out.below hZ)
  have HB6 := hid_mk (bTrans HB4.out hZ)
  have HP6 := hid_mk (boxAt HP4.out hZ)
  have HW6 := hid_mk (boxAt HW4.out hZ)
  have HT6 := hid_mk (HT4.out.below hZ)
  have HO6 := hid_mk (HO4.out.below hZ)
  have HX6 := hid_mk (HX4.out.below hZ)
  clear hZ hLB hb5
  have HSA : Hid (∀ w', Below w6.heap.size w6 w' → w'.cell? ⟨w1.heap.size, 0, none⟩ = some (.slice (some ⟨w.heap.size + 1, 0, none⟩) 1 1) ∧ w'.cell? ⟨w1.heap.size, 1, none⟩ = some (.slice (some ⟨w.heap.size + 1 + 1, 0, none⟩) 2 2) ∧ w'.cell? ⟨w1.heap.size, 2, none⟩ = some (.slice (some ⟨w.heap.size + 1 + 1 + 1, 0, none⟩) 2 2) ∧ w'.cell? ⟨w1.heap.size, 3, none⟩ = some (.int .i64 5) ∧ w'.cell? ⟨w2.heap.size, 0, none⟩ = some (.slice (some ⟨ga, 0, none⟩) 2 ca) ∧ w'.cell? ⟨w2.heap.size, 1, none⟩ = some (.slice B (0 + 2) d) ∧ w'.cell? ⟨w2.heap.size, 2, none⟩ = some (.int .i64 0) ∧ w'.cell? ⟨w2.heap.size, 3, none⟩ = some (.int .i64 0) ∧ w'.cell? ⟨w2.heap.size, 4, none⟩ = some (.int .i64 0) ∧ w'.cell? ⟨w2.heap.size, 5, none⟩ = some (.int .i64 0) ∧ w'.cell? ⟨w5.heap.size, 0, none⟩ = some (.int .i64 2) ∧ w'.cell? ⟨w5.heap.size, 1, none⟩ = some (.int .i64 0) ∧ w'.cell? ⟨w5.heap.size, 2, none⟩ = some (.int .i64 0) ∧ w'.cell? ⟨w5.heap.size, 3, none⟩ = some (.int .i64 0) ∧ w'.cell? ⟨g4, 0, none⟩ = some (.int .i64 1) ∧ w'.cell? ⟨g4, 1, none⟩ = some (.int .i64 (-1)) ∧ w'.cell? ⟨g4, 2, none⟩ = some (.int .i64 0) ∧ w'.cell? ⟨g4, 3, none⟩ = some (.int .i64 0) ∧ w'.cell? ⟨g4, 4, none⟩ = some (.int .i64 0) ∧ w'.cell? ⟨g4, 10, none⟩ = some (.int .i64 4) ∧ w'.cell? ⟨g4, 11, none⟩ = some (.int .i64 0) ∧ w'.cell? ⟨g4, 12, none⟩ = some (.int .i64 0) ∧ w'.cell? ⟨g4, 13, none⟩ = some (.int .i64 0) ∧ w'.cell? ⟨g4, 14, none⟩ = some (.int .i64 0) ∧ w'.cell? ⟨g4, 20, none⟩ = some (.int .i64 5) ∧ w'.cell? ⟨g4, 21, none⟩ = some (.int .i64 0) ∧ w'.cell? ⟨g4, 22, none⟩ = some (.int .i64 0) ∧ w'.cell? ⟨g4, 23, none⟩ = some (.int .i64 0) ∧ w'.cell? ⟨g4, 24, none⟩ = some (.int .i64 1)) := fun w' hb => by
    obtain ⟨a0, a1, a2, a3⟩ := blk4 (boxAt HP6.out hb)
    obtain ⟨b0, b1, b2, b3, b4, b5⟩ := blk6 (boxAt HW6.out hb)
    obtain ⟨d0, d1, d2, d3⟩ := blk4 (boxAt HL6.out hb)
    have hen := HEN6.out.below hb
    exact ⟨a0, a1, a2, a3, b0, b1, b2, b3, b4, b5, d0, d1, d2, d3, hen.cell rfl, hen.cell rfl, hen.cell rfl, hen.cell rfl, hen.cell rfl, hen.cell rfl, hen.cell rfl, hen.cell rfl, hen.cell rfl, hen.cell rfl, hen.cell rfl, hen.cell rfl, hen.cell rfl, hen.cell rfl, hen.cell rfl⟩
  have hbb : Below w6.heap.size w6 w6 := bRefl _
  clear HO HB1 HPB HO2 HB2 HWN HX HO3 HB3 HPB3 HWB3 HT3 HEN HB4 HP4 HW4 HT4 HO4 HX4 HT
  go_wp2_with fail
  refine wp_region_held_drew (S := fun w' => w'.cell? ⟨w1.heap.size, 0, none⟩ = some (.slice (some ⟨w.heap.size + 1, 0, none⟩) 1 1) ∧ w'.cell? ⟨w1.heap.size, 1, none⟩ = some (.slice (some ⟨w.heap.size + 1 + 1, 0, none⟩) 2 2) ∧ w'.cell? ⟨w1.heap.size, 2, none⟩ = some (.slice (some ⟨w.heap.size + 1 + 1 + 1, 0, none⟩) 2 2) ∧ w'.cell? ⟨w1.heap.size, 3, none⟩ = some (.int .i64 5) ∧ w'.cell? ⟨w2.heap.size, 0, none⟩ = some (.slice (some ⟨ga, 0, none⟩) 2 ca) ∧ w'.cell? ⟨w2.heap.size, 1, none⟩ = some (.slice B (0 + 2) d) ∧ w'.cell? ⟨w2.heap.size, 2, none⟩ = some (.int .i64 0) ∧ w'.cell? ⟨w2.heap.size, 3, none⟩ = some (.int .i64 0) ∧ w'.cell? ⟨w2.heap.size, 4, none⟩ = some (.int .i64 0) ∧ w'.cell? ⟨w2.heap.size, 5, none⟩ = some (.int .i64 0) ∧ w'.cell? ⟨w5.heap.size, 0, none⟩ = some (.int .i64 2) ∧ w'.cell? ⟨w5.heap.size, 1, none⟩ = some (.int .i64 0) ∧ w'.cell? ⟨w5.heap.size, 2, none⟩ = some (.int .i64 0) ∧ w'.cell? ⟨w5.heap.size, 3, none⟩ = some (.int .i64 0) ∧ w'.cell? ⟨g4, 0, none⟩ = some (.int .i64 1) ∧ w'.cell? ⟨g4, 1, none⟩ = some (.int .i64 (-1)) ∧ w'.cell? ⟨g4, 2, none⟩ = some (.int .i64 0) ∧ w'.cell? ⟨g4, 3, none⟩ = some (.int .i64 0) ∧ w'.cell? ⟨g4, 4, none⟩ = some (.int .i64 0) ∧ w'.cell? ⟨g4, 10, none⟩ = some (.int .i64 4) ∧ w'.cell? ⟨g4, 11, none⟩ = some (.int .i64 0) ∧ w'.cell? ⟨g4, 12, none⟩ = some (.int .i64 0) ∧ w'.cell? ⟨g4, 13, none⟩ = some (.int .i64 0) ∧ w'.cell? ⟨g4, 14, none⟩ = some (.int .i64 0) ∧ w'.cell? ⟨g4, 20, none⟩ = some (.int .i64 5) ∧ w'.cell? ⟨g4, 21, none⟩ = some (.int .i64 0) ∧ w'.cell? ⟨g4, 22, none⟩ = some (.int .i64 0) ∧ w'.cell? ⟨g4, 23, none⟩ = some (.int .i64 0) ∧ w'.cell? ⟨g4, 24, none⟩ = some (.int .i64 1)) (by kernel_rfl) ?_ (fun hHeld => ?_)
  · exact HSA.out _ (by first | exact hbb | exact hbb.drew)
  refine wpAnyH_take (i := 0) (oi := { dst := some 22, op := Go.Op.load 26 (Go.Operand.tmp 1), type := 26, pos := "law.go:29", after := #[], guard := none }) (v := ?_) rfl (by kernel_rfl) (by kernel_rfl) (by kernel_rfl) (fun _ _ _ h => h) (Or.inl ⟨by rfl, ?_⟩) (by assumption) ?_
  rotate_left
  · intro w hSw
    try dsimp only at hSw
    go_simp
    try with_reducible rfl
  try simp only [Act.put, List.setIfInBounds_toArray, List.set_cons_zero, List.set_cons_succ]
  refine wpAnyH_take (i := 1) (oi := { dst := some 23, op := Go.Op.build 42 #[], type := 42, pos := "law.go:29", after := #[], guard := none }) (v := ?_) rfl (by kernel_rfl) (by kernel_rfl) (by kernel_rfl) (fun _ _ _ h => h) (Or.inl ⟨by rfl, ?_⟩) (by assumption) ?_
  rotate_left
  · intro w hSw
    try dsimp only at hSw
    go_simp
    try with_reducible rfl
  try simp only [Act.put, List.setIfInBounds_toArray, List.set_cons_zero, List.set_cons_succ]
  refine wpAnyH_take (i := 2) (oi := { dst := some 24, op := Go.Op.load 44 (Go.Operand.tmp 2), type := 44, pos := "law.go:29", after := #[], guard := none }) (v := ?_) rfl (by kernel_rfl) (by kernel_rfl) (by kernel_rfl) (fun _ _ _ h => h) (Or.inl ⟨by rfl, ?_⟩) (by assumption) ?_
  rotate_left
  · intro w hSw
    try dsimp only at hSw
    go_simp
    try with_reducible rfl
  try simp only [Act.put, List.setIfInBounds_toArray, List.set_cons_zero, List.set_cons_succ]
  refine wpAnyH_ready (rs := [3]) (by kernel_rfl) (by simp) ?_
  refine AllReadyH.cons (o := { dst := some 25, op := Go.Op.call { callee := Go.Callee.value (Go.Operand.func 33), args := #[Go.Operand.tmp 22, Go.Operand.tmp 23, Go.Operand.tmp 24], argTypes := #[26, 42, 44] }, type := 66, pos := "law.go:29", after := #[{ on := 0, ground := Go.Ground.data }, { on := 1, ground := Go.Ground.data }, { on := 2, ground := Go.Ground.data }], guard := none }) rfl (fun K hK => ?_) AllReadyH.nil
  go_simp
  (go_at_call 33; refine (enab_any _ _ _ (oneP 0) ⟨0, 0, 0, 0⟩ (xn 0) (HT6.out.below (by first | exact hbb | exact hbb.drew)) (HO6.out.below (by first | exact hbb | exact hbb.drew)).prg (HX6.out.below (by first | exact hbb | exact hbb.drew)) (by rw [xn_mail (by decide)]; decide) (by rw [xn_acts (by decide)]; decide)).mono ?_; rintro e w7 ⟨v7, rfl, hen7⟩; have hl7 := aw_0; obtain ⟨A7, c7, rfl⟩ := hen7.form; rw [hl7]; have hbb7 := hen7.low; replace hbb := bTrans (by first | exact hbb | exact hbb.drew) hbb7; clear hen7 hbb7)
  try (go_wp2_with fail)
  refine hK.out _ _ ?_ (fun hHeld => ?_)
  · exact HSA.out _ (by first | exact hbb | exact hbb.drew)
  clear hK K
  try simp only [Act.put, List.setIfInBounds_toArray, List.set_cons_zero, List.set_cons_succ]
  refine wpAnyH_take (i := 4) (oi := { dst := some 26, op := Go.Op.call { callee := Go.Callee.builtin Go.Builtin.len, args := #[Go.Operand.tmp 25], argTypes := #[66] }, type := 3, pos := "law.go:29", after := #[{ on := 3, ground := Go.Ground.data }], guard := none }) (v := ?_) rfl (by kernel_rfl) (by kernel_rfl) (by kernel_rfl) (fun _ _ _ h => h) (Or.inl ⟨by rfl, ?_⟩) (by assumption) ?_
  rotate_left
  · intro w hSw
    try dsimp only at hSw
    go_simp
    try with_reducible rfl
  try simp only [Act.put, List.setIfInBounds_toArray, List.set_cons_zero, List.set_cons_succ]
  refine wpAnyH_take (i := 5) (oi := { dst := some 27, op := Go.Op.binOp Go.BinOp.eql 3 (Go.Operand.tmp 26) (Go.Operand.const (Go.Value.int Go.IntKind.i64 2)) 3, type := 4, pos := "law.go:29", after := #[{ on := 4, ground := Go.Ground.data }], guard := none }) (v := ?_) rfl (by kernel_rfl) (by kernel_rfl) (by kernel_rfl) (fun _ _ _ h => h) (Or.inl ⟨by rfl, ?_⟩) (by assumption) ?_
  rotate_left
  · intro w hSw
    try dsimp only at hSw
    go_simp
    try with_reducible rfl
  try simp only [Act.put, List.setIfInBounds_toArray, List.set_cons_zero, List.set_cons_succ]
  refine wpAnyH_take (i := 6) (oi := { dst := some 28, op := Go.Op.move (Go.Operand.tmp 27), type := 4, pos := "law.go:29", after := #[{ on := 5, ground := Go.Ground.data }, { on := 3, ground := Go.Ground.chain }], guard := none }) (v := ?_) rfl (by kernel_rfl) (by kernel_rfl) (by kernel_rfl) (fun _ _ _ h => h) (Or.inl ⟨by rfl, ?_⟩) (by assumption) ?_
  rotate_left
  · intro w hSw
    try dsimp only at hSw
    go_simp
    try with_reducible rfl
  try simp only [Act.put, List.setIfInBounds_toArray, List.set_cons_zero, List.set_cons_succ]
  refine wpAnyH_take (i := 7) (oi := { dst := some 29, op := Go.Op.move (Go.Operand.tmp 4), type := 66, pos := "law.go:29", after := #[{ on := 6, ground := Go.Ground.guard }], guard := some (6, true) }) (v := ?_) rfl (by kernel_rfl) (by kernel_rfl) (by kernel_rfl) (fun _ _ _ h => h) (Or.inl ⟨by rfl, ?_⟩) (by assumption) ?_
  rotate_left
  · intro w hSw
    try dsimp only at hSw
    go_simp
    try with_reducible rfl
  try simp only [Act.put, List.setIfInBounds_toArray, List.set_cons_zero, List.set_cons_succ]
  refine wpAnyH_take (i := 8) (oi := { dst := some 30, op := Go.Op.call { callee := Go.Callee.builtin Go.Builtin.len, args := #[Go.Operand.tmp 29], argTypes := #[66] }, type := 3, pos := "law.go:29", after := #[{ on := 7, ground := Go.Ground.data }, { on := 6, ground := Go.Ground.guard }], guard := some (6, true) }) (v := ?_) rfl (by kernel_rfl) (by kernel_rfl) (by kernel_rfl) (fun _ _ _ h => h) (Or.inl ⟨by rfl, ?_⟩) (by assumption) ?_
  rotate_left
  · intro w hSw
    try dsimp only at hSw
    go_simp
    try with_reducible rfl
  try simp only [Act.put, List.setIfInBounds_toArray, List.set_cons_zero, List.set_cons_succ]
  refine wpAnyH_take (i := 9) (oi := { dst := some 31, op := Go.Op.binOp Go.BinOp.eql 3 (Go.Operand.tmp 30) (Go.Operand.const (Go.Value.int Go.IntKind.i64 5)) 3, type := 4, pos := "law.go:29", after := #[{ on := 8, ground := Go.Ground.data }, { on := 6, ground := Go.Ground.guard }], guard := some (6, true) }) (v := ?_) rfl (by kernel_rfl) (by kernel_rfl) (by kernel_rfl) (fun _ _ _ h => h) (Or.inl ⟨by rfl, ?_⟩) (by assumption) ?_
  rotate_left
  · intro w hSw
    try dsimp only at hSw
    go_simp
    try with_reducible rfl
  try simp only [Act.put, List.setIfInBounds_toArray, List.set_cons_zero, List.set_cons_succ]
  refine wpAnyH_take (i := 10) (oi := { dst := some 32, op := Go.Op.pick (Go.Operand.tmp 28) (Go.Operand.tmp 31) (Go.Operand.const (Go.Value.bool false)), type := 4, pos := "law.go:29", after := #[{ on := 6, ground := Go.Ground.data }, { on := 9, ground := Go.Ground.data }], guard := none }) (v := ?_) rfl (by kernel_rfl) (by kernel_rfl) (by kernel_rfl) (fun _ _ _ h => h) (Or.inl ⟨by rfl, ?_⟩) (by assumption) ?_
  rotate_left
  · intro w hSw
    try dsimp only at hSw
    go_simp
    try with_reducible rfl
  try simp only [Act.put, List.setIfInBounds_toArray, List.set_cons_zero, List.set_cons_succ]
  refine wpAnyH_take (i := 11) (oi := { dst := some 33, op := Go.Op.move (Go.Operand.tmp 32), type := 4, pos := "law.go:29", after := #[{ on := 10, ground := Go.Ground.data }, { on := 6, ground := Go.Ground.chain }], guard := none }) (v := ?_) rfl (by kernel_rfl) (by kernel_rfl) (by kernel_rfl) (fun _ _ _ h => h) (Or.inl ⟨by rfl, ?_⟩) (by assumption) ?_
  rotate_left
  · intro w hSw
    try dsimp only at hSw
    go_simp
    try with_reducible rfl
  try simp only [Act.put, List.setIfInBounds_toArray, List.set_cons_zero, List.set_cons_succ]
  refine wpAnyH_take (i := 12) (oi := { dst := some 34, op := Go.Op.move (Go.Operand.tmp 4), type := 66, pos := "law.go:29", after := #[{ on := 11, ground := Go.Ground.guard }], guard := some (11, true) }) (v := ?_) rfl (by kernel_rfl) (by kernel_rfl) (by kernel_rfl) (fun _ _ _ h => h) (Or.inl ⟨by rfl, ?_⟩) (by assumption) ?_
  rotate_left
  · intro w hSw
    try dsimp only at hSw
    go_simp
    try with_reducible rfl
  try simp only [Act.put, List.setIfInBounds_toArray, List.set_cons_zero, List.set_cons_succ]
  refine wpAnyH_take (i := 13) (oi := { dst := some 35, op := Go.Op.indexAddr 66 (Go.Operand.tmp 34) (Go.Operand.const (Go.Value.int Go.IntKind.i64 0)), type := 0, pos := "law.go:29", after := #[{ on := 12, ground := Go.Ground.data }, { on := 11, ground := Go.Ground.guard }], guard := some (11, true) }) (v := ?_) rfl (by kernel_rfl) (by kernel_rfl) (by kernel_rfl) (fun _ _ _ h => h) (Or.inl ⟨by rfl, ?_⟩) (by assumption) ?_
  rotate_left
  · intro w hSw
    try dsimp only at hSw
    go_simp
    try with_reducible rfl
  try simp only [Act.put, List.setIfInBounds_toArray, List.set_cons_zero, List.set_cons_succ]
  refine wpAnyH_take (i := 14) (oi := { dst := some 36, op := Go.Op.load 62 (Go.Operand.tmp 35), type := 62, pos := "law.go:29", after := #[{ on := 13, ground := Go.Ground.data }, { on := 11, ground := Go.Ground.guard }], guard := some (11, true) }) (v := ?_) rfl (by kernel_rfl) (by kernel_rfl) (by kernel_rfl) (fun _ _ _ h => h) (Or.inl ⟨by rfl, ?_⟩) (by assumption) ?_
  rotate_left
  · intro w hSw
    try dsimp only at hSw
    go_simp
    try with_reducible rfl
  try simp only [Act.put, List.setIfInBounds_toArray, List.set_cons_zero, List.set_cons_succ]
  refine wpAnyH_take (i := 15) (oi := { dst := some 37, op := Go.Op.build 56 #[(0, Go.Operand.const (Go.Value.int Go.IntKind.i64 (-1)))], type := 56, pos := "law.go:29", after := #[{ on := 11, ground := Go.Ground.guard }], guard := some (11, true) }) (v := ?_) rfl (by kernel_rfl) (by kernel_rfl) (by kernel_rfl) (fun _ _ _ h => h) (Or.inl ⟨by rfl, ?_⟩) (by assumption) ?_
  rotate_left
  · intro w hSw
    try dsimp only at hSw
    go_simp
    try with_reducible rfl
  try simp only [Act.put, List.setIfInBounds_toArray, List.set_cons_zero, List.set_cons_succ]
  refine wpAnyH_take (i := 16) (oi := { dst := some 38, op := Go.Op.build 62 #[(0, Go.Operand.const (Go.Value.int Go.IntKind.i64 1)), (1, Go.Operand.tmp 37)], type := 62, pos := "law.go:29", after := #[{ on := 15, ground := Go.Ground.data }, { on := 11, ground := Go.Ground.guard }], guard := some (11, true) }) (v := ?_) rfl (by kernel_rfl) (by kernel_rfl) (by kernel_rfl) (fun _ _ _ h => h) (Or.inl ⟨by rfl, ?_⟩) (by assumption) ?_
  rotate_left
  · intro w hSw
    try dsimp only at hSw
    go_simp
    try with_reducible rfl
  try simp only [Act.put, List.setIfInBounds_toArray, List.set_cons_zero, List.set_cons_succ]
  refine wpAnyH_take (i := 17) (oi := { dst := some 39, op := Go.Op.binOp Go.BinOp.eql 62 (Go.Operand.tmp 36) (Go.Operand.tmp 38) 62, type := 4, pos := "law.go:29", after := #[{ on := 14, ground := Go.Ground.data }, { on := 16, ground := Go.Ground.data }, { on := 11, ground := Go.Ground.guard }], guard := some (11, true) }) (v := ?_) rfl (by kernel_rfl) (by kernel_rfl) (by kernel_rfl) (fun _ _ _ h => h) (Or.inl ⟨by rfl, ?_⟩) (by assumption) ?_
  rotate_left
  · intro w hSw
    try dsimp only at hSw
    go_simp
    try with_reducible rfl
  try simp only [Act.put, List.setIfInBounds_toArray, List.set_cons_zero, List.set_cons_succ]
  refine wpAnyH_take (i := 18) (oi := { dst := some 40, op := Go.Op.pick (Go.Operand.tmp 33) (Go.Operand.tmp 39) (Go.Operand.const (Go.Value.bool false)), type := 4, pos := "law.go:29", after := #[{ on := 11, ground := Go.Ground.data }, { on := 17, ground := Go.Ground.data }], guard := none }) (v := ?_) rfl (by kernel_rfl) (by kernel_rfl) (by kernel_rfl) (fun _ _ _ h => h) (Or.inl ⟨by rfl, ?_⟩) (by assumption) ?_
  rotate_left
  · intro w hSw
    try dsimp only at hSw
    go_simp
    try with_reducible rfl
  try simp only [Act.put, List.setIfInBounds_toArray, List.set_cons_zero, List.set_cons_succ]
  refine wpAnyH_take (i := 19) (oi := { dst := some 41, op := Go.Op.move (Go.Operand.tmp 40), type := 4, pos := "law.go:29", after := #[{ on := 18, ground := Go.Ground.data }, { on := 11, ground := Go.Ground.chain }], guard := none }) (v := ?_) rfl (by kernel_rfl) (by kernel_rfl) (by kernel_rfl) (fun _ _ _ h => h) (Or.inl ⟨by rfl, ?_⟩) (by assumption) ?_
  rotate_left
  · intro w hSw
    try dsimp only at hSw
    go_simp
    try with_reducible rfl
  try simp only [Act.put, List.setIfInBounds_toArray, List.set_cons_zero, List.set_cons_succ]
  refine wpAnyH_take (i := 20) (oi := { dst := some 42, op := Go.Op.move (Go.Operand.tmp 4), type := 66, pos := "law.go:29", after := #[{ on := 19, ground := Go.Ground.guard }], guard := some (19, true) }) (v := ?_) rfl (by kernel_rfl) (by kernel_rfl) (by kernel_rfl) (fun _ _ _ h => h) (Or.inl ⟨by rfl, ?_⟩) (by assumption) ?_
  rotate_left
  · intro w hSw
    try dsimp only at hSw
    go_simp
    try with_reducible rfl
  try simp only [Act.put, List.setIfInBounds_toArray, List.set_cons_zero, List.set_cons_succ]
  refine wpAnyH_take (i := 21) (oi := { dst := some 43, op := Go.Op.indexAddr 66 (Go.Operand.tmp 42) (Go.Operand.const (Go.Value.int Go.IntKind.i64 2)), type := 0, pos := "law.go:29", after := #[{ on := 20, ground := Go.Ground.data }, { on := 19, ground := Go.Ground.guard }], guard := some (19, true) }) (v := ?_) rfl (by kernel_rfl) (by kernel_rfl) (by kernel_rfl) (fun _ _ _ h => h) (Or.inl ⟨by rfl, ?_⟩) (by assumption) ?_
  rotate_left
  · intro w hSw
    try dsimp only at hSw
    go_simp
    try with_reducible rfl
  try simp only [Act.put, List.setIfInBounds_toArray, List.set_cons_zero, List.set_cons_succ]
  refine wpAnyH_take (i := 22) (oi := { dst := some 44, op := Go.Op.load 62 (Go.Operand.tmp 43), type := 62, pos := "law.go:29", after := #[{ on := 21, ground := Go.Ground.data }, { on := 19, ground := Go.Ground.guard }], guard := some (19, true) }) (v := ?_) rfl (by kernel_rfl) (by kernel_rfl) (by kernel_rfl) (fun _ _ _ h => h) (Or.inl ⟨by rfl, ?_⟩) (by assumption) ?_
  rotate_left
  · intro w hSw
    try dsimp only at hSw
    go_simp
    try with_reducible rfl
  try simp only [Act.put, List.setIfInBounds_toArray, List.set_cons_zero, List.set_cons_succ]
  refine wpAnyH_take (i := 23) (oi := { dst := some 45, op := Go.Op.build 62 #[(0, Go.Operand.const (Go.Value.int Go.IntKind.i64 4))], type := 62, pos := "law.go:29", after := #[{ on := 19, ground := Go.Ground.guard }], guard := some (19, true) }) (v := ?_) rfl (by kernel_rfl) (by kernel_rfl) (by kernel_rfl) (fun _ _ _ h => h) (Or.inl ⟨by rfl, ?_⟩) (by assumption) ?_
  rotate_left
  · intro w hSw
    try dsimp only at hSw
    go_simp
    try with_reducible rfl
  try simp only [Act.put, List.setIfInBounds_toArray, List.set_cons_zero, List.set_cons_succ]
  refine wpAnyH_take (i := 24) (oi := { dst := some 46, op := Go.Op.binOp Go.BinOp.eql 62 (Go.Operand.tmp 44) (Go.Operand.tmp 45) 62, type := 4, pos := "law.go:29", after := #[{ on := 22, ground := Go.Ground.data }, { on := 23, ground := Go.Ground.data }, { on := 19, ground := Go.Ground.guard }], guard := some (19, true) }) (v := ?_) rfl (by kernel_rfl) (by kernel_rfl) (by kernel_rfl) (fun _ _ _ h => h) (Or.inl ⟨by rfl, ?_⟩) (by assumption) ?_
  rotate_left
  · intro w hSw
    try dsimp only at hSw
    go_simp
    try with_reducible rfl
  try simp only [Act.put, List.setIfInBounds_toArray, List.set_cons_zero, List.set_cons_succ]
  refine wpAnyH_take (i := 25) (oi := { dst := some 47, op := Go.Op.pick (Go.Operand.tmp 41) (Go.Operand.tmp 46) (Go.Operand.const (Go.Value.bool false)), type := 4, pos := "law.go:29", after := #[{ on := 19, ground := Go.Ground.data }, { on := 24, ground := Go.Ground.data }], guard := none }) (v := ?_) rfl (by kernel_rfl) (by kernel_rfl) (by kernel_rfl) (fun _ _ _ h => h) (Or.inl ⟨by rfl, ?_⟩) (by assumption) ?_
  rotate_left
  · intro w hSw
    try dsimp only at hSw
    go_simp
    try with_reducible rfl
  try simp only [Act.put, List.setIfInBounds_toArray, List.set_cons_zero, List.set_cons_succ]
  refine wpAnyH_take (i := 26) (oi := { dst := some 48, op := Go.Op.move (Go.Operand.tmp 47), type := 4, pos := "law.go:29", after := #[{ on := 25, ground := Go.Ground.data }, { on := 19, ground := Go.Ground.chain }], guard := none }) (v := ?_) rfl (by kernel_rfl) (by kernel_rfl) (by kernel_rfl) (fun _ _ _ h => h) (Or.inl ⟨by rfl, ?_⟩) (by assumption) ?_
  rotate_left
  · intro w hSw
    try dsimp only at hSw
    go_simp
    try with_reducible rfl
  try simp only [Act.put, List.setIfInBounds_toArray, List.set_cons_zero, List.set_cons_succ]
  refine wpAnyH_take (i := 27) (oi := { dst := some 49, op := Go.Op.move (Go.Operand.tmp 4), type := 66, pos := "law.go:29", after := #[{ on := 26, ground := Go.Ground.guard }], guard := some (26, true) }) (v := ?_) rfl (by kernel_rfl) (by kernel_rfl) (by kernel_rfl) (fun _ _ _ h => h) (Or.inl ⟨by rfl, ?_⟩) (by assumption) ?_
  rotate_left
  · intro w hSw
    try dsimp only at hSw
    go_simp
    try with_reducible rfl
  try simp only [Act.put, List.setIfInBounds_toArray, List.set_cons_zero, List.set_cons_succ]
  refine wpAnyH_take (i := 28) (oi := { dst := some 50, op := Go.Op.indexAddr 66 (Go.Operand.tmp 49) (Go.Operand.const (Go.Value.int Go.IntKind.i64 4)), type := 0, pos := "law.go:29", after := #[{ on := 27, ground := Go.Ground.data }, { on := 26, ground := Go.Ground.guard }], guard := some (26, true) }) (v := ?_) rfl (by kernel_rfl) (by kernel_rfl) (by kernel_rfl) (fun _ _ _ h => h) (Or.inl ⟨by rfl, ?_⟩) (by assumption) ?_
  rotate_left
  · intro w hSw
    try dsimp only at hSw
    go_simp
    try with_reducible rfl
  try simp only [Act.put, List.setIfInBounds_toArray, List.set_cons_zero, List.set_cons_succ]
  refine wpAnyH_take (i := 29) (oi := { dst := some 51, op := Go.Op.load 62 (Go.Operand.tmp 50), type := 62, pos := "law.go:29", after := #[{ on := 28, ground := Go.Ground.data }, { on := 26, ground := Go.Ground.guard }], guard := some (26, true) }) (v := ?_) rfl (by kernel_rfl) (by kernel_rfl) (by kernel_rfl) (fun _ _ _ h => h) (Or.inl ⟨by rfl, ?_⟩) (by assumption) ?_
  rotate_left
  · intro w hSw
    try dsimp only at hSw
    go_simp
    try with_reducible rfl
  try simp only [Act.put, List.setIfInBounds_toArray, List.set_cons_zero, List.set_cons_succ]
  refine wpAnyH_take (i := 30) (oi := { dst := some 52, op := Go.Op.build 62 #[(0, Go.Operand.const (Go.Value.int Go.IntKind.i64 5)), (2, Go.Operand.const (Go.Value.int Go.IntKind.i64 1))], type := 62, pos := "law.go:29", after := #[{ on := 26, ground := Go.Ground.guard }], guard := some (26, true) }) (v := ?_) rfl (by kernel_rfl) (by kernel_rfl) (by kernel_rfl) (fun _ _ _ h => h) (Or.inl ⟨by rfl, ?_⟩) (by assumption) ?_
  rotate_left
  · intro w hSw
    try dsimp only at hSw
    go_simp
    try with_reducible rfl
  try simp only [Act.put, List.setIfInBounds_toArray, List.set_cons_zero, List.set_cons_succ]
  refine wpAnyH_take (i := 31) (oi := { dst := some 53, op := Go.Op.binOp Go.BinOp.eql 62 (Go.Operand.tmp 51) (Go.Operand.tmp 52) 62, type := 4, pos := "law.go:29", after := #[{ on := 29, ground := Go.Ground.data }, { on := 30, ground := Go.Ground.data }, { on := 26, ground := Go.Ground.guard }], guard := some (26, true) }) (v := ?_) rfl (by kernel_rfl) (by kernel_rfl) (by kernel_rfl) (fun _ _ _ h => h) (Or.inl ⟨by rfl, ?_⟩) (by assumption) ?_
  rotate_left
  · intro w hSw
    try dsimp only at hSw
    go_simp
    try with_reducible rfl
  try simp only [Act.put, List.setIfInBounds_toArray, List.set_cons_zero, List.set_cons_succ]
  refine wpAnyH_take (i := 32) (oi := { dst := some 54, op := Go.Op.pick (Go.Operand.tmp 48) (Go.Operand.tmp 53) (Go.Operand.const (Go.Value.bool false)), type := 4, pos := "law.go:29", after := #[{ on := 26, ground := Go.Ground.data }, { on := 31, ground := Go.Ground.data }], guard := none }) (v := ?_) rfl (by kernel_rfl) (by kernel_rfl) (by kernel_rfl) (fun _ _ _ h => h) (Or.inl ⟨by rfl, ?_⟩) (by assumption) ?_
  rotate_left
  · intro w hSw
    try dsimp only at hSw
    go_simp
    try with_reducible rfl
  try simp only [Act.put, List.setIfInBounds_toArray, List.set_cons_zero, List.set_cons_succ]
  refine wpAnyH_take (i := 33) (oi := { dst := some 55, op := Go.Op.move (Go.Operand.tmp 54), type := 4, pos := "law.go:29", after := #[{ on := 32, ground := Go.Ground.data }, { on := 26, ground := Go.Ground.chain }], guard := none }) (v := ?_) rfl (by kernel_rfl) (by kernel_rfl) (by kernel_rfl) (fun _ _ _ h => h) (Or.inl ⟨by rfl, ?_⟩) (by assumption) ?_
  rotate_left
  · intro w hSw
    try dsimp only at hSw
    go_simp
    try with_reducible rfl
  try simp only [Act.put, List.setIfInBounds_toArray, List.set_cons_zero, List.set_cons_succ]
  refine wpAnyH_take (i := 34) (oi := { dst := some 56, op := Go.Op.load 26 (Go.Operand.tmp 1), type := 26, pos := "law.go:29", after := #[{ on := 33, ground := Go.Ground.guard }], guard := some (33, true) }) (v := ?_) rfl (by kernel_rfl) (by kernel_rfl) (by kernel_rfl) (fun _ _ _ h => h) (Or.inl ⟨by rfl, ?_⟩) (by assumption) ?_
  rotate_left
  · intro w hSw
    try dsimp only at hSw
    go_simp
    try with_reducible rfl
  try simp only [Act.put, List.setIfInBounds_toArray, List.set_cons_zero, List.set_cons_succ]
  refine wpAnyH_take (i := 35) (oi := { dst := some 57, op := Go.Op.build 42 #[], type := 42, pos := "law.go:29", after := #[{ on := 33, ground := Go.Ground.guard }], guard := some (33, true) }) (v := ?_) rfl (by kernel_rfl) (by kernel_rfl) (by kernel_rfl) (fun _ _ _ h => h) (Or.inl ⟨by rfl, ?_⟩) (by assumption) ?_
  rotate_left
  · intro w hSw
    try dsimp only at hSw
    go_simp
    try with_reducible rfl
  try simp only [Act.put, List.setIfInBounds_toArray, List.set_cons_zero, List.set_cons_succ]
  refine wpAnyH_take (i := 36) (oi := { dst := some 58, op := Go.Op.load 44 (Go.Operand.tmp 2), type := 44, pos := "law.go:29", after := #[{ on := 33, ground := Go.Ground.guard }], guard := some (33, true) }) (v := ?_) rfl (by kernel_rfl) (by kernel_rfl) (by kernel_rfl) (fun _ _ _ h => h) (Or.inl ⟨by rfl, ?_⟩) (by assumption) ?_
  rotate_left
  · intro w hSw
    try dsimp only at hSw
    go_simp
    try with_reducible rfl
  try simp only [Act.put, List.setIfInBounds_toArray, List.set_cons_zero, List.set_cons_succ]
  refine wpAnyH_take (i := 37) (oi := { dst := some 59, op := Go.Op.move (Go.Operand.tmp 4), type := 66, pos := "law.go:29", after := #[{ on := 33, ground := Go.Ground.guard }], guard := some (33, true) }) (v := ?_) rfl (by kernel_rfl) (by kernel_rfl) (by kernel_rfl) (fun _ _ _ h => h) (Or.inl ⟨by rfl, ?_⟩) (by assumption) ?_
  rotate_left
  · intro w hSw
    try dsimp only at hSw
    go_simp
    try with_reducible rfl
  try simp only [Act.put, List.setIfInBounds_toArray, List.set_cons_zero, List.set_cons_succ]
  refine wpAnyH_take (i := 38) (oi := { dst := some 60, op := Go.Op.indexAddr 66 (Go.Operand.tmp 59) (Go.Operand.const (Go.Value.int Go.IntKind.i64 0)), type := 0, pos := "law.go:29", after := #[{ on := 37, ground := Go.Ground.data }, { on := 33, ground := Go.Ground.guard }], guard := some (33, true) }) (v := ?_) rfl (by kernel_rfl) (by kernel_rfl) (by kernel_rfl) (fun _ _ _ h => h) (Or.inl ⟨by rfl, ?_⟩) (by assumption) ?_
  rotate_left
  · intro w hSw
    try dsimp only at hSw
    go_simp
    try with_reducible rfl
  try simp only [Act.put, List.setIfInBounds_toArray, List.set_cons_zero, List.set_cons_succ]
  refine wpAnyH_take (i := 39) (oi := { dst := some 61, op := Go.Op.load 62 (Go.Operand.tmp 60), type := 62, pos := "law.go:29", after := #[{ on := 38, ground := Go.Ground.data }, { on := 33, ground := Go.Ground.guard }], guard := some (33, true) }) (v := ?_) rfl (by kernel_rfl) (by kernel_rfl) (by kernel_rfl) (fun _ _ _ h => h) (Or.inl ⟨by rfl, ?_⟩) (by assumption) ?_
  rotate_left
  · intro w hSw
    try dsimp only at hSw
    go_simp
    try with_reducible rfl
  try simp only [Act.put, List.setIfInBounds_toArray, List.set_cons_zero, List.set_cons_succ]
  refine wpAnyH_ready (rs := [40]) (by kernel_rfl) (by simp) ?_
  refine AllReadyH.cons (o := { dst := some 62, op := Go.Op.call { callee := Go.Callee.value (Go.Operand.func 30), args := #[Go.Operand.tmp 56, Go.Operand.tmp 57, Go.Operand.tmp 58, Go.Operand.tmp 61], argTypes := #[26, 42, 44, 62] }, type := 4, pos := "law.go:29", after := #[{ on := 34, ground := Go.Ground.data }, { on := 35, ground := Go.Ground.data }, { on := 36, ground := Go.Ground.data }, { on := 39, ground := Go.Ground.data }, { on := 33, ground := Go.Ground.chain }, { on := 33, ground := Go.Ground.guard }], guard := some (33, true) }) rfl (fun K hK => ?_) AllReadyH.nil
  go_simp
  (go_at_call 30; refine (is_5 _ _ _ (oneP 0) ⟨0, 0, 0, 0⟩ (xn 0) _ _ _ _ _ (HT6.out.below (by first | exact hbb | exact hbb.drew)) (HO6.out.below (by first | exact hbb | exact hbb.drew)).prg (HX6.out.below (by first | exact hbb | exact hbb.drew))).mono ?_; rintro e w8 ⟨rfl, hb8⟩; replace hbb := bTrans (by first | exact hbb | exact hbb.drew) hb8; clear hb8)
  try (go_wp2_with fail)
  refine hK.out _ _ ?_ (fun hHeld => ?_)
  · exact HSA.out _ (by first | exact hbb | exact hbb.drew)
  clear hK K
  try simp only [Act.put, List.setIfInBounds_toArray, List.set_cons_zero, List.set_cons_succ]
  refine wpAnyH_take (i := 41) (oi := { dst := some 63, op := Go.Op.pick (Go.Operand.tmp 55) (Go.Operand.tmp 62) (Go.Operand.const (Go.Value.bool false)), type := 4, pos := "law.go:29", after := #[{ on := 33, ground := Go.Ground.data }, { on := 40, ground := Go.Ground.data }], guard := none }) (v := ?_) rfl (by kernel_rfl) (by kernel_rfl) (by kernel_rfl) (fun _ _ _ h => h) (Or.inl ⟨by rfl, ?_⟩) (by assumption) ?_
  rotate_left
  · intro w hSw
    try dsimp only at hSw
    go_simp
    try with_reducible rfl
  try simp only [Act.put, List.setIfInBounds_toArray, List.set_cons_zero, List.set_cons_succ]
  refine wpAnyH_take (i := 42) (oi := { dst := some 64, op := Go.Op.move (Go.Operand.tmp 63), type := 4, pos := "law.go:29", after := #[{ on := 41, ground := Go.Ground.data }, { on := 40, ground := Go.Ground.chain }], guard := none }) (v := ?_) rfl (by kernel_rfl) (by kernel_rfl) (by kernel_rfl) (fun _ _ _ h => h) (Or.inl ⟨by rfl, ?_⟩) (by assumption) ?_
  rotate_left
  · intro w hSw
    try dsimp only at hSw
    go_simp
    try with_reducible rfl
  try simp only [Act.put, List.setIfInBounds_toArray, List.set_cons_zero, List.set_cons_succ]
  refine wpAnyH_take (i := 43) (oi := { dst := some 65, op := Go.Op.load 26 (Go.Operand.tmp 1), type := 26, pos := "law.go:29", after := #[{ on := 42, ground := Go.Ground.guard }], guard := some (42, true) }) (v := ?_) rfl (by kernel_rfl) (by kernel_rfl) (by kernel_rfl) (fun _ _ _ h => h) (Or.inl ⟨by rfl, ?_⟩) (by assumption) ?_
  rotate_left
  · intro w hSw
    try dsimp only at hSw
    go_simp
    try with_reducible rfl
  try simp only [Act.put, List.setIfInBounds_toArray, List.set_cons_zero, List.set_cons_succ]
  refine wpAnyH_take (i := 44) (oi := { dst := some 66, op := Go.Op.build 42 #[], type := 42, pos := "law.go:29", after := #[{ on := 42, ground := Go.Ground.guard }], guard := some (42, true) }) (v := ?_) rfl (by kernel_rfl) (by kernel_rfl) (by kernel_rfl) (fun _ _ _ h => h) (Or.inl ⟨by rfl, ?_⟩) (by assumption) ?_
  rotate_left
  · intro w hSw
    try dsimp only at hSw
    go_simp
    try with_reducible rfl
  try simp only [Act.put, List.setIfInBounds_toArray, List.set_cons_zero, List.set_cons_succ]
  refine wpAnyH_take (i := 45) (oi := { dst := some 67, op := Go.Op.load 44 (Go.Operand.tmp 2), type := 44, pos := "law.go:29", after := #[{ on := 42, ground := Go.Ground.guard }], guard := some (42, true) }) (v := ?_) rfl (by kernel_rfl) (by kernel_rfl) (by kernel_rfl) (fun _ _ _ h => h) (Or.inl ⟨by rfl, ?_⟩) (by assumption) ?_
  rotate_left
  · intro w hSw
    try dsimp only at hSw
    go_simp
    try with_reducible rfl
  try simp only [Act.put, List.setIfInBounds_toArray, List.set_cons_zero, List.set_cons_succ]
  refine wpAnyH_take (i := 46) (oi := { dst := some 68, op := Go.Op.move (Go.Operand.tmp 4), type := 66, pos := "law.go:29", after := #[{ on := 42, ground := Go.Ground.guard }], guard := some (42, true) }) (v := ?_) rfl (by kernel_rfl) (by kernel_rfl) (by kernel_rfl) (fun _ _ _ h => h) (Or.inl ⟨by rfl, ?_⟩) (by assumption) ?_
  rotate_left
  · intro w hSw
    try dsimp only at hSw
    go_simp
    try with_reducible rfl
  try simp only [Act.put, List.setIfInBounds_toArray, List.set_cons_zero, List.set_cons_succ]
  refine wpAnyH_take (i := 47) (oi := { dst := some 69, op := Go.Op.indexAddr 66 (Go.Operand.tmp 68) (Go.Operand.const (Go.Value.int Go.IntKind.i64 2)), type := 0, pos := "law.go:29", after := #[{ on := 46, ground := Go.Ground.data }, { on := 42, ground := Go.Ground.guard }], guard := some (42, true) }) (v := ?_) rfl (by kernel_rfl) (by kernel_rfl) (by kernel_rfl) (fun _ _ _ h => h) (Or.inl ⟨by rfl, ?_⟩) (by assumption) ?_
  rotate_left
  · intro w hSw
    try dsimp only at hSw
    go_simp
    try with_reducible rfl
  try simp only [Act.put, List.setIfInBounds_toArray, List.set_cons_zero, List.set_cons_succ]
  refine wpAnyH_take (i := 48) (oi := { dst := some 70, op := Go.Op.load 62 (Go.Operand.tmp 69), type := 62, pos := "law.go:29", after := #[{ on := 47, ground := Go.Ground.data }, { on := 42, ground := Go.Ground.guard }], guard := some (42, true) }) (v := ?_) rfl (by kernel_rfl) (by kernel_rfl) (by kernel_rfl) (fun _ _ _ h => h) (Or.inl ⟨by rfl, ?_⟩) (by assumption) ?_
  rotate_left
  · intro w hSw
    try dsimp only at hSw
    go_simp
    try with_reducible rfl
  try simp only [Act.put, List.setIfInBounds_toArray, List.set_cons_zero, List.set_cons_succ]
  refine wpAnyH_ready (rs := [49]) (by kernel_rfl) (by simp) ?_
  refine AllReadyH.cons (o := { dst := some 71, op := Go.Op.call { callee := Go.Callee.value (Go.Operand.func 30), args := #[Go.Operand.tmp 65, Go.Operand.tmp 66, Go.Operand.tmp 67, Go.Operand.tmp 70], argTypes := #[26, 42, 44, 62] }, type := 4, pos := "law.go:29", after := #[{ on := 43, ground := Go.Ground.data }, { on := 44, ground := Go.Ground.data }, { on := 45, ground := Go.Ground.data }, { on := 48, ground := Go.Ground.data }, { on := 42, ground := Go.Ground.chain }, { on := 42, ground := Go.Ground.guard }], guard := some (42, true) }) rfl (fun K hK => ?_) AllReadyH.nil
  go_simp
  (go_at_call 30; refine (is_5 _ _ _ (oneP 0) ⟨0, 0, 0, 0⟩ (xn 0) _ _ _ _ _ (HT6.out.below (by first | exact hbb | exact hbb.drew)) (HO6.out.below (by first | exact hbb | exact hbb.drew)).prg (HX6.out.below (by first | exact hbb | exact hbb.drew))).mono ?_; rintro e w8 ⟨rfl, hb8⟩; replace hbb := bTrans (by first | exact hbb | exact hbb.drew) hb8; clear hb8)
  try (go_wp2_with fail)
  refine hK.out _ _ ?_ (fun hHeld => ?_)
  · exact HSA.out _ (by first | exact hbb | exact hbb.drew)
  clear hK K
  try simp only [Act.put, List.setIfInBounds_toArray, List.set_cons_zero, List.set_cons_succ]
  refine wpAnyH_take (i := 50) (oi := { dst := some 72, op := Go.Op.unOp Go.UnOp.not 4 (Go.Operand.tmp 71), type := 4, pos := "law.go:29", after := #[{ on := 49, ground := Go.Ground.data }, { on := 42, ground := Go.Ground.guard }], guard := some (42, true) }) (v := ?_) rfl (by kernel_rfl) (by kernel_rfl) (by kernel_rfl) (fun _ _ _ h => h) (Or.inl ⟨by rfl, ?_⟩) (by assumption) ?_
  rotate_left
  · intro w hSw
    try dsimp only at hSw
    go_simp
    try with_reducible rfl
  try simp only [Act.put, List.setIfInBounds_toArray, List.set_cons_zero, List.set_cons_succ]
  refine wpAnyH_take (i := 51) (oi := { dst := some 73, op := Go.Op.pick (Go.Operand.tmp 64) (Go.Operand.tmp 72) (Go.Operand.const (Go.Value.bool false)), type := 4, pos := "law.go:29", after := #[{ on := 42, ground := Go.Ground.data }, { on := 50, ground := Go.Ground.data }], guard := none }) (v := ?_) rfl (by kernel_rfl) (by kernel_rfl) (by kernel_rfl) (fun _ _ _ h => h) (Or.inl ⟨by rfl, ?_⟩) (by assumption) ?_
  rotate_left
  · intro w hSw
    try dsimp only at hSw
    go_simp
    try with_reducible rfl
  try simp only [Act.put, List.setIfInBounds_toArray, List.set_cons_zero, List.set_cons_succ]
  refine wpAnyH_take (i := 52) (oi := { dst := some 74, op := Go.Op.move (Go.Operand.tmp 73), type := 4, pos := "law.go:29", after := #[{ on := 51, ground := Go.Ground.data }, { on := 49, ground := Go.Ground.chain }], guard := none }) (v := ?_) rfl (by kernel_rfl) (by kernel_rfl) (by kernel_rfl) (fun _ _ _ h => h) (Or.inl ⟨by rfl, ?_⟩) (by assumption) ?_
  rotate_left
  · intro w hSw
    try dsimp only at hSw
    go_simp
    try with_reducible rfl
  try simp only [Act.put, List.setIfInBounds_toArray, List.set_cons_zero, List.set_cons_succ]
  refine wpAnyH_take (i := 53) (oi := { dst := some 75, op := Go.Op.load 42 (Go.Operand.tmp 5), type := 42, pos := "law.go:29", after := #[{ on := 52, ground := Go.Ground.guard }], guard := some (52, true) }) (v := ?_) rfl (by kernel_rfl) (by kernel_rfl) (by kernel_rfl) (fun _ _ _ h => h) (Or.inl ⟨by rfl, ?_⟩) (by assumption) ?_
  rotate_left
  · intro w hSw
    try dsimp only at hSw
    go_simp
    try with_reducible rfl
  try simp only [Act.put, List.setIfInBounds_toArray, List.set_cons_zero, List.set_cons_succ]
  refine wpAnyH_take (i := 54) (oi := { dst := some 76, op := Go.Op.build 42 #[(0, Go.Operand.const (Go.Value.int Go.IntKind.i64 2))], type := 42, pos := "law.go:29", after := #[{ on := 52, ground := Go.Ground.guard }], guard := some (52, true) }) (v := ?_) rfl (by kernel_rfl) (by kernel_rfl) (by kernel_rfl) (fun _ _ _ h => h) (Or.inl ⟨by rfl, ?_⟩) (by assumption) ?_
  rotate_left
  · intro w hSw
    try dsimp only at hSw
    go_simp
    try with_reducible rfl
  try simp only [Act.put, List.setIfInBounds_toArray, List.set_cons_zero, List.set_cons_succ]
  refine wpAnyH_take (i := 55) (oi := { dst := some 77, op := Go.Op.binOp Go.BinOp.eql 42 (Go.Operand.tmp 75) (Go.Operand.tmp 76) 42, type := 4, pos := "law.go:29", after := #[{ on := 53, ground := Go.Ground.data }, { on := 54, ground := Go.Ground.data }, { on := 52, ground := Go.Ground.guard }], guard := some (52, true) }) (v := ?_) rfl (by kernel_rfl) (by kernel_rfl) (by kernel_rfl) (fun _ _ _ h => h) (Or.inl ⟨by rfl, ?_⟩) (by assumption) ?_
  rotate_left
  · intro w hSw
    try dsimp only at hSw
    go_simp
    try with_reducible rfl
  try simp only [Act.put, List.setIfInBounds_toArray, List.set_cons_zero, List.set_cons_succ]
  refine wpAnyH_take (i := 56) (oi := { dst := some 78, op := Go.Op.pick (Go.Operand.tmp 74) (Go.Operand.tmp 77) (Go.Operand.const (Go.Value.bool false)), type := 4, pos := "law.go:29", after := #[{ on := 52, ground := Go.Ground.data }, { on := 55, ground := Go.Ground.data }], guard := none }) (v := ?_) rfl (by kernel_rfl) (by kernel_rfl) (by kernel_rfl) (fun _ _ _ h => h) (Or.inl ⟨by rfl, ?_⟩) (by assumption) ?_
  rotate_left
  · intro w hSw
    try dsimp only at hSw
    go_simp
    try with_reducible rfl
  try simp only [Act.put, List.setIfInBounds_toArray, List.set_cons_zero, List.set_cons_succ]
  refine wpAnyH_take (i := 57) (oi := { dst := some 79, op := Go.Op.move (Go.Operand.tmp 78), type := 4, pos := "law.go:29", after := #[{ on := 56, ground := Go.Ground.data }, { on := 52, ground := Go.Ground.chain }], guard := none }) (v := ?_) rfl (by kernel_rfl) (by kernel_rfl) (by kernel_rfl) (fun _ _ _ h => h) (Or.inl ⟨by rfl, ?_⟩) (by assumption) ?_
  rotate_left
  · intro w hSw
    try dsimp only at hSw
    go_simp
    try with_reducible rfl
  try simp only [Act.put, List.setIfInBounds_toArray, List.set_cons_zero, List.set_cons_succ]
  refine wpAnyH_take (i := 58) (oi := { dst := some 80, op := Go.Op.build 42 #[], type := 42, pos := "law.go:29", after := #[{ on := 57, ground := Go.Ground.guard }], guard := some (57, true) }) (v := ?_) rfl (by kernel_rfl) (by kernel_rfl) (by kernel_rfl) (fun _ _ _ h => h) (Or.inl ⟨by rfl, ?_⟩) (by assumption) ?_
  rotate_left
  · intro w hSw
    try dsimp only at hSw
    go_simp
    try with_reducible rfl
  try simp only [Act.put, List.setIfInBounds_toArray, List.set_cons_zero, List.set_cons_succ]
  refine wpAnyH_ready (rs := [59]) (by kernel_rfl) (by simp) ?_
  refine AllReadyH.cons (o := { dst := some 81, op := Go.Op.call { callee := Go.Callee.value (Go.Operand.func 37), args := #[Go.Operand.tmp 80], argTypes := #[42] }, type := 4, pos := "law.go:29", after := #[{ on := 58, ground := Go.Ground.data }, { on := 57, ground := Go.Ground.chain }, { on := 57, ground := Go.Ground.guard }], guard := some (57, true) }) rfl (fun K hK => ?_) AllReadyH.nil
  go_simp
  (go_at_call 37; refine (may_4 _ _ _ _ _).mono ?_; rintro e wa ⟨rfl, hba⟩; replace hbb := bTrans (by first | exact hbb | exact hbb.drew) hba; clear hba)
  try (go_wp2_with fail)
  refine hK.out _ _ ?_ (fun hHeld => ?_)
  · exact HSA.out _ (by first | exact hbb | exact hbb.drew)
  clear hK K
  try simp only [Act.put, List.setIfInBounds_toArray, List.set_cons_zero, List.set_cons_succ]
  refine wpAnyH_take (i := 60) (oi := { dst := some 82, op := Go.Op.pick (Go.Operand.tmp 79) (Go.Operand.tmp 81) (Go.Operand.const (Go.Value.bool false)), type := 4, pos := "law.go:29", after := #[{ on := 57, ground := Go.Ground.data }, { on := 59, ground := Go.Ground.data }], guard := none }) (v := ?_) rfl (by kernel_rfl) (by kernel_rfl) (by kernel_rfl) (fun _ _ _ h => h) (Or.inl ⟨by rfl, ?_⟩) (by assumption) ?_
  rotate_left
  · intro w hSw
    try dsimp only at hSw
    go_simp
    try with_reducible rfl
  try simp only [Act.put, List.setIfInBounds_toArray, List.set_cons_zero, List.set_cons_succ]
  refine wpAnyH_take (i := 61) (oi := { dst := some 83, op := Go.Op.move (Go.Operand.tmp 82), type := 4, pos := "law.go:29", after := #[{ on := 60, ground := Go.Ground.data }, { on := 59, ground := Go.Ground.chain }], guard := none }) (v := ?_) rfl (by kernel_rfl) (by kernel_rfl) (by kernel_rfl) (fun _ _ _ h => h) (Or.inl ⟨by rfl, ?_⟩) (by assumption) ?_
  rotate_left
  · intro w hSw
    try dsimp only at hSw
    go_simp
    try with_reducible rfl
  try simp only [Act.put, List.setIfInBounds_toArray, List.set_cons_zero, List.set_cons_succ]
  refine wpAnyH_take (i := 62) (oi := { dst := some 84, op := Go.Op.build 42 #[(1, Go.Operand.const (Go.Value.int Go.IntKind.i64 1001))], type := 42, pos := "law.go:29", after := #[{ on := 61, ground := Go.Ground.guard }], guard := some (61, true) }) (v := ?_) rfl (by kernel_rfl) (by kernel_rfl) (by kernel_rfl) (fun _ _ _ h => h) (Or.inl ⟨by rfl, ?_⟩) (by assumption) ?_
  rotate_left
  · intro w hSw
    try dsimp only at hSw
    go_simp
    try with_reducible rfl
  try simp only [Act.put, List.setIfInBounds_toArray, List.set_cons_zero, List.set_cons_succ]
  refine wpAnyH_ready (rs := [63]) (by kernel_rfl) (by simp) ?_
  refine AllReadyH.cons (o := { dst := some 85, op := Go.Op.call { callee := Go.Callee.value (Go.Operand.func 37), args := #[Go.Operand.tmp 84], argTypes := #[42] }, type := 4, pos := "law.go:29", after := #[{ on := 62, ground := Go.Ground.data }, { on := 61, ground := Go.Ground.chain }, { on := 61, ground := Go.Ground.guard }], guard := some (61, true) }) rfl (fun K hK => ?_) AllReadyH.nil
  go_simp
  (go_at_call 37; refine (may_4 _ _ _ _ _).mono ?_; rintro e wa ⟨rfl, hba⟩; replace hbb := bTrans (by first | exact hbb | exact hbb.drew) hba; clear hba)
  try (go_wp2_with fail)
  refine hK.out _ _ ?_ (fun hHeld => ?_)
  · exact HSA.out _ (by first | exact hbb | exact hbb.drew)
  clear hK K
  try simp only [Act.put, List.setIfInBounds_toArray, List.set_cons_zero, List.set_cons_succ]
  refine wpAnyH_take (i := 64) (oi := { dst := some 86, op := Go.Op.unOp Go.UnOp.not 4 (Go.Operand.tmp 85), type := 4, pos := "law.go:29", after := #[{ on := 63, ground := Go.Ground.data }, { on := 61, ground := Go.Ground.guard }], guard := some (61, true) }) (v := ?_) rfl (by kernel_rfl) (by kernel_rfl) (by kernel_rfl) (fun _ _ _ h => h) (Or.inl ⟨by rfl, ?_⟩) (by assumption) ?_
  rotate_left
  · intro w hSw
    try dsimp only at hSw
    go_simp
    try with_reducible rfl
  try simp only [Act.put, List.setIfInBounds_toArray, List.set_cons_zero, List.set_cons_succ]
  refine wpAnyH_take (i := 65) (oi := { dst := some 87, op := Go.Op.pick (Go.Operand.tmp 83) (Go.Operand.tmp 86) (Go.Operand.const (Go.Value.bool false)), type := 4, pos := "law.go:29", after := #[{ on := 61, ground := Go.Ground.data }, { on := 64, ground := Go.Ground.data }], guard := none }) (v := ?_) rfl (by kernel_rfl) (by kernel_rfl) (by kernel_rfl) (fun _ _ _ h => h) (Or.inl ⟨by rfl, ?_⟩) (by assumption) ?_
  rotate_left
  · intro w hSw
    try dsimp only at hSw
    go_simp
    try with_reducible rfl
  try simp only [Act.put, List.setIfInBounds_toArray, List.set_cons_zero, List.set_cons_succ]
  refine wpAnyH_take (i := 66) (oi := { dst := some 0, op := Go.Op.assign (Go.Operand.tmp 87), type := 4, pos := "law.go:29", after := ([{ on := 65, ground := Go.Ground.data }, { on := 63, ground := Go.Ground.chain }, { on := 0, ground := Go.Ground.phase }, { on := 1, ground := Go.Ground.phase }, { on := 2, ground := Go.Ground.phase }, { on := 3, ground := Go.Ground.phase }, { on := 4, ground := Go.Ground.phase }, { on := 5, ground := Go.Ground.phase }, { on := 6, ground := Go.Ground.phase }, { on := 7, ground := Go.Ground.phase }, { on := 8, ground := Go.Ground.phase }, { on := 9, ground := Go.Ground.phase }, { on := 10, ground := Go.Ground.phase }, { on := 11, ground := Go.Ground.phase }, { on := 12, ground := Go.Ground.phase }, { on := 13, ground := Go.Ground.phase }, { on := 14, ground := Go.Ground.phase }, { on := 15, ground := Go.Ground.phase }, { on := 16, ground := Go.Ground.phase }, { on := 17, ground := Go.Ground.phase }, { on := 18, ground := Go.Ground.phase }, { on := 19, ground := Go.Ground.phase }, { on := 20, ground := Go.Ground.phase }, { on := 21, ground := Go.Ground.phase }, { on := 22, ground := Go.Ground.phase }, { on := 23, ground := Go.Ground.phase }, { on := 24, ground := Go.Ground.phase }, { on := 25, ground := Go.Ground.phase }, { on := 26, ground := Go.Ground.phase }, { on := 27, ground := Go.Ground.phase }, { on := 28, ground := Go.Ground.phase }, { on := 29, ground := Go.Ground.phase }, { on := 30, ground := Go.Ground.phase }, { on := 31, ground := Go.Ground.phase }].append [{ on := 32, ground := Go.Ground.phase }, { on := 33, ground := Go.Ground.phase }, { on := 34, ground := Go.Ground.phase }, { on := 35, ground := Go.Ground.phase }, { on := 36, ground := Go.Ground.phase }, { on := 37, ground := Go.Ground.phase }, { on := 38, ground := Go.Ground.phase }, { on := 39, ground := Go.Ground.phase }, { on := 40, ground := Go.Ground.phase }, { on := 41, ground := Go.Ground.phase }, { on := 42, ground := Go.Ground.phase }, { on := 43, ground := Go.Ground.phase }, { on := 44, ground := Go.Ground.phase }, { on := 45, ground := Go.Ground.phase }, { on := 46, ground := Go.Ground.phase }, { on := 47, ground := Go.Ground.phase }, { on := 48, ground := Go.Ground.phase }, { on := 49, ground := Go.Ground.phase }, { on := 50, ground := Go.Ground.phase }, { on := 51, ground := Go.Ground.phase }, { on := 52, ground := Go.Ground.phase }, { on := 53, ground := Go.Ground.phase }, { on := 54, ground := Go.Ground.phase }, { on := 55, ground := Go.Ground.phase }, { on := 56, ground := Go.Ground.phase }, { on := 57, ground := Go.Ground.phase }, { on := 58, ground := Go.Ground.phase }, { on := 59, ground := Go.Ground.phase }, { on := 60, ground := Go.Ground.phase }, { on := 61, ground := Go.Ground.phase }, { on := 62, ground := Go.Ground.phase }, { on := 63, ground := Go.Ground.phase }, { on := 64, ground := Go.Ground.phase }, { on := 65, ground := Go.Ground.phase }]).toArray, guard := none }) (v := ?_) rfl (by kernel_rfl) (by kernel_rfl) (by kernel_rfl) (fun _ _ _ h => h) (Or.inl ⟨by rfl, ?_⟩) (by assumption) ?_
  rotate_left
  · intro w hSw
    try dsimp only at hSw
    go_simp
    try with_reducible rfl
  try simp only [Act.put, List.setIfInBounds_toArray, List.set_cons_zero]
  refine wpAnyH_done (by kernel_rfl) ?_ _
  go_wp2_with fail
  go_ret
  exact ⟨rfl, bTrans HB6.out hbb⟩
end
end Go.Proofs.YtgdloonpemaijaaDoor
