/-
  The fifth law of chapter 6. Condition: the table of the instructions is in the world.
-/
import Derived.Test.YtpcffhhednplaaaDoorVz
import Derived.Test.YtpcffhhednplaaaDoorVt
namespace Go.Proofs.YtpcffhhednplaaaDoor
open Go.RowKit
attribute [local go_sem ↓] Go.wp_at_zero Go.wp_at_succ
set_option maxHeartbeats 4000000 in
set_option maxRecDepth 100000 in
theorem stack_any (w : World) (ga gb : Int) (ht : Tab w) :
    Calls Tryd.prog 7 #[.int .i64 ga, .int .i64 gb] w fun e w' => e = .returned (.bool true) ∧ Below w.heap.size w w' := by
  have HT : Hid (Tab w) := ht
  clear ht
  go_enter Tryd.func7, Tryd.ntmps7
  go_wp2_with fail
  refine (mk1_any anyB _ 20 _ (s1 ga gb) (by exact code_lit w (s1 ga gb) (by show 7 ≤ 1000; decide))).mono ?_
  rintro e w1 ⟨v1, c1, v2, c2, rfl, hp1, hb1⟩
  have hl1 : Below w.heap.size w w1 := bTrans (bAlloc (bRefl w) _) hb1
  have hP : PB w w1.heap.size v1 v2 c1 c2 20 (s1 ga gb) (w1.alloc (.cells #[.slice v1 1 c1, .slice v2 2 c2, .slice none 0 0, .int .i64 20] 26)) := ⟨bAlloc hl1 _, hl1.size, heap_new _ _, hp1.below (bAlloc (bRefl _) _), HT.out.below (bAlloc hl1 _)⟩
  obtain ⟨bp, hbp⟩ : ∃ bp, bp = w1.heap.size := ⟨_, rfl⟩
  go_wp2_with fail
  rw [← hbp] at hP ⊢
  obtain ⟨W, hW⟩ : ∃ W, W = w1.alloc (.cells #[.slice v1 1 c1, .slice v2 2 c2, .slice none 0 0, .int .i64 20] 26) := ⟨_, rfl⟩
  rw [← hW] at hP ⊢
  have HP : Hid (PB w bp v1 v2 c1 c2 20 (s1 ga gb) W) := hP
  obtain ⟨p0, p1, p2, p3, _⟩ := blk4 hP.box
  have hpl := hP.lt
  clear hP hp1 hb1 hl1 hW hbp
  go_cut [6] (fun i2 wc => ∃ b A c An cn, i2 = .pointer (some ⟨b, 0, none⟩) ∧ Hid (RB W b (rs1 ga gb) A c An cn wc))
  case first =>
    have hn : ¬ W.heap.size = bp := by omega
    have hn' : ¬ bp = W.heap.size := by omega
    go_region_held3 (fun w' => w'.cell? ⟨bp, 0, none⟩ = some (.slice v1 1 c1) ∧ w'.cell? ⟨bp, 1, none⟩ = some (.slice v2 2 c2) ∧ w'.cell? ⟨bp, 2, none⟩ = some (.slice none 0 0) ∧ w'.cell? ⟨bp, 3, none⟩ = some (.int .i64 20)) (go_keep)
      (first
        | (go_at_call 19; refine (local_any W.drew (7) (8)).mono ?_; rintro e w2 ⟨Al, rfl, hl2, hb2⟩; have hbl : Below W.heap.size W w2 := undrew hb2; have hs2 := hbl.size; have hm : ¬ w2.heap.size = bp := (by omega); have hm' : ¬ bp = w2.heap.size := (by omega); have z0 := (hbl.cell (p := ⟨bp, 0, none⟩) hpl).trans p0; have z1 := (hbl.cell (p := ⟨bp, 1, none⟩) hpl).trans p1; have z2 := (hbl.cell (p := ⟨bp, 2, none⟩) hpl).trans p2; have z3 := (hbl.cell (p := ⟨bp, 3, none⟩) hpl).trans p3)
        | (go_at_call 19; refine (local_any (W.alloc (.cells #[.slice none 0 0, .bool false, .int .i64 0, .int .i64 0, .int .i64 0, .slice none 0 0, .int .i64 0] 35)).drew (7) (8)).mono ?_; rintro e w2 ⟨Al, rfl, hl2, hb2⟩; have hbl : Below W.heap.size W w2 := bTrans (bAlloc (bRefl W) _).drew hb2; have hzz : w2.heap[W.heap.size]? = some (.cells #[.slice none 0 0, .bool false, .int .i64 0, .int .i64 0, .int .i64 0, .slice none 0 0, .int .i64 0] 35) := (hb2.block _ (by simp)).trans (heap_new W _); have hs2 := hb2.size; (try simp at hs2); obtain ⟨y0, y1, y2, y3, y4, y5, y6, yf⟩ := blk7 hzz; have yz : W.heap.size < w2.heap.size := (by omega); have z0 := (hbl.cell (p := ⟨bp, 0, none⟩) hpl).trans p0; have z1 := (hbl.cell (p := ⟨bp, 1, none⟩) hpl).trans p1; have z2 := (hbl.cell (p := ⟨bp, 2, none⟩) hpl).trans p2; have z3 := (hbl.cell (p := ⟨bp, 3, none⟩) hpl).trans p3)
        | (go_at_call 16; refine (run_is _ w2 _ _ (oneP 20 (s1 ga gb)) 0 (locP (7) (8)) (rs1 ga gb) (es1 ga gb) (HP.out.tab.below hbl) (HP.out.pv.below hbl) hl2).mono ?_; rintro e w3 ⟨A3, d3, B3, g3, rfl, i1, i2, hb3⟩; have hbr : Below W.heap.size W w3 := bTrans hbl hb3; have hs3 := hb3.size; have z0 := (hbr.cell (p := ⟨bp, 0, none⟩) hpl).trans p0; have z1 := (hbr.cell (p := ⟨bp, 1, none⟩) hpl).trans p1; have z2 := (hbr.cell (p := ⟨bp, 2, none⟩) hpl).trans p2; have z3 := (hbr.cell (p := ⟨bp, 3, none⟩) hpl).trans p3; have hy7 := bcell hb3; have hf7 : ∀ b o, b < w2.heap.size → w3.frozen? ⟨b, o, none⟩ = w2.frozen? ⟨b, o, none⟩ := (fun b o h => World.frozen?_of_block (hb3.block b h)); have hm3 : ¬ w3.heap.size = bp := (by omega); have hm3' : ¬ bp = w3.heap.size := (by omega))
        | (go_at_call 16; refine (run_is _ (w2.alloc (.cells #[.slice none 0 0, .bool false, .int .i64 0, .int .i64 0, .int .i64 0, .slice none 0 0, .int .i64 0] 35)) _ _ (oneP 20 (s1 ga gb)) 0 (locP (7) (8)) (rs1 ga gb) (es1 ga gb) (HP.out.tab.below (bAlloc hbl _)) (HP.out.pv.below (bAlloc hbl _)) (hl2.below (bAlloc (bRefl _) _))).mono ?_; rintro e w3 ⟨A3, d3, B3, g3, rfl, i1, i2, hb3⟩; have hbr : Below W.heap.size W w3 := bTrans (bAlloc hbl _) hb3; have hbls := hbl.size; have hlt2 : w2.heap.size < (w2.alloc (.cells #[.slice none 0 0, .bool false, .int .i64 0, .int .i64 0, .int .i64 0, .slice none 0 0, .int .i64 0] 35)).heap.size := (by simp); have hs3 := hb3.size; (try simp at hs3); have hzz : w3.heap[w2.heap.size]? = some (.cells #[.slice none 0 0, .bool false, .int .i64 0, .int .i64 0, .int .i64 0, .slice none 0 0, .int .i64 0] 35) := (hb3.block _ (by simp)).trans (heap_new w2 _); obtain ⟨y0, y1, y2, y3, y4, y5, y6, yf⟩ := blk7 hzz; have z0 := (hbr.cell (p := ⟨bp, 0, none⟩) hpl).trans p0; have z1 := (hbr.cell (p := ⟨bp, 1, none⟩) hpl).trans p1; have z2 := (hbr.cell (p := ⟨bp, 2, none⟩) hpl).trans p2; have z3 := (hbr.cell (p := ⟨bp, 3, none⟩) hpl).trans p3))
    all_goals (go_wp2_with fail; go_meet)
    all_goals first
      | with_reducible exact ⟨_, _, _, _, _, rfl, hid_mk (rb_c hbr i1 i2)⟩
      | with_reducible exact ⟨_, _, _, _, _, rfl, hid_mk (rb_a hbr (Nat.le_refl _) yz ((hb3.block _ yz).trans hzz) i1 i2)⟩
      | with_reducible exact ⟨_, _, _, _, _, rfl, hid_mk (rb_a hbr hbls hlt2 hzz i1 i2)⟩
  case rest =>
    obtain ⟨b2, A2, d2, B2, g2, rfl, hR⟩ := hcut
    have T2 : Hid (Tab wc) := (HP.out.below hR.out.low).tab
    clear p0 p1 p2 p3
    go_wp2_with fail
    refine (mk1_any anyB _ 20 _ (s2 ga) (by exact code_lit2 (wc) (s2 ga) (by simp) (by show 4 ≤ 1000; decide))).mono ?_
    rintro e w31 ⟨u31, x31, u32, x32, rfl, hp3, hb31⟩
    have hlo31 : Below (wc).heap.size (wc) w31 := bTrans (bAlloc (bRefl _) _) hb31
    go_wp2_with fail
    refine (local_any _ 7 8).mono ?_
    rintro e w32 ⟨Al3, rfl, hl3, hb32⟩
    have hlo32 : Below (wc).heap.size (wc) w32 := bTrans hlo31 hb32
    go_wp2_with fail
    refine (run_is _ _ _ _ (oneP 20 (s2 ga)) 0 (locP 7 8) rs2 (es2 ga) (T2.out.below hlo32) (hp3.below hb32) hl3).mono ?_
    rintro e w33 ⟨A3, d3, B3, g3, rfl, i31, i32, hb33⟩
    have hlo33 : Below (wc).heap.size (wc) w33 := bTrans hlo32 hb33
    have H3 : Hid (RB (wc) w33.heap.size rs2 A3 d3 B3 g3 (w33.alloc (.cells #[.slice A3 rs2.loc.regs.length d3, .bool rs2.loc.armed, .int .i64 rs2.loc.down, .int .i64 rs2.loc.sent, .int .i64 rs2.loc.over, .slice B3 rs2.notes.length g3, .int .i64 rs2.steps] 35))) := rb_c hlo33 i31 i32
    have M3 : Hid (Below (wc).heap.size (wc) w33) := hlo33
    have L3 : Hid (Below (wc).heap.size (wc) (w33.alloc (.cells #[.slice A3 rs2.loc.regs.length d3, .bool rs2.loc.armed, .int .i64 rs2.loc.down, .int .i64 rs2.loc.sent, .int .i64 rs2.loc.over, .slice B3 rs2.notes.length g3, .int .i64 rs2.steps] 35))) := bAlloc hlo33 _
    have T3 : Hid (Tab (w33.alloc (.cells #[.slice A3 rs2.loc.regs.length d3, .bool rs2.loc.armed, .int .i64 rs2.loc.down, .int .i64 rs2.loc.sent, .int .i64 rs2.loc.over, .slice B3 rs2.notes.length g3, .int .i64 rs2.steps] 35))) := T2.out.below L3.out
    have s3 : (wc).heap.size ≤ w33.heap.size := hlo33.size
    clear hp3 hb31 hb32 hb33 i31 i32 hl3 hlo31 hlo32 hlo33
    have Q2 := hR.out.below M3.out
    obtain ⟨f0, _, _, _, _, _, f1, _⟩ := blk7 Q2.box
    obtain ⟨f2, _, f3, _, _, _, _, _⟩ := blk7 H3.out.box
    have zb2 := Q2.lt
    have zb2' : b2 < w33.heap.size + 1 := by omega
    have HQ2 : Hid (Ints anyB w33 (.slice A2 (rs1 ga gb).loc.regs.length d2) (rs1 ga gb).loc.regs) := Q2.regs
    have HQ3 : Hid (Ints anyB (w33.alloc (.cells #[.slice A3 rs2.loc.regs.length d3, .bool rs2.loc.armed, .int .i64 rs2.loc.down, .int .i64 rs2.loc.sent, .int .i64 rs2.loc.over, .slice B3 rs2.notes.length g3, .int .i64 rs2.steps] 35)) (.slice A3 rs2.loc.regs.length d3) rs2.loc.regs) := H3.out.regs
    have HLo : Hid (Below w.heap.size w (w33.alloc (.cells #[.slice A3 rs2.loc.regs.length d3, .bool rs2.loc.armed, .int .i64 rs2.loc.down, .int .i64 rs2.loc.sent, .int .i64 rs2.loc.over, .slice B3 rs2.notes.length g3, .int .i64 rs2.steps] 35))) := bTrans (HP.out.below hR.out.low).low L3.out
    have g1 : (rs1 ga gb).steps = 7 := rfl
    have g2' : rs2.loc.down = 0 := rfl
    have eq1 : eqB (rs1 ga gb).loc.regs [ga, gb] = true := eqB_self _
    have eq2 : eqB rs2.loc.regs [0, 8] = true := by decide
    have F1 := (bAlloc (bRefl w33) (.cells #[.slice A3 rs2.loc.regs.length d3, .bool rs2.loc.armed, .int .i64 rs2.loc.down, .int .i64 rs2.loc.sent, .int .i64 rs2.loc.over, .slice B3 rs2.notes.length g3, .int .i64 rs2.steps] 35)).cell (p := ⟨b2, 6, none⟩) zb2
    rw [f1] at F1
    clear hR H3 L3 M3 T2 HP s3
    go_wp2_with fail
    refine (alikeI anyB anyB _ _ _ (rs1 ga gb).loc.regs [ga, gb] (HQ2.out.below (by exact bAlloc (bAlloc (bRefl _) _) _)) (by exact sl2 trivial (by simp) (by simp [rInt]) (by simp [rInt]))).mono ?_
    rw [eq1]
    rintro e w7 ⟨rfl, hq7⟩
    have hX : Below (w33.alloc (.cells #[.slice A3 rs2.loc.regs.length d3, .bool rs2.loc.armed, .int .i64 rs2.loc.down, .int .i64 rs2.loc.sent, .int .i64 rs2.loc.over, .slice B3 rs2.notes.length g3, .int .i64 rs2.steps] 35)).heap.size (w33.alloc (.cells #[.slice A3 rs2.loc.regs.length d3, .bool rs2.loc.armed, .int .i64 rs2.loc.down, .int .i64 rs2.loc.sent, .int .i64 rs2.loc.over, .slice B3 rs2.notes.length g3, .int .i64 rs2.steps] 35)) w7 := bTrans (bAlloc (bRefl _) _) (quiet_below hq7)
    have y1 := (hX.cell (p := ⟨b2, 6, none⟩) (show b2 < (w33.alloc (.cells #[.slice A3 rs2.loc.regs.length d3, .bool rs2.loc.armed, .int .i64 rs2.loc.down, .int .i64 rs2.loc.sent, .int .i64 rs2.loc.over, .slice B3 rs2.notes.length g3, .int .i64 rs2.steps] 35)).heap.size by simp; omega)).trans F1
    have y2 := (hX.cell (p := ⟨w33.heap.size, 0, none⟩) (show w33.heap.size < (w33.alloc (.cells #[.slice A3 rs2.loc.regs.length d3, .bool rs2.loc.armed, .int .i64 rs2.loc.down, .int .i64 rs2.loc.sent, .int .i64 rs2.loc.over, .slice B3 rs2.notes.length g3, .int .i64 rs2.steps] 35)).heap.size by simp)).trans f2
    have y3 := (hX.cell (p := ⟨w33.heap.size, 2, none⟩) (show w33.heap.size < (w33.alloc (.cells #[.slice A3 rs2.loc.regs.length d3, .bool rs2.loc.armed, .int .i64 rs2.loc.down, .int .i64 rs2.loc.sent, .int .i64 rs2.loc.over, .slice B3 rs2.notes.length g3, .int .i64 rs2.steps] 35)).heap.size by simp)).trans f3
    have hs7 := hX.size
    simp at hs7
    have hz7 : w33.heap.size < w7.heap.size := by omega
    have hn7 : ¬ w33.heap.size = w7.heap.size := by omega
    clear hq7 f0 f1 f2 f3 F1
    go_wp2_with fail
    refine (alikeI anyB anyB _ _ _ rs2.loc.regs [0, 8] (HQ3.out.below (by exact bAlloc hX _)) (by exact sl2 trivial (by simp) (by simp [rInt]) (by simp [rInt]))).mono ?_
    rw [eq2]
    rintro e w8 ⟨rfl, hq8⟩
    have hX8 : Below (w33.alloc (.cells #[.slice A3 rs2.loc.regs.length d3, .bool rs2.loc.armed, .int .i64 rs2.loc.down, .int .i64 rs2.loc.sent, .int .i64 rs2.loc.over, .slice B3 rs2.notes.length g3, .int .i64 rs2.steps] 35)).heap.size (w33.alloc (.cells #[.slice A3 rs2.loc.regs.length d3, .bool rs2.loc.armed, .int .i64 rs2.loc.down, .int .i64 rs2.loc.sent, .int .i64 rs2.loc.over, .slice B3 rs2.notes.length g3, .int .i64 rs2.steps] 35)) w8 := bTrans (bAlloc hX _) (quiet_below hq8)
    have y4 := (hX8.cell (p := ⟨w33.heap.size, 2, none⟩) (show w33.heap.size < (w33.alloc (.cells #[.slice A3 rs2.loc.regs.length d3, .bool rs2.loc.armed, .int .i64 rs2.loc.down, .int .i64 rs2.loc.sent, .int .i64 rs2.loc.over, .slice B3 rs2.notes.length g3, .int .i64 rs2.steps] 35)).heap.size by simp)).trans ((hX.cell (p := ⟨w33.heap.size, 2, none⟩) (show w33.heap.size < (w33.alloc (.cells #[.slice A3 rs2.loc.regs.length d3, .bool rs2.loc.armed, .int .i64 rs2.loc.down, .int .i64 rs2.loc.sent, .int .i64 rs2.loc.over, .slice B3 rs2.notes.length g3, .int .i64 rs2.steps] 35)).heap.size by simp)).symm.trans y3)
    clear hq8
    go_wp2_with fail
    refine (awake_any _ (T3.out.below hX8)).mono ?_
    rintro e w9 ⟨rfl, hb9⟩
    go_wp2
    go_ret
    exact ⟨rfl, bTrans (bTrans HLo.out hX8) hb9⟩
end Go.Proofs.YtpcffhhednplaaaDoor
