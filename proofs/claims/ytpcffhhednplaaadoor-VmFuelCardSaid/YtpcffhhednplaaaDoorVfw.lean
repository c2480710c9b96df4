/-
  The second law of chapter 6. Condition: the table of the instructions is in the world.
-/
import Derived.Test.YtpcffhhednplaaaDoorVz
import Derived.Test.YtpcffhhednplaaaDoorVf
namespace Go.Proofs.YtpcffhhednplaaaDoor
open Go.RowKit
attribute [local go_sem ↓] Go.wp_at_zero Go.wp_at_succ
theorem fw_0 (x : Int) : fw x 0 = 5 := rfl
theorem fw_n (x : Int) {n : Nat} (h : 0 < n) : fw x n = x := by unfold fw; rw [if_neg (by omega)]
theorem fuel_out (w : World) (ga gb gc : Int) (ht : Tab w) (h : ga < 0 ∨ 30 < ga ∨ gb < 1 ∨ 256 < gb) :
    Calls Tryd.prog 4 #[.int .i64 ga, .int .i64 gb, .int .i64 gc] w fun e w' => e = .returned (.bool true) ∧ Below w.heap.size w w' := by
  have HT : Hid (Tab w) := ht
  clear ht
  by_cases h0 : ga < 0
  · clear h
    go_enter Tryd.func4, Tryd.ntmps4
    go_wp2_with (go_at_call 12; refine (awake_any _ HT.out).mono ?_; rintro e w1 ⟨rfl, hb1⟩)
    go_ret
    exact ⟨rfl, hb1⟩
  by_cases h1 : 30 < ga
  · clear h
    go_enter Tryd.func4, Tryd.ntmps4
    go_wp2_with (go_at_call 12; refine (awake_any _ HT.out).mono ?_; rintro e w1 ⟨rfl, hb1⟩)
    go_ret
    exact ⟨rfl, hb1⟩
  by_cases h2 : gb < 1
  · clear h
    go_enter Tryd.func4, Tryd.ntmps4
    go_wp2_with (go_at_call 12; refine (awake_any _ HT.out).mono ?_; rintro e w1 ⟨rfl, hb1⟩)
    go_ret
    exact ⟨rfl, hb1⟩
  have h3 : 256 < gb := by omega
  clear h
  go_enter Tryd.func4, Tryd.ntmps4
  go_wp2_with (go_at_call 12; refine (awake_any _ HT.out).mono ?_; rintro e w1 ⟨rfl, hb1⟩)
  go_ret
  exact ⟨rfl, hb1⟩
set_option maxHeartbeats 4000000 in
set_option maxRecDepth 100000 in
theorem fuel_in (w : World) (n : Nat) (gf x : Int) (ht : Tab w) (hn : n ≤ 30) (hf1 : 1 ≤ gf) (hf2 : gf ≤ 256) :
    Calls Tryd.prog 4 #[.int .i64 n, .int .i64 gf, .int .i64 x] w fun e w' => e = .returned (.bool true) ∧ Below w.heap.size w w' := by
  have HT : Hid (Tab w) := ht
  clear ht
  obtain ⟨R0, hR0⟩ : ∃ R, runP (oneP gf (fC n)) 0 (locP x 5) 0 [] = R := ⟨_, rfl⟩
  have HR0 : Hid (runP (oneP gf (fC n)) 0 (locP x 5) 0 [] = R0) := hR0
  clear hR0
  go_enter Tryd.func4, Tryd.ntmps4
  go_wp2_with fail
  go_loopg [7, 8] n (fun g i7 i8 wr => ∃ j : Nat, g = n - j ∧ j ≤ n ∧ i8 = .int .i64 j ∧ Hid (CO w i7 (fB j) wr))
  case atStart => exact ⟨0, rfl, by omega, rfl, CO.nil w⟩
  case round =>
    obtain ⟨j, rfl, hj, rfl, hd⟩ := hrel
    obtain ⟨A, c, rfl⟩ := hd.out.formN (2 * j) (fB_len j)
    by_cases hg : j < n
    · go_wp2_with (at_builtin; refine appC rfl _ _ rfl [⟨5, 0⟩, ⟨6, 1⟩] wr.heap.size (2 * j + 2) 2 (hd.out.below (bAlloc (bRefl _) _)) rfl rfl rfl (by rw [fB_len]) (by decide) (heap_new2 rfl) (by rw [fB_len]; omega) ?_)
      intro g cap w2 hcw hgr
      have HN : Hid (CO w (.slice (some ⟨g, 0, none⟩) (2 * j + 2) cap) (fB (j + 1)) w2) := hcw
      clear hcw hgr hd
      go_wp2_with fail
      go_roundg (n - (j + 1))
      case measure => omega
      case rel => exact ⟨j + 1, rfl, by omega, by go_num, HN⟩
    · obtain rfl : j = n := by omega
      go_wp2_with (at_builtin; refine appC rfl _ _ rfl [⟨8, 0⟩, ⟨22, 0⟩] wr.heap.size (2 * j + 2) 2 (hd.out.below (bAlloc (bRefl _) _)) rfl rfl rfl (by rw [fB_len]) (by decide) (heap_new2 rfl) (by rw [fB_len]; omega) ?_)
      intro g cap w2 hcw hgr
      have HN : Hid (CO w (.slice (some ⟨g, 0, none⟩) (2 * j + 2) cap) (fC j) w2) := hcw
      clear hcw hgr hd hg hj
      go_wp2_with fail
      refine (mk1_any anyB _ gf _ (fC j) (HN.out.cd (by rw [fC_len]; omega))).mono ?_
      rintro e w1 ⟨v1, c1, v2, c2, rfl, hp1, hb1⟩
      have hl1 : Below w.heap.size w w1 := bTrans HN.out.low hb1
      have hP : PB w w1.heap.size v1 v2 c1 c2 gf (fC j) (w1.alloc (.cells #[.slice v1 1 c1, .slice v2 2 c2, .slice none 0 0, .int .i64 gf] 26)) := ⟨bAlloc hl1 _, hl1.size, heap_new _ _, hp1.below (bAlloc (bRefl _) _), HT.out.below (bAlloc hl1 _)⟩
      obtain ⟨bp, hbp⟩ : ∃ bp, bp = w1.heap.size := ⟨_, rfl⟩
      go_wp2_with fail
      rw [← hbp] at hP ⊢
      obtain ⟨W, hW⟩ : ∃ W, W = w1.alloc (.cells #[.slice v1 1 c1, .slice v2 2 c2, .slice none 0 0, .int .i64 gf] 26) := ⟨_, rfl⟩
      rw [← hW] at hP ⊢
      have HP : Hid (PB w bp v1 v2 c1 c2 gf (fC j) W) := hP
      obtain ⟨p0, p1, p2, p3, _⟩ := blk4 hP.box
      have hpl := hP.lt
      clear hP hp1 hb1 hl1 hW hbp
      go_cut [10] (fun i2 wc => ∃ b A c An cn, i2 = .pointer (some ⟨b, 0, none⟩) ∧ Hid (RB W b R0 A c An cn wc))
      case first =>
        have hn : ¬ W.heap.size = bp := by omega
        have hn' : ¬ bp = W.heap.size := by omega
        go_region_held3 (fun w' => w'.cell? ⟨bp, 0, none⟩ = some (.slice v1 1 c1) ∧ w'.cell? ⟨bp, 1, none⟩ = some (.slice v2 2 c2) ∧ w'.cell? ⟨bp, 2, none⟩ = some (.slice none 0 0) ∧ w'.cell? ⟨bp, 3, none⟩ = some (.int .i64 gf)) (go_keep)
          (first
            | (go_at_call 19; refine (local_any W.drew (x) (5)).mono ?_; rintro e w2 ⟨Al, rfl, hl2, hb2⟩; have hbl : Below W.heap.size W w2 := undrew hb2; have hs2 := hbl.size; have hm : ¬ w2.heap.size = bp := (by omega); have hm' : ¬ bp = w2.heap.size := (by omega); have z0 := (hbl.cell (p := ⟨bp, 0, none⟩) hpl).trans p0; have z1 := (hbl.cell (p := ⟨bp, 1, none⟩) hpl).trans p1; have z2 := (hbl.cell (p := ⟨bp, 2, none⟩) hpl).trans p2; have z3 := (hbl.cell (p := ⟨bp, 3, none⟩) hpl).trans p3)
            | (go_at_call 19; refine (local_any (W.alloc (.cells #[.slice none 0 0, .bool false, .int .i64 0, .int .i64 0, .int .i64 0, .slice none 0 0, .int .i64 0] 35)).drew (x) (5)).mono ?_; rintro e w2 ⟨Al, rfl, hl2, hb2⟩; have hbl : Below W.heap.size W w2 := bTrans (bAlloc (bRefl W) _).drew hb2; have hzz : w2.heap[W.heap.size]? = some (.cells #[.slice none 0 0, .bool false, .int .i64 0, .int .i64 0, .int .i64 0, .slice none 0 0, .int .i64 0] 35) := (hb2.block _ (by simp)).trans (heap_new W _); have hs2 := hb2.size; (try simp at hs2); obtain ⟨y0, y1, y2, y3, y4, y5, y6, yf⟩ := blk7 hzz; have yz : W.heap.size < w2.heap.size := (by omega); have z0 := (hbl.cell (p := ⟨bp, 0, none⟩) hpl).trans p0; have z1 := (hbl.cell (p := ⟨bp, 1, none⟩) hpl).trans p1; have z2 := (hbl.cell (p := ⟨bp, 2, none⟩) hpl).trans p2; have z3 := (hbl.cell (p := ⟨bp, 3, none⟩) hpl).trans p3)
            | (go_at_call 16; refine (run_is _ w2 _ _ (oneP gf (fC j)) 0 (locP (x) (5)) R0 HR0.out (HP.out.tab.below hbl) (HP.out.pv.below hbl) hl2).mono ?_; rintro e w3 ⟨A3, d3, B3, g3, rfl, i1, i2, hb3⟩; have hbr : Below W.heap.size W w3 := bTrans hbl hb3; have hs3 := hb3.size; have z0 := (hbr.cell (p := ⟨bp, 0, none⟩) hpl).trans p0; have z1 := (hbr.cell (p := ⟨bp, 1, none⟩) hpl).trans p1; have z2 := (hbr.cell (p := ⟨bp, 2, none⟩) hpl).trans p2; have z3 := (hbr.cell (p := ⟨bp, 3, none⟩) hpl).trans p3; have hy7 := bcell hb3; have hf7 : ∀ b o, b < w2.heap.size → w3.frozen? ⟨b, o, none⟩ = w2.frozen? ⟨b, o, none⟩ := (fun b o h => World.frozen?_of_block (hb3.block b h)); have hm3 : ¬ w3.heap.size = bp := (by omega); have hm3' : ¬ bp = w3.heap.size := (by omega))
            | (go_at_call 16; refine (run_is _ (w2.alloc (.cells #[.slice none 0 0, .bool false, .int .i64 0, .int .i64 0, .int .i64 0, .slice none 0 0, .int .i64 0] 35)) _ _ (oneP gf (fC j)) 0 (locP (x) (5)) R0 HR0.out (HP.out.tab.below (bAlloc hbl _)) (HP.out.pv.below (bAlloc hbl _)) (hl2.below (bAlloc (bRefl _) _))).mono ?_; rintro e w3 ⟨A3, d3, B3, g3, rfl, i1, i2, hb3⟩; have hbr : Below W.heap.size W w3 := bTrans (bAlloc hbl _) hb3; have hbls := hbl.size; have hlt2 : w2.heap.size < (w2.alloc (.cells #[.slice none 0 0, .bool false, .int .i64 0, .int .i64 0, .int .i64 0, .slice none 0 0, .int .i64 0] 35)).heap.size := (by simp); have hs3 := hb3.size; (try simp at hs3); have hzz : w3.heap[w2.heap.size]? = some (.cells #[.slice none 0 0, .bool false, .int .i64 0, .int .i64 0, .int .i64 0, .slice none 0 0, .int .i64 0] 35) := (hb3.block _ (by simp)).trans (heap_new w2 _); obtain ⟨y0, y1, y2, y3, y4, y5, y6, yf⟩ := blk7 hzz; have z0 := (hbr.cell (p := ⟨bp, 0, none⟩) hpl).trans p0; have z1 := (hbr.cell (p := ⟨bp, 1, none⟩) hpl).trans p1; have z2 := (hbr.cell (p := ⟨bp, 2, none⟩) hpl).trans p2; have z3 := (hbr.cell (p := ⟨bp, 3, none⟩) hpl).trans p3))
        all_goals (go_wp2_with fail; go_meet)
        all_goals first
          | with_reducible exact ⟨_, _, _, _, _, rfl, hid_mk (rb_c hbr i1 i2)⟩
          | with_reducible exact ⟨_, _, _, _, _, rfl, hid_mk (rb_a hbr (Nat.le_refl _) yz ((hb3.block _ yz).trans hzz) i1 i2)⟩
          | with_reducible exact ⟨_, _, _, _, _, rfl, hid_mk (rb_a hbr hbls hlt2 hzz i1 i2)⟩
      case rest =>
        obtain ⟨b2, A2, d2, B2, g2, rfl, hR⟩ := hcut
        have T2 : Hid (Tab wc) := (HP.out.below hR.out.low).tab
        have L2 : Hid (Below w.heap.size w wc) := (HP.out.below hR.out.low).low
        have hb2 : b2 < wc.heap.size := hR.out.lt
        clear p0 p1 p2 p3 HP
        by_cases hS : gf < 2 * (j : Int) + 2
        · obtain rfl : R0 = rfS x gf := HR0.out.symm.trans (efS hn ⟨hf1, hf2⟩ hS)
          obtain ⟨f0, _, f2, f3, _, f5, f6, _⟩ := blk7 hR.out.box
          have F0 : wc.cell? ⟨b2, 0, none⟩ = some (.slice A2 2 d2) := f0
          have F2 : wc.cell? ⟨b2, 2, none⟩ = some (.int .i64 2) := f2
          have F3 : wc.cell? ⟨b2, 3, none⟩ = some (.int .i64 0) := f3
          have F5 : wc.cell? ⟨b2, 5, none⟩ = some (.slice B2 0 g2) := f5
          have F6 : wc.cell? ⟨b2, 6, none⟩ = some (.int .i64 gf) := f6
          have HI : Hid (Ints anyB wc (.slice A2 2 d2) [x, 5]) := hR.out.regs
          clear f0 f2 f3 f5 f6 hR HR0
          go_wp2_with fail
          refine (alikeI anyB anyB _ _ _ [x, 5] [x, 5] (HI.out.below (by exact bAlloc (bRefl _) _)) (by exact sl2 trivial (by simp) (by simp [rInt]) (by simp [rInt]))).mono ?_
          rw [eqB_self]
          rintro e w7 ⟨rfl, hq7⟩
          have hX : Below wc.heap.size wc w7 := bTrans (bAlloc (bRefl _) _) (quiet_below hq7)
          have Y3 := (hX.cell (p := ⟨b2, 3, none⟩) hb2).trans F3
          clear hq7 F0 F2 F3 F5 F6
          go_wp2_with (go_at_call 12; refine (awake_any _ (T2.out.below hX)).mono ?_; rintro e w9 ⟨rfl, hb9⟩)
          go_ret
          exact ⟨rfl, bTrans (bTrans L2.out hX) hb9⟩
        · obtain rfl : R0 = rfE x j := HR0.out.symm.trans (efE hn ⟨hf1, hf2⟩ hS)
          obtain ⟨f0, _, f2, f3, _, f5, f6, _⟩ := blk7 hR.out.box
          have F0 : wc.cell? ⟨b2, 0, none⟩ = some (.slice A2 2 d2) := f0
          have F2 : wc.cell? ⟨b2, 2, none⟩ = some (.int .i64 0) := f2
          have F3 : wc.cell? ⟨b2, 3, none⟩ = some (.int .i64 1) := f3
          have F5 : wc.cell? ⟨b2, 5, none⟩ = some (.slice B2 1 g2) := f5
          have F6 : wc.cell? ⟨b2, 6, none⟩ = some (.int .i64 (2 * (j : Int) + 2)) := f6
          have HI : Hid (Ints anyB wc (.slice A2 2 d2) [x, fw x j]) := hR.out.regs
          clear f0 f2 f3 f5 f6 hR HR0
          by_cases h0 : 0 < j
          · have HE : Hid (fw x j = x) := fw_n x h0
            go_wp2_with fail
            refine (alikeI anyB anyB _ _ _ [x, fw x j] [x, x] (HI.out.below (by exact bAlloc (bRefl _) _)) (by exact sl2 trivial (by simp) (by simp [rInt]) (by simp [rInt]))).mono ?_
            rw [HE.out, eqB_self]
            rintro e w7 ⟨rfl, hq7⟩
            have hX : Below wc.heap.size wc w7 := bTrans (bAlloc (bRefl _) _) (quiet_below hq7)
            have Y3 := (hX.cell (p := ⟨b2, 3, none⟩) hb2).trans F3
            clear hq7 F0 F2 F3 F5 F6
            go_wp2_with (go_at_call 12; refine (awake_any _ (T2.out.below hX)).mono ?_; rintro e w9 ⟨rfl, hb9⟩)
            go_ret
            exact ⟨rfl, bTrans (bTrans L2.out hX) hb9⟩
          · obtain rfl : j = 0 := by omega
            go_wp2_with fail
            refine (alikeI anyB anyB _ _ _ [x, 5] [x, 5] (Ints.below (l := [x, 5]) HI.out (by exact bAlloc (bRefl _) _)) (by exact sl2 trivial (by simp) (by simp [rInt]) (by simp [rInt]))).mono ?_
            rw [eqB_self]
            rintro e w7 ⟨rfl, hq7⟩
            have hX : Below wc.heap.size wc w7 := bTrans (bAlloc (bRefl _) _) (quiet_below hq7)
            have Y3 := (hX.cell (p := ⟨b2, 3, none⟩) hb2).trans F3
            clear hq7 F0 F2 F3 F5 F6
            go_wp2_with (go_at_call 12; refine (awake_any _ (T2.out.below hX)).mono ?_; rintro e w9 ⟨rfl, hb9⟩)
            go_ret
            exact ⟨rfl, bTrans (bTrans L2.out hX) hb9⟩
theorem fuel_any (w : World) (ga gb gc : Int) (ht : Tab w) :
    Calls Tryd.prog 4 #[.int .i64 ga, .int .i64 gb, .int .i64 gc] w fun e w' => e = .returned (.bool true) ∧ Below w.heap.size w w' := by
  by_cases h : ga < 0 ∨ 30 < ga ∨ gb < 1 ∨ 256 < gb
  · exact fuel_out w ga gb gc ht h
  · obtain ⟨n, rfl⟩ : ∃ n : Nat, ga = n := ⟨ga.toNat, by omega⟩
    exact fuel_in w n gb gc ht (by omega) (by omega) (by omega)
end Go.Proofs.YtpcffhhednplaaaDoor
