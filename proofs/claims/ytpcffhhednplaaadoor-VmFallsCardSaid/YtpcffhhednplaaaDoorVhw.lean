/-
  The seventh law of chapter 6. Condition: the table of the instructions is in the world.
-/
import Derived.Test.YtpcffhhednplaaaDoorVz
import Derived.Test.YtpcffhhednplaaaDoorVh
import Derived.Test.YtpcffhhednplaaaDoorVq
namespace Go.Proofs.YtpcffhhednplaaaDoor
open Go.RowKit
attribute [local go_sem ↓] Go.wp_at_zero Go.wp_at_succ
theorem falls_out (w : World) (gk gn ga : Int) (ht : Tab w) (h : gn < 0 ∨ 8 < gn) :
    Calls Tryd.prog 9 #[.int .i64 gk, .int .i64 gn, .int .i64 ga] w fun e w' => e = .returned (.bool true) ∧ Below w.heap.size w w' := by
  have HT : Hid (Tab w) := ht
  clear ht
  by_cases h0 : gn < 0
  · clear h
    go_enter Tryd.func9, Tryd.ntmps9
    go_wp2_with (go_at_call 12; refine (awake_any _ HT.out).mono ?_; rintro e w1 ⟨rfl, hb1⟩)
    go_ret
    exact ⟨rfl, hb1⟩
  have h1 : 8 < gn := by omega
  clear h
  go_enter Tryd.func9, Tryd.ntmps9
  go_wp2_with (go_at_call 12; refine (awake_any _ HT.out).mono ?_; rintro e w1 ⟨rfl, hb1⟩)
  go_ret
  exact ⟨rfl, hb1⟩
set_option maxHeartbeats 4000000 in
set_option maxRecDepth 100000 in
theorem falls_in0 (w : World) (gk : Int) (n : Nat) (ga : Int) (ht : Tab w) (hn : n ≤ 8) (hk : rnd gk 3 = 0) :
    Calls Tryd.prog 9 #[.int .i64 gk, .int .i64 n, .int .i64 ga] w fun e w' => e = .returned (.bool true) ∧ Below w.heap.size w w' := by
  have HT : Hid (Tab w) := ht
  clear ht
  obtain ⟨t, ht⟩ := ehE (a := ga) (n := n) (k := 0) hn (by decide)
  have HR0 : Hid (runP (oneP 60 (hF ga n 0)) 0 (locP 7 8) 0 [] = (⟨⟨[7, 8], false, 2, 0, 0⟩, [], t⟩ : PRes)) := ht
  clear ht
  go_enter Tryd.func9, Tryd.ntmps9
  go_wp2_with fail
  go_loopg [7, 8] n (fun g i7 i8 wr => ∃ j : Nat, g = n - j ∧ j ≤ n ∧ i8 = .int .i64 j ∧ Hid (CO w i7 (hB ga j) wr))
  case atStart => exact ⟨0, rfl, by omega, rfl, CO.lit w (hB ga 0) (by rw [hB_len]; decide)⟩
  case round =>
    obtain ⟨j, rfl, hj, rfl, hd⟩ := hrel
    obtain ⟨A, c, rfl⟩ := hd.out.formN (3 + 2 * j) (hB_len ga j)
    by_cases hg : j < n
    · go_wp2_with (at_builtin; refine appC rfl _ _ rfl [⟨8, 0⟩, ⟨22, 0⟩] wr.heap.size (3 + 2 * j + 2) 2 (hd.out.below (bAlloc (bRefl _) _)) rfl rfl rfl (by rw [hB_len]) (by decide) (heap_new2 rfl) (by rw [hB_len]; omega) ?_)
      intro g cap w2 hcw hgr
      have HN : Hid (CO w (.slice (some ⟨g, 0, none⟩) (3 + 2 * j + 2) cap) (hB ga (j + 1)) w2) := hcw
      clear hcw hgr hd
      go_wp2_with fail
      go_roundg (n - (j + 1))
      case measure => omega
      case rel => exact ⟨j + 1, rfl, by omega, by go_num, HN⟩
    · obtain rfl : j = n := by omega
      have e1 : ((3 + 2 * j : Nat) : Int) = 3 + 2 * (j : Int) := by omega
      go_wp2_with fail
      refine (round_any gk 3 wr (by decide) (by decide)).mono ?_
      rw [hk]
      rintro e w' ⟨rfl, hww⟩
      replace hww := hww.symm
      subst hww
      go_wp2_with (at_builtin; refine appC rfl _ _ rfl [⟨20, 3 + 2 * (j : Int)⟩] (wr.heap.size) (3 + 2 * j + 1) 1 (hd.out.below (by exact bAlloc (bAlloc (bAlloc (bAlloc (bAlloc (bRefl _) _) _) _) _) _)) rfl rfl rfl (by rw [hB_len]) (by decide) ((Below.block (bAlloc (bAlloc (bAlloc (bAlloc (bRefl (wr.alloc _)) _) _) _) _) _ (by simp)).trans (heap_new2 rfl)) (by rw [hB_len]; omega) ?_)
      intro g cap w2 hcw hgr
      have HN : Hid (CO w (.slice (some ⟨g, 0, none⟩) (3 + 2 * j + 1) cap) (hF ga j 0) w2) := hcw
      have HLn : Hid ((hF ga j 0).length ≤ 1000000) := by show _ ≤ _; rw [hF, List.length_append, hB_len]; have := hM_len j 0; omega
      clear hcw hgr hd
      go_wp2_with fail
      refine (mk1_any anyB _ 60 _ (hF ga j 0) (HN.out.cd HLn.out)).mono ?_
      rintro e w3 ⟨v1, c1, v2, c2, rfl, hp3, hb3⟩
      go_wp2_with fail
      refine (local_any _ 7 8).mono ?_
      rintro e w4 ⟨Al, rfl, hl4, hb4⟩
      have hlo4 : Below w.heap.size w w4 := bTrans (bTrans HN.out.low hb3) hb4
      go_wp2_with fail
      refine (run_is _ _ _ _ (oneP 60 (hF ga j 0)) 0 (locP 7 8) (⟨⟨[7, 8], false, 2, 0, 0⟩, [], t⟩ : PRes) HR0.out (HT.out.below hlo4) (hp3.below hb4) hl4).mono ?_
      rintro e w5 ⟨A3, d3, B3, g3, rfl, i1, i2, hb5⟩
      have hlo5 : Below w.heap.size w w5 := bTrans hlo4 hb5
      have HB : Hid (RB w w5.heap.size (⟨⟨[7, 8], false, 2, 0, 0⟩, [], t⟩ : PRes) A3 d3 B3 g3 (w5.alloc (.cells #[.slice A3 2 d3, .bool false, .int .i64 2, .int .i64 0, .int .i64 0, .slice B3 0 g3, .int .i64 t] 35))) := rb_c hlo5 i1 i2
      have HI : Hid (Ints anyB (w5.alloc (.cells #[.slice A3 2 d3, .bool false, .int .i64 2, .int .i64 0, .int .i64 0, .slice B3 0 g3, .int .i64 t] 35)) (.slice A3 2 d3) [7, 8]) := HB.out.regs
      obtain ⟨_, f1, _, f3, _, f5, _, _⟩ := blk7 HB.out.box
      have HF1 : Hid ((w5.alloc (.cells #[.slice A3 2 d3, .bool false, .int .i64 2, .int .i64 0, .int .i64 0, .slice B3 0 g3, .int .i64 t] 35)).cell? ⟨w5.heap.size, 1, none⟩ = some (.bool false)) := f1
      have HF3 : Hid ((w5.alloc (.cells #[.slice A3 2 d3, .bool false, .int .i64 2, .int .i64 0, .int .i64 0, .slice B3 0 g3, .int .i64 t] 35)).cell? ⟨w5.heap.size, 3, none⟩ = some (.int .i64 0)) := f3
      have HF5 : Hid ((w5.alloc (.cells #[.slice A3 2 d3, .bool false, .int .i64 2, .int .i64 0, .int .i64 0, .slice B3 0 g3, .int .i64 t] 35)).cell? ⟨w5.heap.size, 5, none⟩ = some (.slice B3 0 g3)) := f5
      clear f1 f3 f5 i1 i2 hb5 hl4 hb4 hp3 hb3 hlo4 hlo5
      go_wp2_with fail
      refine (alikeI anyB anyB _ _ _ [7, 8] [7, 8] (by exact HI.out.below (bAlloc (bRefl _) _)) (by exact sl2 trivial (by simp) (by simp [rInt]) (by simp [rInt]))).mono ?_
      rw [eqB_self]
      rintro e w7 ⟨rfl, hq7⟩
      have hX : Below (w5.alloc (.cells #[.slice A3 2 d3, .bool false, .int .i64 2, .int .i64 0, .int .i64 0, .slice B3 0 g3, .int .i64 t] 35)).heap.size (w5.alloc (.cells #[.slice A3 2 d3, .bool false, .int .i64 2, .int .i64 0, .int .i64 0, .slice B3 0 g3, .int .i64 t] 35)) w7 := bTrans (bAlloc (bRefl _) _) (quiet_below hq7)
      have Y1 := (hX.cell (p := ⟨w5.heap.size, 1, none⟩) (by simp)).trans HF1.out
      have Y3 := (hX.cell (p := ⟨w5.heap.size, 3, none⟩) (by simp)).trans HF3.out
      have Y5 := (hX.cell (p := ⟨w5.heap.size, 5, none⟩) (by simp)).trans HF5.out
      have HX : Hid (Below w.heap.size w w7) := bTrans HB.out.low hX
      clear hq7 hX HF1 HF3 HF5 HB HI
      go_wp2_with (go_at_call 12; refine (awake_any _ (HT.out.below HX.out)).mono ?_; rintro e w9 ⟨rfl, hb9⟩)
      go_ret
      exact ⟨rfl, bTrans HX.out hb9⟩
set_option maxHeartbeats 4000000 in
set_option maxRecDepth 100000 in
theorem falls_in1 (w : World) (gk : Int) (n : Nat) (ga : Int) (ht : Tab w) (hn : n ≤ 8) (hk : rnd gk 3 = 1) :
    Calls Tryd.prog 9 #[.int .i64 gk, .int .i64 n, .int .i64 ga] w fun e w' => e = .returned (.bool true) ∧ Below w.heap.size w w' := by
  have HT : Hid (Tab w) := ht
  clear ht
  obtain ⟨t, ht⟩ := ehE (a := ga) (n := n) (k := 1) hn (by decide)
  have HR0 : Hid (runP (oneP 60 (hF ga n 1)) 0 (locP 7 8) 0 [] = (⟨⟨[7, 8], false, 3, 0, 0⟩, [], t⟩ : PRes)) := ht
  clear ht
  go_enter Tryd.func9, Tryd.ntmps9
  go_wp2_with fail
  go_loopg [7, 8] n (fun g i7 i8 wr => ∃ j : Nat, g = n - j ∧ j ≤ n ∧ i8 = .int .i64 j ∧ Hid (CO w i7 (hB ga j) wr))
  case atStart => exact ⟨0, rfl, by omega, rfl, CO.lit w (hB ga 0) (by rw [hB_len]; decide)⟩
  case round =>
    obtain ⟨j, rfl, hj, rfl, hd⟩ := hrel
    obtain ⟨A, c, rfl⟩ := hd.out.formN (3 + 2 * j) (hB_len ga j)
    by_cases hg : j < n
    · go_wp2_with (at_builtin; refine appC rfl _ _ rfl [⟨8, 0⟩, ⟨22, 0⟩] wr.heap.size (3 + 2 * j + 2) 2 (hd.out.below (bAlloc (bRefl _) _)) rfl rfl rfl (by rw [hB_len]) (by decide) (heap_new2 rfl) (by rw [hB_len]; omega) ?_)
      intro g cap w2 hcw hgr
      have HN : Hid (CO w (.slice (some ⟨g, 0, none⟩) (3 + 2 * j + 2) cap) (hB ga (j + 1)) w2) := hcw
      clear hcw hgr hd
      go_wp2_with fail
      go_roundg (n - (j + 1))
      case measure => omega
      case rel => exact ⟨j + 1, rfl, by omega, by go_num, HN⟩
    · obtain rfl : j = n := by omega
      have e1 : ((3 + 2 * j : Nat) : Int) = 3 + 2 * (j : Int) := by omega
      go_wp2_with fail
      refine (round_any gk 3 wr (by decide) (by decide)).mono ?_
      rw [hk]
      rintro e w' ⟨rfl, hww⟩
      replace hww := hww.symm
      subst hww
      go_wp2_with (at_builtin; refine appC rfl _ _ rfl [⟨1, 5⟩, ⟨1, 0⟩, ⟨13, 0⟩, ⟨2, 0⟩] (wr.heap.size + 1) (3 + 2 * j + 4) 4 (hd.out.below (by exact bAlloc (bAlloc (bAlloc (bAlloc (bAlloc (bRefl _) _) _) _) _) _)) rfl rfl rfl (by rw [hB_len]) (by decide) ((Below.block (bAlloc (bAlloc (bAlloc (bRefl ((wr.alloc _).alloc _)) _) _) _) _ (by simp)).trans (heap_new2 (by simp))) (by rw [hB_len]; omega) ?_)
      intro g cap w2 hcw hgr
      have HN : Hid (CO w (.slice (some ⟨g, 0, none⟩) (3 + 2 * j + 4) cap) (hF ga j 1) w2) := hcw
      have HLn : Hid ((hF ga j 1).length ≤ 1000000) := by show _ ≤ _; rw [hF, List.length_append, hB_len]; have := hM_len j 1; omega
      clear hcw hgr hd
      go_wp2_with fail
      refine (mk1_any anyB _ 60 _ (hF ga j 1) (HN.out.cd HLn.out)).mono ?_
      rintro e w3 ⟨v1, c1, v2, c2, rfl, hp3, hb3⟩
      go_wp2_with fail
      refine (local_any _ 7 8).mono ?_
      rintro e w4 ⟨Al, rfl, hl4, hb4⟩
      have hlo4 : Below w.heap.size w w4 := bTrans (bTrans HN.out.low hb3) hb4
      go_wp2_with fail
      refine (run_is _ _ _ _ (oneP 60 (hF ga j 1)) 0 (locP 7 8) (⟨⟨[7, 8], false, 3, 0, 0⟩, [], t⟩ : PRes) HR0.out (HT.out.below hlo4) (hp3.below hb4) hl4).mono ?_
      rintro e w5 ⟨A3, d3, B3, g3, rfl, i1, i2, hb5⟩
      have hlo5 : Below w.heap.size w w5 := bTrans hlo4 hb5
      have HB : Hid (RB w w5.heap.size (⟨⟨[7, 8], false, 3, 0, 0⟩, [], t⟩ : PRes) A3 d3 B3 g3 (w5.alloc (.cells #[.slice A3 2 d3, .bool false, .int .i64 3, .int .i64 0, .int .i64 0, .slice B3 0 g3, .int .i64 t] 35))) := rb_c hlo5 i1 i2
      have HI : Hid (Ints anyB (w5.alloc (.cells #[.slice A3 2 d3, .bool false, .int .i64 3, .int .i64 0, .int .i64 0, .slice B3 0 g3, .int .i64 t] 35)) (.slice A3 2 d3) [7, 8]) := HB.out.regs
      obtain ⟨_, f1, _, f3, _, f5, _, _⟩ := blk7 HB.out.box
      have HF1 : Hid ((w5.alloc (.cells #[.slice A3 2 d3, .bool false, .int .i64 3, .int .i64 0, .int .i64 0, .slice B3 0 g3, .int .i64 t] 35)).cell? ⟨w5.heap.size, 1, none⟩ = some (.bool false)) := f1
      have HF3 : Hid ((w5.alloc (.cells #[.slice A3 2 d3, .bool false, .int .i64 3, .int .i64 0, .int .i64 0, .slice B3 0 g3, .int .i64 t] 35)).cell? ⟨w5.heap.size, 3, none⟩ = some (.int .i64 0)) := f3
      have HF5 : Hid ((w5.alloc (.cells #[.slice A3 2 d3, .bool false, .int .i64 3, .int .i64 0, .int .i64 0, .slice B3 0 g3, .int .i64 t] 35)).cell? ⟨w5.heap.size, 5, none⟩ = some (.slice B3 0 g3)) := f5
      clear f1 f3 f5 i1 i2 hb5 hl4 hb4 hp3 hb3 hlo4 hlo5
      go_wp2_with fail
      refine (alikeI anyB anyB _ _ _ [7, 8] [7, 8] (by exact HI.out.below (bAlloc (bRefl _) _)) (by exact sl2 trivial (by simp) (by simp [rInt]) (by simp [rInt]))).mono ?_
      rw [eqB_self]
      rintro e w7 ⟨rfl, hq7⟩
      have hX : Below (w5.alloc (.cells #[.slice A3 2 d3, .bool false, .int .i64 3, .int .i64 0, .int .i64 0, .slice B3 0 g3, .int .i64 t] 35)).heap.size (w5.alloc (.cells #[.slice A3 2 d3, .bool false, .int .i64 3, .int .i64 0, .int .i64 0, .slice B3 0 g3, .int .i64 t] 35)) w7 := bTrans (bAlloc (bRefl _) _) (quiet_below hq7)
      have Y1 := (hX.cell (p := ⟨w5.heap.size, 1, none⟩) (by simp)).trans HF1.out
      have Y3 := (hX.cell (p := ⟨w5.heap.size, 3, none⟩) (by simp)).trans HF3.out
      have Y5 := (hX.cell (p := ⟨w5.heap.size, 5, none⟩) (by simp)).trans HF5.out
      have HX : Hid (Below w.heap.size w w7) := bTrans HB.out.low hX
      clear hq7 hX HF1 HF3 HF5 HB HI
      go_wp2_with (go_at_call 12; refine (awake_any _ (HT.out.below HX.out)).mono ?_; rintro e w9 ⟨rfl, hb9⟩)
      go_ret
      exact ⟨rfl, bTrans HX.out hb9⟩
set_option maxHeartbeats 4000000 in
set_option maxRecDepth 100000 in
theorem falls_in2 (w : World) (gk : Int) (n : Nat) (ga : Int) (ht : Tab w) (hn : n ≤ 8) (hk : rnd gk 3 = 2) :
    Calls Tryd.prog 9 #[.int .i64 gk, .int .i64 n, .int .i64 ga] w fun e w' => e = .returned (.bool true) ∧ Below w.heap.size w w' := by
  have HT : Hid (Tab w) := ht
  clear ht
  obtain ⟨t, ht⟩ := ehE (a := ga) (n := n) (k := 2) hn (by decide)
  have HR0 : Hid (runP (oneP 60 (hF ga n 2)) 0 (locP 7 8) 0 [] = (⟨⟨[7, 8], false, 4, 0, 0⟩, [], t⟩ : PRes)) := ht
  clear ht
  go_enter Tryd.func9, Tryd.ntmps9
  go_wp2_with fail
  go_loopg [7, 8] n (fun g i7 i8 wr => ∃ j : Nat, g = n - j ∧ j ≤ n ∧ i8 = .int .i64 j ∧ Hid (CO w i7 (hB ga j) wr))
  case atStart => exact ⟨0, rfl, by omega, rfl, CO.lit w (hB ga 0) (by rw [hB_len]; decide)⟩
  case round =>
    obtain ⟨j, rfl, hj, rfl, hd⟩ := hrel
    obtain ⟨A, c, rfl⟩ := hd.out.formN (3 + 2 * j) (hB_len ga j)
    by_cases hg : j < n
    · go_wp2_with (at_builtin; refine appC rfl _ _ rfl [⟨8, 0⟩, ⟨22, 0⟩] wr.heap.size (3 + 2 * j + 2) 2 (hd.out.below (bAlloc (bRefl _) _)) rfl rfl rfl (by rw [hB_len]) (by decide) (heap_new2 rfl) (by rw [hB_len]; omega) ?_)
      intro g cap w2 hcw hgr
      have HN : Hid (CO w (.slice (some ⟨g, 0, none⟩) (3 + 2 * j + 2) cap) (hB ga (j + 1)) w2) := hcw
      clear hcw hgr hd
      go_wp2_with fail
      go_roundg (n - (j + 1))
      case measure => omega
      case rel => exact ⟨j + 1, rfl, by omega, by go_num, HN⟩
    · obtain rfl : j = n := by omega
      have e1 : ((3 + 2 * j : Nat) : Int) = 3 + 2 * (j : Int) := by omega
      go_wp2_with fail
      refine (round_any gk 3 wr (by decide) (by decide)).mono ?_
      rw [hk]
      rintro e w' ⟨rfl, hww⟩
      replace hww := hww.symm
      subst hww
      go_wp2_with (at_builtin; refine appC rfl _ _ rfl [⟨1, -1⟩, ⟨22, 0⟩] (wr.heap.size + 1 + 1) (3 + 2 * j + 2) 2 (hd.out.below (by exact bAlloc (bAlloc (bAlloc (bAlloc (bAlloc (bRefl _) _) _) _) _) _)) rfl rfl rfl (by rw [hB_len]) (by decide) ((Below.block (bAlloc (bAlloc (bRefl (((wr.alloc _).alloc _).alloc _)) _) _) _ (by simp)).trans (heap_new2 (by simp))) (by rw [hB_len]; omega) ?_)
      intro g cap w2 hcw hgr
      have HN : Hid (CO w (.slice (some ⟨g, 0, none⟩) (3 + 2 * j + 2) cap) (hF ga j 2) w2) := hcw
      have HLn : Hid ((hF ga j 2).length ≤ 1000000) := by show _ ≤ _; rw [hF, List.length_append, hB_len]; have := hM_len j 2; omega
      clear hcw hgr hd
      go_wp2_with fail
      refine (mk1_any anyB _ 60 _ (hF ga j 2) (HN.out.cd HLn.out)).mono ?_
      rintro e w3 ⟨v1, c1, v2, c2, rfl, hp3, hb3⟩
      go_wp2_with fail
      refine (local_any _ 7 8).mono ?_
      rintro e w4 ⟨Al, rfl, hl4, hb4⟩
      have hlo4 : Below w.heap.size w w4 := bTrans (bTrans HN.out.low hb3) hb4
      go_wp2_with fail
      refine (run_is _ _ _ _ (oneP 60 (hF ga j 2)) 0 (locP 7 8) (⟨⟨[7, 8], false, 4, 0, 0⟩, [], t⟩ : PRes) HR0.out (HT.out.below hlo4) (hp3.below hb4) hl4).mono ?_
      rintro e w5 ⟨A3, d3, B3, g3, rfl, i1, i2, hb5⟩
      have hlo5 : Below w.heap.size w w5 := bTrans hlo4 hb5
      have HB : Hid (RB w w5.heap.size (⟨⟨[7, 8], false, 4, 0, 0⟩, [], t⟩ : PRes) A3 d3 B3 g3 (w5.alloc (.cells #[.slice A3 2 d3, .bool false, .int .i64 4, .int .i64 0, .int .i64 0, .slice B3 0 g3, .int .i64 t] 35))) := rb_c hlo5 i1 i2
      have HI : Hid (Ints anyB (w5.alloc (.cells #[.slice A3 2 d3, .bool false, .int .i64 4, .int .i64 0, .int .i64 0, .slice B3 0 g3, .int .i64 t] 35)) (.slice A3 2 d3) [7, 8]) := HB.out.regs
      obtain ⟨_, f1, _, f3, _, f5, _, _⟩ := blk7 HB.out.box
      have HF1 : Hid ((w5.alloc (.cells #[.slice A3 2 d3, .bool false, .int .i64 4, .int .i64 0, .int .i64 0, .slice B3 0 g3, .int .i64 t] 35)).cell? ⟨w5.heap.size, 1, none⟩ = some (.bool false)) := f1
      have HF3 : Hid ((w5.alloc (.cells #[.slice A3 2 d3, .bool false, .int .i64 4, .int .i64 0, .int .i64 0, .slice B3 0 g3, .int .i64 t] 35)).cell? ⟨w5.heap.size, 3, none⟩ = some (.int .i64 0)) := f3
      have HF5 : Hid ((w5.alloc (.cells #[.slice A3 2 d3, .bool false, .int .i64 4, .int .i64 0, .int .i64 0, .slice B3 0 g3, .int .i64 t] 35)).cell? ⟨w5.heap.size, 5, none⟩ = some (.slice B3 0 g3)) := f5
      clear f1 f3 f5 i1 i2 hb5 hl4 hb4 hp3 hb3 hlo4 hlo5
      go_wp2_with fail
      refine (alikeI anyB anyB _ _ _ [7, 8] [7, 8] (by exact HI.out.below (bAlloc (bRefl _) _)) (by exact sl2 trivial (by simp) (by simp [rInt]) (by simp [rInt]))).mono ?_
      rw [eqB_self]
      rintro e w7 ⟨rfl, hq7⟩
      have hX : Below (w5.alloc (.cells #[.slice A3 2 d3, .bool false, .int .i64 4, .int .i64 0, .int .i64 0, .slice B3 0 g3, .int .i64 t] 35)).heap.size (w5.alloc (.cells #[.slice A3 2 d3, .bool false, .int .i64 4, .int .i64 0, .int .i64 0, .slice B3 0 g3, .int .i64 t] 35)) w7 := bTrans (bAlloc (bRefl _) _) (quiet_below hq7)
      have Y1 := (hX.cell (p := ⟨w5.heap.size, 1, none⟩) (by simp)).trans HF1.out
      have Y3 := (hX.cell (p := ⟨w5.heap.size, 3, none⟩) (by simp)).trans HF3.out
      have Y5 := (hX.cell (p := ⟨w5.heap.size, 5, none⟩) (by simp)).trans HF5.out
      have HX : Hid (Below w.heap.size w w7) := bTrans HB.out.low hX
      clear hq7 hX HF1 HF3 HF5 HB HI
      go_wp2_with (go_at_call 12; refine (awake_any _ (HT.out.below HX.out)).mono ?_; rintro e w9 ⟨rfl, hb9⟩)
      go_ret
      exact ⟨rfl, bTrans HX.out hb9⟩
theorem falls_any (w : World) (gk gn ga : Int) (ht : Tab w) :
    Calls Tryd.prog 9 #[.int .i64 gk, .int .i64 gn, .int .i64 ga] w fun e w' => e = .returned (.bool true) ∧ Below w.heap.size w w' := by
  by_cases h : gn < 0 ∨ 8 < gn
  · exact falls_out w gk gn ga ht h
  · obtain ⟨n, rfl⟩ : ∃ n : Nat, gn = n := ⟨gn.toNat, by omega⟩
    obtain ⟨h1, h2⟩ := rnd_bd gk (n := 3) (by decide)
    rcases (by omega : rnd gk 3 = 0 ∨ rnd gk 3 = 1 ∨ rnd gk 3 = 2) with e | e | e
    · exact falls_in0 w gk n ga ht (by omega) e
    · exact falls_in1 w gk n ga ht (by omega) e
    · exact falls_in2 w gk n ga ht (by omega) e
end Go.Proofs.YtpcffhhednplaaaDoor
