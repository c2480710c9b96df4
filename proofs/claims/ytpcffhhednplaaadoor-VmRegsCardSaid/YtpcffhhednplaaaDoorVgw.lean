/-
  The eighth law of chapter 6. Condition: the table of the instructions is in the world.
-/
import Derived.Test.YtpcffhhednplaaaDoorVz
import Derived.Test.YtpcffhhednplaaaDoorVg
namespace Go.Proofs.YtpcffhhednplaaaDoor
open Go.RowKit
attribute [local go_sem ↓] Go.wp_at_zero Go.wp_at_succ
theorem gp_v (wr : World) (at_ v : Int) : PrgV ((((wr.alloc (.cells (cv (gC at_ v)).toArray 41)).alloc (.cells #[.int .i64 0, .slice (some ⟨wr.heap.size, 0, none⟩) 4 4] 50)).alloc (.cells #[.slice none 0 0, .int .i64 0, .int .i64 (-1), .bool false] 52)).alloc (.cells #[.slice (some ⟨wr.heap.size + 1, 0, none⟩) 1 1, .slice (some ⟨wr.heap.size + 1 + 1, 0, none⟩) 1 1, .slice none 0 0, .int .i64 9] 26)) (.agg #[.slice (some ⟨wr.heap.size + 1, 0, none⟩) 1 1, .slice (some ⟨wr.heap.size + 1 + 1, 0, none⟩) 1 1, .slice none 0 0, .int .i64 9]) (gP at_ v) := by
  have hc : Code anyB ((((wr.alloc (.cells (cv (gC at_ v)).toArray 41)).alloc (.cells #[.int .i64 0, .slice (some ⟨wr.heap.size, 0, none⟩) 4 4] 50)).alloc (.cells #[.slice none 0 0, .int .i64 0, .int .i64 (-1), .bool false] 52)).alloc (.cells #[.slice (some ⟨wr.heap.size + 1, 0, none⟩) 1 1, .slice (some ⟨wr.heap.size + 1 + 1, 0, none⟩) 1 1, .slice none 0 0, .int .i64 9] 26)) (.slice (some ⟨wr.heap.size, 0, none⟩) 4 4) (gC at_ v) := Code.below (code_lit wr (gC at_ v) (by show 4 ≤ 1000; decide)) (bAlloc (bAlloc (bAlloc (bRefl _) _) _) _)
  refine ⟨_, _, _, rfl, ?_, ?_, sl0⟩
  · exact sl1 trivial (by simp) ⟨(by simp [go_sem]; try rfl), .slice (some ⟨wr.heap.size, 0, none⟩) 4 4, (by simp [go_sem]; try rfl), hc⟩
  · exact sl1 trivial (by simp) ⟨⟨.slice none 0 0, (by simp [go_sem]; try rfl), sl0⟩, (by simp [go_sem]; try rfl), (by simp [go_sem]; try rfl), (by simp [go_sem]; try rfl)⟩
/-- A number of the first list, and what comes of a store there. -/
theorem NW.at {w wr : World} {vb : Value} {la lb : List Int} {A : Option Addr} {n c k : Nat} {x : Int} (h : NW w (.slice A n c) la vb lb wr) (hx : la[k]? = some x) (hl : la.length ≤ 1000) :
    ∃ g, A = some ⟨g, 0, none⟩ ∧ w.heap.size ≤ g ∧ g < wr.heap.size ∧ wr.cell? ⟨g, k, none⟩ = some (.int .i64 x) ∧ wr.frozen? ⟨g, k, none⟩ = false ∧ ∀ y, Ints anyB (wr.setCell ⟨g, k, none⟩ (.int .i64 y)) (.slice A n c) (la.set k y) := by
  have hk := (List.getElem?_eq_some_iff.1 hx).1
  obtain ⟨h1, h2⟩ := h.oa
  rcases h2 with ⟨e, h2⟩ | ⟨g, cap, cur, e, hb, hh, h3, h4, h5, h6⟩
  · omega
  · cases e
    have hcur : ∀ j, j < la.length → cur[j]? = (iv la)[j]? := fun j hj => by rw [← h6, List.getElem?_take, if_pos (by omega)]; simp
    refine ⟨g, rfl, hb, (Array.getElem?_eq_some_iff.1 hh).1, ?_, by simp [World.frozen?, hh], fun y => ?_⟩
    · rw [cell_of_row _ _ _ _ _ _ hh, hcur k hk, iv, List.getElem?_map, hx]; rfl
    · refine ⟨_, c, by rw [List.length_set], by rw [List.length_set]; omega, Or.inr ⟨g, 0, rfl, trivial, by simp; exact (Array.getElem?_eq_some_iff.1 hh).1, fun j z hz => ?_⟩⟩
      show (wr.setCell ⟨g, k, none⟩ (.int .i64 y)).cell? ⟨g, 0 + j * 1, none⟩ = some (.int .i64 z)
      rw [Nat.zero_add, Nat.mul_one, cell_of_row _ _ _ _ _ _ (setCell_heap hh)]
      have hj := (List.getElem?_eq_some_iff.1 hz).1
      rw [List.length_set] at hj
      have hkc : k < cur.size := by
        have := hcur k hk
        rw [iv, List.getElem?_map, hx] at this
        exact (Array.getElem?_eq_some_iff.1 this).1
      by_cases ej : k = j
      · subst ej
        rw [List.getElem?_set_self hk] at hz
        cases hz
        rw [Array.getElem?_setIfInBounds_self_of_lt hkc]
      · rw [List.getElem?_set_ne ej] at hz
        rw [Array.getElem?_setIfInBounds_ne ej, hcur j hj, iv, List.getElem?_map, hz]; rfl
theorem regs_out (w : World) (ga gb gc : Int) (ht : Tab w) (h : ga < 0 ∨ 8 < ga ∨ gb < 0 ∨ 7 < gb) :
    Calls Tryd.prog 10 #[.int .i64 ga, .int .i64 gb, .int .i64 gc] w fun e w' => e = .returned (.bool true) ∧ Below w.heap.size w w' := by
  have HT : Hid (Tab w) := ht
  clear ht
  by_cases h0 : ga < 0
  · clear h
    go_enter Tryd.func10, Tryd.ntmps10
    go_wp2_with (go_at_call 12; refine (awake_any _ HT.out).mono ?_; rintro e w1 ⟨rfl, hb1⟩)
    go_ret
    exact ⟨rfl, hb1⟩
  by_cases h1 : 8 < ga
  · clear h
    go_enter Tryd.func10, Tryd.ntmps10
    go_wp2_with (go_at_call 12; refine (awake_any _ HT.out).mono ?_; rintro e w1 ⟨rfl, hb1⟩)
    go_ret
    exact ⟨rfl, hb1⟩
  by_cases h2 : gb < 0
  · clear h
    go_enter Tryd.func10, Tryd.ntmps10
    go_wp2_with (go_at_call 12; refine (awake_any _ HT.out).mono ?_; rintro e w1 ⟨rfl, hb1⟩)
    go_ret
    exact ⟨rfl, hb1⟩
  have h3 : 7 < gb := by omega
  clear h
  go_enter Tryd.func10, Tryd.ntmps10
  go_wp2_with (go_at_call 12; refine (awake_any _ HT.out).mono ?_; rintro e w1 ⟨rfl, hb1⟩)
  go_ret
  exact ⟨rfl, hb1⟩
set_option maxHeartbeats 4000000 in
set_option maxRecDepth 100000 in
theorem regs_in (w : World) (n k : Nat) (v : Int) (ht : Tab w) (hn : n ≤ 8) (hk : k < 8) :
    Calls Tryd.prog 10 #[.int .i64 n, .int .i64 k, .int .i64 v] w fun e w' => e = .returned (.bool true) ∧ Below w.heap.size w w' := by
  have HT : Hid (Tab w) := ht
  clear ht
  obtain ⟨L, hL⟩ : ∃ L, gW (gR n) k v = L := ⟨_, rfl⟩
  have hR := egE (l := gR n) (v := v) hk (by rw [gR_len]; exact hn)
  rw [hL] at hR
  have HL : Hid (gW (gR n) k v = L) := hL
  have HR0 : Hid (runP (gP k v) 0 (locR (gR n)) 0 [] = (⟨⟨L, false, 0, 0, 0⟩, [], 4⟩ : PRes)) := hR
  clear hL hR
  go_enter Tryd.func10, Tryd.ntmps10
  go_wp2_with fail
  go_loopg [7, 8, 9] n (fun g i7 i8 i9 wr => ∃ j : Nat, g = n - j ∧ j ≤ n ∧ i9 = .int .i64 j ∧ Hid (NW w i7 (gR j) i8 (gR j) wr))
  case atStart => exact ⟨0, rfl, by omega, rfl, NW.nil w⟩
  case round =>
    obtain ⟨j, rfl, hj, rfl, hd⟩ := hrel
    obtain ⟨A, c, rfl⟩ := hd.out.formN j (gR_len j)
    obtain ⟨A', c', rfl⟩ := hd.out.swap.formN j (gR_len j)
    by_cases hg : j < n
    · go_wp2_with (at_builtin; refine appN rfl _ _ rfl [10 + (j : Int)] wr.heap.size (j + 1) 1 (hd.out.below (bAlloc (bRefl _) _)) rfl rfl rfl (by rw [gR_len]) (by decide) (heap_new2 rfl) (by rw [gR_len]; omega) ?_)
      intro g cap w2 hcw hgr
      have HN : Hid (NW w (.slice (some ⟨g, 0, none⟩) (j + 1) cap) (gR (j + 1)) (.slice A' j c') (gR j) w2) := hcw
      clear hcw hgr hd
      go_wp2_with (at_builtin; refine appN rfl _ _ rfl [10 + (j : Int)] w2.heap.size (j + 1) 1 (HN.out.swap.below (bAlloc (bRefl _) _)) rfl rfl rfl (by rw [gR_len]) (by decide) (heap_new2 rfl) (by rw [gR_len]; omega) ?_)
      intro g2 cap2 w3 hcw hgr
      have HN2 : Hid (NW w (.slice (some ⟨g, 0, none⟩) (j + 1) cap) (gR (j + 1)) (.slice (some ⟨g2, 0, none⟩) (j + 1) cap2) (gR (j + 1)) w3) := hcw.swap
      clear hcw hgr HN
      go_wp2_with fail
      go_roundg (n - (j + 1))
      case measure => omega
      case rel => exact ⟨j + 1, rfl, by omega, by go_num, HN2⟩
    · obtain rfl : j = n := by omega
      have hbo : Below wr.heap.size wr ((((wr.alloc (.cells (cv (gC k v)).toArray 41)).alloc (.cells #[.int .i64 0, .slice (some ⟨wr.heap.size, 0, none⟩) 4 4] 50)).alloc (.cells #[.slice none 0 0, .int .i64 0, .int .i64 (-1), .bool false] 52)).alloc (.cells #[.slice (some ⟨wr.heap.size + 1, 0, none⟩) 1 1, .slice (some ⟨wr.heap.size + 1 + 1, 0, none⟩) 1 1, .slice none 0 0, .int .i64 9] 26)) := bAlloc (bAlloc (bAlloc (bAlloc (bRefl _) _) _) _) _
      have HPV : Hid (PrgV ((((wr.alloc (.cells (cv (gC k v)).toArray 41)).alloc (.cells #[.int .i64 0, .slice (some ⟨wr.heap.size, 0, none⟩) 4 4] 50)).alloc (.cells #[.slice none 0 0, .int .i64 0, .int .i64 (-1), .bool false] 52)).alloc (.cells #[.slice (some ⟨wr.heap.size + 1, 0, none⟩) 1 1, .slice (some ⟨wr.heap.size + 1 + 1, 0, none⟩) 1 1, .slice none 0 0, .int .i64 9] 26)) (.agg #[.slice (some ⟨wr.heap.size + 1, 0, none⟩) 1 1, .slice (some ⟨wr.heap.size + 1 + 1, 0, none⟩) 1 1, .slice none 0 0, .int .i64 9]) (gP k v)) := gp_v wr k v
      have HIR : Hid (Ints anyB ((((wr.alloc (.cells (cv (gC k v)).toArray 41)).alloc (.cells #[.int .i64 0, .slice (some ⟨wr.heap.size, 0, none⟩) 4 4] 50)).alloc (.cells #[.slice none 0 0, .int .i64 0, .int .i64 (-1), .bool false] 52)).alloc (.cells #[.slice (some ⟨wr.heap.size + 1, 0, none⟩) 1 1, .slice (some ⟨wr.heap.size + 1 + 1, 0, none⟩) 1 1, .slice none 0 0, .int .i64 9] 26)) (.slice A j c) (gR j)) := Ints.below (hd.out.ints (by rw [gR_len]; omega)) hbo
      have HBO : Hid (Below wr.heap.size wr ((((wr.alloc (.cells (cv (gC k v)).toArray 41)).alloc (.cells #[.int .i64 0, .slice (some ⟨wr.heap.size, 0, none⟩) 4 4] 50)).alloc (.cells #[.slice none 0 0, .int .i64 0, .int .i64 (-1), .bool false] 52)).alloc (.cells #[.slice (some ⟨wr.heap.size + 1, 0, none⟩) 1 1, .slice (some ⟨wr.heap.size + 1 + 1, 0, none⟩) 1 1, .slice none 0 0, .int .i64 9] 26))) := hbo
      clear hbo
      go_wp2_with fail
      refine (run_is _ ((((wr.alloc (.cells (cv (gC k v)).toArray 41)).alloc (.cells #[.int .i64 0, .slice (some ⟨wr.heap.size, 0, none⟩) 4 4] 50)).alloc (.cells #[.slice none 0 0, .int .i64 0, .int .i64 (-1), .bool false] 52)).alloc (.cells #[.slice (some ⟨wr.heap.size + 1, 0, none⟩) 1 1, .slice (some ⟨wr.heap.size + 1 + 1, 0, none⟩) 1 1, .slice none 0 0, .int .i64 9] 26)) _ _ (gP k v) 0 (locR (gR j)) (⟨⟨L, false, 0, 0, 0⟩, [], 4⟩ : PRes) HR0.out (HT.out.below (bTrans hd.out.low HBO.out)) HPV.out ⟨_, rfl, HIR.out⟩).mono ?_
      rintro e w5 ⟨A3, d3, B3, g3, rfl, i1, i2, hb5⟩
      have hbw : Below wr.heap.size wr w5 := bTrans HBO.out hb5
      have hlo5 : Below w.heap.size w w5 := bTrans hd.out.low hbw
      have HN5 : Hid (NW w (.slice A j c) (gR j) (.slice A' j c') (gR j) (w5.alloc (.cells #[.slice A3 L.length d3, .bool false, .int .i64 0, .int .i64 0, .int .i64 0, .slice B3 0 g3, .int .i64 4] 35))) := hd.out.below (bAlloc hbw _)
      have HB : Hid (RB w w5.heap.size (⟨⟨L, false, 0, 0, 0⟩, [], 4⟩ : PRes) A3 d3 B3 g3 (w5.alloc (.cells #[.slice A3 L.length d3, .bool false, .int .i64 0, .int .i64 0, .int .i64 0, .slice B3 0 g3, .int .i64 4] 35))) := rb_c hlo5 i1 i2
      have HI : Hid (Ints (fun b => ((((wr.alloc (.cells (cv (gC k v)).toArray 41)).alloc (.cells #[.int .i64 0, .slice (some ⟨wr.heap.size, 0, none⟩) 4 4] 50)).alloc (.cells #[.slice none 0 0, .int .i64 0, .int .i64 (-1), .bool false] 52)).alloc (.cells #[.slice (some ⟨wr.heap.size + 1, 0, none⟩) 1 1, .slice (some ⟨wr.heap.size + 1 + 1, 0, none⟩) 1 1, .slice none 0 0, .int .i64 9] 26)).heap.size ≤ b) w5 (.slice A3 L.length d3) L) := i1
      have hz5 : wr.heap.size < w5.heap.size := by have := hb5.size; simp at this; omega
      have HW5 : Hid (Below wr.heap.size wr w5) := hbw
      clear i1 i2 hlo5 HPV HIR hbw
      by_cases hlt : k < j
      · obtain ⟨ga, hA, hga1, hga2, hgc, hgf, hgs⟩ := HN5.out.swap.at (gR_at hlt) (by rw [gR_len]; omega)
        subst hA
        obtain ⟨X, hX⟩ : ∃ X, wrap64 (10 + (k : Int) + v) = X := ⟨_, rfl⟩
        have HLX : Hid (L = (gR j).set k X) := by show _ = _; rw [← hX, ← HL.out, gW_in hlt]
        have hsw := hd.out.swap.formN j (gR_len j)
        have hgw : ga < wr.heap.size := by
          obtain ⟨g', e, _, h2, _⟩ := hd.out.swap.at (gR_at hlt) (by rw [gR_len]; omega)
          cases e; exact h2
        have hne : ¬ ga = w5.heap.size := by omega
        have hne' : ¬ w5.heap.size = ga := by omega
        have HSet : Hid (Ints anyB ((w5.alloc (.cells #[.slice A3 L.length d3, .bool false, .int .i64 0, .int .i64 0, .int .i64 0, .slice B3 0 g3, .int .i64 4] 35)).setCell ⟨ga, k, none⟩ (.int .i64 X)) (.slice (some ⟨ga, 0, none⟩) j c') ((gR j).set k X)) := hgs X
        have hSm : Same (fun b => ((((wr.alloc (.cells (cv (gC k v)).toArray 41)).alloc (.cells #[.int .i64 0, .slice (some ⟨wr.heap.size, 0, none⟩) 4 4] 50)).alloc (.cells #[.slice none 0 0, .int .i64 0, .int .i64 (-1), .bool false] 52)).alloc (.cells #[.slice (some ⟨wr.heap.size + 1, 0, none⟩) 1 1, .slice (some ⟨wr.heap.size + 1 + 1, 0, none⟩) 1 1, .slice none 0 0, .int .i64 9] 26)).heap.size ≤ b) w5 ((w5.alloc (.cells #[.slice A3 L.length d3, .bool false, .int .i64 0, .int .i64 0, .int .i64 0, .slice B3 0 g3, .int .i64 4] 35)).setCell ⟨ga, k, none⟩ (.int .i64 X)) := ⟨by simp, fun b hb hlt => (Below.heap_setCell _ _ _ _ (fun e => by have e' : b = ga := e; have hb' : ((((wr.alloc (.cells (cv (gC k v)).toArray 41)).alloc (.cells #[.int .i64 0, .slice (some ⟨wr.heap.size, 0, none⟩) 4 4] 50)).alloc (.cells #[.slice none 0 0, .int .i64 0, .int .i64 (-1), .bool false] 52)).alloc (.cells #[.slice (some ⟨wr.heap.size + 1, 0, none⟩) 1 1, .slice (some ⟨wr.heap.size + 1 + 1, 0, none⟩) 1 1, .slice none 0 0, .int .i64 9] 26)).heap.size ≤ b := hb; simp at hb'; omega)).trans ((bAlloc (bRefl w5) _).block b hlt)⟩
        have HIL : Hid (Ints anyB ((w5.alloc (.cells #[.slice A3 L.length d3, .bool false, .int .i64 0, .int .i64 0, .int .i64 0, .slice B3 0 g3, .int .i64 4] 35)).setCell ⟨ga, k, none⟩ (.int .i64 X)) (.slice A3 L.length d3) L) := (HI.out.same hSm).any
        have hbx : ((w5.alloc (.cells #[.slice A3 L.length d3, .bool false, .int .i64 0, .int .i64 0, .int .i64 0, .slice B3 0 g3, .int .i64 4] 35)).setCell ⟨ga, k, none⟩ (.int .i64 X)).heap[w5.heap.size]? = some (.cells #[.slice A3 L.length d3, .bool false, .int .i64 0, .int .i64 0, .int .i64 0, .slice B3 0 g3, .int .i64 4] 35) := (Below.heap_setCell _ _ _ _ (fun e => hne' (by have e' : w5.heap.size = ga := e; exact e'))).trans (heap_new _ _)
        obtain ⟨F0, _, _, _, _, _, F6, _⟩ := blk7 hbx
        have HW : Hid (Below w.heap.size w ((w5.alloc (.cells #[.slice A3 L.length d3, .bool false, .int .i64 0, .int .i64 0, .int .i64 0, .slice B3 0 g3, .int .i64 4] 35)).setCell ⟨ga, k, none⟩ (.int .i64 X))) := HB.out.low.setCell hga1 _
        have hzz : w5.heap.size < ((w5.alloc (.cells #[.slice A3 L.length d3, .bool false, .int .i64 0, .int .i64 0, .int .i64 0, .slice B3 0 g3, .int .i64 4] 35)).setCell ⟨ga, k, none⟩ (.int .i64 X)).heap.size := by simp
        clear hgs hSm hsw hbx HI HB HN5 hd
        go_wp2_with fail
        refine (alikeI anyB anyB _ _ _ L ((gR j).set k X) HIL.out HSet.out).mono ?_
        rw [← HLX.out, eqB_self]
        rintro e w7 ⟨rfl, hq7⟩
        have hX7 := quiet_below hq7
        have Y6 := (hX7.cell (p := ⟨w5.heap.size, 6, none⟩) hzz).trans F6
        have HX : Hid (Below w.heap.size w w7) := bTrans HW.out hX7
        clear hq7 hX7 F0 F6
        go_wp2_with (go_at_call 12; refine (awake_any _ (HT.out.below HX.out)).mono ?_; rintro e w9 ⟨rfl, hb9⟩)
        go_ret
        exact ⟨rfl, bTrans HX.out hb9⟩
      · have HLX : Hid (L = gR j) := by show _ = _; rw [← HL.out, gW_out hlt]
        have HIL : Hid (Ints anyB (w5.alloc (.cells #[.slice A3 L.length d3, .bool false, .int .i64 0, .int .i64 0, .int .i64 0, .slice B3 0 g3, .int .i64 4] 35)) (.slice A3 L.length d3) L) := HB.out.regs
        have HIG : Hid (Ints anyB (w5.alloc (.cells #[.slice A3 L.length d3, .bool false, .int .i64 0, .int .i64 0, .int .i64 0, .slice B3 0 g3, .int .i64 4] 35)) (.slice A' j c') (gR j)) := HN5.out.swap.ints (by rw [gR_len]; omega)
        have HW : Hid (Below w.heap.size w (w5.alloc (.cells #[.slice A3 L.length d3, .bool false, .int .i64 0, .int .i64 0, .int .i64 0, .slice B3 0 g3, .int .i64 4] 35))) := HB.out.low
        obtain ⟨F0, _, _, _, _, _, F6, _⟩ := blk7 HB.out.box
        have HF6 : Hid ((w5.alloc (.cells #[.slice A3 L.length d3, .bool false, .int .i64 0, .int .i64 0, .int .i64 0, .slice B3 0 g3, .int .i64 4] 35)).cell? ⟨w5.heap.size, 6, none⟩ = some (.int .i64 4)) := F6
        clear HI HB HN5 hd F0 F6
        go_wp2_with fail
        refine (alikeI anyB anyB _ _ _ L (gR j) HIL.out HIG.out).mono ?_
        rw [← HLX.out, eqB_self]
        rintro e w7 ⟨rfl, hq7⟩
        have hX7 := quiet_below hq7
        have Y6 := (hX7.cell (p := ⟨w5.heap.size, 6, none⟩) (by simp)).trans HF6.out
        have HX : Hid (Below w.heap.size w w7) := bTrans HW.out hX7
        clear hq7 hX7
        go_wp2_with (go_at_call 12; refine (awake_any _ (HT.out.below HX.out)).mono ?_; rintro e w9 ⟨rfl, hb9⟩)
        go_ret
        exact ⟨rfl, bTrans HX.out hb9⟩
theorem regs_any (w : World) (ga gb gc : Int) (ht : Tab w) :
    Calls Tryd.prog 10 #[.int .i64 ga, .int .i64 gb, .int .i64 gc] w fun e w' => e = .returned (.bool true) ∧ Below w.heap.size w w' := by
  by_cases h : ga < 0 ∨ 8 < ga ∨ gb < 0 ∨ 7 < gb
  · exact regs_out w ga gb gc ht h
  · obtain ⟨n, rfl⟩ : ∃ n : Nat, ga = n := ⟨ga.toNat, by omega⟩
    obtain ⟨k, rfl⟩ : ∃ k : Nat, gb = k := ⟨gb.toNat, by omega⟩
    exact regs_in w n k gc ht (by omega) (by omega)
end Go.Proofs.YtpcffhhednplaaaDoor
