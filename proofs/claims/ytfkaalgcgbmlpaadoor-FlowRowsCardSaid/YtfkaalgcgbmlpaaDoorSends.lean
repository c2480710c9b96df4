/-
  What FlowSends answers of any two numbers: true; and nothing old has turned. Condition: the table of the instructions is in the world.
-/
import Derived.Test.YtfkaalgcgbmlpaaDoorCw
namespace Go.Proofs.YtfkaalgcgbmlpaaDoor
open Go.RowKit

/-- So many pushes, so far. -/
def pA (k : Nat) : List PIns := List.replicate k ⟨1, 0⟩
theorem pA_len (k : Nat) : (pA k).length = k := by simp [pA]
theorem pA_step (k : Nat) : pA k ++ [⟨1, 0⟩] = pA (k + 1) := by unfold pA; rw [List.replicate_succ']
def pW (k : Nat) : List Int := (List.range (k + 1)).map (fun (x : Nat) => (x : Int))
theorem pW_len (k : Nat) : (pW k).length = k + 1 := by simp [pW]
theorem pW_step (k : Nat) : pW k ++ [(k : Int) + 1] = pW (k + 1) := by unfold pW; rw [List.range_succ (n := k + 1), List.map_append]; simp
theorem pW_zero : pW 0 = [0] := by decide
/-- .. and a send to the second handler. -/
def sC (h : Nat) : List PIns := pA h ++ [⟨22, 1⟩]
theorem sC_len (h : Nat) : (sC h).length = h + 1 := by simp [sC, pA]
def sP (a h : Nat) : PPrg := ⟨[⟨0, sC h⟩, ⟨(a : Int), []⟩], [⟨[], 0, -1, false⟩], [], 50⟩
def sW (a h : Nat) : List Int := pW h ++ [(h : Int) - (a : Int) - 1]
theorem s_chk : ∀ a, a < 5 → ∀ h, h < 9 → chk (sP a h) = 0 := by decide +kernel
theorem s_good : ∀ a, a < 5 → ∀ h, h < 9 → a + 1 ≤ h → goodB (sP a h).hs (sC h) (sW a h) (fun k => k - 1) = true ∧ mxl (sW a h) = (h : Int) := by decide +kernel
theorem s_bad : ∀ a, a < 5 → ∀ h, h < 9 → h < a + 1 → badB (sP a h).hs (sC h) ((List.range h).map (· + 1)) = true := by decide +kernel
theorem s_code (a h : Nat) : fcode (sP a h) 0 = sC h := rfl
theorem s_yes {a h : Nat} (ha : a < 5) (hh : h < 9) (hl : a + 1 ≤ h) : fe (sP a h) 0 = 0 ∧ fl (sP a h) 0 = sW a h ∧ fm (sP a h) 0 = (h : Int) := by
  obtain ⟨g, hm⟩ := s_good a ha h hh hl
  have g := goodB_good g
  have hc := s_chk a ha h hh
  have h1 : fe (sP a h) 0 = 0 := by unfold fe; rw [if_pos hc, if_pos (by simp [sP]), s_code, g.de]
  have h2 : fl (sP a h) 0 = sW a h := by unfold fl; rw [if_pos hc, if_pos (by simp [sP]), s_code, g.dl]
  exact ⟨h1, h2, by unfold fm; rw [if_pos h1, h2, hm]⟩
theorem s_no {a h : Nat} (ha : a < 5) (hh : h < 9) (hl : h < a + 1) : fe (sP a h) 0 = 5 ∧ fl (sP a h) 0 = [] := by
  have g := badB_bad (s_bad a ha h hh hl)
  have hc := s_chk a ha h hh
  exact ⟨by unfold fe; rw [if_pos hc, if_pos (by simp [sP]), s_code, g.de], by unfold fl; rw [if_pos hc, if_pos (by simp [sP]), s_code, g.dl]⟩

theorem CW.sameC {w wr : World} {vc vw : Value} {c c' : List PIns} {l l' : List Int} (h : CW w vc c vw l wr) (e : c = c') (e' : l = l') : CW w vc c' vw l' wr := e ▸ e' ▸ h
theorem CW.formN {w wr : World} {vc vw : Value} {code : List PIns} {want : List Int} (h : CW w vc code vw want wr) (n : Nat) (hn : code.length = n) : ∃ A c, vc = .slice A n c := by subst hn; exact h.formC
theorem CW.formM {w wr : World} {vc vw : Value} {code : List PIns} {want : List Int} (h : CW w vc code vw want wr) (n : Nat) (hn : want.length = n) : ∃ A c, vw = .slice A n c := by subst hn; exact h.formW
section
variable {w0 W : World} {v : Value} {p : PPrg}
theorem depths_at (h : Int) (ht : Tab w0) (hb : Below w0.heap.size w0 W) (hp : PrgV W v p) : Calls Tryd.prog 11 #[v, .int .i64 h] W fun e w' => ∃ u, e = .returned (.tuple #[u, .int .i64 (fe p h)]) ∧ Ints (fun b => W.heap.size ≤ b) w' u (fl p h) ∧ Below W.heap.size W w' :=
  depths_any W v p h (ht.below hb) hp
theorem most_at (h : Int) (ht : Tab w0) (hb : Below w0.heap.size w0 W) (hp : PrgV W v p) : Calls Tryd.prog 12 #[v, .int .i64 h] W fun e w' => e = .returned (.int .i64 (fm p h)) ∧ Below W.heap.size W w' :=
  most_any W v p h (ht.below hb) hp
theorem awake_at (ht : Tab w0) (hb : Below w0.heap.size w0 W) : Calls Tryd.prog 10 #[] W fun e w' => e = .returned (.bool true) ∧ Below w0.heap.size w0 w' :=
  (awake_any W (ht.below hb)).mono fun _ _ ⟨h1, h2⟩ => ⟨h1, bTrans hb h2⟩
end

def sWd (w2 : World) (g n cap : Nat) (a : Nat) : World :=
  ((w2.alloc (.cells #[.int .i64 0, .slice (some ⟨g, 0, none⟩) n cap, .int .i64 (a : Int), .slice none 0 0] 49)).alloc (.cells #[.slice none 0 0, .int .i64 0, .int .i64 (-1), .bool false] 51)).alloc
    (.cells #[.slice (some ⟨w2.heap.size, 0, none⟩) 2 2, .slice (some ⟨w2.heap.size + 1, 0, none⟩) 1 1, .slice none 0 0, .int .i64 50] 26)
theorem sWd_below (w2 : World) (g n cap a : Nat) : Below w2.heap.size w2 (sWd w2 g n cap a) := bAlloc (bAlloc (bAlloc (bRefl w2) _) _) _
theorem mkS {W : World} {bH bA cH cA : Nat} {v : Value} {a h : Nat} (hc : Code anyB W v (sC h)) (zH : bH < W.heap.size) (zA : bA < W.heap.size)
    (h0 : W.cell? ⟨bH, 0, none⟩ = some (.int .i64 0)) (h1 : W.cell? ⟨bH, 1, none⟩ = some v) (h2 : W.cell? ⟨bH, 2, none⟩ = some (.int .i64 (a : Int))) (h3 : W.cell? ⟨bH, 3, none⟩ = some (.slice none 0 0))
    (t0 : W.cell? ⟨bA, 0, none⟩ = some (.slice none 0 0)) (t1 : W.cell? ⟨bA, 1, none⟩ = some (.int .i64 0)) (t2 : W.cell? ⟨bA, 2, none⟩ = some (.int .i64 (-1))) (t3 : W.cell? ⟨bA, 3, none⟩ = some (.bool false)) :
    PrgV W (.agg #[.slice (some ⟨bH, 0, none⟩) 2 cH, .slice (some ⟨bA, 0, none⟩) 1 cA, .slice none 0 0, .int .i64 50]) (sP a h) :=
  ⟨_, _, _, rfl, ⟨_, cH, rfl, by simp [sP], Or.inr ⟨bH, 0, rfl, trivial, zH, fun k x hx => by
    match k, hx with
    | 0, hx => simp [sP] at hx; subst hx; exact ⟨h0, _, h1, hc⟩
    | 1, hx => simp [sP] at hx; subst hx; exact ⟨h2, _, h3, sl0⟩⟩⟩, sl1 trivial zA ⟨⟨_, t0, sl0⟩, t1, t2, t3⟩, sl0⟩
set_option maxHeartbeats 800000 in
theorem sWd_reads {w2 : World} {g n cap a h : Nat} (hc : Code anyB w2 (.slice (some ⟨g, 0, none⟩) n cap) (sC h)) : PrgV (sWd w2 g n cap a) (.agg #[.slice (some ⟨w2.heap.size, 0, none⟩) 2 2, .slice (some ⟨w2.heap.size + 1, 0, none⟩) 1 1, .slice none 0 0, .int .i64 50]) (sP a h) := by
  apply mkS (hc.below (sWd_below w2 g n cap a))
  all_goals (simp [sWd, go_sem]; try rfl)
theorem sWd_box (w2 : World) (g n cap a : Nat) : Bx (sWd w2 g n cap a) (w2.heap.size + 1 + 1) #[.slice (some ⟨w2.heap.size, 0, none⟩) 2 2, .slice (some ⟨w2.heap.size + 1, 0, none⟩) 1 1, .slice none 0 0, .int .i64 50] := by
  have h := Bx.new ((w2.alloc (.cells #[.int .i64 0, .slice (some ⟨g, 0, none⟩) n cap, .int .i64 (a : Int), .slice none 0 0] 49)).alloc (.cells #[.slice none 0 0, .int .i64 0, .int .i64 (-1), .bool false] 51)) #[.slice (some ⟨w2.heap.size, 0, none⟩) 2 2, .slice (some ⟨w2.heap.size + 1, 0, none⟩) 1 1, .slice none 0 0, .int .i64 50] 26
  simp at h
  exact h

/-- An append to the wanted list, in a world with a block more: the other blocks are as they were. -/
theorem kept {w W w' : World} {vc vw : Value} {code : List PIns} {want : List Int} {o : Obj} (_h : CW w vc code vw want W) (hg : (W.alloc o).grownBy w' vw.ownBlock) {b : Nat} (hb : b < W.heap.size) (hne : vw.ownBlock ≠ some b) (i : Nat) : w'.cell? ⟨b, i, none⟩ = W.cell? ⟨b, i, none⟩ :=
  (World.cell?_of_block (w := W.alloc o) (hg.block b (by simp; omega) (fun e => hne e.symm))).trans (World.cell?_of_block (w := W) (Below.heap_alloc _ _ _ hb))
theorem kept_ints {w W w' : World} {vc vw u : Value} {code : List PIns} {want l : List Int} {o : Obj} {N : Nat} (h : CW w vc code vw want W) (hg : (W.alloc o).grownBy w' vw.ownBlock) (hu : Ints (fun b => N ≤ b) W u l) (hN : ∀ g, vw.ownBlock = some g → g < N) : Ints anyB w' u l := by
  obtain ⟨A, c, rfl, hl, hx⟩ := hu
  refine ⟨A, c, rfl, hl, ?_⟩
  rcases hx with hx | ⟨b, i, hA, hb, hlt, hc⟩
  · exact Or.inl hx
  · refine Or.inr ⟨b, i, hA, trivial, Nat.lt_of_lt_of_le hlt (Nat.le_trans (by simp) hg.size), fun k x hx => (kept h hg hlt (fun e => ?_) _).trans (hc k x hx)⟩
    have := hN b e
    omega
/-- The program still reads so. -/
theorem sWd_kept {w w2 w4 w' : World} {vw vw' : Value} {want want' : List Int} {g n cap a h : Nat} {o : Obj} (h2 : CW w (.slice (some ⟨g, 0, none⟩) n cap) (sC h) vw want w2) (h4 : CW w (.slice (some ⟨g, 0, none⟩) n cap) (sC h) vw want w4) (hb4 : Below (sWd w2 g n cap a).heap.size (sWd w2 g n cap a) w4)
    (hg : (w4.alloc o).grownBy w' vw.ownBlock) (h5 : CW w (.slice (some ⟨g, 0, none⟩) n cap) (sC h) vw' want' w') (hh : h < 9) :
    PrgV w' (.agg #[.slice (some ⟨w2.heap.size, 0, none⟩) 2 2, .slice (some ⟨w2.heap.size + 1, 0, none⟩) 1 1, .slice none 0 0, .int .i64 50]) (sP a h) ∧ ∀ i, w'.cell? ⟨w2.heap.size + 1 + 1, i, none⟩ = #[Value.slice (some ⟨w2.heap.size, 0, none⟩) 2 2, .slice (some ⟨w2.heap.size + 1, 0, none⟩) 1 1, .slice none 0 0, .int .i64 50][i]? := by
  have hz : (sWd w2 g n cap a).heap.size = w2.heap.size + 1 + 1 + 1 := by simp [sWd]
  have hz4 := hb4.size
  rw [hz] at hz4
  have hw' : w4.heap.size ≤ w'.heap.size := Nat.le_trans (by simp) hg.size
  have hne : ∀ b, w2.heap.size ≤ b → vw.ownBlock ≠ some b := fun b hb e => by have := (own_lt h2.ow e).2; omega
  have hcell : ∀ b i, w2.heap.size ≤ b → b < w2.heap.size + 1 + 1 + 1 → w'.cell? ⟨b, i, none⟩ = (sWd w2 g n cap a).cell? ⟨b, i, none⟩ := fun b i h1 h3 =>
    (kept h4 hg (by omega) (hne b h1) i).trans (hb4.cell (p := ⟨b, i, none⟩) (by rw [hz]; exact h3))
  refine ⟨?_, fun i => (hcell _ i (by omega) (by omega)).trans ((sWd_box w2 g n cap a).cell i)⟩
  apply mkS (h5.cd (by rw [sC_len]; omega))
  · omega
  · omega
  all_goals (rw [hcell _ _ (by omega) (by omega)]; simp [sWd, go_sem]; try rfl)

set_option maxHeartbeats 8000000 in
set_option maxRecDepth 100000 in
theorem sends_in (w : World) (ht : Tab w) (a h : Nat) (ha : a < 5) (hh : h < 9) :
    Calls Tryd.prog 7 #[.int .i64 a, .int .i64 h] w fun e w' => e = .returned (.bool true) ∧ Below w.heap.size w w' := by
  have HT : Hid (Tab w) := ht
  have a1 : ¬ (a : Int) < 0 := by omega
  have a2 : ¬ (4 : Int) < a := by omega
  have b1 : ¬ (h : Int) < 0 := by omega
  have b2 : ¬ (8 : Int) < h := by omega
  clear ht
  go_enter Tryd.func7, Tryd.ntmps7
  go_wp2_with fail
  go_loopg [5, 6, 7] h (fun g i5 i6 i7 wr => ∃ k : Nat, g = h - k ∧ k ≤ h ∧ i7 = .int .i64 k ∧ Hid (CW w i5 (pA k) i6 (pW k) wr))
  case atStart => exact ⟨0, rfl, by omega, rfl, (CW.start 0 rfl).sameC rfl pW_zero.symm⟩
  case round =>
    obtain ⟨k, rfl, hk, rfl, hd⟩ := hrel
    obtain ⟨A, c, rfl⟩ := hd.out.formN k (pA_len k)
    obtain ⟨A', c', rfl⟩ := hd.out.formM (k + 1) (pW_len k)
    by_cases hlt : k < h
    · go_wp2_with (at_builtin; refine appC rfl _ _ rfl [⟨1, 0⟩] wr.heap.size (k + 1) 1 (hd.out.below (bAlloc (bRefl _) _)) rfl rfl rfl (by rw [pA_len]) (by decide) (heap_new2 rfl) (by rw [pA_len]; omega) ?_)
      intro g cap w2 hcw hgr
      have HN : Hid (CW w (.slice (some ⟨g, 0, none⟩) (k + 1) cap) (pA (k + 1)) (.slice A' (k + 1) c') (pW k) w2) := hcw.sameC (pA_step k) rfl
      clear hcw hgr
      go_wp2_with (at_builtin; refine appW rfl _ _ rfl [(k : Int) + 1] w2.heap.size (k + 1 + 1) 1 (HN.out.below (bAlloc (bRefl _) _)) rfl rfl rfl (by rw [pW_len]) (by decide) (heap_new2 rfl) (by rw [pW_len]; omega) ?_)
      intro g2 cap2 w3 hcw hgr
      have HN2 : Hid (CW w (.slice (some ⟨g, 0, none⟩) (k + 1) cap) (pA (k + 1)) (.slice (some ⟨g2, 0, none⟩) (k + 1 + 1) cap2) (pW (k + 1)) w3) := hcw.sameC rfl (pW_step k)
      clear hcw hgr HN
      go_wp2
      go_roundg (h - (k + 1))
      case measure => omega
      case rel => exact ⟨k + 1, rfl, by omega, by go_num, HN2⟩
    · obtain rfl : h = k := by omega
      clear hlt
      go_wp2_with (at_builtin; refine appC rfl _ _ rfl [⟨22, 1⟩] wr.heap.size (h + 1) 1 (hd.out.below (bAlloc (bRefl _) _)) rfl rfl rfl (by rw [pA_len]) (by decide) (heap_new2 rfl) (by rw [pA_len]; omega) ?_)
      intro g cap w2 hcw hgr
      have HN : Hid (CW w (.slice (some ⟨g, 0, none⟩) (h + 1) cap) (sC h) (.slice A' (h + 1) c') (pW h) w2) := hcw.sameC rfl rfl
      clear hcw hgr hd
      go_wp2_with fail
      have HP3 := sWd_reads (a := a) (HN.out.cd (by rw [sC_len]; omega))
      have HB3 := sWd_box w2 g (h + 1) cap a
      have HL3 := bTrans HN.out.low (sWd_below w2 g (h + 1) cap a)
      refine (depths_at 0 HT.out HL3 HP3).mono ?_
      rintro e w4 ⟨u, rfl, hu, hb4⟩
      have HC4 : Hid (CW w (.slice (some ⟨g, 0, none⟩) (h + 1) cap) (sC h) (.slice A' (h + 1) c') (pW h) w4) := (HN.out.below (sWd_below ..)).below hb4
      have HP4 := HP3.below hb4
      have HB4 := HB3.below hb4
      have HN2 := HN
      clear HL3 HB3 HP3 HN
      by_cases hha : h < a + 1
      · obtain ⟨f1, f2⟩ := s_no ha hh hha
        rw [f2] at hu
        obtain ⟨Au, cu, rfl, hul⟩ := hu.form
        have hhI : (h : Int) < (a : Int) + 1 := by omega
        clear f2
        go_wp2_with fail
        refine (awake_at HT.out HC4.out.low).mono ?_
        rintro e w5 ⟨rfl, hb5⟩
        go_wp2_with fail
        go_ret
        exact ⟨rfl, hb5⟩
      · obtain ⟨f1, f2, f3⟩ := s_yes ha hh (by omega)
        rw [f2] at hu
        obtain ⟨Au, cu, rfl, hul⟩ := hu.form
        have hhI : ¬ (h : Int) < (a : Int) + 1 := by omega
        have hhJ : (a : Int) + 1 ≤ h := by omega
        clear f2
        go_wp2_with (at_builtin; refine appWg rfl _ _ rfl [(h : Int) - (a : Int) - 1] w4.heap.size (h + 1 + 1) 1 (HC4.out.below (bAlloc (bRefl _) _)) rfl rfl rfl (by rw [pW_len]) (by decide) (heap_new2 rfl) (by rw [pW_len]; omega) ?_)
        intro g2 cap2 w5 hcw hgr
        have HC5 : Hid (CW w (.slice (some ⟨g, 0, none⟩) (h + 1) cap) (sC h) (.slice (some ⟨g2, 0, none⟩) (h + 1 + 1) cap2) (sW a h) w5) := hcw.sameC rfl rfl
        obtain ⟨HP5, k5⟩ := sWd_kept HN2.out HC4.out hb4 hgr HC5.out hh
        have HU5 := kept_ints HC4.out hgr hu (fun g' hg' => by have := (own_lt HN2.out.ow hg').2; have hs := (sWd_below w2 g (h + 1) cap a).size; omega)
        have ge := eqB_self (sW a h)
        clear hcw hgr hb4 HC4 HP4 HB4 HN2 hu
        go_wp2_with fail
        refine (alikeI anyB anyB _ _ _ _ _ HU5 (HC5.out.ints (by simp [sW, pW]; omega))).mono ?_
        rintro e w6 ⟨rfl, hq⟩
        have hb6 := quiet_below hq
        have HP6 := HP5.below hb6
        have k6 : ∀ i, w6.cell? ⟨w2.heap.size + 1 + 1, i, none⟩ = #[Value.slice (some ⟨w2.heap.size, 0, none⟩) 2 2, .slice (some ⟨w2.heap.size + 1, 0, none⟩) 1 1, .slice none 0 0, .int .i64 50][i]? := fun i => by
          obtain ⟨n, rfl⟩ := hq
          exact k5 i
        have HL6 := bTrans HC5.out.low hb6
        clear k5 HP5 hb6 hq
        go_wp2_with fail
        refine (most_at 0 HT.out HL6 HP6).mono ?_
        rintro e w7 ⟨rfl, hb7⟩
        go_wp2_with fail
        refine (awake_at HT.out (bTrans HL6 hb7)).mono ?_
        rintro e w8 ⟨rfl, hb8⟩
        go_wp2_with fail
        go_ret
        exact ⟨rfl, hb8⟩

set_option maxHeartbeats 2000000 in
theorem sends_out (w : World) (ht : Tab w) (a b : Int) (h : ¬ (0 ≤ a ∧ a ≤ 4 ∧ 0 ≤ b ∧ b ≤ 8)) :
    Calls Tryd.prog 7 #[.int .i64 a, .int .i64 b] w fun e w' => e = .returned (.bool true) ∧ Below w.heap.size w w' := by
  by_cases h1 : a < 0
  · go_enter Tryd.func7, Tryd.ntmps7
    go_wp2_with fail
    refine (awake_any _ ht).mono ?_
    rintro e w1 ⟨rfl, hb⟩
    go_wp2_with fail
    go_ret
    exact ⟨rfl, hb⟩
  · by_cases h2 : 4 < a
    · go_enter Tryd.func7, Tryd.ntmps7
      go_wp2_with fail
      refine (awake_any _ ht).mono ?_
      rintro e w1 ⟨rfl, hb⟩
      go_wp2_with fail
      go_ret
      exact ⟨rfl, hb⟩
    · by_cases h3 : b < 0
      · go_enter Tryd.func7, Tryd.ntmps7
        go_wp2_with fail
        refine (awake_any _ ht).mono ?_
        rintro e w1 ⟨rfl, hb⟩
        go_wp2_with fail
        go_ret
        exact ⟨rfl, hb⟩
      · have h4 : 8 < b := by omega
        clear h
        go_enter Tryd.func7, Tryd.ntmps7
        go_wp2_with fail
        refine (awake_any _ ht).mono ?_
        rintro e w1 ⟨rfl, hb⟩
        go_wp2_with fail
        go_ret
        exact ⟨rfl, hb⟩
theorem sends_all (w : World) (ht : Tab w) (a b : Int) :
    Calls Tryd.prog 7 #[.int .i64 a, .int .i64 b] w fun e w' => e = .returned (.bool true) ∧ Below w.heap.size w w' := by
  by_cases h : 0 ≤ a ∧ a ≤ 4 ∧ 0 ≤ b ∧ b ≤ 8
  · obtain ⟨h1, h2, h3, h4⟩ := h
    obtain ⟨m, rfl⟩ := Int.eq_ofNat_of_zero_le h1
    obtain ⟨n, rfl⟩ := Int.eq_ofNat_of_zero_le h3
    exact sends_in w ht m n (by omega) (by omega)
  · exact sends_out w ht a b h
end Go.Proofs.YtfkaalgcgbmlpaaDoor
