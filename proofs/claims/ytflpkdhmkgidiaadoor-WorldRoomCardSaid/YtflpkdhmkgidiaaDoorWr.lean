/-
  A mailbox holds as many as its Cap; each one more is counted (WorldRoom). Conditions: what is read of the world is there.
-/
import Derived.Test.YtflpkdhmkgidiaaDoorWj
import Derived.Test.YtflpkdhmkgidiaaDoorWp
namespace Go.Proofs.YtflpkdhmkgidiaaDoor
open Go.RowKit
attribute [local go_sem ↓] eq6
theorem two_small {n m : Nat} (hn : n ≤ 16) (hm : m ≤ 16) : Small (twoP n m) := by
  have h1 : ∀ n : Nat, n ≤ 16 → ∀ m : Nat, m ≤ 16 → Small (twoP n m) := by decide +kernel
  exact h1 n hn m hm
theorem twoV (W : World) (n : Nat) (most : Int) (hn : n ≤ 16) : Calls Tryd.prog 12 #[.int .i64 (n : Int), .int .i64 most] W fun e w' => ∃ A1 c1 A2 c2 A3 c3, e = .returned (.agg #[.slice A1 1 c1, .slice A2 2 c2, .slice A3 n c3, .int .i64 5]) ∧ PrgV w' (.agg #[.slice A1 1 c1, .slice A2 2 c2, .slice A3 n c3, .int .i64 5]) (twoP n most) ∧ Below W.heap.size W w' := by
  refine (two_any W n most hn).mono ?_
  rintro e w' ⟨v1, v2, v3, rfl, hp, hb⟩
  have hp' := hp
  obtain ⟨a, b, c, he, h1, h2, h3⟩ := hp'
  simp only [Value.agg.injEq, Array.mk.injEq, List.cons.injEq, and_true] at he
  obtain ⟨rfl, rfl, rfl, _⟩ := he
  obtain ⟨A1, c1, rfl, _⟩ := h1.form
  obtain ⟨A2, c2, rfl, _⟩ := h2.form
  obtain ⟨A3, c3, e3, _⟩ := h3.form
  have e4 : v3 = .slice A3 n c3 := by rw [e3]; show Value.slice A3 (boots n).length c3 = _; rw [boots_len]
  subst e4
  exact ⟨A1, c1, A2, c2, A3, c3, rfl, hp, hb⟩
theorem wldU {w : World} {u : PBud} {a m : Value} {x : PWld} (e : x.used = u) (h : WldV w (wVal x.used a m) x) : WldV w (wVal u a m) x := by rw [← e]; exact h
theorem two_rg {n : Nat} {most : Int} (hn : n ≤ 16) : RgP (twoP n most) := by
  refine ⟨fun a ha k hk => ?_, fun x hx k hk => ?_⟩
  · have ha' : a ∈ [(⟨[4], most, -1, false⟩ : PAct), ⟨[], most, -1, false⟩] := ha
    simp at ha'
    rcases ha' with rfl | rfl
    · simp at hk; subst hk; decide
    · simp at hk
  · obtain ⟨i, hi, rfl⟩ := List.mem_map.1 (show x ∈ (List.range n).map note1 from hx)
    have hi' := List.mem_range.1 hi
    have hk' : k ∈ [(i : Int)] := hk
    simp at hk'
    subst hk'
    exact ⟨by omega, by omega⟩
/-- A world of two actors in new memory, opened. -/
theorem wn_two {N lo hi m : Nat} {w : World} {a v : Value} {x : PWld} (h : WN N lo hi w a v x) (ha : x.acts.length = 2) (hm : x.mail.length = m) : ∃ g c B d, a = .slice (some ⟨g, 0, none⟩) 2 c ∧ v = .slice B m d ∧ N ≤ g ∧ LR g (fun _ b => Qa N lo hi b ∧ b ≠ g) w x.acts := by
  obtain ⟨A, c, e, hc, hl⟩ := h.acts
  obtain ⟨B, d, e2, _⟩ := h.mail.form
  rcases hl with ⟨e3, _⟩ | ⟨g, e3, hg, hr⟩
  · rw [e3] at ha; simp at ha
  · exact ⟨g, c, B, d, by rw [e, e3, ha], by rw [e2, hm], hg.1, hr⟩
theorem NR.two {N k gn cn : Nat} {wr w6 : World} {v : Value} {l : List PNte} {us : List Value} {x : PNte} (hu : NR (fun b => N ≤ b) N wr v l us) (hN : N ≤ wr.heap.size) (hx : x.args = [(k : Int)])
    (ho : w6.ownsRow N 42 3 (.slice (some ⟨gn, 0, none⟩) (l.length + 1) cn) (l.length + 1) ((List.zipWith ntrow l us).flatten ++ ntrow x (.slice (some ⟨wr.heap.size, 0, none⟩) 1 1)))
    (hg : ((wr.alloc (.cells #[.int .i64 (k : Int)] 3)).alloc (.cells #[.int .i64 x.to, .int .i64 x.hd, .slice (some ⟨wr.heap.size, 0, none⟩) 1 1] 42)).grownBy w6 v.ownBlock) (hat : v.ownBlock = some gn ∨ gn = wr.heap.size + 1 + 1) :
    NR (fun b => N ≤ b) N w6 (.slice (some ⟨gn, 0, none⟩) (l.length + 1) cn) (l ++ [x]) (us ++ [.slice (some ⟨wr.heap.size, 0, none⟩) 1 1]) := by
  have hB : Below wr.heap.size wr ((wr.alloc (.cells #[.int .i64 (k : Int)] 3)).alloc (.cells #[.int .i64 x.to, .int .i64 x.hd, .slice (some ⟨wr.heap.size, 0, none⟩) 1 1] 42)) := bAlloc (bAlloc (bRefl _) _) _
  have hsz : ((wr.alloc (.cells #[.int .i64 (k : Int)] 3)).alloc (.cells #[.int .i64 x.to, .int .i64 x.hd, .slice (some ⟨wr.heap.size, 0, none⟩) 1 1] 42)).heap.size = wr.heap.size + 2 := by simp
  have hblk : ((wr.alloc (.cells #[.int .i64 (k : Int)] 3)).alloc (.cells #[.int .i64 x.to, .int .i64 x.hd, .slice (some ⟨wr.heap.size, 0, none⟩) 1 1] 42)).heap[wr.heap.size]? = some (.cells #[.int .i64 (k : Int)] 3) := by
    rw [Below.heap_alloc _ _ _ (by simp)]; exact heap_new _ _
  exact (hu.below hB).push (ms := [x]) (xs := [.slice (some ⟨wr.heap.size, 0, none⟩) 1 1]) (m := 1) rfl rfl (by simpa using ho) hg (hat.imp id fun e => by rw [e, hsz]) (fun j n u' hn hu' => by
    cases j with
    | zero =>
      simp at hn hu'
      subst hn hu'
      rw [hx]
      refine ⟨_, 1, rfl, by simp, by simp, Or.inr ⟨wr.heap.size, 0, rfl, ⟨hN, fun e => by have := (own_lt hu.own e).2; omega⟩, by omega, fun j y hy => ?_⟩⟩
      cases j with
      | zero => simp at hy; subst hy; show World.cell? _ ⟨wr.heap.size, 0, none⟩ = _; rw [cell_of_row _ _ _ _ _ _ hblk]; rfl
      | succ j => simp at hy
    | succ j => simp at hn)
theorem later_succ (m : Nat) : later (m + 1) = later m ++ [noteL m] := by unfold later; rw [List.range_succ, List.map_append]; rfl
theorem run_mn (P : Program) (w : World) (ts : Array TypeId) (t : TypeId) (a b : Nat) : (Builtin.min_ ts t #[.int .i64 (a : Int), .int .i64 (b : Int)]).run P w = .ok (.int .i64 ((min a b : Nat) : Int)) w := by
  rw [run_min_int2]
  by_cases h : (b : Int) < a
  · rw [if_pos h, show min a b = b by omega]
  · rw [if_neg h, show min a b = a by omega]
set_option maxRecDepth 100000 in
theorem room_o0 (w : World) (n most more : Int) (he : Env w)  (h0 : n < 0) : Calls Tryd.prog 3 #[.int .i64 n, .int .i64 most, .int .i64 more] w fun e w' => e = .returned (.bool true) ∧ Below w.heap.size w w' := by
  have HE := hid_mk he
  have d0 : decide (n < 0) = true := decide_eq_true h0
  clear he h0
  go_enter Tryd.func3, Tryd.ntmps3
  go_wp2_with (first | (go_at_call 11; refine (awake_any _ HE.out).mono ?_; rintro e w2 ⟨rfl, hb2⟩))
  go_ret
  exact ⟨rfl, hb2⟩
set_option maxRecDepth 100000 in
theorem room_o1 (w : World) (n most more : Int) (he : Env w) (h0 : ¬ n < 0) (h1 : 16 < n) : Calls Tryd.prog 3 #[.int .i64 n, .int .i64 most, .int .i64 more] w fun e w' => e = .returned (.bool true) ∧ Below w.heap.size w w' := by
  have HE := hid_mk he
  have d0 : decide (n < 0) = false := decide_eq_false h0
  have d1 : decide (16 < n) = true := decide_eq_true h1
  clear he h0 h1
  go_enter Tryd.func3, Tryd.ntmps3
  go_wp2_with (first | (go_at_call 11; refine (awake_any _ HE.out).mono ?_; rintro e w2 ⟨rfl, hb2⟩))
  go_ret
  exact ⟨rfl, hb2⟩
set_option maxRecDepth 100000 in
theorem room_o2 (w : World) (n most more : Int) (he : Env w) (h0 : ¬ n < 0) (h1 : ¬ 16 < n) (h2 : most < 0) : Calls Tryd.prog 3 #[.int .i64 n, .int .i64 most, .int .i64 more] w fun e w' => e = .returned (.bool true) ∧ Below w.heap.size w w' := by
  have HE := hid_mk he
  have d0 : decide (n < 0) = false := decide_eq_false h0
  have d1 : decide (16 < n) = false := decide_eq_false h1
  have d2 : decide (most < 0) = true := decide_eq_true h2
  clear he h0 h1 h2
  go_enter Tryd.func3, Tryd.ntmps3
  go_wp2_with (first | (go_at_call 11; refine (awake_any _ HE.out).mono ?_; rintro e w2 ⟨rfl, hb2⟩))
  go_ret
  exact ⟨rfl, hb2⟩
set_option maxRecDepth 100000 in
theorem room_o3 (w : World) (n most more : Int) (he : Env w) (h0 : ¬ n < 0) (h1 : ¬ 16 < n) (h2 : ¬ most < 0) (h3 : 16 < most) : Calls Tryd.prog 3 #[.int .i64 n, .int .i64 most, .int .i64 more] w fun e w' => e = .returned (.bool true) ∧ Below w.heap.size w w' := by
  have HE := hid_mk he
  have d0 : decide (n < 0) = false := decide_eq_false h0
  have d1 : decide (16 < n) = false := decide_eq_false h1
  have d2 : decide (most < 0) = false := decide_eq_false h2
  have d3 : decide (16 < most) = true := decide_eq_true h3
  clear he h0 h1 h2 h3
  go_enter Tryd.func3, Tryd.ntmps3
  go_wp2_with (first | (go_at_call 11; refine (awake_any _ HE.out).mono ?_; rintro e w2 ⟨rfl, hb2⟩))
  go_ret
  exact ⟨rfl, hb2⟩
set_option maxRecDepth 100000 in
theorem room_o4 (w : World) (n most more : Int) (he : Env w) (h0 : ¬ n < 0) (h1 : ¬ 16 < n) (h2 : ¬ most < 0) (h3 : ¬ 16 < most) (h4 : more < 0) : Calls Tryd.prog 3 #[.int .i64 n, .int .i64 most, .int .i64 more] w fun e w' => e = .returned (.bool true) ∧ Below w.heap.size w w' := by
  have HE := hid_mk he
  have d0 : decide (n < 0) = false := decide_eq_false h0
  have d1 : decide (16 < n) = false := decide_eq_false h1
  have d2 : decide (most < 0) = false := decide_eq_false h2
  have d3 : decide (16 < most) = false := decide_eq_false h3
  have d4 : decide (more < 0) = true := decide_eq_true h4
  clear he h0 h1 h2 h3 h4
  go_enter Tryd.func3, Tryd.ntmps3
  go_wp2_with (first | (go_at_call 11; refine (awake_any _ HE.out).mono ?_; rintro e w2 ⟨rfl, hb2⟩))
  go_ret
  exact ⟨rfl, hb2⟩
set_option maxRecDepth 100000 in
theorem room_o5 (w : World) (n most more : Int) (he : Env w) (h0 : ¬ n < 0) (h1 : ¬ 16 < n) (h2 : ¬ most < 0) (h3 : ¬ 16 < most) (h4 : ¬ more < 0) (h5 : 20 < more) : Calls Tryd.prog 3 #[.int .i64 n, .int .i64 most, .int .i64 more] w fun e w' => e = .returned (.bool true) ∧ Below w.heap.size w w' := by
  have HE := hid_mk he
  have d0 : decide (n < 0) = false := decide_eq_false h0
  have d1 : decide (16 < n) = false := decide_eq_false h1
  have d2 : decide (most < 0) = false := decide_eq_false h2
  have d3 : decide (16 < most) = false := decide_eq_false h3
  have d4 : decide (more < 0) = false := decide_eq_false h4
  have d5 : decide (20 < more) = true := decide_eq_true h5
  clear he h0 h1 h2 h3 h4 h5
  go_enter Tryd.func3, Tryd.ntmps3
  go_wp2_with (first | (go_at_call 11; refine (awake_any _ HE.out).mono ?_; rintro e w2 ⟨rfl, hb2⟩))
  go_ret
  exact ⟨rfl, hb2⟩
section
attribute [local go_sem ↓] run_mn
set_option maxHeartbeats 8000000 in
set_option maxRecDepth 100000 in
theorem room_yes (W : World) (n most more : Nat) (he : Env W) (hn : n ≤ 16) (hm : most ≤ 16) (hmo : more ≤ 20) : Calls Tryd.prog 3 #[.int .i64 (n : Int), .int .i64 (most : Int), .int .i64 (more : Int)] W fun e w' => e = .returned (.bool true) ∧ Below W.heap.size W w' := by
  have HE := hid_mk he
  have t0 : decide ((n : Int) < 0) = false := decide_eq_false (by omega)
  have t1 : decide ((16 : Int) < (n : Int)) = false := decide_eq_false (by omega)
  have t2 : decide ((most : Int) < 0) = false := decide_eq_false (by omega)
  have t3 : decide ((16 : Int) < (most : Int)) = false := decide_eq_false (by omega)
  have t4 : decide ((more : Int) < 0) = false := decide_eq_false (by omega)
  have t5 : decide ((20 : Int) < (more : Int)) = false := decide_eq_false (by omega)
  obtain ⟨d1, hd1⟩ : ∃ d1, d1 = (n + 1) / 2 := ⟨_, rfl⟩
  obtain ⟨d2, hd2⟩ : ∃ d2, d2 = n / 2 := ⟨_, rfl⟩
  obtain ⟨a, ha⟩ : ∃ a, a = min d1 most := ⟨_, rfl⟩
  obtain ⟨b, hb⟩ : ∃ b, b = min d2 most := ⟨_, rfl⟩
  obtain ⟨m0, hm0⟩ : ∃ m0, m0 = a + b := ⟨_, rfl⟩
  obtain ⟨o0, ho0⟩ : ∃ o0, o0 = d1 - a := ⟨_, rfl⟩
  obtain ⟨o1, ho1⟩ : ∃ o1, o1 = d2 - b := ⟨_, rfl⟩
  obtain ⟨c, hc⟩ : ∃ c, c = min (b + more) most := ⟨_, rfl⟩
  have q1 : ((n : Int) + 1).tdiv 2 = (d1 : Int) := by rw [Int.tdiv_eq_ediv_of_nonneg (by omega)]; omega
  have q2 : (n : Int).tdiv 2 = (d2 : Int) := by rw [Int.tdiv_eq_ediv_of_nonneg (by omega)]; omega
  have q3 : min d1 most = a := ha.symm
  have q4 : min d2 most = b := hb.symm
  have q5 : (a : Int) + (b : Int) = (m0 : Int) := by omega
  have q6 : (d1 : Int) - (a : Int) = (o0 : Int) := by omega
  have q7 : (d2 : Int) - (b : Int) = (o1 : Int) := by omega
  have u1 : d1 ≤ 8 := by omega
  have u2 : d2 ≤ 8 := by omega
  have u3 : a ≤ 8 := by omega
  have u4 : b ≤ 8 := by omega
  have u5 : m0 ≤ 16 := by omega
  have u6 : o0 ≤ 8 := by omega
  have u7 : o1 ≤ 8 := by omega
  have HRI := hid_mk (room_start hn hm)
  have HTF := hid_mk (fc_two (two_chk hn hm))
  have HTS := hid_mk (two_small hn hm)
  have HA : Hid ((startP (twoP n most)).acts = two0 o0 o1) := by
    show _ = _
    rw [HRI.out.acts]
    unfold cA cB
    rw [← hd1, ← hd2, q3, q4, ← ho0, ← ho1]
  have HML : Hid ((startP (twoP n most)).mail.length = m0) := by
    show _ = _
    rw [HRI.out.len]; unfold cA cB; rw [← hd1, ← hd2, q3, q4]; exact hm0.symm
  have HT1 : Hid (toN (startP (twoP n most)).mail 1 = b) := by
    show _ = _
    rw [HRI.out.t1]; unfold cB; rw [← hd2, q4]
  have HSX : Hid (SmW (startP (twoP n most))) := (start_ok (fc_two (two_chk hn hm)) (two_rg hn) (two_small hn hm)).2
  have HC := hid_mk hc
  have HBM : Hid (b ≤ most) := by show _ ≤ _; omega
  have HN := hid_mk hn
  have HM := hid_mk hm
  have HMO := hid_mk hmo
  have HU := hid_mk HRI.out.used
  generalize hX : startP (twoP n most) = X at *
  have HXE := hid_mk hX
  clear hX
  clear he hd1 hd2 ha hb hm0 ho0 ho1 hc
  obtain ⟨i0, hi0, hz0, hz1, hz2⟩ := info_parts infoN
  go_enter Tryd.func3, Tryd.ntmps3
  go_wp2_with fail
  refine (twoV _ n (most : Int) HN.out).mono ?_
  rintro e w1 ⟨A1, c1, A2, c2, A3, c3, rfl, hp1, hb1⟩
  have HP1 := hid_mk hp1
  have HB1 := hid_mk hb1
  clear hp1 hb1
  go_wp2_with fail
  refine (start_yes _ _ (twoP n most) (HE.out.below (bAlloc HB1.out _)).tab (HP1.out.below (bAlloc (bRefl _) _)) HTS.out HTF.out).mono ?_
  rw [HXE.out]
  rintro e w2 ⟨aw, mw, lo, hi, rfl, hwn, hb2⟩
  rw [HU.out]
  obtain ⟨ga, ca, B, d, rfl, rfl, hgN, hgr⟩ := wn_two hwn (by rw [HA.out]; rfl) HML.out
  have HWN := hid_mk hwn
  have hgl := hgr.lt
  have g4 : w2.cell? ⟨ga, 4, none⟩ = some (.int .i64 (o0 : Int)) := (hgr.rd 0 ⟨[4], false, 0, 0, (o0 : Int)⟩ (by rw [HA.out]; rfl)).2.2.2.2
  have g9 : w2.cell? ⟨ga, 9, none⟩ = some (.int .i64 (o1 : Int)) := (hgr.rd 1 ⟨[], false, 0, 0, (o1 : Int)⟩ (by rw [HA.out]; rfl)).2.2.2.2
  have g4x := fun X => ((bAlloc (bRefl w2) X).cell (p := ⟨ga, 4, none⟩) hgl).trans g4
  have g9x := fun X => ((bAlloc (bRefl w2) X).cell (p := ⟨ga, 9, none⟩) hgl).trans g9
  have HPB := hid_mk (boxAt (heap_new w1 (.cells #[.slice A1 1 c1, .slice A2 2 c2, .slice A3 n c3, .int .i64 5] 27)) hb2)
  have HP2 := hid_mk (HP1.out.below (bTrans (bAlloc (bRefl _) _) hb2))
  have HB2 := hid_mk (bTrans (bAlloc HB1.out _) hb2)
  have HGN := hid_mk hgN
  have HGR := hid_mk hgr
  have hb2s : (w1.alloc (.cells #[.slice A1 1 c1, .slice A2 2 c2, .slice A3 n c3, .int .i64 5] 27)).heap.size ≤ w2.heap.size := hb2.size
  have HB2w := hid_mk hb2
  clear hb2 hwn hgr hgN
  have HB2s := hid_mk hb2s
  clear hb2s
  go_wp2
  have k8 := heap_new w2 (.cells #[.slice (some ⟨ga, 0, none⟩) 2 ca, .slice B m0 d, .int .i64 0, .int .i64 0, .int .i64 0, .int .i64 0] 34)
  have hZ : Below w2.heap.size w2 (w2.alloc (.cells #[.slice (some ⟨ga, 0, none⟩) 2 ca, .slice B m0 d, .int .i64 0, .int .i64 0, .int .i64 0, .int .i64 0] 34)) := bAlloc (bRefl w2) (.cells #[.slice (some ⟨ga, 0, none⟩) 2 ca, .slice B m0 d, .int .i64 0, .int .i64 0, .int .i64 0, .int .i64 0] 34)
  have h9 := HWN.out.toPW HB2s.out
  rw [HU.out] at h9
  generalize (w2.alloc (.cells #[.slice (some ⟨ga, 0, none⟩) 2 ca, .slice B m0 d, .int .i64 0, .int .i64 0, .int .i64 0, .int .i64 0] 34)) = w3 at k8 hZ h9 ⊢
  have HK8 := hid_mk k8
  have HZ := hid_mk hZ
  have HPW := hid_mk h9
  clear k8 hZ h9 g4 g9 g4x g9x
  go_loopg [12, 13] more (fun g i12 i13 wr => ∃ i : Nat, g = more - i ∧ i ≤ more ∧ i13 = .int .i64 (i : Int) ∧ ∃ us, Hid (NR (fun b => w3.heap.size ≤ b) w3.heap.size wr i12 (later i) us) ∧ Hid (Below w3.heap.size w3 wr))
  case atStart => exact ⟨0, rfl, by omega, rfl, [], NR.nil _ _ _, bRefl _⟩
  case round =>
    obtain ⟨i, rfl, hile, rfl, us, hu0, hbw⟩ := hrel
    obtain ⟨A9, c9, rfl⟩ := hu0.out.form
    by_cases hlt : i < more
    · have HBS := hid_mk (later_succ i)
      have hln := later_len i
      generalize later i = l at *
      have hltI : (i : Int) < more := by omega
      have hw3 := hbw.out.size
      have HNEWS : Hid (∀ j y, (ntrow (noteL i) (.slice (some ⟨wr.heap.size, 0, none⟩) 1 1))[j]? = some y → ((wr.alloc (.cells #[.int .i64 (i : Int)] 3)).alloc (.cells #[.int .i64 1, .int .i64 0, .slice (some ⟨wr.heap.size, 0, none⟩) 1 1] 42)).cell? ((⟨wr.heap.size + 1, 0, none⟩ : Addr).add j) = some y) := World.news_of_block (heap_new2 (by simp))
      have HONE : Hid (∀ y ∈ ntrow (noteL i) (.slice (some ⟨wr.heap.size, 0, none⟩) 1 1), y.oneCell' = true) := fun y hy => by
        simp [ntrow] at hy; rcases hy with rfl | rfl | rfl <;> rfl
      have HM1 : Hid (l.length + 1 ≤ maxLen) := by show _ ≤ _; unfold maxLen; omega
      have HM2 : Hid ((l.length + 1) * 40 ≤ 140737488355328) := by show _ ≤ _; omega
      have HB9 : ∀ X Y : Obj, Below wr.heap.size wr ((wr.alloc X).alloc Y) := fun X Y => bAlloc (bAlloc (bRefl _) _) _
      clear hln
      go_wp2_with (first
        | (at_builtin; refine wpList_append_lies _ rfl _ _ 25 rfl w3.heap.size 42 i0 _ 3 40 Tryd.underlying25 hi0 hz0 hz1 hz2 rfl (by decide) (.slice A9 l.length c9) l.length _ rfl (own_block hu0.out.own fun g hg hl => (HB9 _ _).block g hl) ⟨wr.heap.size + 1, 0, none⟩ 1 1 (ntrow (noteL i) (.slice (some ⟨wr.heap.size, 0, none⟩) 1 1)) rfl rfl HNEWS.out HONE.out (by decide) HM1.out HM2.out (by simp; omega) (wr.heap.size + 1 + 1) (by simp) ?_; intro gn cn w6 ho6 hg6 hat6 hgl6; have HO6 := hid_mk ho6; have HG6 := hid_mk hg6; have HAT6 := hid_mk hat6; clear ho6 hg6 hat6 hgl6))
      go_roundg (more - (i + 1))
      case measure => omega
      case rel => exact ⟨i + 1, rfl, by omega, by go_num, _, by rw [HBS.out]; exact NR.two (x := noteL i) hu0.out hbw.out.size rfl HO6.out HG6.out HAT6.out, (bTrans hbw.out (HB9 _ _)).grown HG6.out (by simp; omega) (fun j hj => (own_lt hu0.out.own hj).1)⟩
    · obtain rfl : i = more := by omega
      have hal : X.acts.length = 2 := by rw [HA.out]; rfl
      have hgw := HGR.out.below (bTrans HZ.out hbw.out)
      have g3 : wr.cell? ⟨ga, 3, none⟩ = some (.int .i64 0) := (hgw.rd 0 ⟨[4], false, 0, 0, (o0 : Int)⟩ (by rw [HA.out]; rfl)).2.2.2.1
      have fz : ∀ o, wr.frozen? ⟨ga, o, none⟩ = false := hgw.frozen
      have hg3l := hgw.lt
      have hsz0 := HB2s.out
      have hga1 : w1.heap.size + 1 ≤ ga := by simpa using HGN.out
      have hS : Same (fun b => b ≠ ga) wr (wr.setCell ⟨ga, 3, none⟩ (.int .i64 (i : Int))) := setCell_same fun _ h => h
      have hPBw := boxAt (boxAt HPB.out HZ.out) hbw.out
      have hWBw := boxAt HK8.out hbw.out
      obtain ⟨y0, y1, y2, y3, y4, y5⟩ := blk6 hWBw
      have hP5 := (hS.block w1.heap.size (by show w1.heap.size ≠ ga; omega) (Array.getElem?_eq_some_iff.1 hPBw).1).trans hPBw
      have hW5 := (hS.block w2.heap.size (by show w2.heap.size ≠ ga; omega) (Array.getElem?_eq_some_iff.1 hWBw).1).trans hWBw
      obtain ⟨p0, p1, p2, p3⟩ := blk4 hP5
      obtain ⟨x0, x1, x2, x3, x4, x5⟩ := blk6 hW5
      have hpw : PW _ w2.heap.size lo hi wr (.slice (some ⟨ga, 0, none⟩) 2 ca) (.slice B m0 d) X := HPW.out.below hbw.out
      have h10 := PW.setAct (k := 0) (i := 3) (off := 3) (y := ⟨[4], false, 0, 0, (o0 : Int)⟩) (y' := ⟨[4], false, 0, (i : Int), (o0 : Int)⟩) (v := .int .i64 (i : Int)) (by rw [hal]; exact hpw) (by rw [HA.out]; rfl) rfl (by omega) (by omega) rfl (Or.inr ⟨by omega, rfl⟩) (Or.inr ⟨by omega, rfl⟩) (Or.inl ⟨rfl, rfl⟩) (Or.inr ⟨by omega, rfl⟩)
      rw [hal] at h10
      have hX1 : ({ X with acts := X.acts.set 0 ⟨[4], false, 0, (i : Int), (o0 : Int)⟩ } : PWld).acts = [⟨[4], false, 0, (i : Int), (o0 : Int)⟩, ⟨[], false, 0, 0, (o1 : Int)⟩] := by
        show X.acts.set 0 _ = _; rw [HA.out]; rfl
      have hsm1 : SmW ({ X with acts := X.acts.set 0 ⟨[4], false, 0, (i : Int), (o0 : Int)⟩ } : PWld) := by
        refine ⟨by rw [hX1]; show (2 : Nat) ≤ 100; decide, fun y hy => ?_, HSX.out.mail, HSX.out.args⟩
        rw [hX1] at hy
        simp at hy
        rcases hy with rfl | rfl <;> (first | (show (1 : Nat) ≤ 1000; decide) | (show (0 : Nat) ≤ 1000; decide))
      have HSI := hid_mk (later_send (N := n) hX1 (show ({ X with acts := X.acts.set 0 ⟨[4], false, 0, (i : Int), (o0 : Int)⟩ } : PWld).used = ⟨0, 0, 0, 0⟩ from HU.out) HBM.out (show toN X.mail 1 = b from HT1.out) (fun m hm => (HRI.out.ids m hm).1) HMO.out (by omega) HM.out)
      have HB5 := hid_mk ((bTrans HB2.out (bTrans HZ.out hbw.out)).setCell (p := ⟨ga, 3, none⟩) (by have := HB1.out.size; show W.heap.size ≤ ga; omega) (.int .i64 (i : Int)))
      have HPRG := hid_mk (HP1.out.below ((bTrans (bAlloc (bRefl w1) (.cells #[.slice A1 1 c1, .slice A2 2 c2, .slice A3 n c3, .int .i64 5] 27)) (bTrans HB2w.out (bTrans HZ.out hbw.out))).setCell (p := ⟨ga, 3, none⟩) (by show w1.heap.size ≤ ga; omega) (.int .i64 (i : Int))))
      have HWLD := hid_mk (wldU (show ({ X with acts := X.acts.set 0 ⟨[4], false, 0, (i : Int), (o0 : Int)⟩ } : PWld).used = ⟨0, 0, 0, 0⟩ from HU.out) (h10.wn.wld hsm1))
      have hzz : ga < w3.heap.size := by have := HZ.out.size; have := HGR.out.lt; omega
      have hnt := (hu0.out.same hS.size fun x hx1 hx2 => hS.block x (by show x ≠ ga; rcases hx2 with hx2 | hx2; (omega); (have := (own_lt hu0.out.own hx2).1; omega)) hx1).ntes (by rw [later_len]; omega)
      have HNT : Hid (Ntes anyB anyB (wr.setCell ⟨ga, 3, none⟩ (.int .i64 (i : Int))) (.slice A9 (later i).length c9) (later i)) := hnt.imp (fun _ _ => trivial) (Nat.le_refl _) fun _ _ _ _ _ ⟨h1, h2, c, h3, h4⟩ => ⟨h1, h2, c, h3, h4.weak fun _ _ => trivial⟩
      have HGV := hid_mk (hgw.lt)
      have HWB5 := hid_mk hW5
      have HSM1 := hid_mk hsm1
      have HAR : Hid (∀ x ∈ later i, x.args.length ≤ 1000) := fun x hx => by
        obtain ⟨t, _, rfl⟩ := List.mem_map.1 hx
        show (1 : Nat) ≤ 1000; decide
      have HLL : Hid ((later i).length ≤ 100) := by show _ ≤ _; rw [later_len]; have := HMO.out; omega
      have g4 : (wr.setCell ⟨ga, 3, none⟩ (.int .i64 (i : Int))).cell? ⟨ga, 4, none⟩ = some (.int .i64 (o0 : Int)) ∧ (wr.setCell ⟨ga, 3, none⟩ (.int .i64 (i : Int))).cell? ⟨ga, 9, none⟩ = some (.int .i64 (o1 : Int)) := by
        obtain ⟨g', c', e, hc', hl'⟩ := h10.acts
        rcases hl' with ⟨e3, _⟩ | ⟨g2, e3, _, hr⟩
        · rw [hX1] at e3; cases e3
        · subst e3
          simp only [Value.slice.injEq, Option.some.injEq, Addr.mk.injEq] at e
          obtain ⟨⟨rfl, _⟩, _⟩ := e
          exact ⟨(hr.rd 0 ⟨[4], false, 0, (i : Int), (o0 : Int)⟩ (by rw [hX1]; rfl)).2.2.2.2, (hr.rd 1 ⟨[], false, 0, 0, (o1 : Int)⟩ (by rw [hX1]; rfl)).2.2.2.2⟩
      have HG4 := hid_mk g4
      clear hpw h10 hX1 hsm1 hnt hS hPBw hWBw hP5 hW5 hgw g4
      obtain ⟨q, hq⟩ : ∃ q, q = c - b := ⟨_, rfl⟩
      obtain ⟨m1, hm1⟩ : ∃ m1, m1 = a + c := ⟨_, rfl⟩
      obtain ⟨bm, hbm⟩ : ∃ bm, bm = b + i := ⟨_, rfl⟩
      obtain ⟨s1, hs1⟩ : ∃ s1, s1 = o1 + i := ⟨_, rfl⟩
      obtain ⟨o2, ho2⟩ : ∃ o2, o2 = o1 + (i - q) := ⟨_, rfl⟩
      have hcc := HC.out
      have hbmm := HBM.out
      have hmm := HM.out
      have hmoo := HMO.out
      have r1 : (b : Int) + (i : Int) = (bm : Int) := by omega
      have r2 : min bm most = c := by rw [hbm]; exact hcc.symm
      have r3 : (a : Int) + (c : Int) = (m1 : Int) := by omega
      have r4 : (o1 : Int) + (i : Int) = (s1 : Int) := by omega
      have r5 : (c : Int) - (b : Int) = (q : Int) := by omega
      have r6 : (s1 : Int) - (q : Int) = (o2 : Int) := by omega
      have v1 : bm ≤ 40 := by omega
      have v2 : c ≤ 16 := by omega
      have v3 : m1 ≤ 40 := by omega
      have v4 : s1 ≤ 40 := by omega
      have v5 : q ≤ 16 := by omega
      have v6 : o2 ≤ 40 := by omega
      have HMQ : Hid (m0 + q = m1) := by show _ = _; omega
      have HQ : Hid (min (b + i) most - b = q) := by show _ = _; omega
      have HO2 := hid_mk ho2
      clear hq hm1 hbm hs1 ho2 hcc hbmm
      go_wp2_with fail
      refine (send_any _ _ _ _ (twoP n most) _ 0 (later i) HPRG.out HWLD.out HSM1.out HNT.out HLL.out HAR.out).mono ?_
      generalize sendP (twoP n most) { X with acts := X.acts.set 0 ⟨[4], false, 0, (i : Int), (o0 : Int)⟩ } 0 (later i) = X2 at HSI ⊢
      rintro e w5 ⟨av, mv, lo2, hi2, rfl, hwv, hb5⟩
      rw [HSI.out.used]
      have HX2a : Hid (X2.acts = [⟨[4], false, 0, (i : Int), (o0 : Int)⟩, ⟨[], false, 0, 0, (o2 : Int)⟩]) := by
        show _ = _; rw [HSI.out.acts, HQ.out, HO2.out]
      have SMX2 : SmW X2 := by
        have hl : X2.mail = X.mail ++ msgsL q := by rw [HSI.out.mail, HQ.out]
        refine ⟨by rw [HX2a.out]; show (2 : Nat) ≤ 100; decide, fun y hy => ?_, by rw [hl, List.length_append, msgsL_len]; have h1 := HML.out; have h2 : X.mail.length = m0 := h1; omega, fun m hm => ?_⟩
        · rw [HX2a.out] at hy
          simp at hy
          rcases hy with rfl | rfl <;> (first | (show (1 : Nat) ≤ 1000; decide) | (show (0 : Nat) ≤ 1000; decide))
        · rw [hl] at hm
          rcases List.mem_append.1 hm with hm | hm
          · exact HSX.out.args m hm
          · obtain ⟨t, _, rfl⟩ := msgsL_mem hm; show (1 : Nat) ≤ 1000; decide
      have HX2m : Hid (X2.mail = X.mail ++ msgsL q) := by show _ = _; rw [HSI.out.mail, HQ.out]
      obtain ⟨gv, cv, Bv, dv, rfl, rfl, hgvN, hgvr⟩ := wn_two hwv (by rw [HX2a.out]; rfl) (show X2.mail.length = m1 by rw [HX2m.out, List.length_append, msgsL_len]; show X.mail.length + q = m1; rw [HML.out]; exact HMQ.out)
      have hgv4 := (hgvr.rd 0 ⟨[4], false, 0, (i : Int), (o0 : Int)⟩ (by rw [HX2a.out]; rfl)).2.2.2.2
      have hgv9 := (hgvr.rd 1 ⟨[], false, 0, 0, (o2 : Int)⟩ (by rw [HX2a.out]; rfl)).2.2.2.2
      have hgvl := hgvr.lt
      have HBV := hid_mk (bTrans HB5.out hb5)
      have HWV := hid_mk (wldU HSI.out.used (hwv.wld (x := X2) SMX2))
      have HPV := hid_mk (HPRG.out.below hb5)
      have hzg : ga < (wr.setCell ⟨ga, 3, none⟩ (.int .i64 (i : Int))).heap.size := by simpa [World.setCell] using HGV.out
      have hga4 := (hb5.cell (p := ⟨ga, 4, none⟩) hzg).trans HG4.out.1
      have hga9 := (hb5.cell (p := ⟨ga, 9, none⟩) hzg).trans HG4.out.2
      have hgal : ga < w5.heap.size := Nat.lt_of_lt_of_le hzg hb5.size
      have hwb := boxAt HWB5.out hb5
      have hpb := boxAt (boxAt (boxAt HPB.out HZ.out) hbw.out) (bRefl _)
      have HP5b : Hid (w5.heap[w1.heap.size]? = some (.cells #[.slice A1 1 c1, .slice A2 2 c2, .slice A3 n c3, .int .i64 5] 27)) := by
        refine boxAt (w2 := wr.setCell ⟨ga, 3, none⟩ (.int .i64 (i : Int))) ?_ hb5
        exact ((setCell_same (ok := fun b => b ≠ ga) (w := wr) (b := ga) (o := 3) (v := .int .i64 (i : Int)) fun _ h => h).block w1.heap.size (by show w1.heap.size ≠ ga; omega) (Array.getElem?_eq_some_iff.1 hpb).1).trans hpb
      clear p0 p1 p2 p3 x0 x1 x2 x3 x4 x5 y0 y1 y2 y3 y4 y5 g3 fz hg3l hpb
      have hm5 := hwv.mail
      clear hwv
      go_wp2_with fail
      have hZ6 : Below w5.heap.size w5 (w5.alloc (.cells #[.slice (some ⟨gv, 0, none⟩) 2 cv, .slice Bv m1 dv, .int .i64 0, .int .i64 0, .int .i64 0, .int .i64 0] 34)) := bAlloc (bRefl _) _
      have k14 := heap_new w5 (.cells #[.slice (some ⟨gv, 0, none⟩) 2 cv, .slice Bv m1 dv, .int .i64 0, .int .i64 0, .int .i64 0, .int .i64 0] 34)
      replace hwb := boxAt hwb hZ6
      replace hgv4 := (hZ6.cell (p := ⟨gv, _, none⟩) hgvl).trans hgv4
      replace hgv9 := (hZ6.cell (p := ⟨gv, _, none⟩) hgvl).trans hgv9
      replace hga4 := (hZ6.cell (p := ⟨ga, _, none⟩) hgal).trans hga4
      replace hga9 := (hZ6.cell (p := ⟨ga, _, none⟩) hgal).trans hga9
      have hm6 := hm5.below hZ6
      have HBV6 := hid_mk (bTrans HBV.out hZ6)
      have HWV6 := hid_mk (HWV.out.below hZ6)
      have HPV6 := hid_mk (HPV.out.below hZ6)
      have HP6b := hid_mk (boxAt HP5b.out hZ6)
      have hgv6 := Nat.lt_of_lt_of_le hgvl hZ6.size
      have hga6 := Nat.lt_of_lt_of_le hgal hZ6.size
      generalize (w5.alloc (.cells #[.slice (some ⟨gv, 0, none⟩) 2 cv, .slice Bv m1 dv, .int .i64 0, .int .i64 0, .int .i64 0, .int .i64 0] 34)) = w6 at hZ6 k14 hwb hgv4 hgv9 hga4 hga9 hm6 HBV6 HWV6 HPV6 HP6b hgv6 hga6 ⊢
      clear hZ6 hm5
      have HK14 := hid_mk k14
      have HKW := hid_mk hwb
      have HM6 := hid_mk hm6
      have HS1 : Hid (∀ w', Below w6.heap.size w6 w' → w'.cell? ⟨w5.heap.size, 0, none⟩ = some (.slice (some ⟨gv, 0, none⟩) 2 cv) ∧ w'.cell? ⟨w5.heap.size, 1, none⟩ = some (.slice Bv m1 dv) ∧ w'.cell? ⟨w2.heap.size, 0, none⟩ = some (.slice (some ⟨ga, 0, none⟩) 2 ca) ∧ w'.cell? ⟨gv, 4, none⟩ = some (.int .i64 (o0 : Int)) ∧ w'.cell? ⟨gv, 9, none⟩ = some (.int .i64 (o2 : Int)) ∧ w'.cell? ⟨ga, 4, none⟩ = some (.int .i64 (o0 : Int)) ∧ w'.cell? ⟨ga, 9, none⟩ = some (.int .i64 (o1 : Int))) := fun w' hb => by
        obtain ⟨a0, a1, _⟩ := blk6 (boxAt HK14.out hb)
        obtain ⟨b0, _⟩ := blk6 (boxAt HKW.out hb)
        exact ⟨a0, a1, b0, (hb.cell (p := ⟨gv, _, none⟩) hgv6).trans hgv4, (hb.cell (p := ⟨gv, _, none⟩) hgv6).trans hgv9, (hb.cell (p := ⟨ga, _, none⟩) hga6).trans hga4, (hb.cell (p := ⟨ga, _, none⟩) hga6).trans hga9⟩
      have hbb : Below w6.heap.size w6 w6 := bRefl _
      clear hgv4 hgv9 hga4 hga9 k14 hwb hm6
      obtain ⟨z0, z1, z2, z3, z4, z5, z6⟩ := HS1.out w6 hbb
      have HR5 := hid_mk r5
      have w3' : IntKind.i64.wrap ((a : Int) + (c : Int)) = (m1 : Int) := by rw [IntKind.wrap_i64]; omega
      have w4' : IntKind.i64.wrap ((o1 : Int) + (i : Int)) = (s1 : Int) := by rw [IntKind.wrap_i64]; omega
      have w5' : IntKind.i64.wrap ((c : Int) - (b : Int)) = (q : Int) := by rw [IntKind.wrap_i64]; omega
      have w6' : IntKind.i64.wrap ((s1 : Int) - (q : Int)) = (o2 : Int) := by rw [IntKind.wrap_i64]; omega
      clear r3 r4 r5 r6
      refine wp_region_held_drew (S := fun w' => w'.cell? ⟨w5.heap.size, 0, none⟩ = some (.slice (some ⟨gv, 0, none⟩) 2 cv) ∧ w'.cell? ⟨w5.heap.size, 1, none⟩ = some (.slice Bv m1 dv) ∧ w'.cell? ⟨w2.heap.size, 0, none⟩ = some (.slice (some ⟨ga, 0, none⟩) 2 ca) ∧ w'.cell? ⟨gv, 4, none⟩ = some (.int .i64 (o0 : Int)) ∧ w'.cell? ⟨gv, 9, none⟩ = some (.int .i64 (o2 : Int)) ∧ w'.cell? ⟨ga, 4, none⟩ = some (.int .i64 (o0 : Int)) ∧ w'.cell? ⟨ga, 9, none⟩ = some (.int .i64 (o1 : Int))) (by kernel_rfl) ?_ (fun hHeld => ?_)
      · exact HS1.out _ (by first | exact hbb | exact hbb.drew)
      refine wpAnyH_take (i := 0) (oi := { dst := some 122, op := Go.Op.fieldAddr 34 (Go.Operand.tmp 14) 0, type := 0, pos := "law.go:91", after := #[], guard := none }) (v := ?_) rfl (by kernel_rfl) (by kernel_rfl) (by kernel_rfl) (fun _ _ _ h => h) (Or.inl ⟨by rfl, ?_⟩) (by assumption) ?_
      rotate_left
      · intro w hSw
        try dsimp only at hSw
        go_simp
        try with_reducible rfl
      try simp only [Act.put, List.setIfInBounds_toArray, List.set_cons_zero, List.set_cons_succ]
      refine wpAnyH_take (i := 1) (oi := { dst := some 123, op := Go.Op.load 29 (Go.Operand.tmp 122), type := 29, pos := "law.go:91", after := #[{ on := 0, ground := Go.Ground.data }], guard := none }) (v := ?_) rfl (by kernel_rfl) (by kernel_rfl) (by kernel_rfl) (fun _ _ _ h => h) (Or.inl ⟨by rfl, ?_⟩) (by assumption) ?_
      rotate_left
      · intro w hSw
        try dsimp only at hSw
        go_simp
        try with_reducible rfl
      try simp only [Act.put, List.setIfInBounds_toArray, List.set_cons_zero, List.set_cons_succ]
      refine wpAnyH_take (i := 2) (oi := { dst := some 124, op := Go.Op.call { callee := Go.Callee.builtin Go.Builtin.len, args := #[Go.Operand.tmp 123], argTypes := #[29] }, type := 3, pos := "law.go:91", after := #[{ on := 1, ground := Go.Ground.data }], guard := none }) (v := ?_) rfl (by kernel_rfl) (by kernel_rfl) (by kernel_rfl) (fun _ _ _ h => h) (Or.inl ⟨by rfl, ?_⟩) (by assumption) ?_
      rotate_left
      · intro w hSw
        try dsimp only at hSw
        go_simp
        try with_reducible rfl
      try simp only [Act.put, List.setIfInBounds_toArray, List.set_cons_zero, List.set_cons_succ]
      refine wpAnyH_take (i := 3) (oi := { dst := some 125, op := Go.Op.binOp Go.BinOp.neq 3 (Go.Operand.tmp 124) (Go.Operand.const (Go.Value.int Go.IntKind.i64 2)) 3, type := 4, pos := "law.go:91", after := #[{ on := 2, ground := Go.Ground.data }], guard := none }) (v := ?_) rfl (by kernel_rfl) (by kernel_rfl) (by kernel_rfl) (fun _ _ _ h => h) (Or.inl ⟨by rfl, ?_⟩) (by assumption) ?_
      rotate_left
      · intro w hSw
        try dsimp only at hSw
        go_simp
        try with_reducible rfl
      try simp only [Act.put, List.setIfInBounds_toArray, List.set_cons_zero, List.set_cons_succ]
      refine wpAnyH_take (i := 4) (oi := { dst := some 126, op := Go.Op.move (Go.Operand.tmp 125), type := 4, pos := "law.go:91", after := #[{ on := 3, ground := Go.Ground.data }], guard := none }) (v := ?_) rfl (by kernel_rfl) (by kernel_rfl) (by kernel_rfl) (fun _ _ _ h => h) (Or.inl ⟨by rfl, ?_⟩) (by assumption) ?_
      rotate_left
      · intro w hSw
        try dsimp only at hSw
        go_simp
        try with_reducible rfl
      try simp only [Act.put, List.setIfInBounds_toArray, List.set_cons_zero, List.set_cons_succ]
      refine wpAnyH_take (i := 5) (oi := { dst := some 127, op := Go.Op.fieldAddr 34 (Go.Operand.tmp 14) 1, type := 0, pos := "law.go:91", after := #[{ on := 4, ground := Go.Ground.guard }], guard := some (4, false) }) (v := ?_) rfl (by kernel_rfl) (by kernel_rfl) (by kernel_rfl) (fun _ _ _ h => h) (Or.inl ⟨by rfl, ?_⟩) (by assumption) ?_
      rotate_left
      · intro w hSw
        try dsimp only at hSw
        go_simp
        try with_reducible rfl
      try simp only [Act.put, List.setIfInBounds_toArray, List.set_cons_zero, List.set_cons_succ]
      refine wpAnyH_take (i := 6) (oi := { dst := some 128, op := Go.Op.load 30 (Go.Operand.tmp 127), type := 30, pos := "law.go:91", after := #[{ on := 5, ground := Go.Ground.data }, { on := 4, ground := Go.Ground.guard }], guard := some (4, false) }) (v := ?_) rfl (by kernel_rfl) (by kernel_rfl) (by kernel_rfl) (fun _ _ _ h => h) (Or.inl ⟨by rfl, ?_⟩) (by assumption) ?_
      rotate_left
      · intro w hSw
        try dsimp only at hSw
        go_simp
        try with_reducible rfl
      try simp only [Act.put, List.setIfInBounds_toArray, List.set_cons_zero, List.set_cons_succ]
      refine wpAnyH_take (i := 7) (oi := { dst := some 129, op := Go.Op.call { callee := Go.Callee.builtin Go.Builtin.len, args := #[Go.Operand.tmp 128], argTypes := #[30] }, type := 3, pos := "law.go:91", after := #[{ on := 6, ground := Go.Ground.data }, { on := 4, ground := Go.Ground.guard }], guard := some (4, false) }) (v := ?_) rfl (by kernel_rfl) (by kernel_rfl) (by kernel_rfl) (fun _ _ _ h => h) (Or.inl ⟨by rfl, ?_⟩) (by assumption) ?_
      rotate_left
      · intro w hSw
        try dsimp only at hSw
        go_simp
        try with_reducible rfl
      try simp only [Act.put, List.setIfInBounds_toArray, List.set_cons_zero, List.set_cons_succ]
      refine wpAnyH_take (i := 8) (oi := { dst := some 130, op := Go.Op.move (Go.Operand.tmp 10), type := 3, pos := "law.go:91", after := #[{ on := 4, ground := Go.Ground.guard }], guard := some (4, false) }) (v := ?_) rfl (by kernel_rfl) (by kernel_rfl) (by kernel_rfl) (fun _ _ _ h => h) (Or.inl ⟨by rfl, ?_⟩) (by assumption) ?_
      rotate_left
      · intro w hSw
        try dsimp only at hSw
        go_simp
        try with_reducible rfl
      try simp only [Act.put, List.setIfInBounds_toArray, List.set_cons_zero, List.set_cons_succ]
      refine wpAnyH_take (i := 9) (oi := { dst := some 131, op := Go.Op.move (Go.Operand.tmp 15), type := 3, pos := "law.go:91", after := #[{ on := 4, ground := Go.Ground.guard }], guard := some (4, false) }) (v := ?_) rfl (by kernel_rfl) (by kernel_rfl) (by kernel_rfl) (fun _ _ _ h => h) (Or.inl ⟨by rfl, ?_⟩) (by assumption) ?_
      rotate_left
      · intro w hSw
        try dsimp only at hSw
        go_simp
        try with_reducible rfl
      try simp only [Act.put, List.setIfInBounds_toArray, List.set_cons_zero, List.set_cons_succ]
      refine wpAnyH_take (i := 10) (oi := { dst := some 132, op := Go.Op.binOp Go.BinOp.add 3 (Go.Operand.tmp 130) (Go.Operand.tmp 131) 3, type := 3, pos := "law.go:91", after := #[{ on := 8, ground := Go.Ground.data }, { on := 9, ground := Go.Ground.data }, { on := 4, ground := Go.Ground.guard }], guard := some (4, false) }) (v := ?_) rfl (by kernel_rfl) (by kernel_rfl) (by kernel_rfl) (fun _ _ _ h => h) (Or.inl ⟨by rfl, ?_⟩) (by assumption) ?_
      rotate_left
      · intro w hSw
        try dsimp only at hSw
        go_simp
        try with_reducible rfl
      try simp only [Act.put, List.setIfInBounds_toArray, List.set_cons_zero, List.set_cons_succ]
      refine wpAnyH_take (i := 11) (oi := { dst := some 133, op := Go.Op.binOp Go.BinOp.neq 3 (Go.Operand.tmp 129) (Go.Operand.tmp 132) 3, type := 4, pos := "law.go:91", after := #[{ on := 7, ground := Go.Ground.data }, { on := 10, ground := Go.Ground.data }, { on := 4, ground := Go.Ground.guard }], guard := some (4, false) }) (v := ?_) rfl (by kernel_rfl) (by kernel_rfl) (by kernel_rfl) (fun _ _ _ h => h) (Or.inl ⟨by rfl, ?_⟩) (by assumption) ?_
      rotate_left
      · intro w hSw
        try dsimp only at hSw
        go_simp
        try with_reducible rfl
      try simp only [Act.put, List.setIfInBounds_toArray, List.set_cons_zero, List.set_cons_succ]
      refine wpAnyH_take (i := 12) (oi := { dst := some 134, op := Go.Op.pick (Go.Operand.tmp 126) (Go.Operand.const (Go.Value.bool true)) (Go.Operand.tmp 133), type := 4, pos := "law.go:91", after := #[{ on := 4, ground := Go.Ground.data }, { on := 11, ground := Go.Ground.data }], guard := none }) (v := ?_) rfl (by kernel_rfl) (by kernel_rfl) (by kernel_rfl) (fun _ _ _ h => h) (Or.inl ⟨by rfl, ?_⟩) (by assumption) ?_
      rotate_left
      · intro w hSw
        try dsimp only at hSw
        go_simp
        try with_reducible rfl
      try simp only [Act.put, List.setIfInBounds_toArray, List.set_cons_zero, List.set_cons_succ]
      refine wpAnyH_take (i := 13) (oi := { dst := some 135, op := Go.Op.move (Go.Operand.tmp 134), type := 4, pos := "law.go:91", after := #[{ on := 12, ground := Go.Ground.data }, { on := 4, ground := Go.Ground.chain }], guard := none }) (v := ?_) rfl (by kernel_rfl) (by kernel_rfl) (by kernel_rfl) (fun _ _ _ h => h) (Or.inl ⟨by rfl, ?_⟩) (by assumption) ?_
      rotate_left
      · intro w hSw
        try dsimp only at hSw
        go_simp
        try with_reducible rfl
      try simp only [Act.put, List.setIfInBounds_toArray, List.set_cons_zero, List.set_cons_succ]
      refine wpAnyH_take (i := 14) (oi := { dst := some 136, op := Go.Op.fieldAddr 34 (Go.Operand.tmp 14) 0, type := 0, pos := "law.go:91", after := #[{ on := 13, ground := Go.Ground.guard }], guard := some (13, false) }) (v := ?_) rfl (by kernel_rfl) (by kernel_rfl) (by kernel_rfl) (fun _ _ _ h => h) (Or.inl ⟨by rfl, ?_⟩) (by assumption) ?_
      rotate_left
      · intro w hSw
        try dsimp only at hSw
        go_simp
        try with_reducible rfl
      try simp only [Act.put, List.setIfInBounds_toArray, List.set_cons_zero, List.set_cons_succ]
      refine wpAnyH_take (i := 15) (oi := { dst := some 137, op := Go.Op.load 29 (Go.Operand.tmp 136), type := 29, pos := "law.go:91", after := #[{ on := 14, ground := Go.Ground.data }, { on := 13, ground := Go.Ground.guard }], guard := some (13, false) }) (v := ?_) rfl (by kernel_rfl) (by kernel_rfl) (by kernel_rfl) (fun _ _ _ h => h) (Or.inl ⟨by rfl, ?_⟩) (by assumption) ?_
      rotate_left
      · intro w hSw
        try dsimp only at hSw
        go_simp
        try with_reducible rfl
      try simp only [Act.put, List.setIfInBounds_toArray, List.set_cons_zero, List.set_cons_succ]
      refine wpAnyH_take (i := 16) (oi := { dst := some 138, op := Go.Op.indexAddr 29 (Go.Operand.tmp 137) (Go.Operand.const (Go.Value.int Go.IntKind.i64 1)), type := 0, pos := "law.go:91", after := #[{ on := 15, ground := Go.Ground.data }, { on := 13, ground := Go.Ground.guard }], guard := some (13, false) }) (v := ?_) rfl (by kernel_rfl) (by kernel_rfl) (by kernel_rfl) (fun _ _ _ h => h) (Or.inl ⟨by rfl, ?_⟩) (by assumption) ?_
      rotate_left
      · intro w hSw
        try dsimp only at hSw
        go_simp
        try with_reducible rfl
      try simp only [Act.put, List.setIfInBounds_toArray, List.set_cons_zero, List.set_cons_succ]
      refine wpAnyH_take (i := 17) (oi := { dst := some 139, op := Go.Op.fieldAddr 40 (Go.Operand.tmp 138) 4, type := 0, pos := "law.go:91", after := #[{ on := 16, ground := Go.Ground.data }, { on := 13, ground := Go.Ground.guard }], guard := some (13, false) }) (v := ?_) rfl (by kernel_rfl) (by kernel_rfl) (by kernel_rfl) (fun _ _ _ h => h) (Or.inl ⟨by rfl, ?_⟩) (by assumption) ?_
      rotate_left
      · intro w hSw
        try dsimp only at hSw
        go_simp
        try with_reducible rfl
      try simp only [Act.put, List.setIfInBounds_toArray, List.set_cons_zero, List.set_cons_succ]
      refine wpAnyH_take (i := 18) (oi := { dst := some 140, op := Go.Op.load 3 (Go.Operand.tmp 139), type := 3, pos := "law.go:91", after := #[{ on := 17, ground := Go.Ground.data }, { on := 13, ground := Go.Ground.guard }], guard := some (13, false) }) (v := ?_) rfl (by kernel_rfl) (by kernel_rfl) (by kernel_rfl) (fun _ _ _ h => h) (Or.inl ⟨by rfl, ?_⟩) (by assumption) ?_
      rotate_left
      · intro w hSw
        try dsimp only at hSw
        go_simp
        try with_reducible rfl
      try simp only [Act.put, List.setIfInBounds_toArray, List.set_cons_zero, List.set_cons_succ]
      refine wpAnyH_take (i := 19) (oi := { dst := some 141, op := Go.Op.fieldAddr 34 (Go.Operand.tmp 8) 0, type := 0, pos := "law.go:91", after := #[{ on := 13, ground := Go.Ground.guard }], guard := some (13, false) }) (v := ?_) rfl (by kernel_rfl) (by kernel_rfl) (by kernel_rfl) (fun _ _ _ h => h) (Or.inl ⟨by rfl, ?_⟩) (by assumption) ?_
      rotate_left
      · intro w hSw
        try dsimp only at hSw
        go_simp
        try with_reducible rfl
      try simp only [Act.put, List.setIfInBounds_toArray, List.set_cons_zero, List.set_cons_succ]
      refine wpAnyH_take (i := 20) (oi := { dst := some 142, op := Go.Op.load 29 (Go.Operand.tmp 141), type := 29, pos := "law.go:91", after := #[{ on := 19, ground := Go.Ground.data }, { on := 13, ground := Go.Ground.guard }], guard := some (13, false) }) (v := ?_) rfl (by kernel_rfl) (by kernel_rfl) (by kernel_rfl) (fun _ _ _ h => h) (Or.inl ⟨by rfl, ?_⟩) (by assumption) ?_
      rotate_left
      · intro w hSw
        try dsimp only at hSw
        go_simp
        try with_reducible rfl
      try simp only [Act.put, List.setIfInBounds_toArray, List.set_cons_zero, List.set_cons_succ]
      refine wpAnyH_take (i := 21) (oi := { dst := some 143, op := Go.Op.indexAddr 29 (Go.Operand.tmp 142) (Go.Operand.const (Go.Value.int Go.IntKind.i64 1)), type := 0, pos := "law.go:91", after := #[{ on := 20, ground := Go.Ground.data }, { on := 13, ground := Go.Ground.guard }], guard := some (13, false) }) (v := ?_) rfl (by kernel_rfl) (by kernel_rfl) (by kernel_rfl) (fun _ _ _ h => h) (Or.inl ⟨by rfl, ?_⟩) (by assumption) ?_
      rotate_left
      · intro w hSw
        try dsimp only at hSw
        go_simp
        try with_reducible rfl
      try simp only [Act.put, List.setIfInBounds_toArray, List.set_cons_zero, List.set_cons_succ]
      refine wpAnyH_take (i := 22) (oi := { dst := some 144, op := Go.Op.fieldAddr 40 (Go.Operand.tmp 143) 4, type := 0, pos := "law.go:91", after := #[{ on := 21, ground := Go.Ground.data }, { on := 13, ground := Go.Ground.guard }], guard := some (13, false) }) (v := ?_) rfl (by kernel_rfl) (by kernel_rfl) (by kernel_rfl) (fun _ _ _ h => h) (Or.inl ⟨by rfl, ?_⟩) (by assumption) ?_
      rotate_left
      · intro w hSw
        try dsimp only at hSw
        go_simp
        try with_reducible rfl
      try simp only [Act.put, List.setIfInBounds_toArray, List.set_cons_zero, List.set_cons_succ]
      refine wpAnyH_take (i := 23) (oi := { dst := some 145, op := Go.Op.load 3 (Go.Operand.tmp 144), type := 3, pos := "law.go:91", after := #[{ on := 22, ground := Go.Ground.data }, { on := 13, ground := Go.Ground.guard }], guard := some (13, false) }) (v := ?_) rfl (by kernel_rfl) (by kernel_rfl) (by kernel_rfl) (fun _ _ _ h => h) (Or.inl ⟨by rfl, ?_⟩) (by assumption) ?_
      rotate_left
      · intro w hSw
        try dsimp only at hSw
        go_simp
        try with_reducible rfl
      try simp only [Act.put, List.setIfInBounds_toArray, List.set_cons_zero, List.set_cons_succ]
      refine wpAnyH_take (i := 24) (oi := { dst := some 146, op := Go.Op.move (Go.Operand.tmp 2), type := 3, pos := "law.go:91", after := #[{ on := 13, ground := Go.Ground.guard }], guard := some (13, false) }) (v := ?_) rfl (by kernel_rfl) (by kernel_rfl) (by kernel_rfl) (fun _ _ _ h => h) (Or.inl ⟨by rfl, ?_⟩) (by assumption) ?_
      rotate_left
      · intro w hSw
        try dsimp only at hSw
        go_simp
        try with_reducible rfl
      try simp only [Act.put, List.setIfInBounds_toArray, List.set_cons_zero, List.set_cons_succ]
      refine wpAnyH_take (i := 25) (oi := { dst := some 147, op := Go.Op.binOp Go.BinOp.add 3 (Go.Operand.tmp 145) (Go.Operand.tmp 146) 3, type := 3, pos := "law.go:91", after := #[{ on := 23, ground := Go.Ground.data }, { on := 24, ground := Go.Ground.data }, { on := 13, ground := Go.Ground.guard }], guard := some (13, false) }) (v := ?_) rfl (by kernel_rfl) (by kernel_rfl) (by kernel_rfl) (fun _ _ _ h => h) (Or.inl ⟨by rfl, ?_⟩) (by assumption) ?_
      rotate_left
      · intro w hSw
        try dsimp only at hSw
        go_simp
        try with_reducible rfl
      try simp only [Act.put, List.setIfInBounds_toArray, List.set_cons_zero, List.set_cons_succ]
      refine wpAnyH_take (i := 26) (oi := { dst := some 148, op := Go.Op.move (Go.Operand.tmp 15), type := 3, pos := "law.go:91", after := #[{ on := 13, ground := Go.Ground.guard }], guard := some (13, false) }) (v := ?_) rfl (by kernel_rfl) (by kernel_rfl) (by kernel_rfl) (fun _ _ _ h => h) (Or.inl ⟨by rfl, ?_⟩) (by assumption) ?_
      rotate_left
      · intro w hSw
        try dsimp only at hSw
        go_simp
        try with_reducible rfl
      try simp only [Act.put, List.setIfInBounds_toArray, List.set_cons_zero, List.set_cons_succ]
      refine wpAnyH_take (i := 27) (oi := { dst := some 149, op := Go.Op.move (Go.Operand.tmp 11), type := 3, pos := "law.go:91", after := #[{ on := 13, ground := Go.Ground.guard }], guard := some (13, false) }) (v := ?_) rfl (by kernel_rfl) (by kernel_rfl) (by kernel_rfl) (fun _ _ _ h => h) (Or.inl ⟨by rfl, ?_⟩) (by assumption) ?_
      rotate_left
      · intro w hSw
        try dsimp only at hSw
        go_simp
        try with_reducible rfl
      try simp only [Act.put, List.setIfInBounds_toArray, List.set_cons_zero, List.set_cons_succ]
      refine wpAnyH_take (i := 28) (oi := { dst := some 150, op := Go.Op.binOp Go.BinOp.sub 3 (Go.Operand.tmp 148) (Go.Operand.tmp 149) 3, type := 3, pos := "law.go:91", after := #[{ on := 26, ground := Go.Ground.data }, { on := 27, ground := Go.Ground.data }, { on := 13, ground := Go.Ground.guard }], guard := some (13, false) }) (v := ?_) rfl (by kernel_rfl) (by kernel_rfl) (by kernel_rfl) (fun _ _ _ h => h) (Or.inl ⟨by rfl, ?_⟩) (by assumption) ?_
      rotate_left
      · intro w hSw
        try dsimp only at hSw
        go_simp
        try with_reducible rfl
      try simp only [Act.put, List.setIfInBounds_toArray, List.set_cons_zero, List.set_cons_succ]
      refine wpAnyH_take (i := 29) (oi := { dst := some 151, op := Go.Op.binOp Go.BinOp.sub 3 (Go.Operand.tmp 147) (Go.Operand.tmp 150) 3, type := 3, pos := "law.go:91", after := #[{ on := 25, ground := Go.Ground.data }, { on := 28, ground := Go.Ground.data }, { on := 13, ground := Go.Ground.guard }], guard := some (13, false) }) (v := ?_) rfl (by kernel_rfl) (by kernel_rfl) (by kernel_rfl) (fun _ _ _ h => h) (Or.inl ⟨by rfl, ?_⟩) (by assumption) ?_
      rotate_left
      · intro w hSw
        try dsimp only at hSw
        go_simp
        try with_reducible rfl
      try simp only [Act.put, List.setIfInBounds_toArray, List.set_cons_zero, List.set_cons_succ]
      refine wpAnyH_take (i := 30) (oi := { dst := some 152, op := Go.Op.binOp Go.BinOp.neq 3 (Go.Operand.tmp 140) (Go.Operand.tmp 151) 3, type := 4, pos := "law.go:91", after := #[{ on := 18, ground := Go.Ground.data }, { on := 29, ground := Go.Ground.data }, { on := 13, ground := Go.Ground.guard }], guard := some (13, false) }) (v := ?_) rfl (by kernel_rfl) (by kernel_rfl) (by kernel_rfl) (fun _ _ _ h => h) (Or.inl ⟨by rfl, ?_⟩) (by assumption) ?_
      rotate_left
      · intro w hSw
        try dsimp only at hSw
        go_simp
        try with_reducible rfl
      try simp only [Act.put, List.setIfInBounds_toArray, List.set_cons_zero, List.set_cons_succ]
      refine wpAnyH_take (i := 31) (oi := { dst := some 153, op := Go.Op.pick (Go.Operand.tmp 135) (Go.Operand.const (Go.Value.bool true)) (Go.Operand.tmp 152), type := 4, pos := "law.go:91", after := #[{ on := 13, ground := Go.Ground.data }, { on := 30, ground := Go.Ground.data }], guard := none }) (v := ?_) rfl (by kernel_rfl) (by kernel_rfl) (by kernel_rfl) (fun _ _ _ h => h) (Or.inl ⟨by rfl, ?_⟩) (by assumption) ?_
      rotate_left
      · intro w hSw
        try dsimp only at hSw
        go_simp
        try with_reducible rfl
      try simp only [Act.put, List.setIfInBounds_toArray, List.set_cons_zero, List.set_cons_succ]
      refine wpAnyH_take (i := 32) (oi := { dst := some 154, op := Go.Op.move (Go.Operand.tmp 153), type := 4, pos := "law.go:91", after := #[{ on := 31, ground := Go.Ground.data }, { on := 13, ground := Go.Ground.chain }], guard := none }) (v := ?_) rfl (by kernel_rfl) (by kernel_rfl) (by kernel_rfl) (fun _ _ _ h => h) (Or.inl ⟨by rfl, ?_⟩) (by assumption) ?_
      rotate_left
      · intro w hSw
        try dsimp only at hSw
        go_simp
        try with_reducible rfl
      try simp only [Act.put, List.setIfInBounds_toArray, List.set_cons_zero, List.set_cons_succ]
      refine wpAnyH_take (i := 33) (oi := { dst := some 155, op := Go.Op.fieldAddr 34 (Go.Operand.tmp 14) 0, type := 0, pos := "law.go:91", after := #[{ on := 32, ground := Go.Ground.guard }], guard := some (32, false) }) (v := ?_) rfl (by kernel_rfl) (by kernel_rfl) (by kernel_rfl) (fun _ _ _ h => h) (Or.inl ⟨by rfl, ?_⟩) (by assumption) ?_
      rotate_left
      · intro w hSw
        try dsimp only at hSw
        go_simp
        try with_reducible rfl
      try simp only [Act.put, List.setIfInBounds_toArray, List.set_cons_zero, List.set_cons_succ]
      refine wpAnyH_take (i := 34) (oi := { dst := some 156, op := Go.Op.load 29 (Go.Operand.tmp 155), type := 29, pos := "law.go:91", after := #[{ on := 33, ground := Go.Ground.data }, { on := 32, ground := Go.Ground.guard }], guard := some (32, false) }) (v := ?_) rfl (by kernel_rfl) (by kernel_rfl) (by kernel_rfl) (fun _ _ _ h => h) (Or.inl ⟨by rfl, ?_⟩) (by assumption) ?_
      rotate_left
      · intro w hSw
        try dsimp only at hSw
        go_simp
        try with_reducible rfl
      try simp only [Act.put, List.setIfInBounds_toArray, List.set_cons_zero, List.set_cons_succ]
      refine wpAnyH_take (i := 35) (oi := { dst := some 157, op := Go.Op.indexAddr 29 (Go.Operand.tmp 156) (Go.Operand.const (Go.Value.int Go.IntKind.i64 0)), type := 0, pos := "law.go:91", after := #[{ on := 34, ground := Go.Ground.data }, { on := 32, ground := Go.Ground.guard }], guard := some (32, false) }) (v := ?_) rfl (by kernel_rfl) (by kernel_rfl) (by kernel_rfl) (fun _ _ _ h => h) (Or.inl ⟨by rfl, ?_⟩) (by assumption) ?_
      rotate_left
      · intro w hSw
        try dsimp only at hSw
        go_simp
        try with_reducible rfl
      try simp only [Act.put, List.setIfInBounds_toArray, List.set_cons_zero, List.set_cons_succ]
      refine wpAnyH_take (i := 36) (oi := { dst := some 158, op := Go.Op.fieldAddr 40 (Go.Operand.tmp 157) 4, type := 0, pos := "law.go:91", after := #[{ on := 35, ground := Go.Ground.data }, { on := 32, ground := Go.Ground.guard }], guard := some (32, false) }) (v := ?_) rfl (by kernel_rfl) (by kernel_rfl) (by kernel_rfl) (fun _ _ _ h => h) (Or.inl ⟨by rfl, ?_⟩) (by assumption) ?_
      rotate_left
      · intro w hSw
        try dsimp only at hSw
        go_simp
        try with_reducible rfl
      try simp only [Act.put, List.setIfInBounds_toArray, List.set_cons_zero, List.set_cons_succ]
      refine wpAnyH_take (i := 37) (oi := { dst := some 159, op := Go.Op.load 3 (Go.Operand.tmp 158), type := 3, pos := "law.go:91", after := #[{ on := 36, ground := Go.Ground.data }, { on := 32, ground := Go.Ground.guard }], guard := some (32, false) }) (v := ?_) rfl (by kernel_rfl) (by kernel_rfl) (by kernel_rfl) (fun _ _ _ h => h) (Or.inl ⟨by rfl, ?_⟩) (by assumption) ?_
      rotate_left
      · intro w hSw
        try dsimp only at hSw
        go_simp
        try with_reducible rfl
      try simp only [Act.put, List.setIfInBounds_toArray, List.set_cons_zero, List.set_cons_succ]
      refine wpAnyH_take (i := 38) (oi := { dst := some 160, op := Go.Op.fieldAddr 34 (Go.Operand.tmp 8) 0, type := 0, pos := "law.go:91", after := #[{ on := 32, ground := Go.Ground.guard }], guard := some (32, false) }) (v := ?_) rfl (by kernel_rfl) (by kernel_rfl) (by kernel_rfl) (fun _ _ _ h => h) (Or.inl ⟨by rfl, ?_⟩) (by assumption) ?_
      rotate_left
      · intro w hSw
        try dsimp only at hSw
        go_simp
        try with_reducible rfl
      try simp only [Act.put, List.setIfInBounds_toArray, List.set_cons_zero, List.set_cons_succ]
      refine wpAnyH_take (i := 39) (oi := { dst := some 161, op := Go.Op.load 29 (Go.Operand.tmp 160), type := 29, pos := "law.go:91", after := #[{ on := 38, ground := Go.Ground.data }, { on := 32, ground := Go.Ground.guard }], guard := some (32, false) }) (v := ?_) rfl (by kernel_rfl) (by kernel_rfl) (by kernel_rfl) (fun _ _ _ h => h) (Or.inl ⟨by rfl, ?_⟩) (by assumption) ?_
      rotate_left
      · intro w hSw
        try dsimp only at hSw
        go_simp
        try with_reducible rfl
      try simp only [Act.put, List.setIfInBounds_toArray, List.set_cons_zero, List.set_cons_succ]
      refine wpAnyH_take (i := 40) (oi := { dst := some 162, op := Go.Op.indexAddr 29 (Go.Operand.tmp 161) (Go.Operand.const (Go.Value.int Go.IntKind.i64 0)), type := 0, pos := "law.go:91", after := #[{ on := 39, ground := Go.Ground.data }, { on := 32, ground := Go.Ground.guard }], guard := some (32, false) }) (v := ?_) rfl (by kernel_rfl) (by kernel_rfl) (by kernel_rfl) (fun _ _ _ h => h) (Or.inl ⟨by rfl, ?_⟩) (by assumption) ?_
      rotate_left
      · intro w hSw
        try dsimp only at hSw
        go_simp
        try with_reducible rfl
      try simp only [Act.put, List.setIfInBounds_toArray, List.set_cons_zero, List.set_cons_succ]
      refine wpAnyH_take (i := 41) (oi := { dst := some 163, op := Go.Op.fieldAddr 40 (Go.Operand.tmp 162) 4, type := 0, pos := "law.go:91", after := #[{ on := 40, ground := Go.Ground.data }, { on := 32, ground := Go.Ground.guard }], guard := some (32, false) }) (v := ?_) rfl (by kernel_rfl) (by kernel_rfl) (by kernel_rfl) (fun _ _ _ h => h) (Or.inl ⟨by rfl, ?_⟩) (by assumption) ?_
      rotate_left
      · intro w hSw
        try dsimp only at hSw
        go_simp
        try with_reducible rfl
      try simp only [Act.put, List.setIfInBounds_toArray, List.set_cons_zero, List.set_cons_succ]
      refine wpAnyH_take (i := 42) (oi := { dst := some 164, op := Go.Op.load 3 (Go.Operand.tmp 163), type := 3, pos := "law.go:91", after := #[{ on := 41, ground := Go.Ground.data }, { on := 32, ground := Go.Ground.guard }], guard := some (32, false) }) (v := ?_) rfl (by kernel_rfl) (by kernel_rfl) (by kernel_rfl) (fun _ _ _ h => h) (Or.inl ⟨by rfl, ?_⟩) (by assumption) ?_
      rotate_left
      · intro w hSw
        try dsimp only at hSw
        go_simp
        try with_reducible rfl
      try simp only [Act.put, List.setIfInBounds_toArray, List.set_cons_zero, List.set_cons_succ]
      refine wpAnyH_take (i := 43) (oi := { dst := some 165, op := Go.Op.binOp Go.BinOp.neq 3 (Go.Operand.tmp 159) (Go.Operand.tmp 164) 3, type := 4, pos := "law.go:91", after := #[{ on := 37, ground := Go.Ground.data }, { on := 42, ground := Go.Ground.data }, { on := 32, ground := Go.Ground.guard }], guard := some (32, false) }) (v := ?_) rfl (by kernel_rfl) (by kernel_rfl) (by kernel_rfl) (fun _ _ _ h => h) (Or.inl ⟨by rfl, ?_⟩) (by assumption) ?_
      rotate_left
      · intro w hSw
        try dsimp only at hSw
        go_simp
        try with_reducible rfl
      try simp only [Act.put, List.setIfInBounds_toArray, List.set_cons_zero, List.set_cons_succ]
      refine wpAnyH_take (i := 44) (oi := { dst := some 166, op := Go.Op.pick (Go.Operand.tmp 154) (Go.Operand.const (Go.Value.bool true)) (Go.Operand.tmp 165), type := 4, pos := "law.go:91", after := #[{ on := 32, ground := Go.Ground.data }, { on := 43, ground := Go.Ground.data }], guard := none }) (v := ?_) rfl (by kernel_rfl) (by kernel_rfl) (by kernel_rfl) (fun _ _ _ h => h) (Or.inl ⟨by rfl, ?_⟩) (by assumption) ?_
      rotate_left
      · intro w hSw
        try dsimp only at hSw
        go_simp
        try with_reducible rfl
      try simp only [Act.put, List.setIfInBounds_toArray, List.set_cons_zero, List.set_cons_succ]
      refine wpAnyH_done (by kernel_rfl) ?_ _
      clear z0 z1 z2 z3 z4 z5 z6
      have r5 := HR5.out
      go_wp2
      go_loopg [16] q (fun g i16 wr => ∃ t : Nat, g = q - t ∧ t ≤ q ∧ i16 = .int .i64 (t : Int) ∧ Hid (Below w6.heap.size w6 wr))
      case atStart => exact ⟨0, rfl, by omega, rfl, (by first | exact hbb | exact hbb.drew)⟩
      case round =>
        obtain ⟨t, rfl, htq, rfl, hbw6⟩ := hrel
        obtain ⟨z0, z1, z2, z3, z4, z5, z6⟩ := HS1.out _ hbw6.out
        by_cases hlt2 : t < q
        · obtain ⟨j, hj⟩ : ∃ j, j = m0 + t := ⟨_, rfl⟩
          have hji : (m0 : Int) + (t : Int) = (j : Int) := by omega
          have hjl2 : j < m1 := by have := HMQ.out; omega
          have hjl : (j : Int) < (m1 : Int) := by omega
          have hj0 : (0 : Int) ≤ (j : Int) := by omega
          have hmj : X2.mail[j]? = some (msgL t) := by
            have hx : X.mail.length = m0 := HML.out
            rw [HX2m.out, List.getElem?_append_right (by omega), hx, show j - m0 = t by omega]
            unfold msgsL
            rw [List.getElem?_map, List.getElem?_range hlt2]; rfl
          obtain ⟨mb, mo, hA, _, hml, hmc⟩ := HM6.out.at (by have := (List.getElem?_eq_some_iff.1 hmj).1; omega)
          cases hA
          obtain ⟨f0, f1, f2, _⟩ := hmc j (msgL t) hmj
          have k0 : wr.cell? ⟨mb, mo + j * 6, none⟩ = some (.int .i64 0) := (hbw6.out.cell (p := ⟨mb, _, none⟩) hml).trans f0
          have k1 : wr.cell? ⟨mb, mo + j * 6 + 1, none⟩ = some (.int .i64 (t : Int)) := (hbw6.out.cell (p := ⟨mb, _, none⟩) hml).trans f1
          have k2 : wr.cell? ⟨mb, mo + j * 6 + 2, none⟩ = some (.int .i64 0) := (hbw6.out.cell (p := ⟨mb, _, none⟩) hml).trans f2
          have hsd : sameD ⟨0, (t : Int), 0⟩ ⟨0, (t : Int), 0⟩ = true := by simp [sameD]
          have hgD := gD
          have hltI : (t : Int) < (q : Int) := by omega
          clear hmc hmj hj f0 f1 f2
          go_wp2
          go_roundg (q - (t + 1))
          case measure => omega
          case rel => exact ⟨t + 1, rfl, by omega, by first | rfl | go_num, hbw6⟩
        · obtain rfl : t = q := by omega
          have hcw : chkW (twoP n most) X2 = true := room_chk HN.out HM.out HMO.out (show o0 ≤ 16 by omega) (show o1 ≤ 16 by omega) (by have h := HSI.out; rw [← HXE.out] at h; exact h)
          obtain ⟨p0, p1, p2, p3⟩ := blk4 (boxAt HP6b.out hbw6.out)
          obtain ⟨v0, v1', v2', v3', v4', v5'⟩ := blk6 (boxAt HK14.out hbw6.out)
          go_wp2_with (first
            | (go_at_call 15; refine (check_W _ _ _ (twoP n most) X2 (HE.out.below (bTrans HBV6.out hbw6.out)).tab (HPV6.out.below hbw6.out) (HWV6.out.below hbw6.out)).mono ?_; rintro e w8 ⟨rfl, hb8⟩; have HB8 := hid_mk (bTrans (bTrans HBV6.out hbw6.out) hb8); clear hb8)
            | (go_at_call 11; refine (awake_any _ (HE.out.below HB8.out)).mono ?_; rintro e w9 ⟨rfl, hb9⟩))
          go_ret
          exact ⟨rfl, bTrans HB8.out hb9⟩
end
theorem room_any (W : World) (n most more : Int) (he : Env W) : Calls Tryd.prog 3 #[.int .i64 n, .int .i64 most, .int .i64 more] W fun e w' => e = .returned (.bool true) ∧ Below W.heap.size W w' := by
  by_cases h0 : n < 0
  · exact room_o0 W n most more he h0
  by_cases h1 : 16 < n
  · exact room_o1 W n most more he h0 h1
  by_cases h2 : most < 0
  · exact room_o2 W n most more he h0 h1 h2
  by_cases h3 : 16 < most
  · exact room_o3 W n most more he h0 h1 h2 h3
  by_cases h4 : more < 0
  · exact room_o4 W n most more he h0 h1 h2 h3 h4
  by_cases h5 : 20 < more
  · exact room_o5 W n most more he h0 h1 h2 h3 h4 h5
  obtain ⟨a, rfl⟩ := Int.eq_ofNat_of_zero_le (show 0 ≤ n by omega)
  obtain ⟨b, rfl⟩ := Int.eq_ofNat_of_zero_le (show 0 ≤ most by omega)
  obtain ⟨c, rfl⟩ := Int.eq_ofNat_of_zero_le (show 0 ≤ more by omega)
  exact room_yes W a b c he (by omega) (by omega) (by omega)
end Go.Proofs.YtflpkdhmkgidiaaDoor
