/-
  Just as many faults as a budget lets (EventBudgets), walked. Conditions: numbers of 64 bits; the table of the instructions is in the world.
-/
import Derived.Test.YtflpkdhmkgidiaaDoorEb
import Derived.Test.YtflpkdhmkgidiaaDoorEp
namespace Go.Proofs.YtflpkdhmkgidiaaDoor
open Go.RowKit
theorem EN.kind {W wr : World} {l : List PEv} {g n c i : Nat} {e : PEv} (h : EN W wr (.slice (some ⟨g, 0, none⟩) n c) l) (hi : l[i]? = some e) : wr.cell? ⟨g, i * 5, none⟩ = some (.int .i64 e.kind) := by
  refine h.cell (j := i * 5) ?_
  have := flat_at (l.map erow) (erow_len l) i 0 (by decide)
  rw [Nat.add_zero] at this
  rw [this, List.getElem?_map, hi]; rfl
theorem stepI {t : Nat} (h : t ≤ 1000) : Value.int .i64 (wrap64 ((t : Int) + 1)) = .int .i64 ((t + 1 : Nat) : Int) := by
  rw [IntWalk.wrap64_in _ ⟨by omega, by omega⟩]; rfl
theorem wldB {w : World} {a m : Value} {x : PWld} (u : PBud) (h : WldV w (wVal x.used a m) x) : WldV w (wVal u a m) { x with used := u } := by
  obtain ⟨a', b', e, h1, h2⟩ := h
  simp only [Value.agg.injEq, Array.mk.injEq, List.cons.injEq, and_true] at e
  obtain ⟨rfl, rfl, _⟩ := e
  exact ⟨_, _, rfl, h1, h2⟩
theorem bud_o0 (w : World) (n kind a u : Int) (ht : Tab w)  (h0 : n < 0) : Calls Tryd.prog 8 #[.int .i64 n, .int .i64 kind, .int .i64 a, .int .i64 u] w fun e w' => e = .returned (.bool true) ∧ Below w.heap.size w w' := by
  have HT := hid_mk ht
  have d0 : decide (n < 0) = true := decide_eq_true h0
  clear ht h0
  go_enter Tryd.func8, Tryd.ntmps8
  go_wp2_with (first | (go_at_call 22; refine (ewake_any _ HT.out).mono ?_; rintro e w2 ⟨rfl, hb2⟩))
  go_ret
  exact ⟨rfl, hb2⟩
theorem bud_o1 (w : World) (n kind a u : Int) (ht : Tab w) (h0 : ¬ n < 0) (h1 : 4 < n) : Calls Tryd.prog 8 #[.int .i64 n, .int .i64 kind, .int .i64 a, .int .i64 u] w fun e w' => e = .returned (.bool true) ∧ Below w.heap.size w w' := by
  have HT := hid_mk ht
  have d0 : decide (n < 0) = false := decide_eq_false h0
  have d1 : decide (4 < n) = true := decide_eq_true h1
  clear ht h0 h1
  go_enter Tryd.func8, Tryd.ntmps8
  go_wp2_with (first | (go_at_call 22; refine (ewake_any _ HT.out).mono ?_; rintro e w2 ⟨rfl, hb2⟩))
  go_ret
  exact ⟨rfl, hb2⟩
theorem bud_o2 (w : World) (n kind a u : Int) (ht : Tab w) (h0 : ¬ n < 0) (h1 : ¬ 4 < n) (h2 : a < 0) : Calls Tryd.prog 8 #[.int .i64 n, .int .i64 kind, .int .i64 a, .int .i64 u] w fun e w' => e = .returned (.bool true) ∧ Below w.heap.size w w' := by
  have HT := hid_mk ht
  have d0 : decide (n < 0) = false := decide_eq_false h0
  have d1 : decide (4 < n) = false := decide_eq_false h1
  have d2 : decide (a < 0) = true := decide_eq_true h2
  clear ht h0 h1 h2
  go_enter Tryd.func8, Tryd.ntmps8
  go_wp2_with (first | (go_at_call 22; refine (ewake_any _ HT.out).mono ?_; rintro e w2 ⟨rfl, hb2⟩))
  go_ret
  exact ⟨rfl, hb2⟩
theorem bud_o3 (w : World) (n kind a u : Int) (ht : Tab w) (h0 : ¬ n < 0) (h1 : ¬ 4 < n) (h2 : ¬ a < 0) (h3 : 1000 < a) : Calls Tryd.prog 8 #[.int .i64 n, .int .i64 kind, .int .i64 a, .int .i64 u] w fun e w' => e = .returned (.bool true) ∧ Below w.heap.size w w' := by
  have HT := hid_mk ht
  have d0 : decide (n < 0) = false := decide_eq_false h0
  have d1 : decide (4 < n) = false := decide_eq_false h1
  have d2 : decide (a < 0) = false := decide_eq_false h2
  have d3 : decide (1000 < a) = true := decide_eq_true h3
  clear ht h0 h1 h2 h3
  go_enter Tryd.func8, Tryd.ntmps8
  go_wp2_with (first | (go_at_call 22; refine (ewake_any _ HT.out).mono ?_; rintro e w2 ⟨rfl, hb2⟩))
  go_ret
  exact ⟨rfl, hb2⟩
theorem bud_o4 (w : World) (n kind a u : Int) (ht : Tab w) (h0 : ¬ n < 0) (h1 : ¬ 4 < n) (h2 : ¬ a < 0) (h3 : ¬ 1000 < a) (h4 : u < 0) : Calls Tryd.prog 8 #[.int .i64 n, .int .i64 kind, .int .i64 a, .int .i64 u] w fun e w' => e = .returned (.bool true) ∧ Below w.heap.size w w' := by
  have HT := hid_mk ht
  have d0 : decide (n < 0) = false := decide_eq_false h0
  have d1 : decide (4 < n) = false := decide_eq_false h1
  have d2 : decide (a < 0) = false := decide_eq_false h2
  have d3 : decide (1000 < a) = false := decide_eq_false h3
  have d4 : decide (u < 0) = true := decide_eq_true h4
  clear ht h0 h1 h2 h3 h4
  go_enter Tryd.func8, Tryd.ntmps8
  go_wp2_with (first | (go_at_call 22; refine (ewake_any _ HT.out).mono ?_; rintro e w2 ⟨rfl, hb2⟩))
  go_ret
  exact ⟨rfl, hb2⟩
theorem bud_o5 (w : World) (n kind a u : Int) (ht : Tab w) (h0 : ¬ n < 0) (h1 : ¬ 4 < n) (h2 : ¬ a < 0) (h3 : ¬ 1000 < a) (h4 : ¬ u < 0) (h5 : 2000 < u) : Calls Tryd.prog 8 #[.int .i64 n, .int .i64 kind, .int .i64 a, .int .i64 u] w fun e w' => e = .returned (.bool true) ∧ Below w.heap.size w w' := by
  have HT := hid_mk ht
  have d0 : decide (n < 0) = false := decide_eq_false h0
  have d1 : decide (4 < n) = false := decide_eq_false h1
  have d2 : decide (a < 0) = false := decide_eq_false h2
  have d3 : decide (1000 < a) = false := decide_eq_false h3
  have d4 : decide (u < 0) = false := decide_eq_false h4
  have d5 : decide (2000 < u) = true := decide_eq_true h5
  clear ht h0 h1 h2 h3 h4 h5
  go_enter Tryd.func8, Tryd.ntmps8
  go_wp2_with (first | (go_at_call 22; refine (ewake_any _ HT.out).mono ?_; rintro e w2 ⟨rfl, hb2⟩))
  go_ret
  exact ⟨rfl, hb2⟩
set_option maxHeartbeats 8000000 in
set_option maxRecDepth 100000 in
theorem bud_2n (w : World) (n : Nat) (kind a u : Int) (ht : Tab w) (hn : n ≤ 4) (ha : 0 ≤ a ∧ a ≤ 1000) (hu : 0 ≤ u ∧ u ≤ 2000) (hk : rnd kind 4 = 0) (h : a ≤ u) : Calls Tryd.prog 8 #[.int .i64 (n : Int), .int .i64 kind, .int .i64 a, .int .i64 u] w fun e w' => e = .returned (.bool true) ∧ Below w.heap.size w w' := by
  have HT := hid_mk ht
  have d0 : decide ((n : Int) < 0) = false := decide_eq_false (by omega)
  have d1 : decide ((4 : Int) < (n : Int)) = false := decide_eq_false (by omega)
  have d2 : decide (a < 0) = false := decide_eq_false (by omega)
  have d3 : decide (1000 < a) = false := decide_eq_false (by omega)
  have d4 : decide (u < 0) = false := decide_eq_false (by omega)
  have d5 : decide (2000 < u) = false := decide_eq_false (by omega)
  have d6 : decide (a ≤ u) = true := decide_eq_true h
  obtain ⟨m, hm⟩ : ∃ m, n + 2 = m := ⟨_, rfl⟩
  have hwm : wrap64 ((n : Int) + 2) = (m : Int) := by rw [IntWalk.wrap64_in _ ⟨by omega, by omega⟩]; omega
  have hwm2 : (n : Int) + 2 = (m : Int) := by omega
  have hlen := bn2 hn ha hu h
  obtain ⟨L, hL⟩ : ∃ L, enabP (oneP n) ⟨a, 0, 0, 0⟩ (xB n ⟨u, 0, 0, 0⟩) = L := ⟨_, rfl⟩
  rw [hL] at hlen
  have hLm : ((L.length : Int) == (m : Int)) = true := beq_iff_eq.2 (by omega)
  clear hlen
  have HM := hid_mk hm
  have HXm := hid_mk (xn_mail hn)
  have HXa := hid_mk (xn_acts hn)
  clear ht ha hu h
  obtain ⟨i0, hi0, hz0, hz1, hz2⟩ := info_parts infoN
  go_enter Tryd.func8, Tryd.ntmps8
  go_wp2_with fail
  refine (one_any _).mono ?_
  rintro e w1 ⟨rfl, ho, hb1⟩
  have HTN0 := hid_mk (TN.start ho hb1)
  have HN := hid_mk hn
  clear ho hb1 hm
  go_wp2
  go_loopg [10] n (fun g i10 wr => ∃ i : Nat, g = n - i ∧ i ≤ n ∧ i10 = .int .i64 (i : Int) ∧ ∃ v, Hid (TN w w1.heap.size (bootN i) v wr))
  case atStart => exact ⟨0, rfl, by omega, rfl, _, HTN0⟩
  case round =>
    obtain ⟨i, rfl, hi, rfl, v, tw⟩ := hrel
    clear HTN0
    obtain ⟨us, hu0⟩ := tw.out.nt
    obtain ⟨A9, c9, rfl⟩ := hu0.form
    obtain ⟨p0, p1, p2, p3⟩ := blk4 tw.out.box
    have hpl := tw.out.plt
    by_cases hlt : i < n
    · have HBS := hid_mk (bootN_succ i)
      have hln := bootN_len i
      generalize bootN i = l at *
      have hmd := modC i
      have hltI : (i : Int) < n := by omega
      have HU := hid_mk hu0
      have HNB := hid_mk tw.out.nb
      have HNEWS : Hid (∀ j y, (ntrow (note0 i) (.slice none 0 0))[j]? = some y → (wr.alloc (.cells #[.int .i64 ((i % 2 : Nat) : Int), .int .i64 0, .slice none 0 0] 42)).cell? ((⟨wr.heap.size, 0, none⟩ : Addr).add j) = some y) := World.news_of_block (heap_new _ _)
      have HONE : Hid (∀ y ∈ ntrow (note0 i) (.slice none 0 0), y.oneCell' = true) := fun y hy => by
        simp [ntrow] at hy; rcases hy with rfl | rfl | rfl <;> rfl
      have HM1 : Hid (l.length + 1 ≤ maxLen) := by show _ ≤ _; unfold maxLen; omega
      have HM2 : Hid ((l.length + 1) * 40 ≤ 140737488355328) := by show _ ≤ _; omega
      have HLO : Hid (w.heap.size + 1 + 1 + 1 ≤ wr.heap.size + 1) := by show _ ≤ _; have := tw.out.hp; omega
      clear hu0 hln
      go_wp2_with (first
        | (at_builtin; refine wpList_append_lies _ rfl _ _ 25 rfl (w.heap.size + 1 + 1 + 1) 42 i0 _ 3 40 Tryd.underlying25 hi0 hz0 hz1 hz2 rfl (by decide) (.slice A9 l.length c9) l.length _ rfl (own_block HU.out.own fun g hg hl => (bAlloc (bRefl wr) _).block g hl) ⟨wr.heap.size, 0, none⟩ 1 1 (ntrow (note0 i) (.slice none 0 0)) rfl rfl HNEWS.out HONE.out (by decide) HM1.out HM2.out (by simpa using HLO.out) (wr.heap.size + 1) (by simp) ?_; intro gn cn w6 ho6 hg6 hat6 hgl6; have hk6 := (hg6.block w1.heap.size (by simp; omega) (fun e => HNB.out e.symm)).trans (boxAt tw.out.box (bAlloc (bRefl _) _)); obtain ⟨f0, f1, f2, f3⟩ := blk4 hk6; have ff : ∀ o, w6.frozen? ⟨w1.heap.size, o, none⟩ = false := (fun o => heap_frozen hk6); have HO6 := hid_mk ho6; have HG6 := hid_mk hg6; have HAT6 := hid_mk hat6; clear ho6 hg6 hat6 hgl6 hk6))
      go_roundg (n - (i + 1))
      case measure => omega
      case rel => exact ⟨i + 1, rfl, by omega, by go_num, _, by rw [HBS.out]; exact tw.out.next (x := note0 i) HU.out rfl HO6.out HG6.out HAT6.out⟩
    · obtain rfl : i = n := by omega
      have HP := hid_mk (tw.out.prg HN.out)
      clear hu0
      go_wp2_with fail
      refine (oneS (n := i) _ _ HN.out (HT.out.below tw.out.low) HP.out).mono ?_
      rintro e w2 ⟨ga, ca, B, d, lo, hi', rfl, hwn, hb2⟩
      rw [HM.out] at hwn ⊢
      have HWN := hid_mk hwn
      have HB2 := hid_mk (bTrans tw.out.low hb2)
      have HP2 := hid_mk (HP.out.below hb2)
      have hpb := boxAt tw.out.box hb2
      have z1 : w1.heap.size < w2.heap.size := (Array.getElem?_eq_some_iff.1 hpb).1
      clear p0 p1 p2 p3
      obtain ⟨p0, p1, p2, p3⟩ := blk4 hpb
      have q0 := fun X Y => ((bAlloc (bAlloc (bRefl w2) X) Y).cell (p := ⟨w1.heap.size, 0, none⟩) z1).trans p0
      have q1 := fun X Y => ((bAlloc (bAlloc (bRefl w2) X) Y).cell (p := ⟨w1.heap.size, 1, none⟩) z1).trans p1
      have q2 := fun X Y => ((bAlloc (bAlloc (bRefl w2) X) Y).cell (p := ⟨w1.heap.size, 2, none⟩) z1).trans p2
      have q3 := fun X Y => ((bAlloc (bAlloc (bRefl w2) X) Y).cell (p := ⟨w1.heap.size, 3, none⟩) z1).trans p3
      clear hwn hb2 hpb
      go_wp2_with (first | (go_at_call 17; refine (round_any _ _ _ (by decide) (by decide)).mono ?_; rw [hk]; rintro e w' ⟨rfl, rfl⟩))
      have hZ : Below w2.heap.size w2 ((w2.alloc (.cells #[.slice (some ⟨ga, 0, none⟩) 2 ca, .slice B m d, .int .i64 u, .int .i64 0, .int .i64 0, .int .i64 0] 34)).alloc (.cells #[.int .i64 a, .int .i64 0, .int .i64 0, .int .i64 0] 32)) := bAlloc (bAlloc (bRefl _) _) _
      generalize ((w2.alloc (.cells #[.slice (some ⟨ga, 0, none⟩) 2 ca, .slice B m d, .int .i64 u, .int .i64 0, .int .i64 0, .int .i64 0] 34)).alloc (.cells #[.int .i64 a, .int .i64 0, .int .i64 0, .int .i64 0] 32)) = w5 at hZ ⊢
      have hX0 := (HWN.out.below hZ).wld (xn_sm HN.out)
      refine (enab_any _ _ _ (oneP i) ⟨a, 0, 0, 0⟩ (xB i ⟨u, 0, 0, 0⟩) ((HT.out.below HB2.out).below hZ) (HP2.out.below hZ) (wldB ⟨u, 0, 0, 0⟩ hX0) (by show (xn i).mail.length ≤ 1000; rw [HXm.out]; have := HN.out; omega) (by show (xn i).acts.length ≤ 1000; rw [HXa.out]; decide)).mono ?_
      rintro e w6 ⟨v6, rfl, hen⟩
      rw [hL] at hen
      have HB6 := hid_mk (bTrans HB2.out (bTrans hZ hen.low))
      clear hX0 hZ q0 q1 q2 q3 p0 p1 p2 p3 z1
      obtain ⟨A7, c7, rfl⟩ := hen.form
      clear hen
      go_wp2_with (first | (go_at_call 22; refine (ewake_any _ (HT.out.below HB6.out)).mono ?_; rintro e w7 ⟨rfl, hb7⟩))
      go_ret
      exact ⟨rfl, bTrans HB6.out hb7⟩
set_option maxHeartbeats 8000000 in
set_option maxRecDepth 100000 in
theorem bud_2y (w : World) (n : Nat) (kind a u : Int) (ht : Tab w) (hn : n ≤ 4) (ha : 0 ≤ a ∧ a ≤ 1000) (hu : 0 ≤ u ∧ u ≤ 2000) (hk : rnd kind 4 = 0) (h : u < a) : Calls Tryd.prog 8 #[.int .i64 (n : Int), .int .i64 kind, .int .i64 a, .int .i64 u] w fun e w' => e = .returned (.bool true) ∧ Below w.heap.size w w' := by
  have HT := hid_mk ht
  have d0 : decide ((n : Int) < 0) = false := decide_eq_false (by omega)
  have d1 : decide ((4 : Int) < (n : Int)) = false := decide_eq_false (by omega)
  have d2 : decide (a < 0) = false := decide_eq_false (by omega)
  have d3 : decide (1000 < a) = false := decide_eq_false (by omega)
  have d4 : decide (u < 0) = false := decide_eq_false (by omega)
  have d5 : decide (2000 < u) = false := decide_eq_false (by omega)
  have d6 : decide (a ≤ u) = false := decide_eq_false (by omega)
  obtain ⟨m, hm⟩ : ∃ m, n + 2 = m := ⟨_, rfl⟩
  have hwm : wrap64 ((n : Int) + 2) = (m : Int) := by rw [IntWalk.wrap64_in _ ⟨by omega, by omega⟩]; omega
  have hwm2 : (n : Int) + 2 = (m : Int) := by omega
  have hok := by2 hn ha hu h
  obtain ⟨L, hL⟩ : ∃ L, enabP (oneP n) ⟨a, 0, 0, 0⟩ (xB n ⟨u, 0, 0, 0⟩) = L := ⟨_, rfl⟩
  rw [hL] at hok
  try rw [hm] at hok
  have HOK := hid_mk hok
  have HLL := hid_mk (okL_len hok)
  obtain ⟨tt, htt⟩ : ∃ tt : Nat, L.length = tt := ⟨_, rfl⟩
  have hwt : wrap64 ((m : Int) + (m : Int)) = (tt : Int) := by have := HLL.out; rw [IntWalk.wrap64_in _ ⟨by omega, by omega⟩]; omega
  have hwt2 : (m : Int) + (m : Int) = (tt : Int) := by have := HLL.out; omega
  have hLt : ((L.length : Int) == (tt : Int)) = true := beq_iff_eq.2 (by omega)
  have HLb : Hid (L.length ≤ 20) := by show _ ≤ _; have := HLL.out; omega
  clear hok htt
  have HM := hid_mk hm
  have HXm := hid_mk (xn_mail hn)
  have HXa := hid_mk (xn_acts hn)
  clear ht ha hu h
  obtain ⟨i0, hi0, hz0, hz1, hz2⟩ := info_parts infoN
  go_enter Tryd.func8, Tryd.ntmps8
  go_wp2_with fail
  refine (one_any _).mono ?_
  rintro e w1 ⟨rfl, ho, hb1⟩
  have HTN0 := hid_mk (TN.start ho hb1)
  have HN := hid_mk hn
  clear ho hb1 hm
  go_wp2
  go_loopg [10] n (fun g i10 wr => ∃ i : Nat, g = n - i ∧ i ≤ n ∧ i10 = .int .i64 (i : Int) ∧ ∃ v, Hid (TN w w1.heap.size (bootN i) v wr))
  case atStart => exact ⟨0, rfl, by omega, rfl, _, HTN0⟩
  case round =>
    obtain ⟨i, rfl, hi, rfl, v, tw⟩ := hrel
    clear HTN0
    obtain ⟨us, hu0⟩ := tw.out.nt
    obtain ⟨A9, c9, rfl⟩ := hu0.form
    obtain ⟨p0, p1, p2, p3⟩ := blk4 tw.out.box
    have hpl := tw.out.plt
    by_cases hlt : i < n
    · have HBS := hid_mk (bootN_succ i)
      have hln := bootN_len i
      generalize bootN i = l at *
      have hmd := modC i
      have hltI : (i : Int) < n := by omega
      have HU := hid_mk hu0
      have HNB := hid_mk tw.out.nb
      have HNEWS : Hid (∀ j y, (ntrow (note0 i) (.slice none 0 0))[j]? = some y → (wr.alloc (.cells #[.int .i64 ((i % 2 : Nat) : Int), .int .i64 0, .slice none 0 0] 42)).cell? ((⟨wr.heap.size, 0, none⟩ : Addr).add j) = some y) := World.news_of_block (heap_new _ _)
      have HONE : Hid (∀ y ∈ ntrow (note0 i) (.slice none 0 0), y.oneCell' = true) := fun y hy => by
        simp [ntrow] at hy; rcases hy with rfl | rfl | rfl <;> rfl
      have HM1 : Hid (l.length + 1 ≤ maxLen) := by show _ ≤ _; unfold maxLen; omega
      have HM2 : Hid ((l.length + 1) * 40 ≤ 140737488355328) := by show _ ≤ _; omega
      have HLO : Hid (w.heap.size + 1 + 1 + 1 ≤ wr.heap.size + 1) := by show _ ≤ _; have := tw.out.hp; omega
      clear hu0 hln
      go_wp2_with (first
        | (at_builtin; refine wpList_append_lies _ rfl _ _ 25 rfl (w.heap.size + 1 + 1 + 1) 42 i0 _ 3 40 Tryd.underlying25 hi0 hz0 hz1 hz2 rfl (by decide) (.slice A9 l.length c9) l.length _ rfl (own_block HU.out.own fun g hg hl => (bAlloc (bRefl wr) _).block g hl) ⟨wr.heap.size, 0, none⟩ 1 1 (ntrow (note0 i) (.slice none 0 0)) rfl rfl HNEWS.out HONE.out (by decide) HM1.out HM2.out (by simpa using HLO.out) (wr.heap.size + 1) (by simp) ?_; intro gn cn w6 ho6 hg6 hat6 hgl6; have hk6 := (hg6.block w1.heap.size (by simp; omega) (fun e => HNB.out e.symm)).trans (boxAt tw.out.box (bAlloc (bRefl _) _)); obtain ⟨f0, f1, f2, f3⟩ := blk4 hk6; have ff : ∀ o, w6.frozen? ⟨w1.heap.size, o, none⟩ = false := (fun o => heap_frozen hk6); have HO6 := hid_mk ho6; have HG6 := hid_mk hg6; have HAT6 := hid_mk hat6; clear ho6 hg6 hat6 hgl6 hk6))
      go_roundg (n - (i + 1))
      case measure => omega
      case rel => exact ⟨i + 1, rfl, by omega, by go_num, _, by rw [HBS.out]; exact tw.out.next (x := note0 i) HU.out rfl HO6.out HG6.out HAT6.out⟩
    · obtain rfl : i = n := by omega
      have HP := hid_mk (tw.out.prg HN.out)
      clear hu0
      go_wp2_with fail
      refine (oneS (n := i) _ _ HN.out (HT.out.below tw.out.low) HP.out).mono ?_
      rintro e w2 ⟨ga, ca, B, d, lo, hi', rfl, hwn, hb2⟩
      rw [HM.out] at hwn ⊢
      have HWN := hid_mk hwn
      have HB2 := hid_mk (bTrans tw.out.low hb2)
      have HP2 := hid_mk (HP.out.below hb2)
      have hpb := boxAt tw.out.box hb2
      have z1 : w1.heap.size < w2.heap.size := (Array.getElem?_eq_some_iff.1 hpb).1
      clear p0 p1 p2 p3
      obtain ⟨p0, p1, p2, p3⟩ := blk4 hpb
      have q0 := fun X Y => ((bAlloc (bAlloc (bRefl w2) X) Y).cell (p := ⟨w1.heap.size, 0, none⟩) z1).trans p0
      have q1 := fun X Y => ((bAlloc (bAlloc (bRefl w2) X) Y).cell (p := ⟨w1.heap.size, 1, none⟩) z1).trans p1
      have q2 := fun X Y => ((bAlloc (bAlloc (bRefl w2) X) Y).cell (p := ⟨w1.heap.size, 2, none⟩) z1).trans p2
      have q3 := fun X Y => ((bAlloc (bAlloc (bRefl w2) X) Y).cell (p := ⟨w1.heap.size, 3, none⟩) z1).trans p3
      clear hwn hb2 hpb
      go_wp2_with (first | (go_at_call 17; refine (round_any _ _ _ (by decide) (by decide)).mono ?_; rw [hk]; rintro e w' ⟨rfl, rfl⟩))
      have hZ : Below w2.heap.size w2 ((w2.alloc (.cells #[.slice (some ⟨ga, 0, none⟩) 2 ca, .slice B m d, .int .i64 u, .int .i64 0, .int .i64 0, .int .i64 0] 34)).alloc (.cells #[.int .i64 a, .int .i64 0, .int .i64 0, .int .i64 0] 32)) := bAlloc (bAlloc (bRefl _) _) _
      generalize ((w2.alloc (.cells #[.slice (some ⟨ga, 0, none⟩) 2 ca, .slice B m d, .int .i64 u, .int .i64 0, .int .i64 0, .int .i64 0] 34)).alloc (.cells #[.int .i64 a, .int .i64 0, .int .i64 0, .int .i64 0] 32)) = w5 at hZ ⊢
      have hX0 := (HWN.out.below hZ).wld (xn_sm HN.out)
      refine (enab_any _ _ _ (oneP i) ⟨a, 0, 0, 0⟩ (xB i ⟨u, 0, 0, 0⟩) ((HT.out.below HB2.out).below hZ) (HP2.out.below hZ) (wldB ⟨u, 0, 0, 0⟩ hX0) (by show (xn i).mail.length ≤ 1000; rw [HXm.out]; have := HN.out; omega) (by show (xn i).acts.length ≤ 1000; rw [HXa.out]; decide)).mono ?_
      rintro e w6 ⟨v6, rfl, hen⟩
      rw [hL] at hen
      have HB6 := hid_mk (bTrans HB2.out (bTrans hZ hen.low))
      clear hX0 hZ q0 q1 q2 q3 p0 p1 p2 p3 z1
      obtain ⟨g7, c7, rfl, hc7, hg7⟩ := hen.blk (by have := HLL.out; have := HM.out; omega)
      have HEN := hid_mk hen
      clear hen
      go_wp2
      go_loopg [17] L.length (fun g i17 wr => ∃ t : Nat, g = L.length - t ∧ t ≤ L.length ∧ i17 = .int .i64 (t : Int) ∧ wr = w6)
      case atStart => exact ⟨0, rfl, by omega, rfl, rfl⟩
      case round =>
        obtain ⟨t, rfl, ht, rfl, rfl⟩ := hrel
        by_cases hlt2 : t < L.length
        · obtain ⟨e, he⟩ := at_lt hlt2
          have hki := HEN.out.kind he
          have hltI : (t : Int) < L.length := by omega
          by_cases hlo : t < m
          · have hloI : decide ((t : Int) < (m : Int)) = true := decide_eq_true (by omega)
            have hloG : decide ((m : Int) ≤ (t : Int)) = false := decide_eq_false (by omega)
            rw [okL_lo HOK.out he hlo] at hki
            clear he
            go_wp2
            go_roundg (L.length - (t + 1))
            case measure => omega
            case rel => exact ⟨t + 1, rfl, by omega, (by first | rfl | exact stepI (by have := HLb.out; omega)), rfl⟩
          · have hloI : decide ((t : Int) < (m : Int)) = false := decide_eq_false (by omega)
            have hloG : decide ((m : Int) ≤ (t : Int)) = true := decide_eq_true (by omega)
            rw [okL_hi HOK.out he (by omega)] at hki
            clear he
            go_wp2
            go_roundg (L.length - (t + 1))
            case measure => omega
            case rel => exact ⟨t + 1, rfl, by omega, (by first | rfl | exact stepI (by have := HLb.out; omega)), rfl⟩
        · obtain rfl : t = L.length := by omega
          go_wp2_with (first | (go_at_call 22; refine (ewake_any _ (HT.out.below HB6.out)).mono ?_; rintro e w7 ⟨rfl, hb7⟩))
          go_ret
          exact ⟨rfl, bTrans HB6.out hb7⟩
set_option maxHeartbeats 8000000 in
set_option maxRecDepth 100000 in
theorem bud_3n (w : World) (n : Nat) (kind a u : Int) (ht : Tab w) (hn : n ≤ 4) (ha : 0 ≤ a ∧ a ≤ 1000) (hu : 0 ≤ u ∧ u ≤ 2000) (hk : rnd kind 4 = 1) (h : a ≤ u) : Calls Tryd.prog 8 #[.int .i64 (n : Int), .int .i64 kind, .int .i64 a, .int .i64 u] w fun e w' => e = .returned (.bool true) ∧ Below w.heap.size w w' := by
  have HT := hid_mk ht
  have d0 : decide ((n : Int) < 0) = false := decide_eq_false (by omega)
  have d1 : decide ((4 : Int) < (n : Int)) = false := decide_eq_false (by omega)
  have d2 : decide (a < 0) = false := decide_eq_false (by omega)
  have d3 : decide (1000 < a) = false := decide_eq_false (by omega)
  have d4 : decide (u < 0) = false := decide_eq_false (by omega)
  have d5 : decide (2000 < u) = false := decide_eq_false (by omega)
  have d6 : decide (a ≤ u) = true := decide_eq_true h
  obtain ⟨m, hm⟩ : ∃ m, n + 2 = m := ⟨_, rfl⟩
  have hwm : wrap64 ((n : Int) + 2) = (m : Int) := by rw [IntWalk.wrap64_in _ ⟨by omega, by omega⟩]; omega
  have hwm2 : (n : Int) + 2 = (m : Int) := by omega
  have hlen := bn3 hn ha hu h
  obtain ⟨L, hL⟩ : ∃ L, enabP (oneP n) ⟨0, a, 0, 0⟩ (xB n ⟨0, u, 0, 0⟩) = L := ⟨_, rfl⟩
  rw [hL] at hlen
  have hLm : ((L.length : Int) == (m : Int)) = true := beq_iff_eq.2 (by omega)
  clear hlen
  have HM := hid_mk hm
  have HXm := hid_mk (xn_mail hn)
  have HXa := hid_mk (xn_acts hn)
  clear ht ha hu h
  obtain ⟨i0, hi0, hz0, hz1, hz2⟩ := info_parts infoN
  go_enter Tryd.func8, Tryd.ntmps8
  go_wp2_with fail
  refine (one_any _).mono ?_
  rintro e w1 ⟨rfl, ho, hb1⟩
  have HTN0 := hid_mk (TN.start ho hb1)
  have HN := hid_mk hn
  clear ho hb1 hm
  go_wp2
  go_loopg [10] n (fun g i10 wr => ∃ i : Nat, g = n - i ∧ i ≤ n ∧ i10 = .int .i64 (i : Int) ∧ ∃ v, Hid (TN w w1.heap.size (bootN i) v wr))
  case atStart => exact ⟨0, rfl, by omega, rfl, _, HTN0⟩
  case round =>
    obtain ⟨i, rfl, hi, rfl, v, tw⟩ := hrel
    clear HTN0
    obtain ⟨us, hu0⟩ := tw.out.nt
    obtain ⟨A9, c9, rfl⟩ := hu0.form
    obtain ⟨p0, p1, p2, p3⟩ := blk4 tw.out.box
    have hpl := tw.out.plt
    by_cases hlt : i < n
    · have HBS := hid_mk (bootN_succ i)
      have hln := bootN_len i
      generalize bootN i = l at *
      have hmd := modC i
      have hltI : (i : Int) < n := by omega
      have HU := hid_mk hu0
      have HNB := hid_mk tw.out.nb
      have HNEWS : Hid (∀ j y, (ntrow (note0 i) (.slice none 0 0))[j]? = some y → (wr.alloc (.cells #[.int .i64 ((i % 2 : Nat) : Int), .int .i64 0, .slice none 0 0] 42)).cell? ((⟨wr.heap.size, 0, none⟩ : Addr).add j) = some y) := World.news_of_block (heap_new _ _)
      have HONE : Hid (∀ y ∈ ntrow (note0 i) (.slice none 0 0), y.oneCell' = true) := fun y hy => by
        simp [ntrow] at hy; rcases hy with rfl | rfl | rfl <;> rfl
      have HM1 : Hid (l.length + 1 ≤ maxLen) := by show _ ≤ _; unfold maxLen; omega
      have HM2 : Hid ((l.length + 1) * 40 ≤ 140737488355328) := by show _ ≤ _; omega
      have HLO : Hid (w.heap.size + 1 + 1 + 1 ≤ wr.heap.size + 1) := by show _ ≤ _; have := tw.out.hp; omega
      clear hu0 hln
      go_wp2_with (first
        | (at_builtin; refine wpList_append_lies _ rfl _ _ 25 rfl (w.heap.size + 1 + 1 + 1) 42 i0 _ 3 40 Tryd.underlying25 hi0 hz0 hz1 hz2 rfl (by decide) (.slice A9 l.length c9) l.length _ rfl (own_block HU.out.own fun g hg hl => (bAlloc (bRefl wr) _).block g hl) ⟨wr.heap.size, 0, none⟩ 1 1 (ntrow (note0 i) (.slice none 0 0)) rfl rfl HNEWS.out HONE.out (by decide) HM1.out HM2.out (by simpa using HLO.out) (wr.heap.size + 1) (by simp) ?_; intro gn cn w6 ho6 hg6 hat6 hgl6; have hk6 := (hg6.block w1.heap.size (by simp; omega) (fun e => HNB.out e.symm)).trans (boxAt tw.out.box (bAlloc (bRefl _) _)); obtain ⟨f0, f1, f2, f3⟩ := blk4 hk6; have ff : ∀ o, w6.frozen? ⟨w1.heap.size, o, none⟩ = false := (fun o => heap_frozen hk6); have HO6 := hid_mk ho6; have HG6 := hid_mk hg6; have HAT6 := hid_mk hat6; clear ho6 hg6 hat6 hgl6 hk6))
      go_roundg (n - (i + 1))
      case measure => omega
      case rel => exact ⟨i + 1, rfl, by omega, by go_num, _, by rw [HBS.out]; exact tw.out.next (x := note0 i) HU.out rfl HO6.out HG6.out HAT6.out⟩
    · obtain rfl : i = n := by omega
      have HP := hid_mk (tw.out.prg HN.out)
      clear hu0
      go_wp2_with fail
      refine (oneS (n := i) _ _ HN.out (HT.out.below tw.out.low) HP.out).mono ?_
      rintro e w2 ⟨ga, ca, B, d, lo, hi', rfl, hwn, hb2⟩
      rw [HM.out] at hwn ⊢
      have HWN := hid_mk hwn
      have HB2 := hid_mk (bTrans tw.out.low hb2)
      have HP2 := hid_mk (HP.out.below hb2)
      have hpb := boxAt tw.out.box hb2
      have z1 : w1.heap.size < w2.heap.size := (Array.getElem?_eq_some_iff.1 hpb).1
      clear p0 p1 p2 p3
      obtain ⟨p0, p1, p2, p3⟩ := blk4 hpb
      have q0 := fun X Y => ((bAlloc (bAlloc (bRefl w2) X) Y).cell (p := ⟨w1.heap.size, 0, none⟩) z1).trans p0
      have q1 := fun X Y => ((bAlloc (bAlloc (bRefl w2) X) Y).cell (p := ⟨w1.heap.size, 1, none⟩) z1).trans p1
      have q2 := fun X Y => ((bAlloc (bAlloc (bRefl w2) X) Y).cell (p := ⟨w1.heap.size, 2, none⟩) z1).trans p2
      have q3 := fun X Y => ((bAlloc (bAlloc (bRefl w2) X) Y).cell (p := ⟨w1.heap.size, 3, none⟩) z1).trans p3
      clear hwn hb2 hpb
      go_wp2_with (first | (go_at_call 17; refine (round_any _ _ _ (by decide) (by decide)).mono ?_; rw [hk]; rintro e w' ⟨rfl, rfl⟩))
      have hZ : Below w2.heap.size w2 ((w2.alloc (.cells #[.slice (some ⟨ga, 0, none⟩) 2 ca, .slice B m d, .int .i64 0, .int .i64 u, .int .i64 0, .int .i64 0] 34)).alloc (.cells #[.int .i64 0, .int .i64 a, .int .i64 0, .int .i64 0] 32)) := bAlloc (bAlloc (bRefl _) _) _
      generalize ((w2.alloc (.cells #[.slice (some ⟨ga, 0, none⟩) 2 ca, .slice B m d, .int .i64 0, .int .i64 u, .int .i64 0, .int .i64 0] 34)).alloc (.cells #[.int .i64 0, .int .i64 a, .int .i64 0, .int .i64 0] 32)) = w5 at hZ ⊢
      have hX0 := (HWN.out.below hZ).wld (xn_sm HN.out)
      refine (enab_any _ _ _ (oneP i) ⟨0, a, 0, 0⟩ (xB i ⟨0, u, 0, 0⟩) ((HT.out.below HB2.out).below hZ) (HP2.out.below hZ) (wldB ⟨0, u, 0, 0⟩ hX0) (by show (xn i).mail.length ≤ 1000; rw [HXm.out]; have := HN.out; omega) (by show (xn i).acts.length ≤ 1000; rw [HXa.out]; decide)).mono ?_
      rintro e w6 ⟨v6, rfl, hen⟩
      rw [hL] at hen
      have HB6 := hid_mk (bTrans HB2.out (bTrans hZ hen.low))
      clear hX0 hZ q0 q1 q2 q3 p0 p1 p2 p3 z1
      obtain ⟨A7, c7, rfl⟩ := hen.form
      clear hen
      go_wp2_with (first | (go_at_call 22; refine (ewake_any _ (HT.out.below HB6.out)).mono ?_; rintro e w7 ⟨rfl, hb7⟩))
      go_ret
      exact ⟨rfl, bTrans HB6.out hb7⟩
set_option maxHeartbeats 8000000 in
set_option maxRecDepth 100000 in
theorem bud_3y (w : World) (n : Nat) (kind a u : Int) (ht : Tab w) (hn : n ≤ 4) (ha : 0 ≤ a ∧ a ≤ 1000) (hu : 0 ≤ u ∧ u ≤ 2000) (hk : rnd kind 4 = 1) (h : u < a) : Calls Tryd.prog 8 #[.int .i64 (n : Int), .int .i64 kind, .int .i64 a, .int .i64 u] w fun e w' => e = .returned (.bool true) ∧ Below w.heap.size w w' := by
  have HT := hid_mk ht
  have d0 : decide ((n : Int) < 0) = false := decide_eq_false (by omega)
  have d1 : decide ((4 : Int) < (n : Int)) = false := decide_eq_false (by omega)
  have d2 : decide (a < 0) = false := decide_eq_false (by omega)
  have d3 : decide (1000 < a) = false := decide_eq_false (by omega)
  have d4 : decide (u < 0) = false := decide_eq_false (by omega)
  have d5 : decide (2000 < u) = false := decide_eq_false (by omega)
  have d6 : decide (a ≤ u) = false := decide_eq_false (by omega)
  obtain ⟨m, hm⟩ : ∃ m, n + 2 = m := ⟨_, rfl⟩
  have hwm : wrap64 ((n : Int) + 2) = (m : Int) := by rw [IntWalk.wrap64_in _ ⟨by omega, by omega⟩]; omega
  have hwm2 : (n : Int) + 2 = (m : Int) := by omega
  have hok := by3 hn ha hu h
  obtain ⟨L, hL⟩ : ∃ L, enabP (oneP n) ⟨0, a, 0, 0⟩ (xB n ⟨0, u, 0, 0⟩) = L := ⟨_, rfl⟩
  rw [hL] at hok
  try rw [hm] at hok
  have HOK := hid_mk hok
  have HLL := hid_mk (okL_len hok)
  obtain ⟨tt, htt⟩ : ∃ tt : Nat, L.length = tt := ⟨_, rfl⟩
  have hwt : wrap64 ((m : Int) + (m : Int)) = (tt : Int) := by have := HLL.out; rw [IntWalk.wrap64_in _ ⟨by omega, by omega⟩]; omega
  have hwt2 : (m : Int) + (m : Int) = (tt : Int) := by have := HLL.out; omega
  have hLt : ((L.length : Int) == (tt : Int)) = true := beq_iff_eq.2 (by omega)
  have HLb : Hid (L.length ≤ 20) := by show _ ≤ _; have := HLL.out; omega
  clear hok htt
  have HM := hid_mk hm
  have HXm := hid_mk (xn_mail hn)
  have HXa := hid_mk (xn_acts hn)
  clear ht ha hu h
  obtain ⟨i0, hi0, hz0, hz1, hz2⟩ := info_parts infoN
  go_enter Tryd.func8, Tryd.ntmps8
  go_wp2_with fail
  refine (one_any _).mono ?_
  rintro e w1 ⟨rfl, ho, hb1⟩
  have HTN0 := hid_mk (TN.start ho hb1)
  have HN := hid_mk hn
  clear ho hb1 hm
  go_wp2
  go_loopg [10] n (fun g i10 wr => ∃ i : Nat, g = n - i ∧ i ≤ n ∧ i10 = .int .i64 (i : Int) ∧ ∃ v, Hid (TN w w1.heap.size (bootN i) v wr))
  case atStart => exact ⟨0, rfl, by omega, rfl, _, HTN0⟩
  case round =>
    obtain ⟨i, rfl, hi, rfl, v, tw⟩ := hrel
    clear HTN0
    obtain ⟨us, hu0⟩ := tw.out.nt
    obtain ⟨A9, c9, rfl⟩ := hu0.form
    obtain ⟨p0, p1, p2, p3⟩ := blk4 tw.out.box
    have hpl := tw.out.plt
    by_cases hlt : i < n
    · have HBS := hid_mk (bootN_succ i)
      have hln := bootN_len i
      generalize bootN i = l at *
      have hmd := modC i
      have hltI : (i : Int) < n := by omega
      have HU := hid_mk hu0
      have HNB := hid_mk tw.out.nb
      have HNEWS : Hid (∀ j y, (ntrow (note0 i) (.slice none 0 0))[j]? = some y → (wr.alloc (.cells #[.int .i64 ((i % 2 : Nat) : Int), .int .i64 0, .slice none 0 0] 42)).cell? ((⟨wr.heap.size, 0, none⟩ : Addr).add j) = some y) := World.news_of_block (heap_new _ _)
      have HONE : Hid (∀ y ∈ ntrow (note0 i) (.slice none 0 0), y.oneCell' = true) := fun y hy => by
        simp [ntrow] at hy; rcases hy with rfl | rfl | rfl <;> rfl
      have HM1 : Hid (l.length + 1 ≤ maxLen) := by show _ ≤ _; unfold maxLen; omega
      have HM2 : Hid ((l.length + 1) * 40 ≤ 140737488355328) := by show _ ≤ _; omega
      have HLO : Hid (w.heap.size + 1 + 1 + 1 ≤ wr.heap.size + 1) := by show _ ≤ _; have := tw.out.hp; omega
      clear hu0 hln
      go_wp2_with (first
        | (at_builtin; refine wpList_append_lies _ rfl _ _ 25 rfl (w.heap.size + 1 + 1 + 1) 42 i0 _ 3 40 Tryd.underlying25 hi0 hz0 hz1 hz2 rfl (by decide) (.slice A9 l.length c9) l.length _ rfl (own_block HU.out.own fun g hg hl => (bAlloc (bRefl wr) _).block g hl) ⟨wr.heap.size, 0, none⟩ 1 1 (ntrow (note0 i) (.slice none 0 0)) rfl rfl HNEWS.out HONE.out (by decide) HM1.out HM2.out (by simpa using HLO.out) (wr.heap.size + 1) (by simp) ?_; intro gn cn w6 ho6 hg6 hat6 hgl6; have hk6 := (hg6.block w1.heap.size (by simp; omega) (fun e => HNB.out e.symm)).trans (boxAt tw.out.box (bAlloc (bRefl _) _)); obtain ⟨f0, f1, f2, f3⟩ := blk4 hk6; have ff : ∀ o, w6.frozen? ⟨w1.heap.size, o, none⟩ = false := (fun o => heap_frozen hk6); have HO6 := hid_mk ho6; have HG6 := hid_mk hg6; have HAT6 := hid_mk hat6; clear ho6 hg6 hat6 hgl6 hk6))
      go_roundg (n - (i + 1))
      case measure => omega
      case rel => exact ⟨i + 1, rfl, by omega, by go_num, _, by rw [HBS.out]; exact tw.out.next (x := note0 i) HU.out rfl HO6.out HG6.out HAT6.out⟩
    · obtain rfl : i = n := by omega
      have HP := hid_mk (tw.out.prg HN.out)
      clear hu0
      go_wp2_with fail
      refine (oneS (n := i) _ _ HN.out (HT.out.below tw.out.low) HP.out).mono ?_
      rintro e w2 ⟨ga, ca, B, d, lo, hi', rfl, hwn, hb2⟩
      rw [HM.out] at hwn ⊢
      have HWN := hid_mk hwn
      have HB2 := hid_mk (bTrans tw.out.low hb2)
      have HP2 := hid_mk (HP.out.below hb2)
      have hpb := boxAt tw.out.box hb2
      have z1 : w1.heap.size < w2.heap.size := (Array.getElem?_eq_some_iff.1 hpb).1
      clear p0 p1 p2 p3
      obtain ⟨p0, p1, p2, p3⟩ := blk4 hpb
      have q0 := fun X Y => ((bAlloc (bAlloc (bRefl w2) X) Y).cell (p := ⟨w1.heap.size, 0, none⟩) z1).trans p0
      have q1 := fun X Y => ((bAlloc (bAlloc (bRefl w2) X) Y).cell (p := ⟨w1.heap.size, 1, none⟩) z1).trans p1
      have q2 := fun X Y => ((bAlloc (bAlloc (bRefl w2) X) Y).cell (p := ⟨w1.heap.size, 2, none⟩) z1).trans p2
      have q3 := fun X Y => ((bAlloc (bAlloc (bRefl w2) X) Y).cell (p := ⟨w1.heap.size, 3, none⟩) z1).trans p3
      clear hwn hb2 hpb
      go_wp2_with (first | (go_at_call 17; refine (round_any _ _ _ (by decide) (by decide)).mono ?_; rw [hk]; rintro e w' ⟨rfl, rfl⟩))
      have hZ : Below w2.heap.size w2 ((w2.alloc (.cells #[.slice (some ⟨ga, 0, none⟩) 2 ca, .slice B m d, .int .i64 0, .int .i64 u, .int .i64 0, .int .i64 0] 34)).alloc (.cells #[.int .i64 0, .int .i64 a, .int .i64 0, .int .i64 0] 32)) := bAlloc (bAlloc (bRefl _) _) _
      generalize ((w2.alloc (.cells #[.slice (some ⟨ga, 0, none⟩) 2 ca, .slice B m d, .int .i64 0, .int .i64 u, .int .i64 0, .int .i64 0] 34)).alloc (.cells #[.int .i64 0, .int .i64 a, .int .i64 0, .int .i64 0] 32)) = w5 at hZ ⊢
      have hX0 := (HWN.out.below hZ).wld (xn_sm HN.out)
      refine (enab_any _ _ _ (oneP i) ⟨0, a, 0, 0⟩ (xB i ⟨0, u, 0, 0⟩) ((HT.out.below HB2.out).below hZ) (HP2.out.below hZ) (wldB ⟨0, u, 0, 0⟩ hX0) (by show (xn i).mail.length ≤ 1000; rw [HXm.out]; have := HN.out; omega) (by show (xn i).acts.length ≤ 1000; rw [HXa.out]; decide)).mono ?_
      rintro e w6 ⟨v6, rfl, hen⟩
      rw [hL] at hen
      have HB6 := hid_mk (bTrans HB2.out (bTrans hZ hen.low))
      clear hX0 hZ q0 q1 q2 q3 p0 p1 p2 p3 z1
      obtain ⟨g7, c7, rfl, hc7, hg7⟩ := hen.blk (by have := HLL.out; have := HM.out; omega)
      have HEN := hid_mk hen
      clear hen
      go_wp2
      go_loopg [17] L.length (fun g i17 wr => ∃ t : Nat, g = L.length - t ∧ t ≤ L.length ∧ i17 = .int .i64 (t : Int) ∧ wr = w6)
      case atStart => exact ⟨0, rfl, by omega, rfl, rfl⟩
      case round =>
        obtain ⟨t, rfl, ht, rfl, rfl⟩ := hrel
        by_cases hlt2 : t < L.length
        · obtain ⟨e, he⟩ := at_lt hlt2
          have hki := HEN.out.kind he
          have hltI : (t : Int) < L.length := by omega
          by_cases hlo : t < m
          · have hloI : decide ((t : Int) < (m : Int)) = true := decide_eq_true (by omega)
            have hloG : decide ((m : Int) ≤ (t : Int)) = false := decide_eq_false (by omega)
            rw [okL_lo HOK.out he hlo] at hki
            clear he
            go_wp2
            go_roundg (L.length - (t + 1))
            case measure => omega
            case rel => exact ⟨t + 1, rfl, by omega, (by first | rfl | exact stepI (by have := HLb.out; omega)), rfl⟩
          · have hloI : decide ((t : Int) < (m : Int)) = false := decide_eq_false (by omega)
            have hloG : decide ((m : Int) ≤ (t : Int)) = true := decide_eq_true (by omega)
            rw [okL_hi HOK.out he (by omega)] at hki
            clear he
            go_wp2
            go_roundg (L.length - (t + 1))
            case measure => omega
            case rel => exact ⟨t + 1, rfl, by omega, (by first | rfl | exact stepI (by have := HLb.out; omega)), rfl⟩
        · obtain rfl : t = L.length := by omega
          go_wp2_with (first | (go_at_call 22; refine (ewake_any _ (HT.out.below HB6.out)).mono ?_; rintro e w7 ⟨rfl, hb7⟩))
          go_ret
          exact ⟨rfl, bTrans HB6.out hb7⟩
set_option maxHeartbeats 8000000 in
set_option maxRecDepth 100000 in
theorem bud_4n (w : World) (n : Nat) (kind a u : Int) (ht : Tab w) (hn : n ≤ 4) (ha : 0 ≤ a ∧ a ≤ 1000) (hu : 0 ≤ u ∧ u ≤ 2000) (hk : rnd kind 4 = 2) (h : a ≤ u) : Calls Tryd.prog 8 #[.int .i64 (n : Int), .int .i64 kind, .int .i64 a, .int .i64 u] w fun e w' => e = .returned (.bool true) ∧ Below w.heap.size w w' := by
  have HT := hid_mk ht
  have d0 : decide ((n : Int) < 0) = false := decide_eq_false (by omega)
  have d1 : decide ((4 : Int) < (n : Int)) = false := decide_eq_false (by omega)
  have d2 : decide (a < 0) = false := decide_eq_false (by omega)
  have d3 : decide (1000 < a) = false := decide_eq_false (by omega)
  have d4 : decide (u < 0) = false := decide_eq_false (by omega)
  have d5 : decide (2000 < u) = false := decide_eq_false (by omega)
  have d6 : decide (a ≤ u) = true := decide_eq_true h
  obtain ⟨m, hm⟩ : ∃ m, n + 2 = m := ⟨_, rfl⟩
  have hwm : wrap64 ((n : Int) + 2) = (m : Int) := by rw [IntWalk.wrap64_in _ ⟨by omega, by omega⟩]; omega
  have hwm2 : (n : Int) + 2 = (m : Int) := by omega
  have hlen := bn4 hn ha hu h
  obtain ⟨L, hL⟩ : ∃ L, enabP (oneP n) ⟨0, 0, a, 0⟩ (xB n ⟨0, 0, u, 0⟩) = L := ⟨_, rfl⟩
  rw [hL] at hlen
  have hLm : ((L.length : Int) == (m : Int)) = true := beq_iff_eq.2 (by omega)
  clear hlen
  have HM := hid_mk hm
  have HXm := hid_mk (xn_mail hn)
  have HXa := hid_mk (xn_acts hn)
  clear ht ha hu h
  obtain ⟨i0, hi0, hz0, hz1, hz2⟩ := info_parts infoN
  go_enter Tryd.func8, Tryd.ntmps8
  go_wp2_with fail
  refine (one_any _).mono ?_
  rintro e w1 ⟨rfl, ho, hb1⟩
  have HTN0 := hid_mk (TN.start ho hb1)
  have HN := hid_mk hn
  clear ho hb1 hm
  go_wp2
  go_loopg [10] n (fun g i10 wr => ∃ i : Nat, g = n - i ∧ i ≤ n ∧ i10 = .int .i64 (i : Int) ∧ ∃ v, Hid (TN w w1.heap.size (bootN i) v wr))
  case atStart => exact ⟨0, rfl, by omega, rfl, _, HTN0⟩
  case round =>
    obtain ⟨i, rfl, hi, rfl, v, tw⟩ := hrel
    clear HTN0
    obtain ⟨us, hu0⟩ := tw.out.nt
    obtain ⟨A9, c9, rfl⟩ := hu0.form
    obtain ⟨p0, p1, p2, p3⟩ := blk4 tw.out.box
    have hpl := tw.out.plt
    by_cases hlt : i < n
    · have HBS := hid_mk (bootN_succ i)
      have hln := bootN_len i
      generalize bootN i = l at *
      have hmd := modC i
      have hltI : (i : Int) < n := by omega
      have HU := hid_mk hu0
      have HNB := hid_mk tw.out.nb
      have HNEWS : Hid (∀ j y, (ntrow (note0 i) (.slice none 0 0))[j]? = some y → (wr.alloc (.cells #[.int .i64 ((i % 2 : Nat) : Int), .int .i64 0, .slice none 0 0] 42)).cell? ((⟨wr.heap.size, 0, none⟩ : Addr).add j) = some y) := World.news_of_block (heap_new _ _)
      have HONE : Hid (∀ y ∈ ntrow (note0 i) (.slice none 0 0), y.oneCell' = true) := fun y hy => by
        simp [ntrow] at hy; rcases hy with rfl | rfl | rfl <;> rfl
      have HM1 : Hid (l.length + 1 ≤ maxLen) := by show _ ≤ _; unfold maxLen; omega
      have HM2 : Hid ((l.length + 1) * 40 ≤ 140737488355328) := by show _ ≤ _; omega
      have HLO : Hid (w.heap.size + 1 + 1 + 1 ≤ wr.heap.size + 1) := by show _ ≤ _; have := tw.out.hp; omega
      clear hu0 hln
      go_wp2_with (first
        | (at_builtin; refine wpList_append_lies _ rfl _ _ 25 rfl (w.heap.size + 1 + 1 + 1) 42 i0 _ 3 40 Tryd.underlying25 hi0 hz0 hz1 hz2 rfl (by decide) (.slice A9 l.length c9) l.length _ rfl (own_block HU.out.own fun g hg hl => (bAlloc (bRefl wr) _).block g hl) ⟨wr.heap.size, 0, none⟩ 1 1 (ntrow (note0 i) (.slice none 0 0)) rfl rfl HNEWS.out HONE.out (by decide) HM1.out HM2.out (by simpa using HLO.out) (wr.heap.size + 1) (by simp) ?_; intro gn cn w6 ho6 hg6 hat6 hgl6; have hk6 := (hg6.block w1.heap.size (by simp; omega) (fun e => HNB.out e.symm)).trans (boxAt tw.out.box (bAlloc (bRefl _) _)); obtain ⟨f0, f1, f2, f3⟩ := blk4 hk6; have ff : ∀ o, w6.frozen? ⟨w1.heap.size, o, none⟩ = false := (fun o => heap_frozen hk6); have HO6 := hid_mk ho6; have HG6 := hid_mk hg6; have HAT6 := hid_mk hat6; clear ho6 hg6 hat6 hgl6 hk6))
      go_roundg (n - (i + 1))
      case measure => omega
      case rel => exact ⟨i + 1, rfl, by omega, by go_num, _, by rw [HBS.out]; exact tw.out.next (x := note0 i) HU.out rfl HO6.out HG6.out HAT6.out⟩
    · obtain rfl : i = n := by omega
      have HP := hid_mk (tw.out.prg HN.out)
      clear hu0
      go_wp2_with fail
      refine (oneS (n := i) _ _ HN.out (HT.out.below tw.out.low) HP.out).mono ?_
      rintro e w2 ⟨ga, ca, B, d, lo, hi', rfl, hwn, hb2⟩
      rw [HM.out] at hwn ⊢
      have HWN := hid_mk hwn
      have HB2 := hid_mk (bTrans tw.out.low hb2)
      have HP2 := hid_mk (HP.out.below hb2)
      have hpb := boxAt tw.out.box hb2
      have z1 : w1.heap.size < w2.heap.size := (Array.getElem?_eq_some_iff.1 hpb).1
      clear p0 p1 p2 p3
      obtain ⟨p0, p1, p2, p3⟩ := blk4 hpb
      have q0 := fun X Y => ((bAlloc (bAlloc (bRefl w2) X) Y).cell (p := ⟨w1.heap.size, 0, none⟩) z1).trans p0
      have q1 := fun X Y => ((bAlloc (bAlloc (bRefl w2) X) Y).cell (p := ⟨w1.heap.size, 1, none⟩) z1).trans p1
      have q2 := fun X Y => ((bAlloc (bAlloc (bRefl w2) X) Y).cell (p := ⟨w1.heap.size, 2, none⟩) z1).trans p2
      have q3 := fun X Y => ((bAlloc (bAlloc (bRefl w2) X) Y).cell (p := ⟨w1.heap.size, 3, none⟩) z1).trans p3
      clear hwn hb2 hpb
      go_wp2_with (first | (go_at_call 17; refine (round_any _ _ _ (by decide) (by decide)).mono ?_; rw [hk]; rintro e w' ⟨rfl, rfl⟩))
      have hZ : Below w2.heap.size w2 ((w2.alloc (.cells #[.slice (some ⟨ga, 0, none⟩) 2 ca, .slice B m d, .int .i64 0, .int .i64 0, .int .i64 u, .int .i64 0] 34)).alloc (.cells #[.int .i64 0, .int .i64 0, .int .i64 a, .int .i64 0] 32)) := bAlloc (bAlloc (bRefl _) _) _
      generalize ((w2.alloc (.cells #[.slice (some ⟨ga, 0, none⟩) 2 ca, .slice B m d, .int .i64 0, .int .i64 0, .int .i64 u, .int .i64 0] 34)).alloc (.cells #[.int .i64 0, .int .i64 0, .int .i64 a, .int .i64 0] 32)) = w5 at hZ ⊢
      have hX0 := (HWN.out.below hZ).wld (xn_sm HN.out)
      refine (enab_any _ _ _ (oneP i) ⟨0, 0, a, 0⟩ (xB i ⟨0, 0, u, 0⟩) ((HT.out.below HB2.out).below hZ) (HP2.out.below hZ) (wldB ⟨0, 0, u, 0⟩ hX0) (by show (xn i).mail.length ≤ 1000; rw [HXm.out]; have := HN.out; omega) (by show (xn i).acts.length ≤ 1000; rw [HXa.out]; decide)).mono ?_
      rintro e w6 ⟨v6, rfl, hen⟩
      rw [hL] at hen
      have HB6 := hid_mk (bTrans HB2.out (bTrans hZ hen.low))
      clear hX0 hZ q0 q1 q2 q3 p0 p1 p2 p3 z1
      obtain ⟨A7, c7, rfl⟩ := hen.form
      clear hen
      go_wp2_with (first | (go_at_call 22; refine (ewake_any _ (HT.out.below HB6.out)).mono ?_; rintro e w7 ⟨rfl, hb7⟩))
      go_ret
      exact ⟨rfl, bTrans HB6.out hb7⟩
set_option maxHeartbeats 8000000 in
set_option maxRecDepth 100000 in
theorem bud_4y (w : World) (n : Nat) (kind a u : Int) (ht : Tab w) (hn : n ≤ 4) (ha : 0 ≤ a ∧ a ≤ 1000) (hu : 0 ≤ u ∧ u ≤ 2000) (hk : rnd kind 4 = 2) (h : u < a) : Calls Tryd.prog 8 #[.int .i64 (n : Int), .int .i64 kind, .int .i64 a, .int .i64 u] w fun e w' => e = .returned (.bool true) ∧ Below w.heap.size w w' := by
  have HT := hid_mk ht
  have d0 : decide ((n : Int) < 0) = false := decide_eq_false (by omega)
  have d1 : decide ((4 : Int) < (n : Int)) = false := decide_eq_false (by omega)
  have d2 : decide (a < 0) = false := decide_eq_false (by omega)
  have d3 : decide (1000 < a) = false := decide_eq_false (by omega)
  have d4 : decide (u < 0) = false := decide_eq_false (by omega)
  have d5 : decide (2000 < u) = false := decide_eq_false (by omega)
  have d6 : decide (a ≤ u) = false := decide_eq_false (by omega)
  obtain ⟨m, hm⟩ : ∃ m, n + 2 = m := ⟨_, rfl⟩
  have hwm : wrap64 ((n : Int) + 2) = (m : Int) := by rw [IntWalk.wrap64_in _ ⟨by omega, by omega⟩]; omega
  have hwm2 : (n : Int) + 2 = (m : Int) := by omega
  have hok := by4 hn ha hu h
  obtain ⟨L, hL⟩ : ∃ L, enabP (oneP n) ⟨0, 0, a, 0⟩ (xB n ⟨0, 0, u, 0⟩) = L := ⟨_, rfl⟩
  rw [hL] at hok
  try rw [hm] at hok
  have HOK := hid_mk hok
  have HLL := hid_mk (okL_len hok)
  obtain ⟨tt, htt⟩ : ∃ tt : Nat, L.length = tt := ⟨_, rfl⟩
  have hwt : wrap64 ((m : Int) + 1) = (tt : Int) := by have := HLL.out; rw [IntWalk.wrap64_in _ ⟨by omega, by omega⟩]; omega
  have hwt2 : (m : Int) + 1 = (tt : Int) := by have := HLL.out; omega
  have hLt : ((L.length : Int) == (tt : Int)) = true := beq_iff_eq.2 (by omega)
  have HLb : Hid (L.length ≤ 20) := by show _ ≤ _; have := HLL.out; omega
  clear hok htt
  have HM := hid_mk hm
  have HXm := hid_mk (xn_mail hn)
  have HXa := hid_mk (xn_acts hn)
  clear ht ha hu h
  obtain ⟨i0, hi0, hz0, hz1, hz2⟩ := info_parts infoN
  go_enter Tryd.func8, Tryd.ntmps8
  go_wp2_with fail
  refine (one_any _).mono ?_
  rintro e w1 ⟨rfl, ho, hb1⟩
  have HTN0 := hid_mk (TN.start ho hb1)
  have HN := hid_mk hn
  clear ho hb1 hm
  go_wp2
  go_loopg [10] n (fun g i10 wr => ∃ i : Nat, g = n - i ∧ i ≤ n ∧ i10 = .int .i64 (i : Int) ∧ ∃ v, Hid (TN w w1.heap.size (bootN i) v wr))
  case atStart => exact ⟨0, rfl, by omega, rfl, _, HTN0⟩
  case round =>
    obtain ⟨i, rfl, hi, rfl, v, tw⟩ := hrel
    clear HTN0
    obtain ⟨us, hu0⟩ := tw.out.nt
    obtain ⟨A9, c9, rfl⟩ := hu0.form
    obtain ⟨p0, p1, p2, p3⟩ := blk4 tw.out.box
    have hpl := tw.out.plt
    by_cases hlt : i < n
    · have HBS := hid_mk (bootN_succ i)
      have hln := bootN_len i
      generalize bootN i = l at *
      have hmd := modC i
      have hltI : (i : Int) < n := by omega
      have HU := hid_mk hu0
      have HNB := hid_mk tw.out.nb
      have HNEWS : Hid (∀ j y, (ntrow (note0 i) (.slice none 0 0))[j]? = some y → (wr.alloc (.cells #[.int .i64 ((i % 2 : Nat) : Int), .int .i64 0, .slice none 0 0] 42)).cell? ((⟨wr.heap.size, 0, none⟩ : Addr).add j) = some y) := World.news_of_block (heap_new _ _)
      have HONE : Hid (∀ y ∈ ntrow (note0 i) (.slice none 0 0), y.oneCell' = true) := fun y hy => by
        simp [ntrow] at hy; rcases hy with rfl | rfl | rfl <;> rfl
      have HM1 : Hid (l.length + 1 ≤ maxLen) := by show _ ≤ _; unfold maxLen; omega
      have HM2 : Hid ((l.length + 1) * 40 ≤ 140737488355328) := by show _ ≤ _; omega
      have HLO : Hid (w.heap.size + 1 + 1 + 1 ≤ wr.heap.size + 1) := by show _ ≤ _; have := tw.out.hp; omega
      clear hu0 hln
      go_wp2_with (first
        | (at_builtin; refine wpList_append_lies _ rfl _ _ 25 rfl (w.heap.size + 1 + 1 + 1) 42 i0 _ 3 40 Tryd.underlying25 hi0 hz0 hz1 hz2 rfl (by decide) (.slice A9 l.length c9) l.length _ rfl (own_block HU.out.own fun g hg hl => (bAlloc (bRefl wr) _).block g hl) ⟨wr.heap.size, 0, none⟩ 1 1 (ntrow (note0 i) (.slice none 0 0)) rfl rfl HNEWS.out HONE.out (by decide) HM1.out HM2.out (by simpa using HLO.out) (wr.heap.size + 1) (by simp) ?_; intro gn cn w6 ho6 hg6 hat6 hgl6; have hk6 := (hg6.block w1.heap.size (by simp; omega) (fun e => HNB.out e.symm)).trans (boxAt tw.out.box (bAlloc (bRefl _) _)); obtain ⟨f0, f1, f2, f3⟩ := blk4 hk6; have ff : ∀ o, w6.frozen? ⟨w1.heap.size, o, none⟩ = false := (fun o => heap_frozen hk6); have HO6 := hid_mk ho6; have HG6 := hid_mk hg6; have HAT6 := hid_mk hat6; clear ho6 hg6 hat6 hgl6 hk6))
      go_roundg (n - (i + 1))
      case measure => omega
      case rel => exact ⟨i + 1, rfl, by omega, by go_num, _, by rw [HBS.out]; exact tw.out.next (x := note0 i) HU.out rfl HO6.out HG6.out HAT6.out⟩
    · obtain rfl : i = n := by omega
      have HP := hid_mk (tw.out.prg HN.out)
      clear hu0
      go_wp2_with fail
      refine (oneS (n := i) _ _ HN.out (HT.out.below tw.out.low) HP.out).mono ?_
      rintro e w2 ⟨ga, ca, B, d, lo, hi', rfl, hwn, hb2⟩
      rw [HM.out] at hwn ⊢
      have HWN := hid_mk hwn
      have HB2 := hid_mk (bTrans tw.out.low hb2)
      have HP2 := hid_mk (HP.out.below hb2)
      have hpb := boxAt tw.out.box hb2
      have z1 : w1.heap.size < w2.heap.size := (Array.getElem?_eq_some_iff.1 hpb).1
      clear p0 p1 p2 p3
      obtain ⟨p0, p1, p2, p3⟩ := blk4 hpb
      have q0 := fun X Y => ((bAlloc (bAlloc (bRefl w2) X) Y).cell (p := ⟨w1.heap.size, 0, none⟩) z1).trans p0
      have q1 := fun X Y => ((bAlloc (bAlloc (bRefl w2) X) Y).cell (p := ⟨w1.heap.size, 1, none⟩) z1).trans p1
      have q2 := fun X Y => ((bAlloc (bAlloc (bRefl w2) X) Y).cell (p := ⟨w1.heap.size, 2, none⟩) z1).trans p2
      have q3 := fun X Y => ((bAlloc (bAlloc (bRefl w2) X) Y).cell (p := ⟨w1.heap.size, 3, none⟩) z1).trans p3
      clear hwn hb2 hpb
      go_wp2_with (first | (go_at_call 17; refine (round_any _ _ _ (by decide) (by decide)).mono ?_; rw [hk]; rintro e w' ⟨rfl, rfl⟩))
      have hZ : Below w2.heap.size w2 ((w2.alloc (.cells #[.slice (some ⟨ga, 0, none⟩) 2 ca, .slice B m d, .int .i64 0, .int .i64 0, .int .i64 u, .int .i64 0] 34)).alloc (.cells #[.int .i64 0, .int .i64 0, .int .i64 a, .int .i64 0] 32)) := bAlloc (bAlloc (bRefl _) _) _
      generalize ((w2.alloc (.cells #[.slice (some ⟨ga, 0, none⟩) 2 ca, .slice B m d, .int .i64 0, .int .i64 0, .int .i64 u, .int .i64 0] 34)).alloc (.cells #[.int .i64 0, .int .i64 0, .int .i64 a, .int .i64 0] 32)) = w5 at hZ ⊢
      have hX0 := (HWN.out.below hZ).wld (xn_sm HN.out)
      refine (enab_any _ _ _ (oneP i) ⟨0, 0, a, 0⟩ (xB i ⟨0, 0, u, 0⟩) ((HT.out.below HB2.out).below hZ) (HP2.out.below hZ) (wldB ⟨0, 0, u, 0⟩ hX0) (by show (xn i).mail.length ≤ 1000; rw [HXm.out]; have := HN.out; omega) (by show (xn i).acts.length ≤ 1000; rw [HXa.out]; decide)).mono ?_
      rintro e w6 ⟨v6, rfl, hen⟩
      rw [hL] at hen
      have HB6 := hid_mk (bTrans HB2.out (bTrans hZ hen.low))
      clear hX0 hZ q0 q1 q2 q3 p0 p1 p2 p3 z1
      obtain ⟨g7, c7, rfl, hc7, hg7⟩ := hen.blk (by have := HLL.out; have := HM.out; omega)
      have HEN := hid_mk hen
      clear hen
      go_wp2
      go_loopg [17] L.length (fun g i17 wr => ∃ t : Nat, g = L.length - t ∧ t ≤ L.length ∧ i17 = .int .i64 (t : Int) ∧ wr = w6)
      case atStart => exact ⟨0, rfl, by omega, rfl, rfl⟩
      case round =>
        obtain ⟨t, rfl, ht, rfl, rfl⟩ := hrel
        by_cases hlt2 : t < L.length
        · obtain ⟨e, he⟩ := at_lt hlt2
          have hki := HEN.out.kind he
          have hltI : (t : Int) < L.length := by omega
          by_cases hlo : t < m
          · have hloI : decide ((t : Int) < (m : Int)) = true := decide_eq_true (by omega)
            have hloG : decide ((m : Int) ≤ (t : Int)) = false := decide_eq_false (by omega)
            rw [okL_lo HOK.out he hlo] at hki
            clear he
            go_wp2
            go_roundg (L.length - (t + 1))
            case measure => omega
            case rel => exact ⟨t + 1, rfl, by omega, (by first | rfl | exact stepI (by have := HLb.out; omega)), rfl⟩
          · have hloI : decide ((t : Int) < (m : Int)) = false := decide_eq_false (by omega)
            have hloG : decide ((m : Int) ≤ (t : Int)) = true := decide_eq_true (by omega)
            rw [okL_hi HOK.out he (by omega)] at hki
            clear he
            go_wp2
            go_roundg (L.length - (t + 1))
            case measure => omega
            case rel => exact ⟨t + 1, rfl, by omega, (by first | rfl | exact stepI (by have := HLb.out; omega)), rfl⟩
        · obtain rfl : t = L.length := by omega
          go_wp2_with (first | (go_at_call 22; refine (ewake_any _ (HT.out.below HB6.out)).mono ?_; rintro e w7 ⟨rfl, hb7⟩))
          go_ret
          exact ⟨rfl, bTrans HB6.out hb7⟩
set_option maxHeartbeats 8000000 in
set_option maxRecDepth 100000 in
theorem bud_5n (w : World) (n : Nat) (kind a u : Int) (ht : Tab w) (hn : n ≤ 4) (ha : 0 ≤ a ∧ a ≤ 1000) (hu : 0 ≤ u ∧ u ≤ 2000) (hk : rnd kind 4 = 3) (h : a ≤ u) : Calls Tryd.prog 8 #[.int .i64 (n : Int), .int .i64 kind, .int .i64 a, .int .i64 u] w fun e w' => e = .returned (.bool true) ∧ Below w.heap.size w w' := by
  have HT := hid_mk ht
  have d0 : decide ((n : Int) < 0) = false := decide_eq_false (by omega)
  have d1 : decide ((4 : Int) < (n : Int)) = false := decide_eq_false (by omega)
  have d2 : decide (a < 0) = false := decide_eq_false (by omega)
  have d3 : decide (1000 < a) = false := decide_eq_false (by omega)
  have d4 : decide (u < 0) = false := decide_eq_false (by omega)
  have d5 : decide (2000 < u) = false := decide_eq_false (by omega)
  have d6 : decide (a ≤ u) = true := decide_eq_true h
  obtain ⟨m, hm⟩ : ∃ m, n + 2 = m := ⟨_, rfl⟩
  have hwm : wrap64 ((n : Int) + 2) = (m : Int) := by rw [IntWalk.wrap64_in _ ⟨by omega, by omega⟩]; omega
  have hwm2 : (n : Int) + 2 = (m : Int) := by omega
  have hlen := bn5 hn ha hu h
  obtain ⟨L, hL⟩ : ∃ L, enabP (oneP n) ⟨0, 0, 0, a⟩ (xB n ⟨0, 0, 0, u⟩) = L := ⟨_, rfl⟩
  rw [hL] at hlen
  have hLm : ((L.length : Int) == (m : Int)) = true := beq_iff_eq.2 (by omega)
  clear hlen
  have HM := hid_mk hm
  have HXm := hid_mk (xn_mail hn)
  have HXa := hid_mk (xn_acts hn)
  clear ht ha hu h
  obtain ⟨i0, hi0, hz0, hz1, hz2⟩ := info_parts infoN
  go_enter Tryd.func8, Tryd.ntmps8
  go_wp2_with fail
  refine (one_any _).mono ?_
  rintro e w1 ⟨rfl, ho, hb1⟩
  have HTN0 := hid_mk (TN.start ho hb1)
  have HN := hid_mk hn
  clear ho hb1 hm
  go_wp2
  go_loopg [10] n (fun g i10 wr => ∃ i : Nat, g = n - i ∧ i ≤ n ∧ i10 = .int .i64 (i : Int) ∧ ∃ v, Hid (TN w w1.heap.size (bootN i) v wr))
  case atStart => exact ⟨0, rfl, by omega, rfl, _, HTN0⟩
  case round =>
    obtain ⟨i, rfl, hi, rfl, v, tw⟩ := hrel
    clear HTN0
    obtain ⟨us, hu0⟩ := tw.out.nt
    obtain ⟨A9, c9, rfl⟩ := hu0.form
    obtain ⟨p0, p1, p2, p3⟩ := blk4 tw.out.box
    have hpl := tw.out.plt
    by_cases hlt : i < n
    · have HBS := hid_mk (bootN_succ i)
      have hln := bootN_len i
      generalize bootN i = l at *
      have hmd := modC i
      have hltI : (i : Int) < n := by omega
      have HU := hid_mk hu0
      have HNB := hid_mk tw.out.nb
      have HNEWS : Hid (∀ j y, (ntrow (note0 i) (.slice none 0 0))[j]? = some y → (wr.alloc (.cells #[.int .i64 ((i % 2 : Nat) : Int), .int .i64 0, .slice none 0 0] 42)).cell? ((⟨wr.heap.size, 0, none⟩ : Addr).add j) = some y) := World.news_of_block (heap_new _ _)
      have HONE : Hid (∀ y ∈ ntrow (note0 i) (.slice none 0 0), y.oneCell' = true) := fun y hy => by
        simp [ntrow] at hy; rcases hy with rfl | rfl | rfl <;> rfl
      have HM1 : Hid (l.length + 1 ≤ maxLen) := by show _ ≤ _; unfold maxLen; omega
      have HM2 : Hid ((l.length + 1) * 40 ≤ 140737488355328) := by show _ ≤ _; omega
      have HLO : Hid (w.heap.size + 1 + 1 + 1 ≤ wr.heap.size + 1) := by show _ ≤ _; have := tw.out.hp; omega
      clear hu0 hln
      go_wp2_with (first
        | (at_builtin; refine wpList_append_lies _ rfl _ _ 25 rfl (w.heap.size + 1 + 1 + 1) 42 i0 _ 3 40 Tryd.underlying25 hi0 hz0 hz1 hz2 rfl (by decide) (.slice A9 l.length c9) l.length _ rfl (own_block HU.out.own fun g hg hl => (bAlloc (bRefl wr) _).block g hl) ⟨wr.heap.size, 0, none⟩ 1 1 (ntrow (note0 i) (.slice none 0 0)) rfl rfl HNEWS.out HONE.out (by decide) HM1.out HM2.out (by simpa using HLO.out) (wr.heap.size + 1) (by simp) ?_; intro gn cn w6 ho6 hg6 hat6 hgl6; have hk6 := (hg6.block w1.heap.size (by simp; omega) (fun e => HNB.out e.symm)).trans (boxAt tw.out.box (bAlloc (bRefl _) _)); obtain ⟨f0, f1, f2, f3⟩ := blk4 hk6; have ff : ∀ o, w6.frozen? ⟨w1.heap.size, o, none⟩ = false := (fun o => heap_frozen hk6); have HO6 := hid_mk ho6; have HG6 := hid_mk hg6; have HAT6 := hid_mk hat6; clear ho6 hg6 hat6 hgl6 hk6))
      go_roundg (n - (i + 1))
      case measure => omega
      case rel => exact ⟨i + 1, rfl, by omega, by go_num, _, by rw [HBS.out]; exact tw.out.next (x := note0 i) HU.out rfl HO6.out HG6.out HAT6.out⟩
    · obtain rfl : i = n := by omega
      have HP := hid_mk (tw.out.prg HN.out)
      clear hu0
      go_wp2_with fail
      refine (oneS (n := i) _ _ HN.out (HT.out.below tw.out.low) HP.out).mono ?_
      rintro e w2 ⟨ga, ca, B, d, lo, hi', rfl, hwn, hb2⟩
      rw [HM.out] at hwn ⊢
      have HWN := hid_mk hwn
      have HB2 := hid_mk (bTrans tw.out.low hb2)
      have HP2 := hid_mk (HP.out.below hb2)
      have hpb := boxAt tw.out.box hb2
      have z1 : w1.heap.size < w2.heap.size := (Array.getElem?_eq_some_iff.1 hpb).1
      clear p0 p1 p2 p3
      obtain ⟨p0, p1, p2, p3⟩ := blk4 hpb
      have q0 := fun X Y => ((bAlloc (bAlloc (bRefl w2) X) Y).cell (p := ⟨w1.heap.size, 0, none⟩) z1).trans p0
      have q1 := fun X Y => ((bAlloc (bAlloc (bRefl w2) X) Y).cell (p := ⟨w1.heap.size, 1, none⟩) z1).trans p1
      have q2 := fun X Y => ((bAlloc (bAlloc (bRefl w2) X) Y).cell (p := ⟨w1.heap.size, 2, none⟩) z1).trans p2
      have q3 := fun X Y => ((bAlloc (bAlloc (bRefl w2) X) Y).cell (p := ⟨w1.heap.size, 3, none⟩) z1).trans p3
      clear hwn hb2 hpb
      go_wp2_with (first | (go_at_call 17; refine (round_any _ _ _ (by decide) (by decide)).mono ?_; rw [hk]; rintro e w' ⟨rfl, rfl⟩))
      have hZ : Below w2.heap.size w2 ((w2.alloc (.cells #[.slice (some ⟨ga, 0, none⟩) 2 ca, .slice B m d, .int .i64 0, .int .i64 0, .int .i64 0, .int .i64 u] 34)).alloc (.cells #[.int .i64 0, .int .i64 0, .int .i64 0, .int .i64 a] 32)) := bAlloc (bAlloc (bRefl _) _) _
      generalize ((w2.alloc (.cells #[.slice (some ⟨ga, 0, none⟩) 2 ca, .slice B m d, .int .i64 0, .int .i64 0, .int .i64 0, .int .i64 u] 34)).alloc (.cells #[.int .i64 0, .int .i64 0, .int .i64 0, .int .i64 a] 32)) = w5 at hZ ⊢
      have hX0 := (HWN.out.below hZ).wld (xn_sm HN.out)
      refine (enab_any _ _ _ (oneP i) ⟨0, 0, 0, a⟩ (xB i ⟨0, 0, 0, u⟩) ((HT.out.below HB2.out).below hZ) (HP2.out.below hZ) (wldB ⟨0, 0, 0, u⟩ hX0) (by show (xn i).mail.length ≤ 1000; rw [HXm.out]; have := HN.out; omega) (by show (xn i).acts.length ≤ 1000; rw [HXa.out]; decide)).mono ?_
      rintro e w6 ⟨v6, rfl, hen⟩
      rw [hL] at hen
      have HB6 := hid_mk (bTrans HB2.out (bTrans hZ hen.low))
      clear hX0 hZ q0 q1 q2 q3 p0 p1 p2 p3 z1
      obtain ⟨A7, c7, rfl⟩ := hen.form
      clear hen
      go_wp2_with (first | (go_at_call 22; refine (ewake_any _ (HT.out.below HB6.out)).mono ?_; rintro e w7 ⟨rfl, hb7⟩))
      go_ret
      exact ⟨rfl, bTrans HB6.out hb7⟩
set_option maxHeartbeats 8000000 in
set_option maxRecDepth 100000 in
theorem bud_5y (w : World) (n : Nat) (kind a u : Int) (ht : Tab w) (hn : n ≤ 4) (ha : 0 ≤ a ∧ a ≤ 1000) (hu : 0 ≤ u ∧ u ≤ 2000) (hk : rnd kind 4 = 3) (h : u < a) : Calls Tryd.prog 8 #[.int .i64 (n : Int), .int .i64 kind, .int .i64 a, .int .i64 u] w fun e w' => e = .returned (.bool true) ∧ Below w.heap.size w w' := by
  have HT := hid_mk ht
  have d0 : decide ((n : Int) < 0) = false := decide_eq_false (by omega)
  have d1 : decide ((4 : Int) < (n : Int)) = false := decide_eq_false (by omega)
  have d2 : decide (a < 0) = false := decide_eq_false (by omega)
  have d3 : decide (1000 < a) = false := decide_eq_false (by omega)
  have d4 : decide (u < 0) = false := decide_eq_false (by omega)
  have d5 : decide (2000 < u) = false := decide_eq_false (by omega)
  have d6 : decide (a ≤ u) = false := decide_eq_false (by omega)
  obtain ⟨m, hm⟩ : ∃ m, n + 2 = m := ⟨_, rfl⟩
  have hwm : wrap64 ((n : Int) + 2) = (m : Int) := by rw [IntWalk.wrap64_in _ ⟨by omega, by omega⟩]; omega
  have hwm2 : (n : Int) + 2 = (m : Int) := by omega
  have hok := by5 hn ha hu h
  obtain ⟨L, hL⟩ : ∃ L, enabP (oneP n) ⟨0, 0, 0, a⟩ (xB n ⟨0, 0, 0, u⟩) = L := ⟨_, rfl⟩
  rw [hL] at hok
  try rw [hm] at hok
  have HOK := hid_mk hok
  have HLL := hid_mk (okL_len hok)
  obtain ⟨tt, htt⟩ : ∃ tt : Nat, L.length = tt := ⟨_, rfl⟩
  have hwt : wrap64 ((m : Int) + 2) = (tt : Int) := by have := HLL.out; rw [IntWalk.wrap64_in _ ⟨by omega, by omega⟩]; omega
  have hwt2 : (m : Int) + 2 = (tt : Int) := by have := HLL.out; omega
  have hLt : ((L.length : Int) == (tt : Int)) = true := beq_iff_eq.2 (by omega)
  have HLb : Hid (L.length ≤ 20) := by show _ ≤ _; have := HLL.out; omega
  clear hok htt
  have HM := hid_mk hm
  have HXm := hid_mk (xn_mail hn)
  have HXa := hid_mk (xn_acts hn)
  clear ht ha hu h
  obtain ⟨i0, hi0, hz0, hz1, hz2⟩ := info_parts infoN
  go_enter Tryd.func8, Tryd.ntmps8
  go_wp2_with fail
  refine (one_any _).mono ?_
  rintro e w1 ⟨rfl, ho, hb1⟩
  have HTN0 := hid_mk (TN.start ho hb1)
  have HN := hid_mk hn
  clear ho hb1 hm
  go_wp2
  go_loopg [10] n (fun g i10 wr => ∃ i : Nat, g = n - i ∧ i ≤ n ∧ i10 = .int .i64 (i : Int) ∧ ∃ v, Hid (TN w w1.heap.size (bootN i) v wr))
  case atStart => exact ⟨0, rfl, by omega, rfl, _, HTN0⟩
  case round =>
    obtain ⟨i, rfl, hi, rfl, v, tw⟩ := hrel
    clear HTN0
    obtain ⟨us, hu0⟩ := tw.out.nt
    obtain ⟨A9, c9, rfl⟩ := hu0.form
    obtain ⟨p0, p1, p2, p3⟩ := blk4 tw.out.box
    have hpl := tw.out.plt
    by_cases hlt : i < n
    · have HBS := hid_mk (bootN_succ i)
      have hln := bootN_len i
      generalize bootN i = l at *
      have hmd := modC i
      have hltI : (i : Int) < n := by omega
      have HU := hid_mk hu0
      have HNB := hid_mk tw.out.nb
      have HNEWS : Hid (∀ j y, (ntrow (note0 i) (.slice none 0 0))[j]? = some y → (wr.alloc (.cells #[.int .i64 ((i % 2 : Nat) : Int), .int .i64 0, .slice none 0 0] 42)).cell? ((⟨wr.heap.size, 0, none⟩ : Addr).add j) = some y) := World.news_of_block (heap_new _ _)
      have HONE : Hid (∀ y ∈ ntrow (note0 i) (.slice none 0 0), y.oneCell' = true) := fun y hy => by
        simp [ntrow] at hy; rcases hy with rfl | rfl | rfl <;> rfl
      have HM1 : Hid (l.length + 1 ≤ maxLen) := by show _ ≤ _; unfold maxLen; omega
      have HM2 : Hid ((l.length + 1) * 40 ≤ 140737488355328) := by show _ ≤ _; omega
      have HLO : Hid (w.heap.size + 1 + 1 + 1 ≤ wr.heap.size + 1) := by show _ ≤ _; have := tw.out.hp; omega
      clear hu0 hln
      go_wp2_with (first
        | (at_builtin; refine wpList_append_lies _ rfl _ _ 25 rfl (w.heap.size + 1 + 1 + 1) 42 i0 _ 3 40 Tryd.underlying25 hi0 hz0 hz1 hz2 rfl (by decide) (.slice A9 l.length c9) l.length _ rfl (own_block HU.out.own fun g hg hl => (bAlloc (bRefl wr) _).block g hl) ⟨wr.heap.size, 0, none⟩ 1 1 (ntrow (note0 i) (.slice none 0 0)) rfl rfl HNEWS.out HONE.out (by decide) HM1.out HM2.out (by simpa using HLO.out) (wr.heap.size + 1) (by simp) ?_; intro gn cn w6 ho6 hg6 hat6 hgl6; have hk6 := (hg6.block w1.heap.size (by simp; omega) (fun e => HNB.out e.symm)).trans (boxAt tw.out.box (bAlloc (bRefl _) _)); obtain ⟨f0, f1, f2, f3⟩ := blk4 hk6; have ff : ∀ o, w6.frozen? ⟨w1.heap.size, o, none⟩ = false := (fun o => heap_frozen hk6); have HO6 := hid_mk ho6; have HG6 := hid_mk hg6; have HAT6 := hid_mk hat6; clear ho6 hg6 hat6 hgl6 hk6))
      go_roundg (n - (i + 1))
      case measure => omega
      case rel => exact ⟨i + 1, rfl, by omega, by go_num, _, by rw [HBS.out]; exact tw.out.next (x := note0 i) HU.out rfl HO6.out HG6.out HAT6.out⟩
    · obtain rfl : i = n := by omega
      have HP := hid_mk (tw.out.prg HN.out)
      clear hu0
      go_wp2_with fail
      refine (oneS (n := i) _ _ HN.out (HT.out.below tw.out.low) HP.out).mono ?_
      rintro e w2 ⟨ga, ca, B, d, lo, hi', rfl, hwn, hb2⟩
      rw [HM.out] at hwn ⊢
      have HWN := hid_mk hwn
      have HB2 := hid_mk (bTrans tw.out.low hb2)
      have HP2 := hid_mk (HP.out.below hb2)
      have hpb := boxAt tw.out.box hb2
      have z1 : w1.heap.size < w2.heap.size := (Array.getElem?_eq_some_iff.1 hpb).1
      clear p0 p1 p2 p3
      obtain ⟨p0, p1, p2, p3⟩ := blk4 hpb
      have q0 := fun X Y => ((bAlloc (bAlloc (bRefl w2) X) Y).cell (p := ⟨w1.heap.size, 0, none⟩) z1).trans p0
      have q1 := fun X Y => ((bAlloc (bAlloc (bRefl w2) X) Y).cell (p := ⟨w1.heap.size, 1, none⟩) z1).trans p1
      have q2 := fun X Y => ((bAlloc (bAlloc (bRefl w2) X) Y).cell (p := ⟨w1.heap.size, 2, none⟩) z1).trans p2
      have q3 := fun X Y => ((bAlloc (bAlloc (bRefl w2) X) Y).cell (p := ⟨w1.heap.size, 3, none⟩) z1).trans p3
      clear hwn hb2 hpb
      go_wp2_with (first | (go_at_call 17; refine (round_any _ _ _ (by decide) (by decide)).mono ?_; rw [hk]; rintro e w' ⟨rfl, rfl⟩))
      have hZ : Below w2.heap.size w2 ((w2.alloc (.cells #[.slice (some ⟨ga, 0, none⟩) 2 ca, .slice B m d, .int .i64 0, .int .i64 0, .int .i64 0, .int .i64 u] 34)).alloc (.cells #[.int .i64 0, .int .i64 0, .int .i64 0, .int .i64 a] 32)) := bAlloc (bAlloc (bRefl _) _) _
      generalize ((w2.alloc (.cells #[.slice (some ⟨ga, 0, none⟩) 2 ca, .slice B m d, .int .i64 0, .int .i64 0, .int .i64 0, .int .i64 u] 34)).alloc (.cells #[.int .i64 0, .int .i64 0, .int .i64 0, .int .i64 a] 32)) = w5 at hZ ⊢
      have hX0 := (HWN.out.below hZ).wld (xn_sm HN.out)
      refine (enab_any _ _ _ (oneP i) ⟨0, 0, 0, a⟩ (xB i ⟨0, 0, 0, u⟩) ((HT.out.below HB2.out).below hZ) (HP2.out.below hZ) (wldB ⟨0, 0, 0, u⟩ hX0) (by show (xn i).mail.length ≤ 1000; rw [HXm.out]; have := HN.out; omega) (by show (xn i).acts.length ≤ 1000; rw [HXa.out]; decide)).mono ?_
      rintro e w6 ⟨v6, rfl, hen⟩
      rw [hL] at hen
      have HB6 := hid_mk (bTrans HB2.out (bTrans hZ hen.low))
      clear hX0 hZ q0 q1 q2 q3 p0 p1 p2 p3 z1
      obtain ⟨g7, c7, rfl, hc7, hg7⟩ := hen.blk (by have := HLL.out; have := HM.out; omega)
      have HEN := hid_mk hen
      clear hen
      go_wp2
      go_loopg [17] L.length (fun g i17 wr => ∃ t : Nat, g = L.length - t ∧ t ≤ L.length ∧ i17 = .int .i64 (t : Int) ∧ wr = w6)
      case atStart => exact ⟨0, rfl, by omega, rfl, rfl⟩
      case round =>
        obtain ⟨t, rfl, ht, rfl, rfl⟩ := hrel
        by_cases hlt2 : t < L.length
        · obtain ⟨e, he⟩ := at_lt hlt2
          have hki := HEN.out.kind he
          have hltI : (t : Int) < L.length := by omega
          by_cases hlo : t < m
          · have hloI : decide ((t : Int) < (m : Int)) = true := decide_eq_true (by omega)
            have hloG : decide ((m : Int) ≤ (t : Int)) = false := decide_eq_false (by omega)
            rw [okL_lo HOK.out he hlo] at hki
            clear he
            go_wp2
            go_roundg (L.length - (t + 1))
            case measure => omega
            case rel => exact ⟨t + 1, rfl, by omega, (by first | rfl | exact stepI (by have := HLb.out; omega)), rfl⟩
          · have hloI : decide ((t : Int) < (m : Int)) = false := decide_eq_false (by omega)
            have hloG : decide ((m : Int) ≤ (t : Int)) = true := decide_eq_true (by omega)
            rw [okL_hi HOK.out he (by omega)] at hki
            clear he
            go_wp2
            go_roundg (L.length - (t + 1))
            case measure => omega
            case rel => exact ⟨t + 1, rfl, by omega, (by first | rfl | exact stepI (by have := HLb.out; omega)), rfl⟩
        · obtain rfl : t = L.length := by omega
          go_wp2_with (first | (go_at_call 22; refine (ewake_any _ (HT.out.below HB6.out)).mono ?_; rintro e w7 ⟨rfl, hb7⟩))
          go_ret
          exact ⟨rfl, bTrans HB6.out hb7⟩
theorem ebud_any (w : World) (n kind a u : Int) (ht : Tab w) : Calls Tryd.prog 8 #[.int .i64 n, .int .i64 kind, .int .i64 a, .int .i64 u] w fun e w' => e = .returned (.bool true) ∧ Below w.heap.size w w' := by
  by_cases h0 : n < 0
  · exact bud_o0 w n kind a u ht h0
  by_cases h1 : 4 < n
  · exact bud_o1 w n kind a u ht h0 h1
  by_cases h2 : a < 0
  · exact bud_o2 w n kind a u ht h0 h1 h2
  by_cases h3 : 1000 < a
  · exact bud_o3 w n kind a u ht h0 h1 h2 h3
  by_cases h4 : u < 0
  · exact bud_o4 w n kind a u ht h0 h1 h2 h3 h4
  by_cases h5 : 2000 < u
  · exact bud_o5 w n kind a u ht h0 h1 h2 h3 h4 h5
  obtain ⟨k, rfl⟩ := Int.eq_ofNat_of_zero_le (show 0 ≤ n by omega)
  obtain ⟨r0, r1⟩ := rnd_bd kind (n := 4) (by decide)
  have h4 : rnd kind 4 = 0 ∨ rnd kind 4 = 1 ∨ rnd kind 4 = 2 ∨ rnd kind 4 = 3 := by omega
  by_cases hle : a ≤ u
  · rcases h4 with h | h | h | h
    · exact bud_2n w k kind a u ht (by omega) (by omega) (by omega) h hle
    · exact bud_3n w k kind a u ht (by omega) (by omega) (by omega) h hle
    · exact bud_4n w k kind a u ht (by omega) (by omega) (by omega) h hle
    · exact bud_5n w k kind a u ht (by omega) (by omega) (by omega) h hle
  · rcases h4 with h | h | h | h
    · exact bud_2y w k kind a u ht (by omega) (by omega) (by omega) h (by omega)
    · exact bud_3y w k kind a u ht (by omega) (by omega) (by omega) h (by omega)
    · exact bud_4y w k kind a u ht (by omega) (by omega) (by omega) h (by omega)
    · exact bud_5y w k kind a u ht (by omega) (by omega) (by omega) h (by omega)
end Go.Proofs.YtflpkdhmkgidiaaDoor
