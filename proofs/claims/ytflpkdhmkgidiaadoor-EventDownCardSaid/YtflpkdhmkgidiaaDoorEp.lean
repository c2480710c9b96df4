/-
  An event of chapter 10 that never may happen (EventOdd), the first half. Condition: the table of the instructions is in the world. An event of chapter 10 that never may happen (EventOdd). Condition: the table of the instructions is in the world.
-/
import Derived.Test.YtflpkdhmkgidiaaDoorE9
namespace Go.Proofs.YtflpkdhmkgidiaaDoor
open Go.RowKit
def rnd (k n : Int) : Int := (k.tmod n + n) % n
theorem wrapN {a n : Int} (h : 0 < n) : -n < a.tmod n ∧ a.tmod n < n := by
  have h1 := Int.tmod_lt_of_pos a h
  have h3 : -n < a.tmod n := by
    have := Int.tmod_lt_of_pos (-a) h
    rw [Int.neg_tmod] at this
    omega
  exact ⟨h3, h1⟩
theorem rnd_bd (k : Int) {n : Int} (h : 0 < n) : 0 ≤ rnd k n ∧ rnd k n < n := ⟨Int.emod_nonneg _ (by omega), Int.emod_lt_of_pos _ h⟩
set_option maxHeartbeats 400000 in
theorem round_any (k n : Int) (w : World) (h : 0 < n) (h2 : n < 100000) : Calls Tryd.prog 17 #[.int .i64 k, .int .i64 n] w fun e w' => e = .returned (.int .i64 (rnd k n)) ∧ w' = w := by
  obtain ⟨h3, h4⟩ := wrapN (a := k) h
  go_enter Tryd.func17, Tryd.ntmps17
  go_wp2
  go_ret
  exact ⟨rfl, rfl⟩

theorem x1 : xn 0 = ⟨[⟨[], true, 0, 0, 0⟩, ⟨[], false, 0, 0, 0⟩], [⟨⟨-1, 0, 0⟩, ⟨0, 0, []⟩⟩, ⟨⟨-1, 1, 0⟩, ⟨1, 0, []⟩⟩], ⟨0, 0, 0, 0⟩⟩ := by decide +kernel
theorem is1 (e : PEv) : isP (oneP 0) ⟨9, 9, 9, 9⟩ (xn 0) e = isL ⟨9, 9, 9, 9⟩ (xn 0) e := by
  rw [isP_eq (xn_fits (by decide) (by decide))]
  have : leftB ⟨9, 9, 9, 9⟩ (xn 0).used = ⟨9, 9, 9, 9⟩ := by decide +kernel
  rw [this]
theorem fnd1 {d : PID} (h0 : d ≠ ⟨-1, 0, 0⟩) (h1 : d ≠ ⟨-1, 1, 0⟩) : (xn 0).mail.findIdx? (fun m => decide (m.id = d)) = none := by
  rw [x1, List.findIdx?_eq_none_iff]
  intro m hm
  simp at hm
  rcases hm with rfl | rfl
  · exact decide_eq_false (Ne.symm h0)
  · exact decide_eq_false (Ne.symm h1)
theorem isM_none {l : PBud} {x : PWld} {e : PEv} (h : x.mail.findIdx? (fun m => decide (m.id = e.id)) = none) : isM l x e = false := by
  unfold isM; rw [h]; simp
theorem isM_who {l : PBud} {x : PWld} {e : PEv} (h : e.who ≠ 0) : isM l x e = false := by
  unfold isM; rw [decide_eq_false h]; rfl
theorem isA_id {l : PBud} {x : PWld} {e : PEv} (h : e.id ≠ ⟨0, 0, 0⟩) : isA l x e = false := by
  unfold isA; rw [decide_eq_false h]; rfl
theorem isA_who {l : PBud} {x : PWld} {e : PEv} (h : ¬ (0 ≤ e.who ∧ e.who < x.acts.length)) : isA l x e = false := by
  unfold isA; rw [decide_eq_false h]; simp
theorem isL_M {l : PBud} {x : PWld} {e : PEv} (h : e.kind = 1 ∨ e.kind = 2 ∨ e.kind = 3) : isL l x e = isM l x e := by unfold isL; rw [if_pos h]
theorem isL_A {l : PBud} {x : PWld} {e : PEv} (h : e.kind = 4 ∨ e.kind = 5) : isL l x e = isA l x e := by unfold isL; rw [if_neg (by omega), if_pos h]
theorem isL_0 {l : PBud} {x : PWld} {e : PEv} (h : ¬ (e.kind = 1 ∨ e.kind = 2 ∨ e.kind = 3)) (h2 : ¬ (e.kind = 4 ∨ e.kind = 5)) : isL l x e = false := by unfold isL; rw [if_neg h, if_neg h2]
theorem odd_kind {n : Int} (h : n < 1 ∨ 3 < n) : isP (oneP 0) ⟨9, 9, 9, 9⟩ (xn 0) ⟨n, ⟨-1, 0, 0⟩, 0⟩ = false := by
  rw [is1]
  by_cases h4 : n = 4 ∨ n = 5
  · rw [isL_A h4]; exact isA_id (show (⟨-1, 0, 0⟩ : PID) ≠ ⟨0, 0, 0⟩ by decide)
  · exact isL_0 (by show ¬ (n = 1 ∨ n = 2 ∨ n = 3); omega) h4
set_option maxHeartbeats 4000000 in
set_option maxRecDepth 100000 in
theorem odd_n (w : World) (k : Int) (ht : Tab w)  : Calls Tryd.prog 10 #[.int .i64 k, .int .i64 0] w fun e w' => e = .returned (.bool true) ∧ Below w.heap.size w w' := by
  have HT := hid_mk ht
  clear ht
  go_enter Tryd.func10, Tryd.ntmps10
  go_wp2_with fail
  refine (one_any _).mono ?_
  rintro e w1 ⟨rfl, ho, hb1⟩
  have HO := hid_mk ho
  have HB1 := hid_mk hb1
  clear ho hb1
  go_wp2_with fail
  refine (oneS (n := 0) _ _ (by decide) (HT.out.below (bAlloc HB1.out _)) (HO.out.below (bAlloc (bRefl _) _)).prg).mono ?_
  rintro e w2 ⟨ga, ca, B, d, lo, hi, rfl, hwn, hb2⟩
  have hPB := boxAt (heap_new w1 (.cells #[.slice (some ⟨w.heap.size + 1, 0, none⟩) 1 1, .slice (some ⟨w.heap.size + 1 + 1, 0, none⟩) 2 2, .slice (some ⟨w.heap.size + 1 + 1 + 1, 0, none⟩) 2 2, .int .i64 5] 27)) hb2
  have HO2 := hid_mk (HO.out.below (bTrans (bAlloc (bRefl _) _) hb2))
  have HB2 := hid_mk (bTrans (bAlloc HB1.out _) hb2)
  have HX := hid_mk (wldU (xn_used (by decide)) (hwn.wld (xn_sm (by decide))))
  have HT2 := hid_mk (HT.out.below HB2.out)
  obtain ⟨p0, p1, p2, p3⟩ := blk4 hPB
  have z1 : w1.heap.size < w2.heap.size := (Array.getElem?_eq_some_iff.1 hPB).1
  have HBA : Hid (∀ X Y Z, Below w2.heap.size w2 (((w2.alloc X).alloc Y).alloc Z)) := fun X Y Z => bAlloc (bAlloc (bAlloc (bRefl _) _) _) _
  have q0 := fun X Y Z => ((HBA.out X Y Z).cell (p := ⟨w1.heap.size, 0, none⟩) z1).trans p0
  have q1 := fun X Y Z => ((HBA.out X Y Z).cell (p := ⟨w1.heap.size, 1, none⟩) z1).trans p1
  have q2 := fun X Y Z => ((HBA.out X Y Z).cell (p := ⟨w1.heap.size, 2, none⟩) z1).trans p2
  have q3 := fun X Y Z => ((HBA.out X Y Z).cell (p := ⟨w1.heap.size, 3, none⟩) z1).trans p3
  clear hb2 hwn hPB
  go_wp2_with (first
    | (go_at_call 23; refine (is_5 _ _ _ (oneP 0) ⟨9, 9, 9, 9⟩ (xn 0) _ _ _ _ _ (HT2.out.below (by exact HBA.out _ _ _)) (HO2.out.below (by exact HBA.out _ _ _)).prg (HX.out.below (by exact HBA.out _ _ _))).mono ?_; rintro e w8 ⟨rfl, hb8⟩; have HB8 := hid_mk (bTrans (HBA.out _ _ _) hb8); clear hb8)
    | (go_at_call 22; refine (ewake_any _ (HT2.out.below (by first | exact HB8.out | exact bAlloc (bRefl _) _))).mono ?_; rintro e w9 ⟨rfl, hb9⟩; have HB9 := hid_mk (bTrans (by first | exact HB8.out | exact bAlloc (bRefl _) _) hb9); clear hb9))
  go_ret
  exact ⟨rfl, bTrans HB2.out HB9.out⟩
set_option maxHeartbeats 4000000 in
set_option maxRecDepth 100000 in
theorem odd_0a (w : World) (k n : Int) (ht : Tab w) (hk : rnd k 7 = 0) (hn : n ≠ 0) (h : n < 1) : Calls Tryd.prog 10 #[.int .i64 k, .int .i64 n] w fun e w' => e = .returned (.bool true) ∧ Below w.heap.size w w' := by
  have HT := hid_mk ht
  clear ht
  have hn0 : (n == 0) = false := beq_eq_false_iff_ne.2 hn
  have h1 : ¬ (1 ≤ n) := by omega
  have h1d : decide (1 ≤ n) = false := decide_eq_false h1
  have hR : isP (oneP 0) ⟨9, 9, 9, 9⟩ (xn 0) ⟨n, ⟨-1, 0, 0⟩, 0⟩ = false := odd_kind (Or.inl h)
  clear hn h h1
  go_enter Tryd.func10, Tryd.ntmps10
  go_wp2_with fail
  refine (one_any _).mono ?_
  rintro e w1 ⟨rfl, ho, hb1⟩
  have HO := hid_mk ho
  have HB1 := hid_mk hb1
  clear ho hb1
  go_wp2_with fail
  refine (oneS (n := 0) _ _ (by decide) (HT.out.below (bAlloc HB1.out _)) (HO.out.below (bAlloc (bRefl _) _)).prg).mono ?_
  rintro e w2 ⟨ga, ca, B, d, lo, hi, rfl, hwn, hb2⟩
  have hPB := boxAt (heap_new w1 (.cells #[.slice (some ⟨w.heap.size + 1, 0, none⟩) 1 1, .slice (some ⟨w.heap.size + 1 + 1, 0, none⟩) 2 2, .slice (some ⟨w.heap.size + 1 + 1 + 1, 0, none⟩) 2 2, .int .i64 5] 27)) hb2
  have HO2 := hid_mk (HO.out.below (bTrans (bAlloc (bRefl _) _) hb2))
  have HB2 := hid_mk (bTrans (bAlloc HB1.out _) hb2)
  have HX := hid_mk (wldU (xn_used (by decide)) (hwn.wld (xn_sm (by decide))))
  have HT2 := hid_mk (HT.out.below HB2.out)
  obtain ⟨p0, p1, p2, p3⟩ := blk4 hPB
  have z1 : w1.heap.size < w2.heap.size := (Array.getElem?_eq_some_iff.1 hPB).1
  have HBA : Hid (∀ X Y Z, Below w2.heap.size w2 (((w2.alloc X).alloc Y).alloc Z)) := fun X Y Z => bAlloc (bAlloc (bAlloc (bRefl _) _) _) _
  have q0 := fun X Y Z => ((HBA.out X Y Z).cell (p := ⟨w1.heap.size, 0, none⟩) z1).trans p0
  have q1 := fun X Y Z => ((HBA.out X Y Z).cell (p := ⟨w1.heap.size, 1, none⟩) z1).trans p1
  have q2 := fun X Y Z => ((HBA.out X Y Z).cell (p := ⟨w1.heap.size, 2, none⟩) z1).trans p2
  have q3 := fun X Y Z => ((HBA.out X Y Z).cell (p := ⟨w1.heap.size, 3, none⟩) z1).trans p3
  clear hb2 hwn hPB
  go_wp2_with (first
    | (go_at_call 17; refine (round_any _ _ _ (by decide) (by decide)).mono ?_; rw [hk]; rintro e w' ⟨rfl, rfl⟩)
    | (go_at_call 23; refine (is_5 _ _ _ (oneP 0) ⟨9, 9, 9, 9⟩ (xn 0) _ _ _ _ _ (HT2.out.below (by exact HBA.out _ _ _)) (HO2.out.below (by exact HBA.out _ _ _)).prg (HX.out.below (by exact HBA.out _ _ _))).mono ?_; rintro e w8 ⟨rfl, hb8⟩; have HB8 := hid_mk (bTrans (HBA.out _ _ _) hb8); clear hb8)
    | (go_at_call 22; refine (ewake_any _ (HT2.out.below (by first | exact HB8.out | exact bAlloc (bRefl _) _))).mono ?_; rintro e w9 ⟨rfl, hb9⟩; have HB9 := hid_mk (bTrans (by first | exact HB8.out | exact bAlloc (bRefl _) _) hb9); clear hb9))
  go_ret
  exact ⟨rfl, bTrans HB2.out HB9.out⟩
set_option maxHeartbeats 4000000 in
set_option maxRecDepth 100000 in
theorem odd_0b (w : World) (k n : Int) (ht : Tab w) (hk : rnd k 7 = 0) (hn : n ≠ 0) (h : 3 < n) : Calls Tryd.prog 10 #[.int .i64 k, .int .i64 n] w fun e w' => e = .returned (.bool true) ∧ Below w.heap.size w w' := by
  have HT := hid_mk ht
  clear ht
  have hn0 : (n == 0) = false := beq_eq_false_iff_ne.2 hn
  have h1d : decide (1 ≤ n) = true := decide_eq_true (by omega)
  have h3d : decide (n ≤ 3) = false := decide_eq_false (by omega)
  have hR : isP (oneP 0) ⟨9, 9, 9, 9⟩ (xn 0) ⟨n, ⟨-1, 0, 0⟩, 0⟩ = false := odd_kind (Or.inr h)
  clear hn h
  go_enter Tryd.func10, Tryd.ntmps10
  go_wp2_with fail
  refine (one_any _).mono ?_
  rintro e w1 ⟨rfl, ho, hb1⟩
  have HO := hid_mk ho
  have HB1 := hid_mk hb1
  clear ho hb1
  go_wp2_with fail
  refine (oneS (n := 0) _ _ (by decide) (HT.out.below (bAlloc HB1.out _)) (HO.out.below (bAlloc (bRefl _) _)).prg).mono ?_
  rintro e w2 ⟨ga, ca, B, d, lo, hi, rfl, hwn, hb2⟩
  have hPB := boxAt (heap_new w1 (.cells #[.slice (some ⟨w.heap.size + 1, 0, none⟩) 1 1, .slice (some ⟨w.heap.size + 1 + 1, 0, none⟩) 2 2, .slice (some ⟨w.heap.size + 1 + 1 + 1, 0, none⟩) 2 2, .int .i64 5] 27)) hb2
  have HO2 := hid_mk (HO.out.below (bTrans (bAlloc (bRefl _) _) hb2))
  have HB2 := hid_mk (bTrans (bAlloc HB1.out _) hb2)
  have HX := hid_mk (wldU (xn_used (by decide)) (hwn.wld (xn_sm (by decide))))
  have HT2 := hid_mk (HT.out.below HB2.out)
  obtain ⟨p0, p1, p2, p3⟩ := blk4 hPB
  have z1 : w1.heap.size < w2.heap.size := (Array.getElem?_eq_some_iff.1 hPB).1
  have HBA : Hid (∀ X Y Z, Below w2.heap.size w2 (((w2.alloc X).alloc Y).alloc Z)) := fun X Y Z => bAlloc (bAlloc (bAlloc (bRefl _) _) _) _
  have q0 := fun X Y Z => ((HBA.out X Y Z).cell (p := ⟨w1.heap.size, 0, none⟩) z1).trans p0
  have q1 := fun X Y Z => ((HBA.out X Y Z).cell (p := ⟨w1.heap.size, 1, none⟩) z1).trans p1
  have q2 := fun X Y Z => ((HBA.out X Y Z).cell (p := ⟨w1.heap.size, 2, none⟩) z1).trans p2
  have q3 := fun X Y Z => ((HBA.out X Y Z).cell (p := ⟨w1.heap.size, 3, none⟩) z1).trans p3
  clear hb2 hwn hPB
  go_wp2_with (first
    | (go_at_call 17; refine (round_any _ _ _ (by decide) (by decide)).mono ?_; rw [hk]; rintro e w' ⟨rfl, rfl⟩)
    | (go_at_call 23; refine (is_5 _ _ _ (oneP 0) ⟨9, 9, 9, 9⟩ (xn 0) _ _ _ _ _ (HT2.out.below (by exact HBA.out _ _ _)) (HO2.out.below (by exact HBA.out _ _ _)).prg (HX.out.below (by exact HBA.out _ _ _))).mono ?_; rintro e w8 ⟨rfl, hb8⟩; have HB8 := hid_mk (bTrans (HBA.out _ _ _) hb8); clear hb8)
    | (go_at_call 22; refine (ewake_any _ (HT2.out.below (by first | exact HB8.out | exact bAlloc (bRefl _) _))).mono ?_; rintro e w9 ⟨rfl, hb9⟩; have HB9 := hid_mk (bTrans (by first | exact HB8.out | exact bAlloc (bRefl _) _) hb9); clear hb9))
  go_ret
  exact ⟨rfl, bTrans HB2.out HB9.out⟩
set_option maxHeartbeats 4000000 in
set_option maxRecDepth 100000 in
theorem odd_0c1 (w : World) (k : Int) (ht : Tab w) (hk : rnd k 7 = 0)  : Calls Tryd.prog 10 #[.int .i64 k, .int .i64 1] w fun e w' => e = .returned (.bool true) ∧ Below w.heap.size w w' := by
  have HT := hid_mk ht
  clear ht
  have hR : isP (oneP 0) ⟨9, 9, 9, 9⟩ (xn 0) ⟨1, ⟨-1, 0, 0⟩, 0⟩ = true := by rw [is1]; decide +kernel
  go_enter Tryd.func10, Tryd.ntmps10
  go_wp2_with fail
  refine (one_any _).mono ?_
  rintro e w1 ⟨rfl, ho, hb1⟩
  have HO := hid_mk ho
  have HB1 := hid_mk hb1
  clear ho hb1
  go_wp2_with fail
  refine (oneS (n := 0) _ _ (by decide) (HT.out.below (bAlloc HB1.out _)) (HO.out.below (bAlloc (bRefl _) _)).prg).mono ?_
  rintro e w2 ⟨ga, ca, B, d, lo, hi, rfl, hwn, hb2⟩
  have hPB := boxAt (heap_new w1 (.cells #[.slice (some ⟨w.heap.size + 1, 0, none⟩) 1 1, .slice (some ⟨w.heap.size + 1 + 1, 0, none⟩) 2 2, .slice (some ⟨w.heap.size + 1 + 1 + 1, 0, none⟩) 2 2, .int .i64 5] 27)) hb2
  have HO2 := hid_mk (HO.out.below (bTrans (bAlloc (bRefl _) _) hb2))
  have HB2 := hid_mk (bTrans (bAlloc HB1.out _) hb2)
  have HX := hid_mk (wldU (xn_used (by decide)) (hwn.wld (xn_sm (by decide))))
  have HT2 := hid_mk (HT.out.below HB2.out)
  obtain ⟨p0, p1, p2, p3⟩ := blk4 hPB
  have z1 : w1.heap.size < w2.heap.size := (Array.getElem?_eq_some_iff.1 hPB).1
  have HBA : Hid (∀ X Y Z, Below w2.heap.size w2 (((w2.alloc X).alloc Y).alloc Z)) := fun X Y Z => bAlloc (bAlloc (bAlloc (bRefl _) _) _) _
  have q0 := fun X Y Z => ((HBA.out X Y Z).cell (p := ⟨w1.heap.size, 0, none⟩) z1).trans p0
  have q1 := fun X Y Z => ((HBA.out X Y Z).cell (p := ⟨w1.heap.size, 1, none⟩) z1).trans p1
  have q2 := fun X Y Z => ((HBA.out X Y Z).cell (p := ⟨w1.heap.size, 2, none⟩) z1).trans p2
  have q3 := fun X Y Z => ((HBA.out X Y Z).cell (p := ⟨w1.heap.size, 3, none⟩) z1).trans p3
  clear hb2 hwn hPB
  go_wp2_with (first
    | (go_at_call 17; refine (round_any _ _ _ (by decide) (by decide)).mono ?_; rw [hk]; rintro e w' ⟨rfl, rfl⟩)
    | (go_at_call 23; refine (is_5 _ _ _ (oneP 0) ⟨9, 9, 9, 9⟩ (xn 0) _ _ _ _ _ (HT2.out.below (by exact HBA.out _ _ _)) (HO2.out.below (by exact HBA.out _ _ _)).prg (HX.out.below (by exact HBA.out _ _ _))).mono ?_; rintro e w8 ⟨rfl, hb8⟩; have HB8 := hid_mk (bTrans (HBA.out _ _ _) hb8); clear hb8)
    | (go_at_call 22; refine (ewake_any _ (HT2.out.below (by first | exact HB8.out | exact bAlloc (bRefl _) _))).mono ?_; rintro e w9 ⟨rfl, hb9⟩; have HB9 := hid_mk (bTrans (by first | exact HB8.out | exact bAlloc (bRefl _) _) hb9); clear hb9))
  go_ret
  exact ⟨rfl, bTrans HB2.out HB9.out⟩
set_option maxHeartbeats 4000000 in
set_option maxRecDepth 100000 in
theorem odd_0c2 (w : World) (k : Int) (ht : Tab w) (hk : rnd k 7 = 0)  : Calls Tryd.prog 10 #[.int .i64 k, .int .i64 2] w fun e w' => e = .returned (.bool true) ∧ Below w.heap.size w w' := by
  have HT := hid_mk ht
  clear ht
  have hR : isP (oneP 0) ⟨9, 9, 9, 9⟩ (xn 0) ⟨2, ⟨-1, 0, 0⟩, 0⟩ = true := by rw [is1]; decide +kernel
  go_enter Tryd.func10, Tryd.ntmps10
  go_wp2_with fail
  refine (one_any _).mono ?_
  rintro e w1 ⟨rfl, ho, hb1⟩
  have HO := hid_mk ho
  have HB1 := hid_mk hb1
  clear ho hb1
  go_wp2_with fail
  refine (oneS (n := 0) _ _ (by decide) (HT.out.below (bAlloc HB1.out _)) (HO.out.below (bAlloc (bRefl _) _)).prg).mono ?_
  rintro e w2 ⟨ga, ca, B, d, lo, hi, rfl, hwn, hb2⟩
  have hPB := boxAt (heap_new w1 (.cells #[.slice (some ⟨w.heap.size + 1, 0, none⟩) 1 1, .slice (some ⟨w.heap.size + 1 + 1, 0, none⟩) 2 2, .slice (some ⟨w.heap.size + 1 + 1 + 1, 0, none⟩) 2 2, .int .i64 5] 27)) hb2
  have HO2 := hid_mk (HO.out.below (bTrans (bAlloc (bRefl _) _) hb2))
  have HB2 := hid_mk (bTrans (bAlloc HB1.out _) hb2)
  have HX := hid_mk (wldU (xn_used (by decide)) (hwn.wld (xn_sm (by decide))))
  have HT2 := hid_mk (HT.out.below HB2.out)
  obtain ⟨p0, p1, p2, p3⟩ := blk4 hPB
  have z1 : w1.heap.size < w2.heap.size := (Array.getElem?_eq_some_iff.1 hPB).1
  have HBA : Hid (∀ X Y Z, Below w2.heap.size w2 (((w2.alloc X).alloc Y).alloc Z)) := fun X Y Z => bAlloc (bAlloc (bAlloc (bRefl _) _) _) _
  have q0 := fun X Y Z => ((HBA.out X Y Z).cell (p := ⟨w1.heap.size, 0, none⟩) z1).trans p0
  have q1 := fun X Y Z => ((HBA.out X Y Z).cell (p := ⟨w1.heap.size, 1, none⟩) z1).trans p1
  have q2 := fun X Y Z => ((HBA.out X Y Z).cell (p := ⟨w1.heap.size, 2, none⟩) z1).trans p2
  have q3 := fun X Y Z => ((HBA.out X Y Z).cell (p := ⟨w1.heap.size, 3, none⟩) z1).trans p3
  clear hb2 hwn hPB
  go_wp2_with (first
    | (go_at_call 17; refine (round_any _ _ _ (by decide) (by decide)).mono ?_; rw [hk]; rintro e w' ⟨rfl, rfl⟩)
    | (go_at_call 23; refine (is_5 _ _ _ (oneP 0) ⟨9, 9, 9, 9⟩ (xn 0) _ _ _ _ _ (HT2.out.below (by exact HBA.out _ _ _)) (HO2.out.below (by exact HBA.out _ _ _)).prg (HX.out.below (by exact HBA.out _ _ _))).mono ?_; rintro e w8 ⟨rfl, hb8⟩; have HB8 := hid_mk (bTrans (HBA.out _ _ _) hb8); clear hb8)
    | (go_at_call 22; refine (ewake_any _ (HT2.out.below (by first | exact HB8.out | exact bAlloc (bRefl _) _))).mono ?_; rintro e w9 ⟨rfl, hb9⟩; have HB9 := hid_mk (bTrans (by first | exact HB8.out | exact bAlloc (bRefl _) _) hb9); clear hb9))
  go_ret
  exact ⟨rfl, bTrans HB2.out HB9.out⟩
set_option maxHeartbeats 4000000 in
set_option maxRecDepth 100000 in
theorem odd_0c3 (w : World) (k : Int) (ht : Tab w) (hk : rnd k 7 = 0)  : Calls Tryd.prog 10 #[.int .i64 k, .int .i64 3] w fun e w' => e = .returned (.bool true) ∧ Below w.heap.size w w' := by
  have HT := hid_mk ht
  clear ht
  have hR : isP (oneP 0) ⟨9, 9, 9, 9⟩ (xn 0) ⟨3, ⟨-1, 0, 0⟩, 0⟩ = true := by rw [is1]; decide +kernel
  go_enter Tryd.func10, Tryd.ntmps10
  go_wp2_with fail
  refine (one_any _).mono ?_
  rintro e w1 ⟨rfl, ho, hb1⟩
  have HO := hid_mk ho
  have HB1 := hid_mk hb1
  clear ho hb1
  go_wp2_with fail
  refine (oneS (n := 0) _ _ (by decide) (HT.out.below (bAlloc HB1.out _)) (HO.out.below (bAlloc (bRefl _) _)).prg).mono ?_
  rintro e w2 ⟨ga, ca, B, d, lo, hi, rfl, hwn, hb2⟩
  have hPB := boxAt (heap_new w1 (.cells #[.slice (some ⟨w.heap.size + 1, 0, none⟩) 1 1, .slice (some ⟨w.heap.size + 1 + 1, 0, none⟩) 2 2, .slice (some ⟨w.heap.size + 1 + 1 + 1, 0, none⟩) 2 2, .int .i64 5] 27)) hb2
  have HO2 := hid_mk (HO.out.below (bTrans (bAlloc (bRefl _) _) hb2))
  have HB2 := hid_mk (bTrans (bAlloc HB1.out _) hb2)
  have HX := hid_mk (wldU (xn_used (by decide)) (hwn.wld (xn_sm (by decide))))
  have HT2 := hid_mk (HT.out.below HB2.out)
  obtain ⟨p0, p1, p2, p3⟩ := blk4 hPB
  have z1 : w1.heap.size < w2.heap.size := (Array.getElem?_eq_some_iff.1 hPB).1
  have HBA : Hid (∀ X Y Z, Below w2.heap.size w2 (((w2.alloc X).alloc Y).alloc Z)) := fun X Y Z => bAlloc (bAlloc (bAlloc (bRefl _) _) _) _
  have q0 := fun X Y Z => ((HBA.out X Y Z).cell (p := ⟨w1.heap.size, 0, none⟩) z1).trans p0
  have q1 := fun X Y Z => ((HBA.out X Y Z).cell (p := ⟨w1.heap.size, 1, none⟩) z1).trans p1
  have q2 := fun X Y Z => ((HBA.out X Y Z).cell (p := ⟨w1.heap.size, 2, none⟩) z1).trans p2
  have q3 := fun X Y Z => ((HBA.out X Y Z).cell (p := ⟨w1.heap.size, 3, none⟩) z1).trans p3
  clear hb2 hwn hPB
  go_wp2_with (first
    | (go_at_call 17; refine (round_any _ _ _ (by decide) (by decide)).mono ?_; rw [hk]; rintro e w' ⟨rfl, rfl⟩)
    | (go_at_call 23; refine (is_5 _ _ _ (oneP 0) ⟨9, 9, 9, 9⟩ (xn 0) _ _ _ _ _ (HT2.out.below (by exact HBA.out _ _ _)) (HO2.out.below (by exact HBA.out _ _ _)).prg (HX.out.below (by exact HBA.out _ _ _))).mono ?_; rintro e w8 ⟨rfl, hb8⟩; have HB8 := hid_mk (bTrans (HBA.out _ _ _) hb8); clear hb8)
    | (go_at_call 22; refine (ewake_any _ (HT2.out.below (by first | exact HB8.out | exact bAlloc (bRefl _) _))).mono ?_; rintro e w9 ⟨rfl, hb9⟩; have HB9 := hid_mk (bTrans (by first | exact HB8.out | exact bAlloc (bRefl _) _) hb9); clear hb9))
  go_ret
  exact ⟨rfl, bTrans HB2.out HB9.out⟩
set_option maxHeartbeats 4000000 in
set_option maxRecDepth 100000 in
theorem odd_1 (w : World) (k n : Int) (ht : Tab w) (hk : rnd k 7 = 1) (hn : n ≠ 0) : Calls Tryd.prog 10 #[.int .i64 k, .int .i64 n] w fun e w' => e = .returned (.bool true) ∧ Below w.heap.size w w' := by
  have HT := hid_mk ht
  clear ht
  have hn0 : (n == 0) = false := beq_eq_false_iff_ne.2 hn
  have hR : isP (oneP 0) ⟨9, 9, 9, 9⟩ (xn 0) ⟨1, ⟨-1, 0, 0⟩, n⟩ = false := by rw [is1, isL_M (Or.inl rfl)]; exact isM_who hn
  clear hn
  go_enter Tryd.func10, Tryd.ntmps10
  go_wp2_with fail
  refine (one_any _).mono ?_
  rintro e w1 ⟨rfl, ho, hb1⟩
  have HO := hid_mk ho
  have HB1 := hid_mk hb1
  clear ho hb1
  go_wp2_with fail
  refine (oneS (n := 0) _ _ (by decide) (HT.out.below (bAlloc HB1.out _)) (HO.out.below (bAlloc (bRefl _) _)).prg).mono ?_
  rintro e w2 ⟨ga, ca, B, d, lo, hi, rfl, hwn, hb2⟩
  have hPB := boxAt (heap_new w1 (.cells #[.slice (some ⟨w.heap.size + 1, 0, none⟩) 1 1, .slice (some ⟨w.heap.size + 1 + 1, 0, none⟩) 2 2, .slice (some ⟨w.heap.size + 1 + 1 + 1, 0, none⟩) 2 2, .int .i64 5] 27)) hb2
  have HO2 := hid_mk (HO.out.below (bTrans (bAlloc (bRefl _) _) hb2))
  have HB2 := hid_mk (bTrans (bAlloc HB1.out _) hb2)
  have HX := hid_mk (wldU (xn_used (by decide)) (hwn.wld (xn_sm (by decide))))
  have HT2 := hid_mk (HT.out.below HB2.out)
  obtain ⟨p0, p1, p2, p3⟩ := blk4 hPB
  have z1 : w1.heap.size < w2.heap.size := (Array.getElem?_eq_some_iff.1 hPB).1
  have HBA : Hid (∀ X Y Z, Below w2.heap.size w2 (((w2.alloc X).alloc Y).alloc Z)) := fun X Y Z => bAlloc (bAlloc (bAlloc (bRefl _) _) _) _
  have q0 := fun X Y Z => ((HBA.out X Y Z).cell (p := ⟨w1.heap.size, 0, none⟩) z1).trans p0
  have q1 := fun X Y Z => ((HBA.out X Y Z).cell (p := ⟨w1.heap.size, 1, none⟩) z1).trans p1
  have q2 := fun X Y Z => ((HBA.out X Y Z).cell (p := ⟨w1.heap.size, 2, none⟩) z1).trans p2
  have q3 := fun X Y Z => ((HBA.out X Y Z).cell (p := ⟨w1.heap.size, 3, none⟩) z1).trans p3
  clear hb2 hwn hPB
  go_wp2_with (first
    | (go_at_call 17; refine (round_any _ _ _ (by decide) (by decide)).mono ?_; rw [hk]; rintro e w' ⟨rfl, rfl⟩)
    | (go_at_call 23; refine (is_5 _ _ _ (oneP 0) ⟨9, 9, 9, 9⟩ (xn 0) _ _ _ _ _ (HT2.out.below (by exact HBA.out _ _ _)) (HO2.out.below (by exact HBA.out _ _ _)).prg (HX.out.below (by exact HBA.out _ _ _))).mono ?_; rintro e w8 ⟨rfl, hb8⟩; have HB8 := hid_mk (bTrans (HBA.out _ _ _) hb8); clear hb8)
    | (go_at_call 22; refine (ewake_any _ (HT2.out.below (by first | exact HB8.out | exact bAlloc (bRefl _) _))).mono ?_; rintro e w9 ⟨rfl, hb9⟩; have HB9 := hid_mk (bTrans (by first | exact HB8.out | exact bAlloc (bRefl _) _) hb9); clear hb9))
  go_ret
  exact ⟨rfl, bTrans HB2.out HB9.out⟩
set_option maxHeartbeats 4000000 in
set_option maxRecDepth 100000 in
theorem odd_2 (w : World) (k n : Int) (ht : Tab w) (hk : rnd k 7 = 2) (hn : n ≠ 0) : Calls Tryd.prog 10 #[.int .i64 k, .int .i64 n] w fun e w' => e = .returned (.bool true) ∧ Below w.heap.size w w' := by
  have HT := hid_mk ht
  clear ht
  have hn0 : (n == 0) = false := beq_eq_false_iff_ne.2 hn
  have hR : isP (oneP 0) ⟨9, 9, 9, 9⟩ (xn 0) ⟨1, ⟨-1, 0, n⟩, 0⟩ = false := by rw [is1, isL_M (Or.inl rfl)]; exact isM_none (fnd1 (fun e => hn (congrArg PID.c e)) (fun e => hn (congrArg PID.c e)))
  clear hn
  go_enter Tryd.func10, Tryd.ntmps10
  go_wp2_with fail
  refine (one_any _).mono ?_
  rintro e w1 ⟨rfl, ho, hb1⟩
  have HO := hid_mk ho
  have HB1 := hid_mk hb1
  clear ho hb1
  go_wp2_with fail
  refine (oneS (n := 0) _ _ (by decide) (HT.out.below (bAlloc HB1.out _)) (HO.out.below (bAlloc (bRefl _) _)).prg).mono ?_
  rintro e w2 ⟨ga, ca, B, d, lo, hi, rfl, hwn, hb2⟩
  have hPB := boxAt (heap_new w1 (.cells #[.slice (some ⟨w.heap.size + 1, 0, none⟩) 1 1, .slice (some ⟨w.heap.size + 1 + 1, 0, none⟩) 2 2, .slice (some ⟨w.heap.size + 1 + 1 + 1, 0, none⟩) 2 2, .int .i64 5] 27)) hb2
  have HO2 := hid_mk (HO.out.below (bTrans (bAlloc (bRefl _) _) hb2))
  have HB2 := hid_mk (bTrans (bAlloc HB1.out _) hb2)
  have HX := hid_mk (wldU (xn_used (by decide)) (hwn.wld (xn_sm (by decide))))
  have HT2 := hid_mk (HT.out.below HB2.out)
  obtain ⟨p0, p1, p2, p3⟩ := blk4 hPB
  have z1 : w1.heap.size < w2.heap.size := (Array.getElem?_eq_some_iff.1 hPB).1
  have HBA : Hid (∀ X Y Z, Below w2.heap.size w2 (((w2.alloc X).alloc Y).alloc Z)) := fun X Y Z => bAlloc (bAlloc (bAlloc (bRefl _) _) _) _
  have q0 := fun X Y Z => ((HBA.out X Y Z).cell (p := ⟨w1.heap.size, 0, none⟩) z1).trans p0
  have q1 := fun X Y Z => ((HBA.out X Y Z).cell (p := ⟨w1.heap.size, 1, none⟩) z1).trans p1
  have q2 := fun X Y Z => ((HBA.out X Y Z).cell (p := ⟨w1.heap.size, 2, none⟩) z1).trans p2
  have q3 := fun X Y Z => ((HBA.out X Y Z).cell (p := ⟨w1.heap.size, 3, none⟩) z1).trans p3
  clear hb2 hwn hPB
  go_wp2_with (first
    | (go_at_call 17; refine (round_any _ _ _ (by decide) (by decide)).mono ?_; rw [hk]; rintro e w' ⟨rfl, rfl⟩)
    | (go_at_call 23; refine (is_5 _ _ _ (oneP 0) ⟨9, 9, 9, 9⟩ (xn 0) _ _ _ _ _ (HT2.out.below (by exact HBA.out _ _ _)) (HO2.out.below (by exact HBA.out _ _ _)).prg (HX.out.below (by exact HBA.out _ _ _))).mono ?_; rintro e w8 ⟨rfl, hb8⟩; have HB8 := hid_mk (bTrans (HBA.out _ _ _) hb8); clear hb8)
    | (go_at_call 22; refine (ewake_any _ (HT2.out.below (by first | exact HB8.out | exact bAlloc (bRefl _) _))).mono ?_; rintro e w9 ⟨rfl, hb9⟩; have HB9 := hid_mk (bTrans (by first | exact HB8.out | exact bAlloc (bRefl _) _) hb9); clear hb9))
  go_ret
  exact ⟨rfl, bTrans HB2.out HB9.out⟩
set_option maxHeartbeats 4000000 in
set_option maxRecDepth 100000 in
theorem odd_3 (w : World) (k n : Int) (ht : Tab w) (hk : rnd k 7 = 3) (hn : n ≠ 0) : Calls Tryd.prog 10 #[.int .i64 k, .int .i64 n] w fun e w' => e = .returned (.bool true) ∧ Below w.heap.size w w' := by
  have HT := hid_mk ht
  clear ht
  have hn0 : (n == 0) = false := beq_eq_false_iff_ne.2 hn
  have hR : isP (oneP 0) ⟨9, 9, 9, 9⟩ (xn 0) ⟨5, ⟨0, n, 0⟩, 0⟩ = false := by rw [is1, isL_A (Or.inr rfl)]; exact isA_id (fun e => hn (congrArg PID.n e))
  clear hn
  go_enter Tryd.func10, Tryd.ntmps10
  go_wp2_with fail
  refine (one_any _).mono ?_
  rintro e w1 ⟨rfl, ho, hb1⟩
  have HO := hid_mk ho
  have HB1 := hid_mk hb1
  clear ho hb1
  go_wp2_with fail
  refine (oneS (n := 0) _ _ (by decide) (HT.out.below (bAlloc HB1.out _)) (HO.out.below (bAlloc (bRefl _) _)).prg).mono ?_
  rintro e w2 ⟨ga, ca, B, d, lo, hi, rfl, hwn, hb2⟩
  have hPB := boxAt (heap_new w1 (.cells #[.slice (some ⟨w.heap.size + 1, 0, none⟩) 1 1, .slice (some ⟨w.heap.size + 1 + 1, 0, none⟩) 2 2, .slice (some ⟨w.heap.size + 1 + 1 + 1, 0, none⟩) 2 2, .int .i64 5] 27)) hb2
  have HO2 := hid_mk (HO.out.below (bTrans (bAlloc (bRefl _) _) hb2))
  have HB2 := hid_mk (bTrans (bAlloc HB1.out _) hb2)
  have HX := hid_mk (wldU (xn_used (by decide)) (hwn.wld (xn_sm (by decide))))
  have HT2 := hid_mk (HT.out.below HB2.out)
  obtain ⟨p0, p1, p2, p3⟩ := blk4 hPB
  have z1 : w1.heap.size < w2.heap.size := (Array.getElem?_eq_some_iff.1 hPB).1
  have HBA : Hid (∀ X Y Z, Below w2.heap.size w2 (((w2.alloc X).alloc Y).alloc Z)) := fun X Y Z => bAlloc (bAlloc (bAlloc (bRefl _) _) _) _
  have q0 := fun X Y Z => ((HBA.out X Y Z).cell (p := ⟨w1.heap.size, 0, none⟩) z1).trans p0
  have q1 := fun X Y Z => ((HBA.out X Y Z).cell (p := ⟨w1.heap.size, 1, none⟩) z1).trans p1
  have q2 := fun X Y Z => ((HBA.out X Y Z).cell (p := ⟨w1.heap.size, 2, none⟩) z1).trans p2
  have q3 := fun X Y Z => ((HBA.out X Y Z).cell (p := ⟨w1.heap.size, 3, none⟩) z1).trans p3
  clear hb2 hwn hPB
  go_wp2_with (first
    | (go_at_call 17; refine (round_any _ _ _ (by decide) (by decide)).mono ?_; rw [hk]; rintro e w' ⟨rfl, rfl⟩)
    | (go_at_call 23; refine (is_5 _ _ _ (oneP 0) ⟨9, 9, 9, 9⟩ (xn 0) _ _ _ _ _ (HT2.out.below (by exact HBA.out _ _ _)) (HO2.out.below (by exact HBA.out _ _ _)).prg (HX.out.below (by exact HBA.out _ _ _))).mono ?_; rintro e w8 ⟨rfl, hb8⟩; have HB8 := hid_mk (bTrans (HBA.out _ _ _) hb8); clear hb8)
    | (go_at_call 22; refine (ewake_any _ (HT2.out.below (by first | exact HB8.out | exact bAlloc (bRefl _) _))).mono ?_; rintro e w9 ⟨rfl, hb9⟩; have HB9 := hid_mk (bTrans (by first | exact HB8.out | exact bAlloc (bRefl _) _) hb9); clear hb9))
  go_ret
  exact ⟨rfl, bTrans HB2.out HB9.out⟩
set_option maxHeartbeats 4000000 in
set_option maxRecDepth 100000 in
theorem odd_4 (w : World) (k n : Int) (ht : Tab w) (hk : rnd k 7 = 4) (hn : n ≠ 0) : Calls Tryd.prog 10 #[.int .i64 k, .int .i64 n] w fun e w' => e = .returned (.bool true) ∧ Below w.heap.size w w' := by
  have HT := hid_mk ht
  clear ht
  have hn0 : (n == 0) = false := beq_eq_false_iff_ne.2 hn
  have hR : isP (oneP 0) ⟨9, 9, 9, 9⟩ (xn 0) ⟨4, ⟨0, 0, 0⟩, n⟩ = false := by
    rw [is1, isL_A (Or.inl rfl)]
    by_cases h1 : n = 1
    · subst h1; decide +kernel
    · exact isA_who (by rw [xn_acts (by decide)]; show ¬ (0 ≤ n ∧ n < (2 : Int)); omega)
  clear hn
  go_enter Tryd.func10, Tryd.ntmps10
  go_wp2_with fail
  refine (one_any _).mono ?_
  rintro e w1 ⟨rfl, ho, hb1⟩
  have HO := hid_mk ho
  have HB1 := hid_mk hb1
  clear ho hb1
  go_wp2_with fail
  refine (oneS (n := 0) _ _ (by decide) (HT.out.below (bAlloc HB1.out _)) (HO.out.below (bAlloc (bRefl _) _)).prg).mono ?_
  rintro e w2 ⟨ga, ca, B, d, lo, hi, rfl, hwn, hb2⟩
  have hPB := boxAt (heap_new w1 (.cells #[.slice (some ⟨w.heap.size + 1, 0, none⟩) 1 1, .slice (some ⟨w.heap.size + 1 + 1, 0, none⟩) 2 2, .slice (some ⟨w.heap.size + 1 + 1 + 1, 0, none⟩) 2 2, .int .i64 5] 27)) hb2
  have HO2 := hid_mk (HO.out.below (bTrans (bAlloc (bRefl _) _) hb2))
  have HB2 := hid_mk (bTrans (bAlloc HB1.out _) hb2)
  have HX := hid_mk (wldU (xn_used (by decide)) (hwn.wld (xn_sm (by decide))))
  have HT2 := hid_mk (HT.out.below HB2.out)
  obtain ⟨p0, p1, p2, p3⟩ := blk4 hPB
  have z1 : w1.heap.size < w2.heap.size := (Array.getElem?_eq_some_iff.1 hPB).1
  have HBA : Hid (∀ X Y Z, Below w2.heap.size w2 (((w2.alloc X).alloc Y).alloc Z)) := fun X Y Z => bAlloc (bAlloc (bAlloc (bRefl _) _) _) _
  have q0 := fun X Y Z => ((HBA.out X Y Z).cell (p := ⟨w1.heap.size, 0, none⟩) z1).trans p0
  have q1 := fun X Y Z => ((HBA.out X Y Z).cell (p := ⟨w1.heap.size, 1, none⟩) z1).trans p1
  have q2 := fun X Y Z => ((HBA.out X Y Z).cell (p := ⟨w1.heap.size, 2, none⟩) z1).trans p2
  have q3 := fun X Y Z => ((HBA.out X Y Z).cell (p := ⟨w1.heap.size, 3, none⟩) z1).trans p3
  clear hb2 hwn hPB
  go_wp2_with (first
    | (go_at_call 17; refine (round_any _ _ _ (by decide) (by decide)).mono ?_; rw [hk]; rintro e w' ⟨rfl, rfl⟩)
    | (go_at_call 23; refine (is_5 _ _ _ (oneP 0) ⟨9, 9, 9, 9⟩ (xn 0) _ _ _ _ _ (HT2.out.below (by exact HBA.out _ _ _)) (HO2.out.below (by exact HBA.out _ _ _)).prg (HX.out.below (by exact HBA.out _ _ _))).mono ?_; rintro e w8 ⟨rfl, hb8⟩; have HB8 := hid_mk (bTrans (HBA.out _ _ _) hb8); clear hb8)
    | (go_at_call 22; refine (ewake_any _ (HT2.out.below (by first | exact HB8.out | exact bAlloc (bRefl _) _))).mono ?_; rintro e w9 ⟨rfl, hb9⟩; have HB9 := hid_mk (bTrans (by first | exact HB8.out | exact bAlloc (bRefl _) _) hb9); clear hb9))
  go_ret
  exact ⟨rfl, bTrans HB2.out HB9.out⟩
set_option maxHeartbeats 4000000 in
set_option maxRecDepth 100000 in
theorem odd_5a (w : World) (k : Int) (ht : Tab w) (hk : rnd k 7 = 5)  : Calls Tryd.prog 10 #[.int .i64 k, .int .i64 (-1)] w fun e w' => e = .returned (.bool true) ∧ Below w.heap.size w w' := by
  have HT := hid_mk ht
  clear ht
  have hR : isP (oneP 0) ⟨9, 9, 9, 9⟩ (xn 0) ⟨5, ⟨0, 0, 0⟩, 0⟩ = true := by rw [is1]; decide +kernel
  go_enter Tryd.func10, Tryd.ntmps10
  go_wp2_with fail
  refine (one_any _).mono ?_
  rintro e w1 ⟨rfl, ho, hb1⟩
  have HO := hid_mk ho
  have HB1 := hid_mk hb1
  clear ho hb1
  go_wp2_with fail
  refine (oneS (n := 0) _ _ (by decide) (HT.out.below (bAlloc HB1.out _)) (HO.out.below (bAlloc (bRefl _) _)).prg).mono ?_
  rintro e w2 ⟨ga, ca, B, d, lo, hi, rfl, hwn, hb2⟩
  have hPB := boxAt (heap_new w1 (.cells #[.slice (some ⟨w.heap.size + 1, 0, none⟩) 1 1, .slice (some ⟨w.heap.size + 1 + 1, 0, none⟩) 2 2, .slice (some ⟨w.heap.size + 1 + 1 + 1, 0, none⟩) 2 2, .int .i64 5] 27)) hb2
  have HO2 := hid_mk (HO.out.below (bTrans (bAlloc (bRefl _) _) hb2))
  have HB2 := hid_mk (bTrans (bAlloc HB1.out _) hb2)
  have HX := hid_mk (wldU (xn_used (by decide)) (hwn.wld (xn_sm (by decide))))
  have HT2 := hid_mk (HT.out.below HB2.out)
  obtain ⟨p0, p1, p2, p3⟩ := blk4 hPB
  have z1 : w1.heap.size < w2.heap.size := (Array.getElem?_eq_some_iff.1 hPB).1
  have HBA : Hid (∀ X Y Z, Below w2.heap.size w2 (((w2.alloc X).alloc Y).alloc Z)) := fun X Y Z => bAlloc (bAlloc (bAlloc (bRefl _) _) _) _
  have q0 := fun X Y Z => ((HBA.out X Y Z).cell (p := ⟨w1.heap.size, 0, none⟩) z1).trans p0
  have q1 := fun X Y Z => ((HBA.out X Y Z).cell (p := ⟨w1.heap.size, 1, none⟩) z1).trans p1
  have q2 := fun X Y Z => ((HBA.out X Y Z).cell (p := ⟨w1.heap.size, 2, none⟩) z1).trans p2
  have q3 := fun X Y Z => ((HBA.out X Y Z).cell (p := ⟨w1.heap.size, 3, none⟩) z1).trans p3
  clear hb2 hwn hPB
  go_wp2_with (first
    | (go_at_call 17; refine (round_any _ _ _ (by decide) (by decide)).mono ?_; rw [hk]; rintro e w' ⟨rfl, rfl⟩)
    | (go_at_call 23; refine (is_5 _ _ _ (oneP 0) ⟨9, 9, 9, 9⟩ (xn 0) _ _ _ _ _ (HT2.out.below (by exact HBA.out _ _ _)) (HO2.out.below (by exact HBA.out _ _ _)).prg (HX.out.below (by exact HBA.out _ _ _))).mono ?_; rintro e w8 ⟨rfl, hb8⟩; have HB8 := hid_mk (bTrans (HBA.out _ _ _) hb8); clear hb8)
    | (go_at_call 22; refine (ewake_any _ (HT2.out.below (by first | exact HB8.out | exact bAlloc (bRefl _) _))).mono ?_; rintro e w9 ⟨rfl, hb9⟩; have HB9 := hid_mk (bTrans (by first | exact HB8.out | exact bAlloc (bRefl _) _) hb9); clear hb9))
  go_ret
  exact ⟨rfl, bTrans HB2.out HB9.out⟩
set_option maxHeartbeats 4000000 in
set_option maxRecDepth 100000 in
theorem odd_5b (w : World) (k n m : Int) (ht : Tab w) (hk : rnd k 7 = 5) (hn : n ≠ 0) (hn1 : n ≠ -1) (hm : wrap64 (n + 1) = m) (hm2 : m < 0 ∨ 1 < m) : Calls Tryd.prog 10 #[.int .i64 k, .int .i64 n] w fun e w' => e = .returned (.bool true) ∧ Below w.heap.size w w' := by
  have HT := hid_mk ht
  clear ht
  have hn0 : (n == 0) = false := beq_eq_false_iff_ne.2 hn
  have hn2 : (n == -1) = false := beq_eq_false_iff_ne.2 hn1
  have hR : isP (oneP 0) ⟨9, 9, 9, 9⟩ (xn 0) ⟨5, ⟨0, 0, 0⟩, m⟩ = false := by rw [is1, isL_A (Or.inr rfl)]; exact isA_who (by rw [xn_acts (by decide)]; show ¬ (0 ≤ m ∧ m < (2 : Int)); omega)
  clear hn hn1 hm2
  go_enter Tryd.func10, Tryd.ntmps10
  go_wp2_with fail
  refine (one_any _).mono ?_
  rintro e w1 ⟨rfl, ho, hb1⟩
  have HO := hid_mk ho
  have HB1 := hid_mk hb1
  clear ho hb1
  go_wp2_with fail
  refine (oneS (n := 0) _ _ (by decide) (HT.out.below (bAlloc HB1.out _)) (HO.out.below (bAlloc (bRefl _) _)).prg).mono ?_
  rintro e w2 ⟨ga, ca, B, d, lo, hi, rfl, hwn, hb2⟩
  have hPB := boxAt (heap_new w1 (.cells #[.slice (some ⟨w.heap.size + 1, 0, none⟩) 1 1, .slice (some ⟨w.heap.size + 1 + 1, 0, none⟩) 2 2, .slice (some ⟨w.heap.size + 1 + 1 + 1, 0, none⟩) 2 2, .int .i64 5] 27)) hb2
  have HO2 := hid_mk (HO.out.below (bTrans (bAlloc (bRefl _) _) hb2))
  have HB2 := hid_mk (bTrans (bAlloc HB1.out _) hb2)
  have HX := hid_mk (wldU (xn_used (by decide)) (hwn.wld (xn_sm (by decide))))
  have HT2 := hid_mk (HT.out.below HB2.out)
  obtain ⟨p0, p1, p2, p3⟩ := blk4 hPB
  have z1 : w1.heap.size < w2.heap.size := (Array.getElem?_eq_some_iff.1 hPB).1
  have HBA : Hid (∀ X Y Z, Below w2.heap.size w2 (((w2.alloc X).alloc Y).alloc Z)) := fun X Y Z => bAlloc (bAlloc (bAlloc (bRefl _) _) _) _
  have q0 := fun X Y Z => ((HBA.out X Y Z).cell (p := ⟨w1.heap.size, 0, none⟩) z1).trans p0
  have q1 := fun X Y Z => ((HBA.out X Y Z).cell (p := ⟨w1.heap.size, 1, none⟩) z1).trans p1
  have q2 := fun X Y Z => ((HBA.out X Y Z).cell (p := ⟨w1.heap.size, 2, none⟩) z1).trans p2
  have q3 := fun X Y Z => ((HBA.out X Y Z).cell (p := ⟨w1.heap.size, 3, none⟩) z1).trans p3
  clear hb2 hwn hPB
  go_wp2_with (first
    | (go_at_call 17; refine (round_any _ _ _ (by decide) (by decide)).mono ?_; rw [hk]; rintro e w' ⟨rfl, rfl⟩)
    | (go_at_call 23; refine (is_5 _ _ _ (oneP 0) ⟨9, 9, 9, 9⟩ (xn 0) _ _ _ _ _ (HT2.out.below (by exact HBA.out _ _ _)) (HO2.out.below (by exact HBA.out _ _ _)).prg (HX.out.below (by exact HBA.out _ _ _))).mono ?_; rintro e w8 ⟨rfl, hb8⟩; have HB8 := hid_mk (bTrans (HBA.out _ _ _) hb8); clear hb8)
    | (go_at_call 22; refine (ewake_any _ (HT2.out.below (by first | exact HB8.out | exact bAlloc (bRefl _) _))).mono ?_; rintro e w9 ⟨rfl, hb9⟩; have HB9 := hid_mk (bTrans (by first | exact HB8.out | exact bAlloc (bRefl _) _) hb9); clear hb9))
  go_ret
  exact ⟨rfl, bTrans HB2.out HB9.out⟩
set_option maxHeartbeats 4000000 in
set_option maxRecDepth 100000 in
theorem odd_6 (w : World) (k n m : Int) (ht : Tab w) (hk : rnd k 7 = 6) (hn : n ≠ 0) (hm : wrap64 (n - 1) = m) (hm2 : m ≠ -1) : Calls Tryd.prog 10 #[.int .i64 k, .int .i64 n] w fun e w' => e = .returned (.bool true) ∧ Below w.heap.size w w' := by
  have HT := hid_mk ht
  clear ht
  have hn0 : (n == 0) = false := beq_eq_false_iff_ne.2 hn
  have hR : isP (oneP 0) ⟨9, 9, 9, 9⟩ (xn 0) ⟨1, ⟨m, 0, 0⟩, 0⟩ = false := by rw [is1, isL_M (Or.inl rfl)]; exact isM_none (fnd1 (fun e => hm2 (congrArg PID.f e)) (fun e => hm2 (congrArg PID.f e)))
  clear hn hm2
  go_enter Tryd.func10, Tryd.ntmps10
  go_wp2_with fail
  refine (one_any _).mono ?_
  rintro e w1 ⟨rfl, ho, hb1⟩
  have HO := hid_mk ho
  have HB1 := hid_mk hb1
  clear ho hb1
  go_wp2_with fail
  refine (oneS (n := 0) _ _ (by decide) (HT.out.below (bAlloc HB1.out _)) (HO.out.below (bAlloc (bRefl _) _)).prg).mono ?_
  rintro e w2 ⟨ga, ca, B, d, lo, hi, rfl, hwn, hb2⟩
  have hPB := boxAt (heap_new w1 (.cells #[.slice (some ⟨w.heap.size + 1, 0, none⟩) 1 1, .slice (some ⟨w.heap.size + 1 + 1, 0, none⟩) 2 2, .slice (some ⟨w.heap.size + 1 + 1 + 1, 0, none⟩) 2 2, .int .i64 5] 27)) hb2
  have HO2 := hid_mk (HO.out.below (bTrans (bAlloc (bRefl _) _) hb2))
  have HB2 := hid_mk (bTrans (bAlloc HB1.out _) hb2)
  have HX := hid_mk (wldU (xn_used (by decide)) (hwn.wld (xn_sm (by decide))))
  have HT2 := hid_mk (HT.out.below HB2.out)
  obtain ⟨p0, p1, p2, p3⟩ := blk4 hPB
  have z1 : w1.heap.size < w2.heap.size := (Array.getElem?_eq_some_iff.1 hPB).1
  have HBA : Hid (∀ X Y Z, Below w2.heap.size w2 (((w2.alloc X).alloc Y).alloc Z)) := fun X Y Z => bAlloc (bAlloc (bAlloc (bRefl _) _) _) _
  have q0 := fun X Y Z => ((HBA.out X Y Z).cell (p := ⟨w1.heap.size, 0, none⟩) z1).trans p0
  have q1 := fun X Y Z => ((HBA.out X Y Z).cell (p := ⟨w1.heap.size, 1, none⟩) z1).trans p1
  have q2 := fun X Y Z => ((HBA.out X Y Z).cell (p := ⟨w1.heap.size, 2, none⟩) z1).trans p2
  have q3 := fun X Y Z => ((HBA.out X Y Z).cell (p := ⟨w1.heap.size, 3, none⟩) z1).trans p3
  clear hb2 hwn hPB
  go_wp2_with (first
    | (go_at_call 17; refine (round_any _ _ _ (by decide) (by decide)).mono ?_; rw [hk]; rintro e w' ⟨rfl, rfl⟩)
    | (go_at_call 23; refine (is_5 _ _ _ (oneP 0) ⟨9, 9, 9, 9⟩ (xn 0) _ _ _ _ _ (HT2.out.below (by exact HBA.out _ _ _)) (HO2.out.below (by exact HBA.out _ _ _)).prg (HX.out.below (by exact HBA.out _ _ _))).mono ?_; rintro e w8 ⟨rfl, hb8⟩; have HB8 := hid_mk (bTrans (HBA.out _ _ _) hb8); clear hb8)
    | (go_at_call 22; refine (ewake_any _ (HT2.out.below (by first | exact HB8.out | exact bAlloc (bRefl _) _))).mono ?_; rintro e w9 ⟨rfl, hb9⟩; have HB9 := hid_mk (bTrans (by first | exact HB8.out | exact bAlloc (bRefl _) _) hb9); clear hb9))
  go_ret
  exact ⟨rfl, bTrans HB2.out HB9.out⟩
theorem eodd_any (w : World) (k n : Int) (hn : Rg n) (ht : Tab w) : Calls Tryd.prog 10 #[.int .i64 k, .int .i64 n] w fun e w' => e = .returned (.bool true) ∧ Below w.heap.size w w' := by
  by_cases h0 : n = 0
  · subst h0; exact odd_n w k ht
  · obtain ⟨r0, r1⟩ := rnd_bd k (n := 7) (by decide)
    obtain ⟨g0, g1⟩ := hn
    have hw1 : wrap64 (n + 1) < 0 ∨ 1 < wrap64 (n + 1) ∨ n = -1 ∨ n = 0 := by
      by_cases e : n = 9223372036854775807
      · subst e; left; decide +kernel
      · rw [IntWalk.wrap64_in _ ⟨by omega, by omega⟩]; omega
    have hw2 : wrap64 (n - 1) ≠ -1 := by
      by_cases e : n = -9223372036854775808
      · subst e; decide +kernel
      · rw [IntWalk.wrap64_in _ ⟨by omega, by omega⟩]; omega
    have h7 : rnd k 7 = 0 ∨ rnd k 7 = 1 ∨ rnd k 7 = 2 ∨ rnd k 7 = 3 ∨ rnd k 7 = 4 ∨ rnd k 7 = 5 ∨ rnd k 7 = 6 := by omega
    rcases h7 with h | h | h | h | h | h | h
    · by_cases h1 : n < 1
      · exact odd_0a w k n ht h h0 h1
      · by_cases h3 : 3 < n
        · exact odd_0b w k n ht h h0 h3
        · have : n = 1 ∨ n = 2 ∨ n = 3 := by omega
          rcases this with rfl | rfl | rfl
          · exact odd_0c1 w k ht h
          · exact odd_0c2 w k ht h
          · exact odd_0c3 w k ht h
    · exact odd_1 w k n ht h h0
    · exact odd_2 w k n ht h h0
    · exact odd_3 w k n ht h h0
    · exact odd_4 w k n ht h h0
    · by_cases h1 : n = -1
      · subst h1; exact odd_5a w k ht h
      · exact odd_5b w k n _ ht h h0 h1 rfl (by omega)
    · exact odd_6 w k n _ ht h h0 rfl hw2
end Go.Proofs.YtflpkdhmkgidiaaDoor
