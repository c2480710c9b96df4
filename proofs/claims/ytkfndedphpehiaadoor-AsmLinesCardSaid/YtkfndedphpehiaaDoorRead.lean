/-
  What a line is read as: asm.read. Condition: the line is not of a giant's length.
-/
import Derived.Test.YtkfndedphpehiaaDoorEnv
namespace Go.Proofs.YtkfndedphpehiaaDoor
open Go.RowKit
attribute [local go_sem ↓] Go.wp_at_zero Go.wp_at_succ

theorem index_cutc (x : UInt8) : ∀ s : List UInt8, (∃ a b, cutc x s = some (a, b) ∧ Lib.index s [x] = (a.length : Int)) ∨ (cutc x s = none ∧ Lib.index s [x] = -1)
  | [] => Or.inr ⟨rfl, by simp [Lib.index]⟩
  | c :: r => by
    unfold cutc Lib.index
    by_cases e : c = x
    · left; refine ⟨[], r, by rw [if_pos e], ?_⟩
      rw [if_pos (by simp [e])]; rfl
    · rw [if_neg e]
      rw [if_neg (by simp; exact fun h => e h.symm)]
      rcases index_cutc x r with ⟨a, b, h1, h2⟩ | ⟨h1, h2⟩
      · left; refine ⟨c :: a, b, by rw [h1]; rfl, ?_⟩
        rw [h2, if_neg (by simp)]; simp
      · right; exact ⟨by rw [h1]; rfl, by rw [h2]; rfl⟩
theorem cut_some {x : UInt8} {s a b : List UInt8} (h : cutc x s = some (a, b)) : Lib.cut s [x] = (a, b, true) := by
  rcases index_cutc x s with ⟨a', b', h1, h2⟩ | ⟨h1, _⟩
  · rw [h] at h1; cases h1
    have := (cutc_some h).1
    unfold Lib.cut
    rw [h2, if_pos (by omega)]
    subst this
    simp
  · rw [h] at h1; cases h1
theorem cut_none {x : UInt8} {s : List UInt8} (h : cutc x s = none) : Lib.cut s [x] = (s, [], false) := by
  rcases index_cutc x s with ⟨a', b', h1, _⟩ | ⟨_, h2⟩
  · rw [h] at h1; cases h1
  · unfold Lib.cut; rw [h2, if_neg (by omega)]
/-- What strings.Cut answers, of one sign. -/
def cutV (x : UInt8) (s : List UInt8) : Value := match cutc x s with | some p => .tuple #[.string (bs p.1), .string (bs p.2), .bool true] | none => .tuple #[.string (bs s), .string (bs []), .bool false]
theorem cutB (x : UInt8) (s : List UInt8) (w : World) (hs : s.length ≤ 1000000) (he : Env w) :
    Calls Tryd.prog 19 #[.string (bs s), .string (bs [x])] w fun e w' => e = .returned (cutV x s) ∧ ∃ n, w' = w.drewN n := by
  obtain ⟨m, hm⟩ := he.ml
  refine (Tryd.strings_Cut (bs s) (bs [x]) m w (by rw [bs_size]; omega) hm).mono ?_
  rintro e w' ⟨rfl, hq⟩
  refine ⟨?_, hq⟩
  rw [bs_data, bs_data]
  unfold cutV
  cases h : cutc x s with
  | none => rw [cut_none h]; rfl
  | some p => rw [cut_some (a := p.1) (b := p.2) h]; rfl
theorem wd_cut (l : List UInt8) : ∃ b, cutV 32 l = .tuple #[.string (bs (wd l)), .string (bs (nb l)), .bool b] := by
  unfold cutV wd nb
  cases cutc 32 l with
  | none => exact ⟨false, rfl⟩
  | some p => exact ⟨true, rfl⟩
theorem nb_len (l : List UInt8) : (nb l).length ≤ l.length := by
  unfold nb
  cases h : cutc 32 l with
  | none => simp
  | some p => have := (cutc_some (a := p.1) (b := p.2) h).1; rw [this]; simp; omega
theorem atoiB (x : List UInt8) (w : World) (hs : x.length ≤ 1000000) (he : Env w) :
    Calls Tryd.prog 34 #[.string (bs x)] w fun e w' => (∃ v, e = .returned (.tuple #[.int .i64 (atoiV x), v])) ∧ Below w.heap.size w w' := by
  obtain ⟨t1, p1, h1⟩ := he.es
  obtain ⟨t2, p2, h2⟩ := he.er
  cases h : Lib.atoiAll x with
  | ok v =>
    refine (Tryd.strconv_Atoi_ok (bs x) (by rw [bs_size]; omega) v (by rw [bs_data]; exact h) w).mono ?_
    rintro e w' ⟨rfl, hw⟩
    refine ⟨⟨_, by unfold atoiV; rw [h]⟩, ?_⟩
    rcases hw with rfl | ⟨t, rfl⟩
    · exact bRefl _
    · exact Lib.bytesWorld_below w 5 t
  | «syntax» =>
    refine (Tryd.strconv_Atoi_syntax (bs x) (by rw [bs_size]; omega) (by rw [bs_data]; exact h) _ w h1 (Or.inr ⟨_, _, rfl⟩)).mono ?_
    rintro e w' ⟨N, rfl, _, _, hb⟩
    exact ⟨⟨_, by unfold atoiV; rw [h]⟩, hb⟩
  | range =>
    refine (Tryd.strconv_Atoi_range (bs x) (by rw [bs_size]; omega) (by rw [bs_data]; exact h) _ w h2 (Or.inr ⟨_, _, rfl⟩)).mono ?_
    rintro e w' ⟨N, rfl, _, _, hb⟩
    exact ⟨⟨_, by unfold atoiV; rw [h, bs_data]⟩, hb⟩
theorem find_no {l : List UInt8} (h : opOf (wd l) = 0) : rd l = none := by
  unfold rd
  rw [line_no (by show vl ((opOf (wd l) : Nat) : Int) = false; rw [h]; rfl)]
  rw [if_neg (fun hc => hc.1 hc.2.symm)]
theorem rd_no {l : List UInt8} (h : line (cand l) ≠ l) : rd l = none := by unfold rd; rw [if_neg (fun hc => h hc.2)]
theorem cand_ne {l : List UInt8} (h0 : 0 < opOf (wd l)) (h : line (cand l) = l) : l ≠ [] := by
  rintro rfl
  simp [wd, cutc, opOf] at h0
  exact absurd h0 (by decide +kernel)
theorem rd_yes {l : List UInt8} (h0 : 0 < opOf (wd l)) (h : line (cand l) = l) : rd l = some (cand l) := by unfold rd; rw [if_pos ⟨cand_ne h0 h, h⟩]
theorem findB (l : List UInt8) (w : World) (he : Env w) : Calls Tryd.prog 33 #[.string (bs l)] w fun e w' => e = .returned (.tuple #[.int .i64 (opOf l), .bool (decide (0 < opOf l))]) ∧ w' = w := find_any (bs l) w he.tab
def rdV (l : List UInt8) : Value := match rd l with | some i => .tuple #[.agg #[.int .i64 i.op, .int .i64 i.a], .bool true] | none => .tuple #[.agg #[.int .i64 0, .int .i64 0], .bool false]

theorem str_yes {a b : List UInt8} (h : a = b) : ((bs a).toList == (bs b).toList) = true := by rw [h]; exact beq_self_eq_true _
theorem str_no {a b : List UInt8} (h : a ≠ b) : ((bs a).toList == (bs b).toList) = false := by
  rw [Lib.toList_data, Lib.toList_data, bs_data, bs_data]; exact beq_eq_false_iff_ne.2 h
theorem blk_facts {b : Nat} {x y : Value} {w : World} (h : w.heap[b]? = some (.cells #[x, y] 24 (0, 0))) : w.cell? ⟨b, 0, none⟩ = some x ∧ w.cell? ⟨b, 1, none⟩ = some y ∧ w.frozen? ⟨b, 0, none⟩ = false ∧ w.frozen? ⟨b, 1, none⟩ = false :=
  ⟨by rw [Lib.cell_of_heap h]; rfl, by rw [Lib.cell_of_heap h]; rfl, Lib.frozen_of_heap h 0, Lib.frozen_of_heap h 1⟩
set_option maxHeartbeats 2000000 in
theorem read_any (w : World) (l : List UInt8) (hl : l.length ≤ 1000000) (he : Env w) :
    Calls Tryd.prog 20 #[.string (bs l)] w fun e w' => e = .returned (rdV l) ∧ Below w.heap.size w w' := by
  obtain ⟨b, hb⟩ := wd_cut l
  have HB : ∀ (x : Obj), Below w.heap.size w (w.alloc x) := fun x => bAlloc (bRefl w) x
  have HL : Hid (l.length ≤ 1000000) := hl
  have HE : Hid (Env w) := he
  clear hl he
  by_cases h0 : 0 < opOf (wd l)
  · have h1 : decide (0 < opOf (wd l)) = true := by simp; omega
    have H0 : Hid (0 < opOf (wd l)) := h0
    clear h0
    go_enter Tryd.func20, Tryd.ntmps20
    go_wp2_with (first
      | (go_at_call 19; refine (cutB 32 l _ HL.out (HE.out.below (by exact HB _))).mono ?_; rw [hb]; rintro e w1 ⟨rfl, n, rfl⟩)
      | (go_at_call 33; refine (findB _ _ (HE.out.below (by exact bDrewN (HB _) n))).mono ?_; rw [h1]; rintro e w2 ⟨rfl, rfl⟩)
      | (go_at_call 34; refine (atoiB _ _ (Nat.le_trans (nb_len l) HL.out) (HE.out.below (by exact bDrewN (HB _) n))).mono ?_; rintro e w3 ⟨⟨v, rfl⟩, hb3⟩))
    have hB3 : Below w.heap.size w w3 := bTrans (bDrewN (HB _) n) hb3
    have hz3 : w.heap.size < w3.heap.size := by have := hb3.size; simp at this; omega
    have k3 : w3.heap[w.heap.size]? = some (.cells #[.int .i64 0, .int .i64 0] 24 (0, 0)) := (hb3.block _ (by simp)).trans (by show (w.heap.push _)[w.heap.size]? = _; simp)
    refine (line_any _ (cand l) (atoiV_rg _) (HE.out.below (by exact bAlloc hB3 _))).mono ?_
    rintro e w4 ⟨rfl, hb4⟩
    have hB4 : Below w.heap.size w w4 := bTrans (bAlloc hB3 _) hb4
    have k4 : w4.heap[w.heap.size]? = some (.cells #[.int .i64 0, .int .i64 0] 24 (0, 0)) := (hb4.block _ (by simp; omega)).trans (by show (w3.heap.push _)[w.heap.size]? = _; rw [Array.getElem?_push_lt hz3, ← Array.getElem?_eq_getElem]; exact k3)
    have k5 : w4.heap[w3.heap.size]? = some (.cells #[.int .i64 (opOf (wd l)), .int .i64 (atoiV (nb l))] 24 (0, 0)) := (hb4.block _ (by simp)).trans (by show (w3.heap.push _)[w3.heap.size]? = _; simp)
    obtain ⟨c0, c1, f0, f1⟩ := blk_facts k4
    obtain ⟨d0, d1, _, _⟩ := blk_facts k5
    have HB4 : Hid (Below w.heap.size w w4) := hB4
    clear hb3 hB3 hb4 hB4 k3 k4 k5
    by_cases h2 : line (cand l) = l
    · have h3 := str_yes h2
      have H2 : Hid (line (cand l) = l) := h2
      clear h2
      go_wp2
      exact bodyPost_ret (v := .tuple #[.agg #[.int .i64 (opOf (wd l)), .int .i64 (atoiV (nb l))], .bool true]) (by simp [results, Tryd.results20, go_sem, c0, c1]) rfl ⟨by unfold rdV; rw [rd_yes H0.out H2.out]; rfl, ((HB4.out.setCell (p := ⟨w.heap.size, 0, none⟩) (Nat.le_refl _) _).setCell (p := ⟨w.heap.size, 1, none⟩) (Nat.le_refl _) _)⟩
    · have h3 := str_no h2
      have H2 : Hid (line (cand l) ≠ l) := h2
      clear h2
      go_wp2
      exact bodyPost_ret (v := .tuple #[.agg #[.int .i64 0, .int .i64 0], .bool false]) (by simp [results, Tryd.results20, go_sem, c0, c1]) rfl ⟨by unfold rdV; rw [rd_no H2.out], ((HB4.out.setCell (p := ⟨w.heap.size, 0, none⟩) (Nat.le_refl _) _).setCell (p := ⟨w.heap.size, 1, none⟩) (Nat.le_refl _) _)⟩
  · have H0 : Hid (opOf (wd l) = 0) := by show _ = _; omega
    have h1 : decide (0 < opOf (wd l)) = false := by simp; omega
    clear h0
    go_enter Tryd.func20, Tryd.ntmps20
    go_wp2_with (first
      | (go_at_call 19; refine (cutB 32 l _ HL.out (HE.out.below (by exact HB _))).mono ?_; rw [hb]; rintro e w1 ⟨rfl, n, rfl⟩)
      | (go_at_call 33; refine (findB _ _ (HE.out.below (by exact bDrewN (HB _) n))).mono ?_; rw [h1]; rintro e w2 ⟨rfl, rfl⟩))
    exact bodyPost_ret (v := .tuple #[.agg #[.int .i64 0, .int .i64 0], .bool false]) (by simp [results, Tryd.results20, go_sem]) rfl ⟨by unfold rdV; rw [find_no H0.out], (((bDrewN (HB _) n).setCell (p := ⟨w.heap.size, 0, none⟩) (Nat.le_refl _) _).setCell (p := ⟨w.heap.size, 1, none⟩) (Nat.le_refl _) _)⟩
end Go.Proofs.YtkfndedphpehiaaDoor
