/-
  How events are read: read, Event. Conditions: the text is not of a giant's length; what it reads is there.
-/
import Derived.Test.YtdgialhigibnlaaDoorI8
namespace Go.Proofs.YtdgialhigibnlaaDoor
open Go.RowKit
attribute [local go_sem ↓] Go.wp_at_zero Go.wp_at_succ eq6 eq10
theorem readE_msg {k : Int} {s : List UInt8} (h : msgK k = true) : readE k s = ⟨k, pdV s, 0⟩ := by unfold readE; rw [if_pos h]; rfl
theorem readE_no {k : Int} {s : List UInt8} (h : msgK k = false) : readE k s = ⟨k, id0, atoiV s⟩ := by unfold readE; rw [if_neg (by rw [h]; decide)]
theorem ret_v {a b : Value} (h : a = b) : Ending.returned a = .returned b := by rw [h]
set_option maxHeartbeats 2000000 in
set_option maxRecDepth 100000 in
theorem read_any (k : Int) (s : List UInt8) (w : World) (hl : s.length ≤ 1000000) (he : Env w) :
    Calls Tryd.prog 26 #[.int .i64 k, .string (bs s)] w fun e w' => e = .returned (eV (readE k s)) ∧ Below w.heap.size w w' := by
  have HL : Hid (s.length ≤ 1000000) := hl
  have HE : Hid (Env w) := he
  have HB : ∀ (x : Obj), Below w.heap.size w (w.alloc x) := fun x => bAlloc (bRefl w) x
  clear hl he
  cases hm : msgK k with
  | true =>
    go_enter Tryd.func26, Tryd.ntmps26
    go_wp2_with (go_at_call 34; refine (ofm_any _ _).mono ?_; rw [hm]; rintro e w' ⟨rfl, hww⟩; replace hww := hww.symm; subst hww)
    refine (parse_any s _ HL.out (HE.out.below (HB _))).mono ?_
    rintro e w3 ⟨rfl, hb3⟩
    have HB3 : Hid (Below w.heap.size w w3) := bTrans (HB _) hb3
    have k3 : w3.heap[w.heap.size]? = some (.cells #[.int .i64 0, .int .i64 0, .int .i64 0, .int .i64 0, .int .i64 0] 25) := (hb3.block _ (by simp)).trans (heap_new w _)
    have hz3 : w.heap.size < w3.heap.size := (Array.getElem?_eq_some_iff.1 k3).1
    obtain ⟨a0, a1, a2, a3, a4⟩ := blk5 k3
    have g0 := Lib.frozen_of_heap k3
    have g00 := g0 0
    have g01 := g0 1
    have g02 := g0 2
    have g03 := g0 3
    have g04 := g0 4
    have hne : ¬ w3.heap.size = w.heap.size := by omega
    have hne' : ¬ w.heap.size = w3.heap.size := by omega
    clear hb3 k3 g0
    go_wp2_with fail
    exact bodyPost_ret (v := .agg #[.int .i64 k, .int .i64 (pdV s).f, .int .i64 (pdV s).n, .int .i64 (pdV s).c, .int .i64 0]) (by simp [results, Tryd.results26, go_sem, a0, a1, a2, a3, a4, hz3]) rfl ⟨ret_v (by rw [readE_msg hm]), bAlloc (((((HB3.out.setCell (p := ⟨w.heap.size, 0, none⟩) (Nat.le_refl _) _).setCell (p := ⟨w.heap.size, 1, none⟩) (Nat.le_refl _) _).setCell (p := ⟨w.heap.size, 2, none⟩) (Nat.le_refl _) _).setCell (p := ⟨w.heap.size, 3, none⟩) (Nat.le_refl _) _).setCell (p := ⟨w.heap.size, 4, none⟩) (Nat.le_refl _) _) _⟩
  | false =>
    go_enter Tryd.func26, Tryd.ntmps26
    go_wp2_with (go_at_call 34; refine (ofm_any _ _).mono ?_; rw [hm]; rintro e w' ⟨rfl, hww⟩; replace hww := hww.symm; subst hww)
    refine (numberB s _ HL.out (HE.out.below (HB _))).mono ?_
    rintro e w3 ⟨rfl, hb3⟩
    have HB3 : Hid (Below w.heap.size w w3) := bTrans (HB _) hb3
    have k3 : w3.heap[w.heap.size]? = some (.cells #[.int .i64 0, .int .i64 0, .int .i64 0, .int .i64 0, .int .i64 0] 25) := (hb3.block _ (by simp)).trans (heap_new w _)
    obtain ⟨a0, a1, a2, a3, a4⟩ := blk5 k3
    have g0 := Lib.frozen_of_heap k3
    have g00 := g0 0
    have g01 := g0 1
    have g02 := g0 2
    have g03 := g0 3
    have g04 := g0 4
    clear hb3 k3 g0
    go_wp2_with fail
    exact bodyPost_ret (v := .agg #[.int .i64 k, .int .i64 0, .int .i64 0, .int .i64 0, .int .i64 (atoiV s)]) (by simp [results, Tryd.results26, go_sem, a0, a1, a2, a3, a4]) rfl ⟨ret_v (by rw [readE_no hm]; rfl), ((((HB3.out.setCell (p := ⟨w.heap.size, 0, none⟩) (Nat.le_refl _) _).setCell (p := ⟨w.heap.size, 1, none⟩) (Nat.le_refl _) _).setCell (p := ⟨w.heap.size, 2, none⟩) (Nat.le_refl _) _).setCell (p := ⟨w.heap.size, 3, none⟩) (Nat.le_refl _) _).setCell (p := ⟨w.heap.size, 4, none⟩) (Nat.le_refl _) _⟩
def ev0 : PEv := ⟨0, id0, 0⟩
def evV (s : List UInt8) : PEv := (prsE s).getD ev0
def evE (s : List UInt8) : Int := if s ≠ [] ∧ nameE (candE s) = s then 0 else 2
theorem ev_yes {s : List UInt8} (h : s ≠ [] ∧ nameE (candE s) = s) : evV s = candE s ∧ evE s = 0 := ⟨by unfold evV prsE; rw [if_pos h]; rfl, by unfold evE; rw [if_pos h]⟩
theorem ev_no {s : List UInt8} (h : ¬ (s ≠ [] ∧ nameE (candE s) = s)) : evV s = ev0 ∧ evE s = 2 := ⟨by unfold evV prsE; rw [if_neg h]; rfl, by unfold evE; rw [if_neg h]⟩
theorem ev_some {s : List UInt8} {x : PEv} (h : prsE s = some x) : evV s = x ∧ evE s = 0 := by
  have e : s ≠ [] ∧ nameE (candE s) = s := by
    unfold prsE at h
    split at h
    · assumption
    · cases h
  refine ⟨?_, (ev_yes e).2⟩
  unfold evV; rw [h]; rfl
theorem ev_none {s : List UInt8} (h : prsE s = none) : evV s = ev0 ∧ evE s = 2 := by
  refine ev_no fun e => ?_
  unfold prsE at h
  rw [if_pos e] at h
  cases h
set_option maxHeartbeats 2000000 in
set_option maxRecDepth 100000 in
theorem event_any (s : List UInt8) (w : World) (hl : s.length ≤ 1000000) (he : Env w) :
    Calls Tryd.prog 11 #[.string (bs s)] w fun e w' => e = .returned (.tuple #[eV (evV s), .int .i64 (evE s)]) ∧ Below w.heap.size w w' := by
  have HL : Hid (s.length ≤ 1000000) := hl
  have HL2 : Hid ((c2 32 s).length ≤ 1000000) := Nat.le_trans (c2_len 32 s) hl
  have HE : Hid (Env w) := he
  have HB : ∀ (x : Obj), Below w.heap.size w (w.alloc x) := fun x => bAlloc (bRefl w) x
  have HCR : Hid (RgE (candE s)) := candE_rg s
  clear hl he
  go_enter Tryd.func11, Tryd.ntmps11
  go_wp2_with fail
  refine (cut2 32 s _ HL.out (HE.out.below (HB _))).mono ?_
  rintro e w1 ⟨⟨b1, rfl⟩, n1, rfl⟩
  go_wp2_with fail
  refine (kindof_any _ _ (HE.out.below (bDrewN (HB _) _))).mono ?_
  rintro e w2 ⟨rfl, rfl⟩
  go_wp2_with fail
  refine (read_any _ _ _ HL2.out (HE.out.below (bDrewN (HB _) _))).mono ?_
  rintro e w3 ⟨rfl, hb3⟩
  have HB3 : Hid (Below w.heap.size w w3) := bTrans (bDrewN (HB _) _) hb3
  have k3 : w3.heap[w.heap.size]? = some (.cells #[.int .i64 0, .int .i64 0, .int .i64 0, .int .i64 0, .int .i64 0] 25) := (hb3.block _ (by simp)).trans (heap_new w _)
  have hz3 : w.heap.size < w3.heap.size := (Array.getElem?_eq_some_iff.1 k3).1
  have K3 : Hid (w3.heap[w.heap.size]? = some (.cells #[.int .i64 0, .int .i64 0, .int .i64 0, .int .i64 0, .int .i64 0] 25)) := k3
  clear hb3 k3
  obtain ⟨C, hC⟩ : ∃ C, readE ((kin (c1 32 s) : Nat) : Int) (c2 32 s) = C := ⟨_, rfl⟩
  have HC : Hid (candE s = C) := hC
  rw [hC]
  clear hC
  by_cases h0 : s = []
  · obtain ⟨a0, a1, a2, a3, a4⟩ := blk5 K3.out
    have g0 := Lib.frozen_of_heap K3.out
    have g00 := g0 0
    have g01 := g0 1
    have g02 := g0 2
    have g03 := g0 3
    have g04 := g0 4
    have h3 := emp_yes h0
    have HN : Hid (¬ (s ≠ [] ∧ nameE (candE s) = s)) := fun h => h.1 h0
    have hne : ¬ w3.heap.size = w.heap.size := by omega
    have hne' : ¬ w.heap.size = w3.heap.size := by omega
    clear h0 g0
    go_wp2_with fail
    exact bodyPost_ret (v := .tuple #[.agg #[.int .i64 0, .int .i64 0, .int .i64 0, .int .i64 0, .int .i64 0], .int .i64 2]) (by simp [results, Tryd.results11, go_sem, a0, a1, a2, a3, a4, hz3]) rfl ⟨ret_v (by rw [(ev_no HN.out).1, (ev_no HN.out).2]; rfl), bAlloc (((((HB3.out.setCell (p := ⟨w.heap.size, 0, none⟩) (Nat.le_refl _) _).setCell (p := ⟨w.heap.size, 1, none⟩) (Nat.le_refl _) _).setCell (p := ⟨w.heap.size, 2, none⟩) (Nat.le_refl _) _).setCell (p := ⟨w.heap.size, 3, none⟩) (Nat.le_refl _) _).setCell (p := ⟨w.heap.size, 4, none⟩) (Nat.le_refl _) _) _⟩
  · have h3 := emp_no h0
    have H0 : Hid (s ≠ []) := h0
    clear h0
    go_wp2_with fail
    refine (name_any C (w3.alloc (.cells #[.int .i64 C.k, .int .i64 C.id.f, .int .i64 C.id.n, .int .i64 C.id.c, .int .i64 C.who] 25)) (by rw [← HC.out]; exact HCR.out) (HE.out.below (bAlloc HB3.out _))).mono ?_
    rintro e w6 ⟨rfl, hb6⟩
    have HB6 : Hid (Below w.heap.size w w6) := bTrans (bAlloc HB3.out _) hb6
    have k6 : w6.heap[w.heap.size]? = some (.cells #[.int .i64 0, .int .i64 0, .int .i64 0, .int .i64 0, .int .i64 0] 25) := (hb6.block _ (by simp; omega)).trans (((bAlloc (bRefl w3) (.cells #[.int .i64 C.k, .int .i64 C.id.f, .int .i64 C.id.n, .int .i64 C.id.c, .int .i64 C.who] 25)).block _ hz3).trans K3.out)
    have j6 : w6.heap[w3.heap.size]? = some (.cells #[.int .i64 C.k, .int .i64 C.id.f, .int .i64 C.id.n, .int .i64 C.id.c, .int .i64 C.who] 25) := (hb6.block _ (by simp)).trans (heap_new _ _)
    obtain ⟨a0, a1, a2, a3, a4⟩ := blk5 k6
    obtain ⟨d0, d1, d2, d3, d4⟩ := blk5 j6
    have g0 := Lib.frozen_of_heap k6
    have g00 := g0 0
    have g01 := g0 1
    have g02 := g0 2
    have g03 := g0 3
    have g04 := g0 4
    have hne : ¬ w3.heap.size = w.heap.size := by omega
    have hne' : ¬ w.heap.size = w3.heap.size := by omega
    clear hb6 k6 j6 g0 HB3 K3
    by_cases h2 : nameE C = s
    · have h4 := str_yes h2
      have HN : Hid (s ≠ [] ∧ nameE (candE s) = s) := ⟨H0.out, by rw [HC.out]; exact h2⟩
      clear h2
      go_wp2_with fail
      exact bodyPost_ret (v := .tuple #[eV C, .int .i64 0]) (by simp [results, Tryd.results11, go_sem, a0, a1, a2, a3, a4]) rfl ⟨ret_v (by rw [(ev_yes HN.out).1, (ev_yes HN.out).2, HC.out]), ((((HB6.out.setCell (p := ⟨w.heap.size, 0, none⟩) (Nat.le_refl _) _).setCell (p := ⟨w.heap.size, 1, none⟩) (Nat.le_refl _) _).setCell (p := ⟨w.heap.size, 2, none⟩) (Nat.le_refl _) _).setCell (p := ⟨w.heap.size, 3, none⟩) (Nat.le_refl _) _).setCell (p := ⟨w.heap.size, 4, none⟩) (Nat.le_refl _) _⟩
    · have h4 := str_no h2
      have HN : Hid (¬ (s ≠ [] ∧ nameE (candE s) = s)) := fun h => h2 (by rw [← HC.out]; exact h.2)
      clear h2
      go_wp2_with fail
      exact bodyPost_ret (v := .tuple #[.agg #[.int .i64 0, .int .i64 0, .int .i64 0, .int .i64 0, .int .i64 0], .int .i64 2]) (by simp [results, Tryd.results11, go_sem, a0, a1, a2, a3, a4]) rfl ⟨ret_v (by rw [(ev_no HN.out).1, (ev_no HN.out).2]; rfl), ((((HB6.out.setCell (p := ⟨w.heap.size, 0, none⟩) (Nat.le_refl _) _).setCell (p := ⟨w.heap.size, 1, none⟩) (Nat.le_refl _) _).setCell (p := ⟨w.heap.size, 2, none⟩) (Nat.le_refl _) _).setCell (p := ⟨w.heap.size, 3, none⟩) (Nat.le_refl _) _).setCell (p := ⟨w.heap.size, 4, none⟩) (Nat.le_refl _) _⟩
end Go.Proofs.YtdgialhigibnlaaDoor
