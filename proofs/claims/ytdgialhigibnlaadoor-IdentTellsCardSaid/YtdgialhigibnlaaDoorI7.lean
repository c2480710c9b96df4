/-
  How names are read: Parse. Conditions: the text is not of a giant's length; what it reads is there.
-/
import Derived.Test.YtdgialhigibnlaaDoorI5
import Derived.Test.YtdgialhigibnlaaDoorI6
namespace Go.Proofs.YtdgialhigibnlaaDoor
open Go.RowKit
attribute [local go_sem ↓] Go.wp_at_zero Go.wp_at_succ
def pdV (s : List UInt8) : PID := (prsD s).getD id0
def pdE (s : List UInt8) : Int := if tid (candD s) = s then 0 else 2
theorem pd_yes {s : List UInt8} (h : tid (candD s) = s) : pdV s = candD s ∧ pdE s = 0 := ⟨by unfold pdV prsD; rw [if_pos h]; rfl, by unfold pdE; rw [if_pos h]⟩
theorem pd_no {s : List UInt8} (h : tid (candD s) ≠ s) : pdV s = id0 ∧ pdE s = 2 := ⟨by unfold pdV prsD; rw [if_neg h]; rfl, by unfold pdE; rw [if_neg h]⟩
theorem pd_some {s : List UInt8} {a : PID} (h : prsD s = some a) : pdV s = a ∧ pdE s = 0 := by
  have e : tid (candD s) = s := by
    unfold prsD at h
    split at h
    · assumption
    · cases h
  obtain ⟨h1, h2⟩ := pd_yes e
  refine ⟨?_, h2⟩
  unfold pdV; rw [h]; rfl
theorem pd_none {s : List UInt8} (h : prsD s = none) : pdV s = id0 ∧ pdE s = 2 := by
  refine pd_no fun e => ?_
  unfold prsD at h
  rw [if_pos e] at h
  cases h
theorem pdV_rg (s : List UInt8) : RgD (pdV s) := by
  unfold pdV
  cases h : prsD s with
  | none => exact rgd0
  | some a => exact (prsD_some h).2
set_option maxHeartbeats 2000000 in
set_option maxRecDepth 100000 in
theorem parse_any (s : List UInt8) (w : World) (hl : s.length ≤ 1000000) (he : Env w) :
    Calls Tryd.prog 9 #[.string (bs s)] w fun e w' => e = .returned (.tuple #[dV (pdV s), .int .i64 (pdE s)]) ∧ Below w.heap.size w w' := by
  have HL : Hid (s.length ≤ 1000000) := hl
  have HL2 : Hid ((c2 46 s).length ≤ 1000000) := Nat.le_trans (c2_len 46 s) hl
  have HE : Hid (Env w) := he
  have HB : ∀ (x : Obj), Below w.heap.size w (w.alloc x) := fun x => bAlloc (bRefl w) x
  clear hl he
  go_enter Tryd.func9, Tryd.ntmps9
  go_wp2_with fail
  refine (cut2 46 s _ HL.out (HE.out.below (HB _))).mono ?_
  rintro e w1 ⟨⟨b1, rfl⟩, n1, rfl⟩
  go_wp2_with fail
  refine (cut2 46 (c2 46 s) _ HL2.out (HE.out.below (bDrewN (HB _) _))).mono ?_
  rintro e w2 ⟨⟨b2, rfl⟩, n2, rfl⟩
  have HL3 : Hid ((c1 46 s).length ≤ 1000000) := Nat.le_trans (c1_len 46 s) HL.out
  have HL4 : Hid ((c1 46 (c2 46 s)).length ≤ 1000000) := Nat.le_trans (c1_len 46 _) HL2.out
  have HL5 : Hid ((c2 46 (c2 46 s)).length ≤ 1000000) := Nat.le_trans (c2_len 46 _) HL2.out
  go_wp2_with fail
  refine (numberB _ _ HL3.out (HE.out.below (by first | exact bDrewN (HB _) _ | exact bDrewN (bDrewN (HB _) _) _))).mono ?_
  rintro e w3 ⟨rfl, hb3⟩
  have hB3 : Below w.heap.size w w3 := bTrans (by first | exact bDrewN (HB _) _ | exact bDrewN (bDrewN (HB _) _) _) hb3
  have k3 : w3.heap[w.heap.size]? = some (.cells #[.int .i64 0, .int .i64 0, .int .i64 0] 23) := (hb3.block _ (by simp)).trans (heap_new w _)
  clear hb3
  go_wp2_with fail
  refine (numberB _ _ HL4.out (HE.out.below hB3)).mono ?_
  rintro e w4 ⟨rfl, hb4⟩
  have hB4 : Below w.heap.size w w4 := bTrans hB3 hb4
  have hz3 : w.heap.size < w3.heap.size := (Array.getElem?_eq_some_iff.1 k3).1
  have k4 : w4.heap[w.heap.size]? = some (.cells #[.int .i64 0, .int .i64 0, .int .i64 0] 23) := (hb4.block _ hz3).trans k3
  clear hb4 hB3 k3
  go_wp2_with fail
  refine (numberB _ _ HL5.out (HE.out.below hB4)).mono ?_
  rintro e w5 ⟨rfl, hb5⟩
  have hB5 : Below w.heap.size w w5 := bTrans hB4 hb5
  have hz4 : w.heap.size < w4.heap.size := (Array.getElem?_eq_some_iff.1 k4).1
  have k5 : w5.heap[w.heap.size]? = some (.cells #[.int .i64 0, .int .i64 0, .int .i64 0] 23) := (hb5.block _ hz4).trans k4
  have hz5 : w.heap.size < w5.heap.size := (Array.getElem?_eq_some_iff.1 k5).1
  clear hb5 hB4 k4 hz3 hz4
  go_wp2_with fail
  refine (text_any (candD s) (w5.alloc (.cells #[.int .i64 (atoiV (c1 46 s)), .int .i64 (atoiV (c1 46 (c2 46 s))), .int .i64 (atoiV (c2 46 (c2 46 s)))] 23)) (candD_rg s) (HE.out.below (bAlloc hB5 _))).mono ?_
  rintro e w6 ⟨rfl, hb6⟩
  have HB6 : Hid (Below w.heap.size w w6) := bTrans (bAlloc hB5 _) hb6
  have k6 : w6.heap[w.heap.size]? = some (.cells #[.int .i64 0, .int .i64 0, .int .i64 0] 23) := (hb6.block _ (by simp; omega)).trans (((bAlloc (bRefl w5) (.cells #[.int .i64 (atoiV (c1 46 s)), .int .i64 (atoiV (c1 46 (c2 46 s))), .int .i64 (atoiV (c2 46 (c2 46 s)))] 23)).block _ hz5).trans k5)
  have j6 : w6.heap[w5.heap.size]? = some (.cells #[.int .i64 (atoiV (c1 46 s)), .int .i64 (atoiV (c1 46 (c2 46 s))), .int .i64 (atoiV (c2 46 (c2 46 s)))] 23) := (hb6.block _ (by simp)).trans (heap_new _ _)
  obtain ⟨a0, a1, a2⟩ := blk3 k6
  obtain ⟨d0, d1, d2⟩ := blk3 j6
  have f0 := Lib.frozen_of_heap k6
  have g0 := f0 0
  have g1 := f0 1
  have g2 := f0 2
  have hne : ¬ w5.heap.size = w.heap.size := by omega
  have hne' : ¬ w.heap.size = w5.heap.size := by omega
  clear hb6 k6 j6 k5 hB5 f0 HB
  by_cases h2 : tid (candD s) = s
  · have h3 := str_yes h2
    have H2 : Hid (tid (candD s) = s) := h2
    clear h2
    go_wp2_with fail
    exact bodyPost_ret (v := .tuple #[.agg #[.int .i64 (atoiV (c1 46 s)), .int .i64 (atoiV (c1 46 (c2 46 s))), .int .i64 (atoiV (c2 46 (c2 46 s)))], .int .i64 0]) (by simp [results, Tryd.results9, go_sem, a0, a1, a2]) rfl ⟨by rw [(pd_yes H2.out).1, (pd_yes H2.out).2]; rfl, ((HB6.out.setCell (p := ⟨w.heap.size, 0, none⟩) (Nat.le_refl _) _).setCell (p := ⟨w.heap.size, 1, none⟩) (Nat.le_refl _) _).setCell (p := ⟨w.heap.size, 2, none⟩) (Nat.le_refl _) _⟩
  · have h3 := str_no h2
    have H2 : Hid (tid (candD s) ≠ s) := h2
    clear h2
    go_wp2_with fail
    exact bodyPost_ret (v := .tuple #[.agg #[.int .i64 0, .int .i64 0, .int .i64 0], .int .i64 2]) (by simp [results, Tryd.results9, go_sem, a0, a1, a2]) rfl ⟨by rw [(pd_no H2.out).1, (pd_no H2.out).2]; rfl, ((HB6.out.setCell (p := ⟨w.heap.size, 0, none⟩) (Nat.le_refl _) _).setCell (p := ⟨w.heap.size, 1, none⟩) (Nat.le_refl _) _).setCell (p := ⟨w.heap.size, 2, none⟩) (Nat.le_refl _) _⟩
end Go.Proofs.YtdgialhigibnlaaDoor
