/-
  What Name, Pops, Puts, Operand and Find answer, in a world that holds the table. No further conditions.
-/
import Derived.Test.YtgnhdebpdncccaaDoorOps
namespace Go.Proofs.YtgnhdebpdncccaaDoor
open Go.RowKit

theorem at_yes {op : Int} (h1 : 1 ≤ op) (h2 : op ≤ 25) : at_ op = op.toNat := by unfold at_; rw [if_pos ⟨h1, h2⟩]
theorem at_no {op : Int} (h : op < 1 ∨ 25 < op) : at_ op = 0 := by unfold at_; rw [if_neg (by omega)]

theorem traits_any (op : Int) (w : World) (ht : Tab w) :
    Calls Tryd.prog 20 #[.int .i64 op] w fun e w' => e = .returned (.agg #[.string (nm (at_ op)), .int .i64 (po (at_ op)), .int .i64 (pu (at_ op)), .int .i64 (od (at_ op))]) ∧ Below w.heap.size w w' := by
  by_cases h : 1 ≤ op ∧ op ≤ 25
  · obtain ⟨h1, h2⟩ := h
    rw [at_yes h1 h2]
    obtain ⟨i, rfl⟩ := Int.eq_ofNat_of_zero_le (show 0 ≤ op by omega)
    rw [Int.toNat_natCast]
    exact traits_yes i w (by omega) (by omega) ht
  · rw [at_no (by omega)]
    exact traits_no op w (by omega)

theorem field0 (a b c d : Value) (w : World) : (Instr.field 31 (.agg #[a, b, c, d]) 0).run Tryd.prog w = .ok a w := by kernel_rfl
theorem field1 (a b c d : Value) (w : World) : (Instr.field 31 (.agg #[a, b, c, d]) 1).run Tryd.prog w = .ok b w := by kernel_rfl
theorem field2 (a b c d : Value) (w : World) : (Instr.field 31 (.agg #[a, b, c, d]) 2).run Tryd.prog w = .ok c w := by kernel_rfl
theorem field3 (a b c d : Value) (w : World) : (Instr.field 31 (.agg #[a, b, c, d]) 3).run Tryd.prog w = .ok d w := by kernel_rfl

set_option maxHeartbeats 400000 in
theorem name_any (op : Int) (w : World) (ht : Tab w) :
    Calls Tryd.prog 11 #[.int .i64 op] w fun e w' => e = .returned (.string (nm (at_ op))) ∧ Below w.heap.size w w' := by
  have H : Hid (Tab w) := ht
  have hf := field0
  clear ht
  go_enter Tryd.func11, Tryd.ntmps11
  go_wp2_with (go_at_call 20; refine (traits_any op w H.out).mono ?_; rintro e w' ⟨rfl, hb⟩)
  go_ret
  exact ⟨rfl, by assumption⟩

set_option maxHeartbeats 400000 in
theorem pops_any (op : Int) (w : World) (ht : Tab w) :
    Calls Tryd.prog 13 #[.int .i64 op] w fun e w' => e = .returned (.int .i64 (po (at_ op))) ∧ Below w.heap.size w w' := by
  have H : Hid (Tab w) := ht
  have hf := field1
  clear ht
  go_enter Tryd.func13, Tryd.ntmps13
  go_wp2_with (go_at_call 20; refine (traits_any op w H.out).mono ?_; rintro e w' ⟨rfl, hb⟩)
  go_ret
  exact ⟨rfl, by assumption⟩

set_option maxHeartbeats 400000 in
theorem puts_any (op : Int) (w : World) (ht : Tab w) :
    Calls Tryd.prog 15 #[.int .i64 op] w fun e w' => e = .returned (.int .i64 (pu (at_ op))) ∧ Below w.heap.size w w' := by
  have H : Hid (Tab w) := ht
  have hf := field2
  clear ht
  go_enter Tryd.func15, Tryd.ntmps15
  go_wp2_with (go_at_call 20; refine (traits_any op w H.out).mono ?_; rintro e w' ⟨rfl, hb⟩)
  go_ret
  exact ⟨rfl, by assumption⟩

set_option maxHeartbeats 400000 in
theorem oper_any (op : Int) (w : World) (ht : Tab w) :
    Calls Tryd.prog 17 #[.int .i64 op] w fun e w' => e = .returned (.int .i64 (od (at_ op))) ∧ Below w.heap.size w w' := by
  have H : Hid (Tab w) := ht
  have hf := field3
  clear ht
  go_enter Tryd.func17, Tryd.ntmps17
  go_wp2_with (go_at_call 20; refine (traits_any op w H.out).mono ?_; rintro e w' ⟨rfl, hb⟩)
  go_ret
  exact ⟨rfl, by assumption⟩

/-- The first of f rows from row k on whose name it is; 0: none. -/
def fndG (s : ByteArray) : Nat → Nat → Nat
  | 0, _ => 0
  | f + 1, k => if nm k = s then k else fndG s f (k + 1)
def fnd (s : ByteArray) : Nat := fndG s 25 1

theorem eq_of_toList {a b : ByteArray} (h : (a.toList == b.toList) = true) : a = b := by
  have h := eq_of_beq h
  rw [ByteArray.toList_eq, ByteArray.toList_eq] at h
  obtain ⟨⟨a⟩⟩ := a
  obtain ⟨⟨b⟩⟩ := b
  simp only at h
  rw [h]
theorem ne_of_toList {a b : ByteArray} (h : (a.toList == b.toList) = false) : a ≠ b := by
  rintro rfl
  simp at h
theorem fndG_hit {s : ByteArray} {k : Nat} (h : k ≤ 25) (he : nm k = s) : fndG s (26 - k) k = k := by
  rw [show 26 - k = (25 - k) + 1 by omega, fndG, if_pos he]
theorem fndG_miss {s : ByteArray} {k : Nat} (h : k ≤ 25) (he : nm k ≠ s) (hf : fnd s = fndG s (26 - k) k) : fnd s = fndG s (26 - (k + 1)) (k + 1) := by
  rw [hf, show 26 - k = (25 - k) + 1 by omega, fndG, if_neg he, show 26 - (k + 1) = 25 - k by omega]
theorem ret_found {s : ByteArray} {k : Nat} (h : fnd s = k) (h1 : 1 ≤ k) : Ending.returned (.tuple #[.int .i64 (k : Int), .bool true]) = .returned (.tuple #[.int .i64 (fnd s : Int), .bool (decide (0 < fnd s))]) := by
  rw [h, decide_eq_true (by omega)]
theorem ret_none {s : ByteArray} (h : fnd s = 0) : Ending.returned (.tuple #[.int .i64 0, .bool false]) = .returned (.tuple #[.int .i64 (fnd s : Int), .bool (decide (0 < fnd s))]) := by
  rw [h]; rfl

set_option maxHeartbeats 400000 in
theorem find_any (s : ByteArray) (w : World) (ht : Tab w) :
    Calls Tryd.prog 7 #[.string s] w fun e w' => e = .returned (.tuple #[.int .i64 (fnd s), .bool (decide (0 < fnd s))]) ∧ w' = w := by
  have H : Hid (Tab w) := ht
  clear ht
  go_enter Tryd.func7, Tryd.ntmps7
  go_wp2
  go_loop [4] (fun i => ∃ k : Nat, 1 ≤ k ∧ k ≤ 26 ∧ i = .int .i64 k ∧ Hid (fnd s = fndG s (26 - k) k)) (fun i => 26 - (intOf i).toNat)
  case atStart => exact ⟨1, by omega, by omega, rfl, rfl⟩
  case round =>
    obtain ⟨k, hk1, hk2, rfl, hf⟩ := hrel
    by_cases hlt : k ≤ 25
    · have c0 := H.out.name k (by omega)
      go_wp2
      · have he : nm k = s := eq_of_toList (by assumption)
        go_ret2
        exact ⟨ret_found (hf.out.trans (fndG_hit hlt he)) hk1, rfl⟩
      · have he : nm k ≠ s := ne_of_toList (by assumption)
        go_round
        case rel => exact ⟨k + 1, by omega, by omega, by go_num, fndG_miss hlt he hf.out⟩
        case measure => simp [intOf]; omega
    · have hk : k = 26 := by omega
      have h0 : fnd s = 0 := by rw [hf.out, hk]; rfl
      have H0 : Hid (fnd s = 0) := h0
      clear h0
      go_wp2
      go_ret2
      exact ⟨ret_none H0.out, rfl⟩
end Go.Proofs.YtgnhdebpdncccaaDoor
