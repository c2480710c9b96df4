/-
  For every number OpsBalance answers true, in a world that holds the table. No further conditions.
-/
import Derived.Test.YtgnhdebpdncccaaDoorUp
namespace Go.Proofs.YtgnhdebpdncccaaDoor
open Go.RowKit

/-- What holds of the 25 numbers holds of each of them. -/
theorem each {p : Int → Prop} (h : ∀ i : Fin 25, p (i.val + 1 : Nat)) {op : Int} (h1 : 1 ≤ op) (h2 : op ≤ 25) : p op := by
  have := h ⟨op.toNat - 1, by omega⟩
  simp only at this
  rwa [show ((op.toNat - 1 + 1 : Nat) : Int) = op by omega] at this

theorem balance_two {op : Int} (h : 9 ≤ op ∧ op ≤ 13 ∨ 15 ≤ op ∧ op ≤ 18) : po (at_ op) = 2 ∧ pu (at_ op) = 1 ∧ od (at_ op) = 0 :=
  each (p := fun op => (9 ≤ op ∧ op ≤ 13 ∨ 15 ≤ op ∧ op ≤ 18) → po (at_ op) = 2 ∧ pu (at_ op) = 1 ∧ od (at_ op) = 0) (by decide +kernel) (by omega) (by omega) h
theorem balance_one {op : Int} (h : op = 14 ∨ op = 19) : po (at_ op) = 1 ∧ pu (at_ op) = 1 ∧ od (at_ op) = 0 := by rcases h with rfl | rfl <;> decide +kernel

set_option maxRecDepth 100000 in
set_option maxHeartbeats 1000000 in
theorem balance_no (op : Int) (w0 w : World) (h : Up w0 w) (hv : op < 1 ∨ 25 < op) : Calls Tryd.prog 5 #[.int .i64 op] w fun e w' => e = .returned (.bool true) ∧ Up w0 w' := by
  have v := vl_no hv
  have q : at_ op = 0 := at_no hv
  have p1 : po 0 = 0 := rfl
  have p2 : pu 0 = 0 := rfl
  have p3 : od 0 = 0 := rfl
  clear hv
  go_enter Tryd.func5, Tryd.ntmps5
  go_wp2_with (first
    | (go_at_call 9; refine (valid_up _ _).mono ?_; rintro e w' ⟨rfl, rfl⟩)
    | (go_at_call 6; refine (awake_up w0 _ (by assumption)).mono ?_; rintro e w' ⟨rfl, hu⟩)
    | (go_at_call 13; refine (pops_up w0 _ _ (by assumption)).mono ?_; rintro e w' ⟨rfl, hu⟩)
    | (go_at_call 15; refine (puts_up w0 _ _ (by assumption)).mono ?_; rintro e w' ⟨rfl, hu⟩)
    | (go_at_call 17; refine (oper_up w0 _ _ (by assumption)).mono ?_; rintro e w' ⟨rfl, hu⟩))
  go_ret
  exact ⟨rfl, by assumption⟩

set_option maxRecDepth 100000 in
set_option maxHeartbeats 1000000 in
theorem balance_a (op : Int) (w0 w : World) (h : Up w0 w) (h1 : 9 ≤ op) (h2 : op ≤ 13) : Calls Tryd.prog 5 #[.int .i64 op] w fun e w' => e = .returned (.bool true) ∧ Up w0 w' := by
  have v := vl_yes (op := op) (by omega) (by omega)
  obtain ⟨p1, p2, p3⟩ := balance_two (op := op) (by omega)
  go_enter Tryd.func5, Tryd.ntmps5
  go_wp2_with (first
    | (go_at_call 9; refine (valid_up _ _).mono ?_; rintro e w' ⟨rfl, rfl⟩)
    | (go_at_call 6; refine (awake_up w0 _ (by assumption)).mono ?_; rintro e w' ⟨rfl, hu⟩)
    | (go_at_call 13; refine (pops_up w0 _ _ (by assumption)).mono ?_; rintro e w' ⟨rfl, hu⟩)
    | (go_at_call 15; refine (puts_up w0 _ _ (by assumption)).mono ?_; rintro e w' ⟨rfl, hu⟩)
    | (go_at_call 17; refine (oper_up w0 _ _ (by assumption)).mono ?_; rintro e w' ⟨rfl, hu⟩))
  go_ret
  exact ⟨rfl, by assumption⟩

set_option maxRecDepth 100000 in
set_option maxHeartbeats 1000000 in
theorem balance_b (op : Int) (w0 w : World) (h : Up w0 w) (h1 : 15 ≤ op) (h2 : op ≤ 18) : Calls Tryd.prog 5 #[.int .i64 op] w fun e w' => e = .returned (.bool true) ∧ Up w0 w' := by
  have v := vl_yes (op := op) (by omega) (by omega)
  obtain ⟨p1, p2, p3⟩ := balance_two (op := op) (by omega)
  go_enter Tryd.func5, Tryd.ntmps5
  go_wp2_with (first
    | (go_at_call 9; refine (valid_up _ _).mono ?_; rintro e w' ⟨rfl, rfl⟩)
    | (go_at_call 6; refine (awake_up w0 _ (by assumption)).mono ?_; rintro e w' ⟨rfl, hu⟩)
    | (go_at_call 13; refine (pops_up w0 _ _ (by assumption)).mono ?_; rintro e w' ⟨rfl, hu⟩)
    | (go_at_call 15; refine (puts_up w0 _ _ (by assumption)).mono ?_; rintro e w' ⟨rfl, hu⟩)
    | (go_at_call 17; refine (oper_up w0 _ _ (by assumption)).mono ?_; rintro e w' ⟨rfl, hu⟩))
  go_ret
  exact ⟨rfl, by assumption⟩

set_option maxRecDepth 100000 in
set_option maxHeartbeats 1000000 in
theorem balance_14 (op : Int) (w0 w : World) (h : Up w0 w) (ho : op = 14) : Calls Tryd.prog 5 #[.int .i64 op] w fun e w' => e = .returned (.bool true) ∧ Up w0 w' := by
  subst ho
  have v : vl 14 = true := rfl
  obtain ⟨p1, p2, p3⟩ := balance_one (op := 14) (by omega)
  go_enter Tryd.func5, Tryd.ntmps5
  go_wp2_with (first
    | (go_at_call 9; refine (valid_up _ _).mono ?_; rintro e w' ⟨rfl, rfl⟩)
    | (go_at_call 6; refine (awake_up w0 _ (by assumption)).mono ?_; rintro e w' ⟨rfl, hu⟩)
    | (go_at_call 13; refine (pops_up w0 _ _ (by assumption)).mono ?_; rintro e w' ⟨rfl, hu⟩)
    | (go_at_call 15; refine (puts_up w0 _ _ (by assumption)).mono ?_; rintro e w' ⟨rfl, hu⟩)
    | (go_at_call 17; refine (oper_up w0 _ _ (by assumption)).mono ?_; rintro e w' ⟨rfl, hu⟩))
  go_ret
  exact ⟨rfl, by assumption⟩

set_option maxRecDepth 100000 in
set_option maxHeartbeats 1000000 in
theorem balance_19 (op : Int) (w0 w : World) (h : Up w0 w) (ho : op = 19) : Calls Tryd.prog 5 #[.int .i64 op] w fun e w' => e = .returned (.bool true) ∧ Up w0 w' := by
  subst ho
  have v : vl 19 = true := rfl
  obtain ⟨p1, p2, p3⟩ := balance_one (op := 19) (by omega)
  go_enter Tryd.func5, Tryd.ntmps5
  go_wp2_with (first
    | (go_at_call 9; refine (valid_up _ _).mono ?_; rintro e w' ⟨rfl, rfl⟩)
    | (go_at_call 6; refine (awake_up w0 _ (by assumption)).mono ?_; rintro e w' ⟨rfl, hu⟩)
    | (go_at_call 13; refine (pops_up w0 _ _ (by assumption)).mono ?_; rintro e w' ⟨rfl, hu⟩)
    | (go_at_call 15; refine (puts_up w0 _ _ (by assumption)).mono ?_; rintro e w' ⟨rfl, hu⟩)
    | (go_at_call 17; refine (oper_up w0 _ _ (by assumption)).mono ?_; rintro e w' ⟨rfl, hu⟩))
  go_ret
  exact ⟨rfl, by assumption⟩

set_option maxRecDepth 100000 in
set_option maxHeartbeats 1000000 in
theorem balance_5 (op : Int) (w0 w : World) (h : Up w0 w) (ho : op = 5) : Calls Tryd.prog 5 #[.int .i64 op] w fun e w' => e = .returned (.bool true) ∧ Up w0 w' := by
  subst ho
  have v : vl 5 = true := rfl
  have p1 : od (at_ 5) = 2 := rfl
  have p2 : po (at_ 5) = 0 := rfl
  have p3 : pu (at_ 5) = 1 := rfl
  go_enter Tryd.func5, Tryd.ntmps5
  go_wp2_with (first
    | (go_at_call 9; refine (valid_up _ _).mono ?_; rintro e w' ⟨rfl, rfl⟩)
    | (go_at_call 6; refine (awake_up w0 _ (by assumption)).mono ?_; rintro e w' ⟨rfl, hu⟩)
    | (go_at_call 13; refine (pops_up w0 _ _ (by assumption)).mono ?_; rintro e w' ⟨rfl, hu⟩)
    | (go_at_call 15; refine (puts_up w0 _ _ (by assumption)).mono ?_; rintro e w' ⟨rfl, hu⟩)
    | (go_at_call 17; refine (oper_up w0 _ _ (by assumption)).mono ?_; rintro e w' ⟨rfl, hu⟩))
  go_ret
  exact ⟨rfl, by assumption⟩

set_option maxRecDepth 100000 in
set_option maxHeartbeats 1000000 in
theorem balance_6 (op : Int) (w0 w : World) (h : Up w0 w) (ho : op = 6) : Calls Tryd.prog 5 #[.int .i64 op] w fun e w' => e = .returned (.bool true) ∧ Up w0 w' := by
  subst ho
  have v : vl 6 = true := rfl
  have p1 : od (at_ 6) = 2 := rfl
  have p2 : po (at_ 6) = 1 := rfl
  have p3 : pu (at_ 6) = 0 := rfl
  go_enter Tryd.func5, Tryd.ntmps5
  go_wp2_with (first
    | (go_at_call 9; refine (valid_up _ _).mono ?_; rintro e w' ⟨rfl, rfl⟩)
    | (go_at_call 6; refine (awake_up w0 _ (by assumption)).mono ?_; rintro e w' ⟨rfl, hu⟩)
    | (go_at_call 13; refine (pops_up w0 _ _ (by assumption)).mono ?_; rintro e w' ⟨rfl, hu⟩)
    | (go_at_call 15; refine (puts_up w0 _ _ (by assumption)).mono ?_; rintro e w' ⟨rfl, hu⟩)
    | (go_at_call 17; refine (oper_up w0 _ _ (by assumption)).mono ?_; rintro e w' ⟨rfl, hu⟩))
  go_ret
  exact ⟨rfl, by assumption⟩

set_option maxRecDepth 100000 in
set_option maxHeartbeats 1000000 in
theorem balance_20 (op : Int) (w0 w : World) (h : Up w0 w) (ho : op = 20) : Calls Tryd.prog 5 #[.int .i64 op] w fun e w' => e = .returned (.bool true) ∧ Up w0 w' := by
  subst ho
  have v : vl 20 = true := rfl
  have p1 : od (at_ 20) = 4 := rfl
  have p2 : po (at_ 20) = 0 := rfl
  have p3 : pu (at_ 20) = 0 := rfl
  go_enter Tryd.func5, Tryd.ntmps5
  go_wp2_with (first
    | (go_at_call 9; refine (valid_up _ _).mono ?_; rintro e w' ⟨rfl, rfl⟩)
    | (go_at_call 6; refine (awake_up w0 _ (by assumption)).mono ?_; rintro e w' ⟨rfl, hu⟩)
    | (go_at_call 13; refine (pops_up w0 _ _ (by assumption)).mono ?_; rintro e w' ⟨rfl, hu⟩)
    | (go_at_call 15; refine (puts_up w0 _ _ (by assumption)).mono ?_; rintro e w' ⟨rfl, hu⟩)
    | (go_at_call 17; refine (oper_up w0 _ _ (by assumption)).mono ?_; rintro e w' ⟨rfl, hu⟩))
  go_ret
  exact ⟨rfl, by assumption⟩

set_option maxRecDepth 100000 in
set_option maxHeartbeats 1000000 in
theorem balance_21 (op : Int) (w0 w : World) (h : Up w0 w) (ho : op = 21) : Calls Tryd.prog 5 #[.int .i64 op] w fun e w' => e = .returned (.bool true) ∧ Up w0 w' := by
  subst ho
  have v : vl 21 = true := rfl
  have p1 : od (at_ 21) = 4 := rfl
  have p2 : po (at_ 21) = 1 := rfl
  have p3 : pu (at_ 21) = 0 := rfl
  go_enter Tryd.func5, Tryd.ntmps5
  go_wp2_with (first
    | (go_at_call 9; refine (valid_up _ _).mono ?_; rintro e w' ⟨rfl, rfl⟩)
    | (go_at_call 6; refine (awake_up w0 _ (by assumption)).mono ?_; rintro e w' ⟨rfl, hu⟩)
    | (go_at_call 13; refine (pops_up w0 _ _ (by assumption)).mono ?_; rintro e w' ⟨rfl, hu⟩)
    | (go_at_call 15; refine (puts_up w0 _ _ (by assumption)).mono ?_; rintro e w' ⟨rfl, hu⟩)
    | (go_at_call 17; refine (oper_up w0 _ _ (by assumption)).mono ?_; rintro e w' ⟨rfl, hu⟩))
  go_ret
  exact ⟨rfl, by assumption⟩

set_option maxRecDepth 100000 in
set_option maxHeartbeats 1000000 in
theorem balance_1 (op : Int) (w0 w : World) (h : Up w0 w) (ho : op = 1) : Calls Tryd.prog 5 #[.int .i64 op] w fun e w' => e = .returned (.bool true) ∧ Up w0 w' := by
  subst ho
  have v : vl 1 = true := rfl
  have p2 : po (at_ 1) = 0 := rfl
  have p3 : pu (at_ 1) = 1 := rfl
  go_enter Tryd.func5, Tryd.ntmps5
  go_wp2_with (first
    | (go_at_call 9; refine (valid_up _ _).mono ?_; rintro e w' ⟨rfl, rfl⟩)
    | (go_at_call 6; refine (awake_up w0 _ (by assumption)).mono ?_; rintro e w' ⟨rfl, hu⟩)
    | (go_at_call 13; refine (pops_up w0 _ _ (by assumption)).mono ?_; rintro e w' ⟨rfl, hu⟩)
    | (go_at_call 15; refine (puts_up w0 _ _ (by assumption)).mono ?_; rintro e w' ⟨rfl, hu⟩)
    | (go_at_call 17; refine (oper_up w0 _ _ (by assumption)).mono ?_; rintro e w' ⟨rfl, hu⟩))
  go_ret
  exact ⟨rfl, by assumption⟩

set_option maxRecDepth 100000 in
set_option maxHeartbeats 1000000 in
theorem balance_2 (op : Int) (w0 w : World) (h : Up w0 w) (ho : op = 2) : Calls Tryd.prog 5 #[.int .i64 op] w fun e w' => e = .returned (.bool true) ∧ Up w0 w' := by
  subst ho
  have v : vl 2 = true := rfl
  have p2 : po (at_ 2) = 1 := rfl
  have p3 : pu (at_ 2) = 0 := rfl
  go_enter Tryd.func5, Tryd.ntmps5
  go_wp2_with (first
    | (go_at_call 9; refine (valid_up _ _).mono ?_; rintro e w' ⟨rfl, rfl⟩)
    | (go_at_call 6; refine (awake_up w0 _ (by assumption)).mono ?_; rintro e w' ⟨rfl, hu⟩)
    | (go_at_call 13; refine (pops_up w0 _ _ (by assumption)).mono ?_; rintro e w' ⟨rfl, hu⟩)
    | (go_at_call 15; refine (puts_up w0 _ _ (by assumption)).mono ?_; rintro e w' ⟨rfl, hu⟩)
    | (go_at_call 17; refine (oper_up w0 _ _ (by assumption)).mono ?_; rintro e w' ⟨rfl, hu⟩))
  go_ret
  exact ⟨rfl, by assumption⟩

set_option maxRecDepth 100000 in
set_option maxHeartbeats 1000000 in
theorem balance_3 (op : Int) (w0 w : World) (h : Up w0 w) (ho : op = 3) : Calls Tryd.prog 5 #[.int .i64 op] w fun e w' => e = .returned (.bool true) ∧ Up w0 w' := by
  subst ho
  have v : vl 3 = true := rfl
  have p2 : po (at_ 3) = 1 := rfl
  have p3 : pu (at_ 3) = 2 := rfl
  go_enter Tryd.func5, Tryd.ntmps5
  go_wp2_with (first
    | (go_at_call 9; refine (valid_up _ _).mono ?_; rintro e w' ⟨rfl, rfl⟩)
    | (go_at_call 6; refine (awake_up w0 _ (by assumption)).mono ?_; rintro e w' ⟨rfl, hu⟩)
    | (go_at_call 13; refine (pops_up w0 _ _ (by assumption)).mono ?_; rintro e w' ⟨rfl, hu⟩)
    | (go_at_call 15; refine (puts_up w0 _ _ (by assumption)).mono ?_; rintro e w' ⟨rfl, hu⟩)
    | (go_at_call 17; refine (oper_up w0 _ _ (by assumption)).mono ?_; rintro e w' ⟨rfl, hu⟩))
  go_ret
  exact ⟨rfl, by assumption⟩

set_option maxRecDepth 100000 in
set_option maxHeartbeats 1000000 in
theorem balance_4 (op : Int) (w0 w : World) (h : Up w0 w) (ho : op = 4) : Calls Tryd.prog 5 #[.int .i64 op] w fun e w' => e = .returned (.bool true) ∧ Up w0 w' := by
  subst ho
  have v : vl 4 = true := rfl
  have p2 : po (at_ 4) = 2 := rfl
  have p3 : pu (at_ 4) = 2 := rfl
  go_enter Tryd.func5, Tryd.ntmps5
  go_wp2_with (first
    | (go_at_call 9; refine (valid_up _ _).mono ?_; rintro e w' ⟨rfl, rfl⟩)
    | (go_at_call 6; refine (awake_up w0 _ (by assumption)).mono ?_; rintro e w' ⟨rfl, hu⟩)
    | (go_at_call 13; refine (pops_up w0 _ _ (by assumption)).mono ?_; rintro e w' ⟨rfl, hu⟩)
    | (go_at_call 15; refine (puts_up w0 _ _ (by assumption)).mono ?_; rintro e w' ⟨rfl, hu⟩)
    | (go_at_call 17; refine (oper_up w0 _ _ (by assumption)).mono ?_; rintro e w' ⟨rfl, hu⟩))
  go_ret
  exact ⟨rfl, by assumption⟩

set_option maxRecDepth 100000 in
set_option maxHeartbeats 1000000 in
theorem balance_7 (op : Int) (w0 w : World) (h : Up w0 w) (ho : op = 7) : Calls Tryd.prog 5 #[.int .i64 op] w fun e w' => e = .returned (.bool true) ∧ Up w0 w' := by
  subst ho
  have v : vl 7 = true := rfl
  have p2 : po (at_ 7) = 0 := rfl
  have p3 : pu (at_ 7) = 1 := rfl
  go_enter Tryd.func5, Tryd.ntmps5
  go_wp2_with (first
    | (go_at_call 9; refine (valid_up _ _).mono ?_; rintro e w' ⟨rfl, rfl⟩)
    | (go_at_call 6; refine (awake_up w0 _ (by assumption)).mono ?_; rintro e w' ⟨rfl, hu⟩)
    | (go_at_call 13; refine (pops_up w0 _ _ (by assumption)).mono ?_; rintro e w' ⟨rfl, hu⟩)
    | (go_at_call 15; refine (puts_up w0 _ _ (by assumption)).mono ?_; rintro e w' ⟨rfl, hu⟩)
    | (go_at_call 17; refine (oper_up w0 _ _ (by assumption)).mono ?_; rintro e w' ⟨rfl, hu⟩))
  go_ret
  exact ⟨rfl, by assumption⟩

set_option maxRecDepth 100000 in
set_option maxHeartbeats 1000000 in
theorem balance_8 (op : Int) (w0 w : World) (h : Up w0 w) (ho : op = 8) : Calls Tryd.prog 5 #[.int .i64 op] w fun e w' => e = .returned (.bool true) ∧ Up w0 w' := by
  subst ho
  have v : vl 8 = true := rfl
  have p2 : po (at_ 8) = 0 := rfl
  have p3 : pu (at_ 8) = 1 := rfl
  go_enter Tryd.func5, Tryd.ntmps5
  go_wp2_with (first
    | (go_at_call 9; refine (valid_up _ _).mono ?_; rintro e w' ⟨rfl, rfl⟩)
    | (go_at_call 6; refine (awake_up w0 _ (by assumption)).mono ?_; rintro e w' ⟨rfl, hu⟩)
    | (go_at_call 13; refine (pops_up w0 _ _ (by assumption)).mono ?_; rintro e w' ⟨rfl, hu⟩)
    | (go_at_call 15; refine (puts_up w0 _ _ (by assumption)).mono ?_; rintro e w' ⟨rfl, hu⟩)
    | (go_at_call 17; refine (oper_up w0 _ _ (by assumption)).mono ?_; rintro e w' ⟨rfl, hu⟩))
  go_ret
  exact ⟨rfl, by assumption⟩

set_option maxRecDepth 100000 in
set_option maxHeartbeats 1000000 in
theorem balance_22 (op : Int) (w0 w : World) (h : Up w0 w) (ho : op = 22) : Calls Tryd.prog 5 #[.int .i64 op] w fun e w' => e = .returned (.bool true) ∧ Up w0 w' := by
  subst ho
  have v : vl 22 = true := rfl
  have p2 : po (at_ 22) = 1 := rfl
  have p3 : pu (at_ 22) = 0 := rfl
  go_enter Tryd.func5, Tryd.ntmps5
  go_wp2_with (first
    | (go_at_call 9; refine (valid_up _ _).mono ?_; rintro e w' ⟨rfl, rfl⟩)
    | (go_at_call 6; refine (awake_up w0 _ (by assumption)).mono ?_; rintro e w' ⟨rfl, hu⟩)
    | (go_at_call 13; refine (pops_up w0 _ _ (by assumption)).mono ?_; rintro e w' ⟨rfl, hu⟩)
    | (go_at_call 15; refine (puts_up w0 _ _ (by assumption)).mono ?_; rintro e w' ⟨rfl, hu⟩)
    | (go_at_call 17; refine (oper_up w0 _ _ (by assumption)).mono ?_; rintro e w' ⟨rfl, hu⟩))
  go_ret
  exact ⟨rfl, by assumption⟩

set_option maxRecDepth 100000 in
set_option maxHeartbeats 1000000 in
theorem balance_23 (op : Int) (w0 w : World) (h : Up w0 w) (ho : op = 23) : Calls Tryd.prog 5 #[.int .i64 op] w fun e w' => e = .returned (.bool true) ∧ Up w0 w' := by
  subst ho
  have v : vl 23 = true := rfl
  have p2 : po (at_ 23) = 0 := rfl
  have p3 : pu (at_ 23) = 0 := rfl
  go_enter Tryd.func5, Tryd.ntmps5
  go_wp2_with (first
    | (go_at_call 9; refine (valid_up _ _).mono ?_; rintro e w' ⟨rfl, rfl⟩)
    | (go_at_call 6; refine (awake_up w0 _ (by assumption)).mono ?_; rintro e w' ⟨rfl, hu⟩)
    | (go_at_call 13; refine (pops_up w0 _ _ (by assumption)).mono ?_; rintro e w' ⟨rfl, hu⟩)
    | (go_at_call 15; refine (puts_up w0 _ _ (by assumption)).mono ?_; rintro e w' ⟨rfl, hu⟩)
    | (go_at_call 17; refine (oper_up w0 _ _ (by assumption)).mono ?_; rintro e w' ⟨rfl, hu⟩))
  go_ret
  exact ⟨rfl, by assumption⟩

set_option maxRecDepth 100000 in
set_option maxHeartbeats 1000000 in
theorem balance_24 (op : Int) (w0 w : World) (h : Up w0 w) (ho : op = 24) : Calls Tryd.prog 5 #[.int .i64 op] w fun e w' => e = .returned (.bool true) ∧ Up w0 w' := by
  subst ho
  have v : vl 24 = true := rfl
  have p2 : po (at_ 24) = 0 := rfl
  have p3 : pu (at_ 24) = 0 := rfl
  go_enter Tryd.func5, Tryd.ntmps5
  go_wp2_with (first
    | (go_at_call 9; refine (valid_up _ _).mono ?_; rintro e w' ⟨rfl, rfl⟩)
    | (go_at_call 6; refine (awake_up w0 _ (by assumption)).mono ?_; rintro e w' ⟨rfl, hu⟩)
    | (go_at_call 13; refine (pops_up w0 _ _ (by assumption)).mono ?_; rintro e w' ⟨rfl, hu⟩)
    | (go_at_call 15; refine (puts_up w0 _ _ (by assumption)).mono ?_; rintro e w' ⟨rfl, hu⟩)
    | (go_at_call 17; refine (oper_up w0 _ _ (by assumption)).mono ?_; rintro e w' ⟨rfl, hu⟩))
  go_ret
  exact ⟨rfl, by assumption⟩

set_option maxRecDepth 100000 in
set_option maxHeartbeats 1000000 in
theorem balance_25 (op : Int) (w0 w : World) (h : Up w0 w) (ho : op = 25) : Calls Tryd.prog 5 #[.int .i64 op] w fun e w' => e = .returned (.bool true) ∧ Up w0 w' := by
  subst ho
  have v : vl 25 = true := rfl
  have p2 : po (at_ 25) = 0 := rfl
  have p3 : pu (at_ 25) = 0 := rfl
  go_enter Tryd.func5, Tryd.ntmps5
  go_wp2_with (first
    | (go_at_call 9; refine (valid_up _ _).mono ?_; rintro e w' ⟨rfl, rfl⟩)
    | (go_at_call 6; refine (awake_up w0 _ (by assumption)).mono ?_; rintro e w' ⟨rfl, hu⟩)
    | (go_at_call 13; refine (pops_up w0 _ _ (by assumption)).mono ?_; rintro e w' ⟨rfl, hu⟩)
    | (go_at_call 15; refine (puts_up w0 _ _ (by assumption)).mono ?_; rintro e w' ⟨rfl, hu⟩)
    | (go_at_call 17; refine (oper_up w0 _ _ (by assumption)).mono ?_; rintro e w' ⟨rfl, hu⟩))
  go_ret
  exact ⟨rfl, by assumption⟩

theorem balance_all (op : Int) (w0 w : World) (h : Up w0 w) : Calls Tryd.prog 5 #[.int .i64 op] w fun e w' => e = .returned (.bool true) ∧ Up w0 w' := by
  rcases (show (op < 1 ∨ 25 < op) ∨ (9 ≤ op ∧ op ≤ 13) ∨ (15 ≤ op ∧ op ≤ 18) ∨ op = 14 ∨ op = 19 ∨ op = 5 ∨ op = 6 ∨ op = 20 ∨ op = 21 ∨ op = 1 ∨ op = 2 ∨ op = 3 ∨ op = 4 ∨ op = 7 ∨ op = 8 ∨ op = 22 ∨ op = 23 ∨ op = 24 ∨ op = 25 by omega) with
    g | ⟨g, k⟩ | ⟨g, k⟩ | g | g | g | g | g | g | g | g | g | g | g | g | g | g | g | g
  · exact balance_no op w0 w h g
  · exact balance_a op w0 w h g k
  · exact balance_b op w0 w h g k
  · exact balance_14 op w0 w h g
  · exact balance_19 op w0 w h g
  · exact balance_5 op w0 w h g
  · exact balance_6 op w0 w h g
  · exact balance_20 op w0 w h g
  · exact balance_21 op w0 w h g
  · exact balance_1 op w0 w h g
  · exact balance_2 op w0 w h g
  · exact balance_3 op w0 w h g
  · exact balance_4 op w0 w h g
  · exact balance_7 op w0 w h g
  · exact balance_8 op w0 w h g
  · exact balance_22 op w0 w h g
  · exact balance_23 op w0 w h g
  · exact balance_24 op w0 w h g
  · exact balance_25 op w0 w h g
end Go.Proofs.YtgnhdebpdncccaaDoor
