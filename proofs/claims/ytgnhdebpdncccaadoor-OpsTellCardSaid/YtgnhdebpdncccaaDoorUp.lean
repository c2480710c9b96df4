/-
  The same answers, with what is kept of an earlier world; and that the law's own look at the document's fixed answers says yes. No further conditions.
-/
import Derived.Test.YtgnhdebpdncccaaDoorFind
namespace Go.Proofs.YtgnhdebpdncccaaDoor
open Go.RowKit

/-- The world w has the table, and below what w0 had it is as w0 was. -/
structure Up (w0 w : World) : Prop where
  tab : Tab w
  low : Below w0.heap.size w0 w

theorem Up.next {w0 w w' : World} (h : Up w0 w) (hb : Below w.heap.size w w') : Up w0 w' := ⟨h.tab.below hb, h.low.trans (hb.mono h.low.size)⟩

def vl (op : Int) : Bool := decide (1 ≤ op ∧ op ≤ 25)
theorem vl_yes {op : Int} (h1 : 1 ≤ op) (h2 : op ≤ 25) : vl op = true := decide_eq_true ⟨h1, h2⟩
theorem vl_no {op : Int} (h : op < 1 ∨ 25 < op) : vl op = false := decide_eq_false (by omega)

theorem valid_up (op : Int) (w : World) : Calls Tryd.prog 9 #[.int .i64 op] w fun e w' => e = .returned (.bool (vl op)) ∧ w' = w := by
  by_cases h : 1 ≤ op ∧ op ≤ 25
  · rw [vl_yes h.1 h.2]; exact valid_yes op w h.1 h.2
  · rw [vl_no (by omega)]; exact valid_no op w (by omega)
theorem name_up (w0 : World) (op : Int) (w : World) (h : Up w0 w) : Calls Tryd.prog 11 #[.int .i64 op] w fun e w' => e = .returned (.string (nm (at_ op))) ∧ Up w0 w' :=
  (name_any op w h.tab).mono fun _ _ ⟨a, b⟩ => ⟨a, h.next b⟩
theorem pops_up (w0 : World) (op : Int) (w : World) (h : Up w0 w) : Calls Tryd.prog 13 #[.int .i64 op] w fun e w' => e = .returned (.int .i64 (po (at_ op))) ∧ Up w0 w' :=
  (pops_any op w h.tab).mono fun _ _ ⟨a, b⟩ => ⟨a, h.next b⟩
theorem puts_up (w0 : World) (op : Int) (w : World) (h : Up w0 w) : Calls Tryd.prog 15 #[.int .i64 op] w fun e w' => e = .returned (.int .i64 (pu (at_ op))) ∧ Up w0 w' :=
  (puts_any op w h.tab).mono fun _ _ ⟨a, b⟩ => ⟨a, h.next b⟩
theorem oper_up (w0 : World) (op : Int) (w : World) (h : Up w0 w) : Calls Tryd.prog 17 #[.int .i64 op] w fun e w' => e = .returned (.int .i64 (od (at_ op))) ∧ Up w0 w' :=
  (oper_any op w h.tab).mono fun _ _ ⟨a, b⟩ => ⟨a, h.next b⟩
theorem find_up (w0 : World) (s : ByteArray) (w : World) (h : Up w0 w) : Calls Tryd.prog 7 #[.string s] w fun e w' => e = .returned (.tuple #[.int .i64 (fnd s), .bool (decide (0 < fnd s))]) ∧ w' = w :=
  find_any s w h.tab

theorem fnd_less : fnd ⟨#[108, 101, 115, 115]⟩ = 16 := by decide +kernel
theorem fnd_none : fnd ⟨#[]⟩ = 0 := by decide +kernel

set_option maxHeartbeats 400000 in
theorem awake_up (w0 w : World) (h : Up w0 w) : Calls Tryd.prog 6 #[] w fun e w' => e = .returned (.bool true) ∧ Up w0 w' := by
  have f1 := fnd_less
  have f2 := fnd_none
  have v1 : vl 25 = true := rfl
  have v2 : vl 0 = false := rfl
  have v3 : vl 26 = false := rfl
  have n1 : nm (at_ 1) = ⟨#[112, 117, 115, 104]⟩ := rfl
  have n2 : nm (at_ 25) = ⟨#[101, 110, 100]⟩ := rfl
  have n3 : nm (at_ 0) = ⟨#[]⟩ := rfl
  have p1 : po (at_ 4) = 2 := rfl
  have p2 : pu (at_ 3) = 2 := rfl
  have p3 : od (at_ 22) = 5 := rfl
  have p4 : od (at_ 9) = 0 := rfl
  go_enter Tryd.func6, Tryd.ntmps6
  go_wp2_with (first
    | (go_at_call 9; refine (valid_up _ _).mono ?_; rintro e w' ⟨rfl, rfl⟩)
    | (go_at_call 7; refine (find_up w0 _ _ (by assumption)).mono ?_; rintro e w' ⟨rfl, rfl⟩)
    | (go_at_call 11; refine (name_up w0 _ _ (by assumption)).mono ?_; rintro e w' ⟨rfl, hu⟩)
    | (go_at_call 13; refine (pops_up w0 _ _ (by assumption)).mono ?_; rintro e w' ⟨rfl, hu⟩)
    | (go_at_call 15; refine (puts_up w0 _ _ (by assumption)).mono ?_; rintro e w' ⟨rfl, hu⟩)
    | (go_at_call 17; refine (oper_up w0 _ _ (by assumption)).mono ?_; rintro e w' ⟨rfl, hu⟩))
  go_ret
  exact ⟨rfl, by assumption⟩
end Go.Proofs.YtgnhdebpdncccaaDoor
