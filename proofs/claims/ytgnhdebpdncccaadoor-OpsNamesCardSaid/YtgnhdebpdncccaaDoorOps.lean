/-
  What the instructions' own functions Valid and the table's rows answer, in a world that holds the table. No further conditions.
-/
import Derived.Test.YtgnhdebpdncccaaDoorTab
namespace Go.Proofs.YtgnhdebpdncccaaDoor
open Go.RowKit

theorem ret_bool {a b : Bool} (h : a = b) : Ending.returned (.bool a) = .returned (.bool b) := by rw [h]

set_option maxHeartbeats 400000 in
theorem valid_yes (op : Int) (w : World) (h1 : 1 ≤ op) (h2 : op ≤ 25) :
    Calls Tryd.prog 9 #[.int .i64 op] w fun e w' => e = .returned (.bool true) ∧ w' = w := by
  go_enter Tryd.func9, Tryd.ntmps9
  go_wp2
  go_ret
  exact ⟨rfl, rfl⟩

set_option maxHeartbeats 400000 in
theorem valid_no (op : Int) (w : World) (h : op < 1 ∨ 25 < op) :
    Calls Tryd.prog 9 #[.int .i64 op] w fun e w' => e = .returned (.bool false) ∧ w' = w := by
  rcases h with h | h
  · go_enter Tryd.func9, Tryd.ntmps9
    go_wp2
    go_ret
    exact ⟨rfl, rfl⟩
  · have h1 : 1 ≤ op := by omega
    go_enter Tryd.func9, Tryd.ntmps9
    go_wp2
    go_ret
    exact ⟨ret_bool (by simp; omega), rfl⟩

set_option maxHeartbeats 400000 in
theorem traits_yes (i : Nat) (w : World) (h1 : 1 ≤ i) (h2 : i ≤ 25) (ht : Tab w) :
    Calls Tryd.prog 20 #[.int .i64 (i : Int)] w fun e w' => e = .returned (.agg #[.string (nm i), .int .i64 (po i), .int .i64 (pu i), .int .i64 (od i)]) ∧ Below w.heap.size w w' := by
  have c0 := ht.name i (by omega)
  have c1 := ht.pops i (by omega)
  have c2 := ht.puts i (by omega)
  have c3 := ht.oper i (by omega)
  have c4 := ht.held
  clear ht
  go_enter Tryd.func20, Tryd.ntmps20
  go_wp2_with (go_at_call 9; refine (valid_yes _ _ (by omega) (by omega)).mono ?_; rintro e w' ⟨rfl, rfl⟩)
  exact bodyPost_ret (v := .agg #[.string (nm i), .int .i64 (po i), .int .i64 (pu i), .int .i64 (od i)]) (by simp [results, Tryd.results20, go_sem]) rfl ⟨rfl, (Below.refl _ _).alloc (Nat.le_refl _) _⟩

set_option maxHeartbeats 400000 in
theorem traits_no (op : Int) (w : World) (h : op < 1 ∨ 25 < op) :
    Calls Tryd.prog 20 #[.int .i64 op] w fun e w' => e = .returned (.agg #[.string (nm 0), .int .i64 (po 0), .int .i64 (pu 0), .int .i64 (od 0)]) ∧ Below w.heap.size w w' := by
  go_enter Tryd.func20, Tryd.ntmps20
  go_wp2_with (go_at_call 9; refine (valid_no _ _ h).mono ?_; rintro e w' ⟨rfl, rfl⟩)
  exact bodyPost_ret (v := .agg #[.string (nm 0), .int .i64 (po 0), .int .i64 (pu 0), .int .i64 (od 0)]) (by simp [results, Tryd.results20, go_sem]; exact ⟨rfl, rfl, rfl, rfl⟩) rfl ⟨rfl, (Below.refl _ _).alloc (Nat.le_refl _) _⟩

end Go.Proofs.YtgnhdebpdncccaaDoor
