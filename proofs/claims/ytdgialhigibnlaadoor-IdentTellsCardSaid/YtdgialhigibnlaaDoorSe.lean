/-
  What '==' says of two names, and of two events. No conditions.
-/
import Derived.Test.YtdgialhigibnlaaDoorI4
import Derived.Laws.StructEq
import Derived.KernelRfl
namespace Go.Proofs.YtdgialhigibnlaaDoor
open Go.RowKit
def sameD (a b : PID) : Bool := decide (a = b)
def sameE (x y : PEv) : Bool := decide (x = y)
theorem gD : Tryd.prog.eqGuardType Tryd.prog.depth 23 = false := by kernel_rfl
theorem gE : Tryd.prog.eqGuardType Tryd.prog.depth 25 = false := by kernel_rfl
theorem eqD (a b : PID) (w : World) : (Op.equalIn 10000 23 (dV a) (dV b)).run Tryd.prog w = .ok (sameD a b) w := by
  have u3 := Tryd.underlying3
  have a3 := Tryd.isAgg3
  have z3 := Tryd.sizeOf3
  have hS : Tryd.prog.underlying 23 = some (.struct (Tryd.prog.fieldsOf 23)) := by kernel_rfl
  have hp : Tryd.prog.stoodInHeld 23 = false := by kernel_rfl
  obtain ⟨f, n, c⟩ := a
  obtain ⟨f', n', c'⟩ := b
  unfold sameD
  rw [show (10000 : Nat) = 9999 + 1 from rfl, run_equalIn_agg w 9999 23 _ _ hS hp]
  simp only [Program.fieldsOf, Tryd.underlying23]
  go_simp
  by_cases h1 : f = f' <;> by_cases h2 : n = n' <;> by_cases h3 : c = c' <;> simp [h1, h2, h3]
theorem eqD9 (a b : PID) (w : World) (d : Nat) : (Op.equalIn (d + 1 + 1) 23 (dV a) (dV b)).run Tryd.prog w = .ok (sameD a b) w := by
  have u3 := Tryd.underlying3
  have a3 := Tryd.isAgg3
  have z3 := Tryd.sizeOf3
  have hS : Tryd.prog.underlying 23 = some (.struct (Tryd.prog.fieldsOf 23)) := by kernel_rfl
  have hp : Tryd.prog.stoodInHeld 23 = false := by kernel_rfl
  obtain ⟨f, n, c⟩ := a
  obtain ⟨f', n', c'⟩ := b
  unfold sameD
  rw [run_equalIn_agg w (d + 1) 23 _ _ hS hp]
  simp only [Program.fieldsOf, Tryd.underlying23]
  go_simp
  by_cases h1 : f = f' <;> by_cases h2 : n = n' <;> by_cases h3 : c = c' <;> simp [h1, h2, h3]
theorem eqE (x y : PEv) (w : World) : (Op.equalIn 10000 25 (eV x) (eV y)).run Tryd.prog w = .ok (sameE x y) w := by
  have u3 := Tryd.underlying3
  have a3 := Tryd.isAgg3
  have z3 := Tryd.sizeOf3
  have aD := Tryd.isAgg23
  have zD := Tryd.sizeOf23
  have hS : Tryd.prog.underlying 25 = some (.struct (Tryd.prog.fieldsOf 25)) := by kernel_rfl
  have hp : Tryd.prog.stoodInHeld 25 = false := by kernel_rfl
  obtain ⟨k, id, who⟩ := x
  obtain ⟨k', id', who'⟩ := y
  have hd := fun w => eqD9 id id' w 9997
  unfold sameE
  rw [show (10000 : Nat) = 9999 + 1 from rfl, run_equalIn_agg w 9999 25 _ _ hS hp]
  simp only [Program.fieldsOf, Tryd.underlying25]
  go_simp
  by_cases h1 : k = k' <;> by_cases h2 : id = id' <;> by_cases h3 : who = who' <;> simp [sameD, h1, h2, h3]
theorem eq6 (f n c f' n' c' : Int) (w : World) : (Op.equalIn 10000 23 (.agg #[.int .i64 f, .int .i64 n, .int .i64 c]) (.agg #[.int .i64 f', .int .i64 n', .int .i64 c'])).run Tryd.prog w = .ok (sameD ⟨f, n, c⟩ ⟨f', n', c'⟩) w := eqD ⟨f, n, c⟩ ⟨f', n', c'⟩ w
theorem eq10 (k f n c u k' f' n' c' u' : Int) (w : World) : (Op.equalIn 10000 25 (.agg #[.int .i64 k, .int .i64 f, .int .i64 n, .int .i64 c, .int .i64 u]) (.agg #[.int .i64 k', .int .i64 f', .int .i64 n', .int .i64 c', .int .i64 u'])).run Tryd.prog w = .ok (sameE ⟨k, ⟨f, n, c⟩, u⟩ ⟨k', ⟨f', n', c'⟩, u'⟩) w := eqE ⟨k, ⟨f, n, c⟩, u⟩ ⟨k', ⟨f', n', c'⟩, u'⟩ w
theorem sameD_yes {a b : PID} (h : a = b) : sameD a b = true := decide_eq_true h
theorem sameD_no {a b : PID} (h : a ≠ b) : sameD a b = false := decide_eq_false h
theorem sameE_yes {a b : PEv} (h : a = b) : sameE a b = true := decide_eq_true h
theorem sameE_no {a b : PEv} (h : a ≠ b) : sameE a b = false := decide_eq_false h
end Go.Proofs.YtdgialhigibnlaaDoor
