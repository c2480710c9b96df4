/-
  Plain arithmetic of numbers that wrap: what a sum, a product, a quotient of two numbers is, and the laws that follow. No conditions but those that each theorem names.
-/
import Derived.Test.YtpcffhhednplaaaDoorRows
import Derived.WalkKit
import Derived.ProofKit
import Derived.OpenShut
namespace Go.Proofs.YtpcffhhednplaaaDoor
open Go.RowKit

/-- What 'Truth' answers. -/
def tr (b : Bool) : Int := if b then 1 else 0
/-- What comes of two numbers. -/
def tw (op a b : Int) : Int :=
  if op = 9 then wrap64 (a + b) else if op = 10 then wrap64 (a - b) else if op = 11 then wrap64 (a * b)
  else if op = 12 then (if b = 0 then 0 else wrap64 (a.tdiv b)) else if op = 13 then (if b = 0 then 0 else a.tmod b)
  else if op = 15 then tr (a == b) else if op = 16 then tr (decide (a < b)) else if op = 17 then tr (a != 0 && b != 0)
  else if op = 18 then tr (a != 0 || b != 0) else 0
/-- Why the actor goes down by it. -/
def dn (op b : Int) : Int := if (op = 12 ∨ op = 13) ∧ b = 0 then 3 else 0
/-- What comes of one number, and whether anything does. -/
def on (op a : Int) : Int := if op = 14 then wrap64 (-a) else if op = 19 then tr (a == 0) else 0
def ok (op : Int) : Bool := op == 14 || op == 19

abbrev MM : Int := 18446744073709551616
theorem wrap_mod (x : Int) : wrap64 x % MM = x % MM := by simp only [wrap64, MM]; omega
theorem wrap_eq {x y : Int} (h : x % MM = y % MM) : wrap64 x = wrap64 y := by
  simp only [wrap64, MM] at *; omega
theorem wrap_inN {x : Int} (h : -9223372036854775808 ≤ x ∧ x ≤ 9223372036854775807) : wrap64 x = x := IntWalk.wrap64_in x h
theorem wf_bd {x : Int} (h : (Lit.int .i64 x).wf = true) : -9223372036854775808 ≤ x ∧ x ≤ 9223372036854775807 := by
  simpa [Lit.wf, IntKind.min, IntKind.max, IntKind.signed, IntKind.bits] using h
theorem wrap_is {x y : Int} (h : x % MM = y % MM) (hy : -9223372036854775808 ≤ y ∧ y ≤ 9223372036854775807) : wrap64 x = y :=
  (wrap_eq h).trans (wrap_inN hy)
theorem mod_add {a b c d : Int} (h : a % MM = c % MM) (k : b % MM = d % MM) : (a + b) % MM = (c + d) % MM := by
  rw [Int.add_emod, h, k, ← Int.add_emod]
theorem mod_mul {a b c d : Int} (h : a % MM = c % MM) (k : b % MM = d % MM) : (a * b) % MM = (c * d) % MM := by
  rw [Int.mul_emod, h, k, ← Int.mul_emod]

theorem tw_add (a b : Int) : tw 9 a b = wrap64 (a + b) := rfl
theorem tw_sub (a b : Int) : tw 10 a b = wrap64 (a - b) := rfl
theorem tw_mul (a b : Int) : tw 11 a b = wrap64 (a * b) := rfl
theorem tw_div {a b : Int} (h : b ≠ 0) : tw 12 a b = wrap64 (a.tdiv b) := by simp [tw, h]
theorem tw_mod {a b : Int} (h : b ≠ 0) : tw 13 a b = a.tmod b := by simp [tw, h]
theorem tw_div0 (a : Int) : tw 12 a 0 = 0 := rfl
theorem tw_mod0 (a : Int) : tw 13 a 0 = 0 := rfl
theorem tw_eq (a b : Int) : tw 15 a b = tr (a == b) := rfl
theorem tw_less (a b : Int) : tw 16 a b = tr (decide (a < b)) := rfl
theorem tw_and (a b : Int) : tw 17 a b = tr (a != 0 && b != 0) := rfl
theorem tw_or (a b : Int) : tw 18 a b = tr (a != 0 || b != 0) := rfl
theorem dn_div {b : Int} (h : b ≠ 0) : dn 12 b = 0 := by simp [dn, h]
theorem dn_mod {b : Int} (h : b ≠ 0) : dn 13 b = 0 := by simp [dn, h]
theorem on_neg (a : Int) : on 14 a = wrap64 (-a) := rfl
theorem on_not (a : Int) : on 19 a = tr (a == 0) := rfl

/-- What was added is taken away again. -/
theorem add_sub {a b : Int} (h : (Lit.int .i64 a).wf = true) : tw 10 (tw 9 a b) b = a := by
  rw [tw_add, tw_sub]
  refine wrap_is ?_ (wf_bd h)
  rw [Int.sub_eq_add_neg, mod_add (wrap_mod _) rfl, show a + b + -b = a by omega]
theorem mul_swap (a b : Int) : tw 11 b a = tw 11 a b := by rw [tw_mul, tw_mul, Int.mul_comm]
theorem add_neg (a : Int) : tw 9 a (on 14 a) = 0 := by
  rw [tw_add, on_neg]
  refine wrap_is ?_ (by omega)
  rw [mod_add rfl (wrap_mod _), show a + -a = 0 by omega]
theorem mul_sum (a b c : Int) : tw 11 a (tw 9 b c) = tw 9 (tw 11 a b) (tw 11 a c) := by
  rw [tw_add, tw_mul, tw_mul, tw_mul, tw_add]
  refine wrap_eq ?_
  rw [mod_mul rfl (wrap_mod _), mod_add (wrap_mod _) (wrap_mod _), Int.mul_add]
theorem div_back {a b : Int} (h : (Lit.int .i64 a).wf = true) (hb : b ≠ 0) : tw 9 (tw 11 (tw 12 a b) b) (tw 13 a b) = a := by
  rw [tw_div hb, tw_mod hb, tw_mul, tw_add]
  refine wrap_is ?_ (wf_bd h)
  rw [mod_add ((wrap_mod _).trans (mod_mul (wrap_mod _) rfl)) rfl, Int.tdiv_mul_add_tmod]
end Go.Proofs.YtpcffhhednplaaaDoor
