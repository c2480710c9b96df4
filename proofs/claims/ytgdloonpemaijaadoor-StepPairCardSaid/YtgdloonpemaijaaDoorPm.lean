/-
  Two actors that tell each other a number (StepPair), plainly. No conditions.
-/
import Derived.Test.YtgdloonpemaijaaDoorNw
namespace Go.Proofs.YtgdloonpemaijaaDoor
open Go.RowKit
/-- What the actor r has got behind i steps; how often it has sent. -/
def psm (n : Nat) : Nat → Nat → Int
  | 0, _ => 0
  | i + 1, r => psm n i r + if i % 2 = r then (n : Int) - (i : Int) else 0
def pct (n : Nat) : Nat → Nat → Int
  | 0, _ => 0
  | i + 1, r => pct n i r + if i % 2 = r ∧ i < n then 1 else 0
def pid (i : Nat) : PID := if i = 0 then ⟨-1, 0, 0⟩ else ⟨(((i - 1) % 2 : Nat) : Int), (((i - 1) / 2 : Nat) : Int), 0⟩
/-- The world behind i steps, none dropped; and where the last was dropped. -/
def xP (n i : Nat) : PWld := ⟨[⟨[psm n i 0], true, 0, pct n i 0, 0⟩, ⟨[psm n i 1], false, 0, pct n i 1, 0⟩], if i ≤ n then [⟨pid i, ⟨((i % 2 : Nat) : Int), 0, [(n : Int) - (i : Int)]⟩⟩] else [], ⟨0, 0, 0, 0⟩⟩
def xPd (n i : Nat) : PWld := { xP n i with mail := [], used := ⟨1, 0, 0, 0⟩ }
def pev (k : Int) (i : Nat) : PEv := ⟨k, pid i, 0⟩
def pbu : PBud := ⟨1, 0, 0, 0⟩
def pOk (n i : Nat) : Bool := smwB (xP n i) && (isQ (pairP (n : Int)) pbu (xP n i) (pev 1 i) && (decide (doQ (pairP (n : Int)) (xP n i) (pev 1 i) = xP n (i + 1)) && (isQ (pairP (n : Int)) pbu (xP n i) (pev 2 i) && decide (doQ (pairP (n : Int)) (xP n i) (pev 2 i) = xPd n i))))
theorem p_all : ∀ n, n < 21 → ∀ i, i < n + 1 → pOk n i = true := by decide +kernel
theorem pair_start : ∀ n, n < 21 → startP (pairP ((n : Nat) : Int)) = xP n 0 := by decide +kernel
def pB (n i : Nat) : Bool := decide (0 ≤ psm n i 0) && (decide (psm n i 0 ≤ 400) && (decide (0 ≤ psm n i 1) && decide (psm n i 1 ≤ 400)))
theorem pB_all : ∀ n, n < 21 → ∀ i, i < n + 2 → pB n i = true := by decide +kernel
theorem p_bd {n i : Nat} (hn : n < 21) (hi : i ≤ n + 1) : 0 ≤ psm n i 0 ∧ psm n i 0 ≤ 400 ∧ 0 ≤ psm n i 1 ∧ psm n i 1 ≤ 400 := by
  have h := pB_all n hn i (by omega)
  unfold pB at h
  simp only [Bool.and_eq_true, decide_eq_true_eq] at h
  exact h
structure PF (n i : Nat) : Prop where
  sm : SmW (xP n i)
  i1 : isP (pairP (n : Int)) pbu (xP n i) (pev 1 i) = true
  d1 : doP (pairP (n : Int)) (xP n i) (pev 1 i) = xP n (i + 1)
  i2 : isP (pairP (n : Int)) pbu (xP n i) (pev 2 i) = true
  d2 : doP (pairP (n : Int)) (xP n i) (pev 2 i) = xPd n i
theorem p_f {n i : Nat} (hn : n < 21) (hi : i ≤ n) : PF n i := by
  have h := p_all n hn i (by omega)
  unfold pOk at h
  simp only [Bool.and_eq_true, decide_eq_true_eq] at h
  obtain ⟨h1, h2, h3, h4, h5⟩ := h
  exact ⟨smW_of h1, by rw [isP_Q (pair_fc _)]; exact h2, by rw [doP_Q (pair_fc _)]; exact h3, by rw [isP_Q (pair_fc _)]; exact h4, by rw [doP_Q (pair_fc _)]; exact h5⟩
end Go.Proofs.YtgdloonpemaijaaDoor
