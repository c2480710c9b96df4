/-
  The second law's program, as plain data: what comes of it, with enough fuel, or with too little. No conditions.
-/
import Derived.Test.YtpcffhhednplaaaDoorCo
namespace Go.Proofs.YtpcffhhednplaaaDoor
open Go.RowKit
def fB : Nat → List PIns
  | 0 => []
  | n + 1 => fB n ++ [⟨5, 0⟩, ⟨6, 1⟩]
def fC (n : Nat) : List PIns := fB n ++ [⟨8, 0⟩, ⟨22, 0⟩]
def fD : Nat → List Int
  | 0 => []
  | n + 1 => fD n ++ [0, 1]
theorem fB_len : ∀ n, (fB n).length = 2 * n
  | 0 => rfl
  | n + 1 => by rw [fB, List.length_append, fB_len n]; simp; omega
theorem fC_len (n : Nat) : (fC n).length = 2 * n + 2 := by rw [fC, List.length_append, fB_len]; rfl
theorem fB_at : ∀ n i, i < n → (fB n)[2 * i]? = some ⟨5, 0⟩ ∧ (fB n)[2 * i + 1]? = some ⟨6, 1⟩
  | n + 1, i, h => by
    rw [fB]
    have hl := fB_len n
    by_cases e : i < n
    · rw [List.getElem?_append_left (by omega), List.getElem?_append_left (by omega)]
      exact fB_at n i e
    · obtain rfl : i = n := by omega
      rw [List.getElem?_append_right (by omega), List.getElem?_append_right (by omega), hl, Nat.sub_self, show 2 * i + 1 - 2 * i = 1 by omega]
      exact ⟨rfl, rfl⟩
theorem fC_at {n i : Nat} (h : i < n) : (fC n)[2 * i]? = some ⟨5, 0⟩ ∧ (fC n)[2 * i + 1]? = some ⟨6, 1⟩ := by
  have hl := fB_len n
  rw [fC, List.getElem?_append_left (by omega), List.getElem?_append_left (by omega)]
  exact fB_at n i h
theorem fC_end (n : Nat) : (fC n)[2 * n]? = some ⟨8, 0⟩ ∧ (fC n)[2 * n + 1]? = some ⟨22, 0⟩ := by
  have hl := fB_len n
  rw [fC, List.getElem?_append_right (by omega), List.getElem?_append_right (by omega), hl, Nat.sub_self, show 2 * n + 1 - 2 * n = 1 by omega]
  exact ⟨rfl, rfl⟩
theorem f_chk : ∀ n : Nat, n < 31 → (fC n).all (fun i => decide (chkI (fC n).length 0 1 i = 0)) = true := by decide +kernel
theorem f_good : ∀ n : Nat, n < 31 → goodB [⟨0, fC n⟩] (fC n) (fD n ++ [0, 1, 0]) prv = true := by decide +kernel
theorem ff1 {n : Nat} {fuel : Int} (hn : n ≤ 30) (h : 1 ≤ fuel ∧ fuel ≤ 256) : fc (oneP fuel (fC n)) = 0 := one_fc h (by rw [fC_len]; omega) (chk_all (f_chk n (by omega))) (goodB_good (f_good n (by omega)))
def fw (x : Int) (i : Nat) : Int := if i = 0 then 5 else x
/-- Behind i of them. -/
def fv (x : Int) (i : Nat) : MS := ⟨[x, fw x i], false, [], [], 2 * i, 2 * i⟩
def fo (x : Int) (i : Nat) : MS := ⟨[x, fw x i], false, [], [x], 2 * i + 1, 2 * i + 1⟩
section
variable {fuel x : Int} {n i f : Nat}
theorem fv_1 (h : i < n) : rn (oneP fuel (fC n)) 0 [] (fC n) (f + 1) (fv x i) = rn (oneP fuel (fC n)) 0 [] (fC n) f (fo x i) := x5 (fC_at h).1
theorem fo_1 (h : i < n) : rn (oneP fuel (fC n)) 0 [] (fC n) (f + 1) (fo x i) = rn (oneP fuel (fC n)) 0 [] (fC n) f (fv x (i + 1)) := x6 (fC_at h).2
theorem fv_all : ∀ i f, i ≤ n → rn (oneP fuel (fC n)) 0 [] (fC n) (f + 2 * i) (fv x 0) = rn (oneP fuel (fC n)) 0 [] (fC n) f (fv x i)
  | 0, f, _ => rfl
  | i + 1, f, h => by
    rw [show f + 2 * (i + 1) = f + 2 + 2 * i by omega, fv_all i (f + 2) (by omega)]
    exact (fv_1 (by omega)).trans (fo_1 (by omega))
theorem fv_2 : rn (oneP fuel (fC n)) 0 [] (fC n) (f + 1) (fv x n) = rn (oneP fuel (fC n)) 0 [] (fC n) f ⟨[x, fw x n], false, [], [0], 2 * n + 1, 2 * n + 1⟩ := x8 (fC_end n).1
theorem fv_end : rn (oneP fuel (fC n)) 0 [] (fC n) (f + 2) (fv x n) = (0, ⟨[x, fw x n], false, [⟨0, 0, []⟩], [], 2 * n + 2, 2 * n + 2⟩) :=
  (fv_2 (f := f + 1)).trans ((x22 (fC_end n).2 ⟨by decide, by show (0 : Int) < 2; decide⟩).trans (rn_end (by show ¬ 2 * n + 1 + 1 < _; rw [fC_len]; omega)))
theorem f_short (h : f < 2 * n + 2) : (rn (oneP fuel (fC n)) 0 [] (fC n) f (fv x 0)).1 = 2 ∧ (rn (oneP fuel (fC n)) 0 [] (fC n) f (fv x 0)).2.steps = f := by
  have hl := fC_len n
  obtain ⟨i, hi | hi⟩ : ∃ i, f = 0 + 2 * i ∨ f = 1 + 2 * i := ⟨f / 2, by omega⟩
  · rw [hi, fv_all i 0 (by omega), rn_out (by show 2 * i < _; omega)]
    exact ⟨rfl, by show 2 * i = _; omega⟩
  · rw [hi, fv_all i 1 (by omega)]
    by_cases e : i < n
    · rw [fv_1 (f := 0) e, rn_out (by show 2 * i + 1 < _; omega)]
      exact ⟨rfl, by show 2 * i + 1 = _; omega⟩
    · obtain rfl : i = n := by omega
      rw [fv_2 (f := 0), rn_out (by show 2 * i + 1 < _; omega)]
      exact ⟨rfl, by show 2 * i + 1 = _; omega⟩
end
def rfS (x fuel : Int) : PRes := ⟨⟨[x, 5], false, 2, 0, 0⟩, [], fuel⟩
def rfE (x : Int) (n : Nat) : PRes := ⟨⟨[x, fw x n], false, 0, 1, 0⟩, [⟨0, 0, []⟩], 2 * (n : Int) + 2⟩
theorem efS {n : Nat} {x fuel : Int} (hn : n ≤ 30) (hf : 1 ≤ fuel ∧ fuel ≤ 256) (h : fuel < 2 * (n : Int) + 2) : runP (oneP fuel (fC n)) 0 (locP x 5) 0 [] = rfS x fuel := by
  rw [one_run (one_may (ff1 hn hf) (by decide) (by show 2 ≤ 8; decide) rfl)]
  obtain ⟨h1, h2⟩ := f_short (fuel := fuel) (x := x) (n := n) (f := fuel.toNat) (by omega)
  refine (fin_fall h1 (by decide) h2).trans ?_
  unfold rfS locP
  simp; omega
theorem w1 : wrap64 1 = 1 := wrap_inN ⟨by decide, by decide⟩
theorem efE {n : Nat} {x fuel : Int} (hn : n ≤ 30) (hf : 1 ≤ fuel ∧ fuel ≤ 256) (h : ¬ fuel < 2 * (n : Int) + 2) : runP (oneP fuel (fC n)) 0 (locP x 5) 0 [] = rfE x n := by
  rw [one_run (one_may (ff1 hn hf) (by decide) (by show 2 ≤ 8; decide) rfl)]
  obtain ⟨f, hf2⟩ : ∃ f, fuel.toNat = f + 2 + 2 * n := ⟨fuel.toNat - 2 - 2 * n, by omega⟩
  show fin (locP x 5) (rn (oneP fuel (fC n)) 0 [] (fC n) fuel.toNat (fv x 0)) = rfE x n
  rw [hf2, fv_all n (f + 2) (Nat.le_refl _), fv_end]
  unfold fin rfE locP
  simp [w1]
end Go.Proofs.YtpcffhhednplaaaDoor
