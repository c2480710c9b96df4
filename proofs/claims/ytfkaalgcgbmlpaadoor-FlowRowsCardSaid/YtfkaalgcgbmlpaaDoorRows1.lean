/-
  Pushes and pops in a row: which depths they have, and when there are none. No conditions.
-/
import Derived.Test.YtfkaalgcgbmlpaaDoorCw
namespace Go.Proofs.YtfkaalgcgbmlpaaDoor
open Go.RowKit

def rI (b : Bool) : PIns := if b then ⟨1, 0⟩ else ⟨2, 0⟩
def rU (b : Bool) : Int := if b then 1 else -1
def rC (us : List Bool) : List PIns := us.map rI
def rN (us : List Bool) : Int := (us.map rU).sum
def rW (us : List Bool) : List Int := (List.range (us.length + 1)).map fun j => rN (us.take j)
theorem rC_len (us : List Bool) : (rC us).length = us.length := by simp [rC]
theorem rW_len (us : List Bool) : (rW us).length = us.length + 1 := by simp [rW]
theorem rN_nil : rN [] = 0 := rfl
theorem rN_snoc (us : List Bool) (b : Bool) : rN (us ++ [b]) = rN us + rU b := by simp [rN]
theorem take_snoc {us : List Bool} {k : Nat} {b : Bool} (h : us[k]? = some b) : us.take (k + 1) = us.take k ++ [b] := by rw [List.take_add_one, h]; rfl
theorem rN_step {us : List Bool} {k : Nat} {b : Bool} (h : us[k]? = some b) : rN (us.take (k + 1)) = rN (us.take k) + rU b := by rw [take_snoc h, rN_snoc]
theorem rC_step {us : List Bool} {k : Nat} {b : Bool} (h : us[k]? = some b) : rC (us.take k) ++ [rI b] = rC (us.take (k + 1)) := by rw [take_snoc h]; simp [rC]
theorem rW_snoc (us : List Bool) (b : Bool) : rW us ++ [rN (us ++ [b])] = rW (us ++ [b]) := by
  unfold rW
  rw [List.length_append, List.length_singleton, List.range_succ (n := us.length + 1), List.map_append]
  congr 1
  · refine List.map_congr_left fun j hj => ?_
    have := List.mem_range.1 hj
    rw [List.take_append_of_le_length (by omega)]
  · rw [List.map_singleton, List.take_of_length_le (by simp)]
theorem rW_step {us : List Bool} {k : Nat} {b : Bool} (h : us[k]? = some b) : rW (us.take k) ++ [rN (us.take (k + 1))] = rW (us.take (k + 1)) := by rw [take_snoc h, rW_snoc]
theorem rW_at {us : List Bool} {j : Nat} (h : j ≤ us.length) : (rW us)[j]? = some (rN (us.take j)) := by
  unfold rW; rw [List.getElem?_map, List.getElem?_range (by omega)]; rfl
theorem rI_tk (hs : List PHnd) (b : Bool) : tk hs (rI b) = if b then 0 else 1 := by cases b <;> rfl
theorem rI_lft (hs : List PHnd) (b : Bool) (d : Int) : lft hs (rI b) d = d + rU b := by
  have h1 := rI_tk hs b
  unfold lft
  rw [h1]
  cases b
  · show d - 1 + 0 = d + -1; omega
  · show d - 0 + 1 = d + 1; omega
theorem rI_nxt (b : Bool) (k : Nat) : nxt (rI b) k = [k + 1] := by cases b <;> rfl
theorem rI_ok {hs : List PHnd} {b : Bool} {d : Int} (h0 : 0 ≤ d + rU b) (h8 : d + rU b ≤ 8) (hd : 0 ≤ d) : okI hs (rI b) d := by
  refine ⟨?_, by rw [rI_lft]; exact h8⟩
  rw [rI_tk]
  cases b
  · show (1 : Int) ≤ d
    have : rU false = -1 := rfl
    omega
  · exact hd
theorem rI_bad {hs : List PHnd} {b : Bool} {d : Int} (h : ¬ (0 ≤ d + rU b ∧ d + rU b ≤ 8)) : ¬ okI hs (rI b) d := fun ho => h ⟨by rw [← rI_lft hs]; exact lft_nonneg ho, by rw [← rI_lft hs]; exact ho.2⟩

/-- Ahead of each place the stack is neither below 0 nor over 8. -/
def Fit (us : List Bool) (k : Nat) : Prop := ∀ j, j < k → 0 ≤ rN (us.take j) ∧ rN (us.take j) ≤ 8
theorem rC_at {us : List Bool} {k : Nat} {b : Bool} (h : us[k]? = some b) : (rC us)[k]? = some (rI b) := by simp [rC, h]
theorem r_rch {us : List Bool} {hs : List PHnd} {k : Nat} (hf : Fit us (k + 1)) (hk : k ≤ us.length) : Rch hs (rC us) k (rN (us.take k)) := by
  induction k with
  | zero => exact .start
  | succ k ih =>
    have h1 := ih (fun j hj => hf j (by omega)) (by omega)
    obtain ⟨b, hb⟩ := at_lt (l := us) (k := k) (by omega)
    have h2 := hf (k + 1) (by omega)
    have h3 := hf k (by omega)
    rw [rN_step hb] at h2 ⊢
    have := Rch.step h1 (rC_at hb) (rI_ok h2.1 h2.2 h3.1) (j := k + 1) (by rw [rI_nxt]; simp)
    rwa [rI_lft] at this
theorem r_good {us : List Bool} {hs : List PHnd} (hf : Fit us (us.length + 1)) : Good hs (rC us) (rW us) := by
  refine ⟨⟨by rw [rW_len, rC_len], by rw [rW_at (Nat.zero_le _)]; rfl, fun k d hd => ?_⟩, fun k d i hd _ hi => ?_⟩
  · have hk : k ≤ us.length := by have := (List.getElem?_eq_some_iff.1 hd).1; rw [rW_len] at this; omega
    rw [rW_at hk] at hd
    rw [← Option.some.inj hd]
    exact Or.inr (r_rch (fun j hj => hf j (by omega)) hk)
  · have hk : k < us.length := by have := (List.getElem?_eq_some_iff.1 hi).1; rw [rC_len] at this; exact this
    obtain ⟨b, hb⟩ := at_lt hk
    rw [rC_at hb] at hi
    rw [rW_at (by omega)] at hd
    cases hi; cases hd
    have h2 := hf (k + 1) (by omega)
    have h3 := hf k (by omega)
    have e := rN_step hb
    refine ⟨rI_ok (by rw [← e]; exact h2.1) (by rw [← e]; exact h2.2) h3.1, fun j hj => ?_⟩
    rw [rI_nxt, List.mem_singleton] at hj
    subst hj
    rw [rW_at (by omega), rI_lft, e]
theorem r_bad {us : List Bool} {hs : List PHnd} (hf : Fit us us.length) (hb : ¬ (0 ≤ rN us ∧ rN us ≤ 8)) : Bad hs (rC us) := by
  have h0 : us ≠ [] := by rintro rfl; exact hb (by decide)
  have hl : 0 < us.length := List.length_pos_iff.2 h0
  obtain ⟨b, hx⟩ := at_lt (l := us) (k := us.length - 1) (by omega)
  have e := rN_step hx
  rw [show us.length - 1 + 1 = us.length by omega, List.take_of_length_le (Nat.le_refl _)] at e
  exact Or.inl ⟨us.length - 1, _, rI b, r_rch (fun j hj => hf j (by omega)) (by omega), rC_at hx, rI_bad (by rw [← e]; exact hb)⟩
theorem r_chk {us : List Bool} (h : us.length ≤ 60) : chk (hP (rC us)) = 0 := by
  refine chk_one (by rw [rC_len]; omega) fun i hi => ?_
  obtain ⟨b, _, rfl⟩ := List.mem_map.1 hi
  cases b
  · exact chkI_0 (i := ⟨2, 0⟩) rfl rfl ▸ rfl
  · exact (chkI_1 (i := ⟨1, 0⟩) rfl rfl).symm
theorem Fit.take {us : List Bool} {k : Nat} (h : Fit us k) : Fit (us.take k) k := fun j hj => by rw [List.take_take, Nat.min_eq_left (by omega)]; exact h j hj
theorem Fit.succ {us : List Bool} {k : Nat} (h : Fit us k) (h0 : 0 ≤ rN (us.take k)) (h8 : rN (us.take k) ≤ 8) : Fit us (k + 1) := fun j hj => by
  by_cases e : j = k
  · subst e; exact ⟨h0, h8⟩
  · exact h j (by omega)
end Go.Proofs.YtfkaalgcgbmlpaaDoor
