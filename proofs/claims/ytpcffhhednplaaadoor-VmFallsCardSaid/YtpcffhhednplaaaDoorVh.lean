/-
  The seventh law's programs, as plain data: each takes its actor down. No conditions.
-/
import Derived.Test.YtpcffhhednplaaaDoorCo
namespace Go.Proofs.YtpcffhhednplaaaDoor
open Go.RowKit
def hB (a : Int) : Nat → List PIns
  | 0 => [⟨1, a⟩, ⟨6, 0⟩, ⟨23, 0⟩]
  | n + 1 => hB a n ++ [⟨8, 0⟩, ⟨22, 0⟩]
def hM (n : Nat) : Nat → List PIns
  | 0 => [⟨20, 3 + 2 * (n : Int)⟩]
  | 1 => [⟨1, 5⟩, ⟨1, 0⟩, ⟨13, 0⟩, ⟨2, 0⟩]
  | _ => [⟨1, -1⟩, ⟨22, 0⟩]
def hF (a : Int) (n k : Nat) : List PIns := hB a n ++ hM n k
def hDb : Nat → List Int
  | 0 => [0, 1, 0]
  | n + 1 => hDb n ++ [0, 1]
def hDm : Nat → List Int
  | 0 => [0, -1]
  | 1 => [0, 1, 2, 1, 0]
  | _ => [0, 1, 0]
def hK : Nat → Int
  | 0 => 2
  | 1 => 3
  | _ => 4
theorem hB_len (a : Int) : ∀ n, (hB a n).length = 3 + 2 * n
  | 0 => rfl
  | n + 1 => by rw [hB, List.length_append, hB_len a n]; simp; omega
theorem hM_len (n k : Nat) : (hM n k).length ≤ 4 := by
  match k with
  | 0 => show 1 ≤ 4; decide
  | 1 => show 4 ≤ 4; decide
  | k + 2 => show 2 ≤ 4; decide
theorem hB_at (a : Int) : ∀ n i, i < n → (hB a n)[3 + 2 * i]? = some ⟨8, 0⟩ ∧ (hB a n)[3 + 2 * i + 1]? = some ⟨22, 0⟩
  | n + 1, i, h => by
    rw [hB]
    have hl := hB_len a n
    by_cases e : i < n
    · rw [List.getElem?_append_left (by omega), List.getElem?_append_left (by omega)]
      exact hB_at a n i e
    · obtain rfl : i = n := by omega
      rw [List.getElem?_append_right (by omega), List.getElem?_append_right (by omega), hl, Nat.sub_self, show 3 + 2 * i + 1 - (3 + 2 * i) = 1 by omega]
      exact ⟨rfl, rfl⟩
theorem hB_hd (a : Int) : ∀ n, (hB a n)[0]? = some ⟨1, a⟩ ∧ (hB a n)[1]? = some ⟨6, 0⟩ ∧ (hB a n)[2]? = some ⟨23, 0⟩
  | 0 => ⟨rfl, rfl, rfl⟩
  | n + 1 => by
    have hl := hB_len a n
    rw [hB, List.getElem?_append_left (by omega), List.getElem?_append_left (by omega), List.getElem?_append_left (by omega)]
    exact hB_hd a n
theorem hF_l {a : Int} {n k j : Nat} (h : j < 3 + 2 * n) : (hF a n k)[j]? = (hB a n)[j]? := by rw [hF, List.getElem?_append_left (by rw [hB_len]; exact h)]
theorem hF_r {a : Int} {n k j : Nat} : (hF a n k)[3 + 2 * n + j]? = (hM n k)[j]? := by rw [hF, List.getElem?_append_right (by rw [hB_len]; omega), hB_len]; congr 1; omega
theorem h_chk (a : Int) : ((List.range 9).all fun n => (List.range 3).all fun k => (hF a n k).all (fun i => decide (chkI (hF a n k).length 0 1 i = 0))) = true := by kernel_rfl
theorem h_good (a : Int) : ((List.range 9).all fun n => (List.range 3).all fun k => goodB [⟨0, hF a n k⟩] (hF a n k) (hDb n ++ hDm k) prv) = true := by kernel_rfl
theorem fh1 {a : Int} {n k : Nat} (hn : n ≤ 8) (hk : k < 3) : fc (oneP 60 (hF a n k)) = 0 :=
  one_fc (by decide) (by rw [hF, List.length_append, hB_len]; have := hM_len n k; omega) (chk_all (all_of (all_of (h_chk a) (show n < 9 by omega)) hk)) (goodB_good (all_of (all_of (h_good a) (show n < 9 by omega)) hk))
def hs_ (a : Int) (i : Nat) : MS := ⟨[a, 8], true, List.replicate i ⟨0, 0, []⟩, [], 3 + 2 * i, 3 + 2 * i⟩
section
variable {a : Int} {n k i f : Nat}
theorem h_st : rn (oneP 60 (hF a n k)) 0 [] (hF a n k) (f + 3) ⟨[7, 8], false, [], [], 0, 0⟩ = rn (oneP 60 (hF a n k)) 0 [] (hF a n k) f (hs_ a 0) := by
  obtain ⟨h0, h1, h2⟩ := hB_hd a n
  exact (x1 (f := f + 2) ((hF_l (by omega)).trans h0)).trans ((x6 (f := f + 1) ((hF_l (by omega)).trans h1)).trans (x23 ((hF_l (by omega)).trans h2)))
theorem h_snd (h : i < n) : rn (oneP 60 (hF a n k)) 0 [] (hF a n k) (f + 2) (hs_ a i) = rn (oneP 60 (hF a n k)) 0 [] (hF a n k) f (hs_ a (i + 1)) := by
  obtain ⟨h0, h1⟩ := hB_at a n i h
  refine (x8 (f := f + 1) ((hF_l (by omega)).trans h0)).trans ((x22 ((hF_l (by omega)).trans h1) ⟨by decide, by show (0 : Int) < 2; decide⟩).trans ?_)
  unfold hs_
  rw [List.replicate_succ']
  rfl
theorem h_all : ∀ i f, i ≤ n → rn (oneP 60 (hF a n k)) 0 [] (hF a n k) (f + 2 * i) (hs_ a 0) = rn (oneP 60 (hF a n k)) 0 [] (hF a n k) f (hs_ a i)
  | 0, f, _ => rfl
  | i + 1, f, h => by
    rw [show f + 2 * (i + 1) = f + 2 + 2 * i by omega, h_all i (f + 2) (by omega)]
    exact h_snd (by omega)
theorem h_0 : ∀ (f t : Nat) (N : List PNte), (rn (oneP 60 (hF a n 0)) 0 [] (hF a n 0) f ⟨[a, 8], true, N, [], 3 + 2 * n, t⟩).1 = 2
  | 0, t, N => by rw [rn_out (by show 3 + 2 * n < _; rw [hF, List.length_append, hB_len]; show _ < _ + 1; omega)]
  | f + 1, t, N => by
    rw [x20 (hF_r (j := 0)), show (3 + 2 * (n : Int)).toNat = 3 + 2 * n by omega]
    exact h_0 f (t + 1) N
theorem h_end (hk : k < 3) : (rn (oneP 60 (hF a n k)) 0 [] (hF a n k) (f + 3) (hs_ a n)).1 = hK k := by
  match k, hk with
  | 0, _ => exact h_0 _ _ _
  | 1, _ =>
    rw [show rn (oneP 60 (hF a n 1)) 0 [] (hF a n 1) (f + 3) (hs_ a n) = _ from (x1 (f := f + 2) (hF_r (j := 0))).trans (x1 (f := f + 1) (hF_r (j := 1)))]
    obtain ⟨s', e⟩ := x13 (p := oneP 60 (hF a n 1)) (who := 0) (args := []) (f := f) (R := [a, 8]) (ar := true) (N := List.replicate n ⟨0, 0, []⟩) (x := 5) (S := []) (t := 3 + 2 * n + 1 + 1) (hF_r (a := a) (n := n) (k := 1) (j := 2))
    exact congrArg Prod.fst e
  | 2, _ =>
    rw [show rn (oneP 60 (hF a n 2)) 0 [] (hF a n 2) (f + 3) (hs_ a n) = _ from (x1 (f := f + 2) (hF_r (j := 0))).trans (x22l (f := f + 1) (hF_r (j := 1)) (by show ¬ ((0 : Int) ≤ -1 ∧ _); omega))]
    rfl
end
def rhE (d t : Int) : PRes := ⟨⟨[7, 8], false, d, 0, 0⟩, [], t⟩
theorem ehE {a : Int} {n k : Nat} (hn : n ≤ 8) (hk : k < 3) : ∃ t : Int, runP (oneP 60 (hF a n k)) 0 (locP 7 8) 0 [] = rhE (hK k) t := by
  rw [one_run (one_may (fh1 hn hk) (by decide) (by show 2 ≤ 8; decide) rfl)]
  have h0 : rn (oneP 60 (hF a n k)) 0 [] (hF a n k) 60 (ms0 (locP 7 8)) = rn (oneP 60 (hF a n k)) 0 [] (hF a n k) (54 - 2 * n + 3) (hs_ a n) := by
    have h1 := h_st (a := a) (n := n) (k := k) (f := 57)
    have h2 := h_all (a := a) (n := n) (k := k) n (57 - 2 * n) (Nat.le_refl _)
    rw [show 57 - 2 * n + 2 * n = 57 by omega, show 57 - 2 * n = 54 - 2 * n + 3 by omega] at h2
    exact h1.trans h2
  have h1 := h_end (a := a) (n := n) (f := 54 - 2 * n) hk
  refine ⟨((rn (oneP 60 (hF a n k)) 0 [] (hF a n k) (54 - 2 * n + 3) (hs_ a n)).2.steps : Nat), ?_⟩
  show fin (locP 7 8) (rn (oneP 60 (hF a n k)) 0 [] (hF a n k) 60 (ms0 (locP 7 8))) = _
  rw [h0]
  exact fin_fall h1 (by match k, hk with | 0, _ => decide | 1, _ => decide | 2, _ => decide) rfl
end Go.Proofs.YtpcffhhednplaaaDoor
