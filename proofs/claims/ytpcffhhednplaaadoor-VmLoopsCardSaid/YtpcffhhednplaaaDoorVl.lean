/-
  The third law's loop, as plain data: how often it goes round, or starves. No conditions.
-/
import Derived.Test.YtpcffhhednplaaaDoorVx
namespace Go.Proofs.YtpcffhhednplaaaDoor
open Go.RowKit
def lc : List PIns := [⟨5, 0⟩, ⟨21, 9⟩, ⟨5, 0⟩, ⟨1, 1⟩, ⟨10, 0⟩, ⟨6, 0⟩, ⟨8, 0⟩, ⟨22, 0⟩, ⟨20, 0⟩]
theorem fl1 {fuel : Int} (h : 1 ≤ fuel ∧ fuel ≤ 256) : fc (oneP fuel lc) = 0 := one_fc (l := [0, 1, 0, 1, 2, 1, 0, 1, 0, 0]) h (by decide) (chk_all (by decide +kernel)) (goodB_good (pr := fun k => if k = 9 then 1 else k - 1) (by decide +kernel))
def lnote : PNte := ⟨0, 0, []⟩
/-- With m to go, t steps taken. -/
def ls (m : Nat) (N : List PNte) (t : Nat) : MS := ⟨[(m : Int), 0], false, N, [], 0, t⟩
theorem wm {m : Nat} (hm : m < 1000) : wrap64 (m : Int) = m := wrap_inN ⟨by omega, by omega⟩
/-- The places of a round. -/
def lp (m : Nat) (N : List PNte) (t : Nat) : Nat → MS
  | 0 => ⟨[(m : Int) + 1, 0], false, N, [], 0, t⟩
  | 1 => ⟨[(m : Int) + 1, 0], false, N, [(m : Int) + 1], 1, t + 1⟩
  | 2 => ⟨[(m : Int) + 1, 0], false, N, [], 2, t + 2⟩
  | 3 => ⟨[(m : Int) + 1, 0], false, N, [(m : Int) + 1], 3, t + 3⟩
  | 4 => ⟨[(m : Int) + 1, 0], false, N, [1, (m : Int) + 1], 4, t + 4⟩
  | 5 => ⟨[(m : Int) + 1, 0], false, N, [(m : Int)], 5, t + 5⟩
  | 6 => ⟨[(m : Int), 0], false, N, [], 6, t + 6⟩
  | 7 => ⟨[(m : Int), 0], false, N, [0], 7, t + 7⟩
  | 8 => ⟨[(m : Int), 0], false, N ++ [lnote], [], 8, t + 8⟩
  | _ => ⟨[(m : Int), 0], false, N ++ [lnote], [], 0, t + 9⟩
theorem lp_step (fuel : Int) (m : Nat) (hm : m < 1000) (N : List PNte) (t : Nat) (j f : Nat) (hj : j < 9) : rn (oneP fuel lc) 0 [] lc (f + 1) (lp m N t j) = rn (oneP fuel lc) 0 [] lc f (lp m N t (j + 1)) := by
  match j, hj with
  | 0, _ => exact x5 (code := lc) (pc := 0) (a := 0) rfl
  | 1, _ => exact x21n rfl (by omega)
  | 2, _ => exact x5 (code := lc) (pc := 2) (a := 0) rfl
  | 3, _ => exact x1 rfl
  | 4, _ =>
    refine (x10 rfl).trans ?_
    rw [show (m : Int) + 1 - 1 = (m : Int) by omega, wm hm]; rfl
  | 5, _ => exact x6 (code := lc) (pc := 5) (a := 0) rfl
  | 6, _ => exact x8 rfl
  | 7, _ => exact x22 rfl ⟨by decide, by show (0 : Int) < 2; decide⟩
  | 8, _ => exact x20 (code := lc) (pc := 8) (a := 0) rfl
theorem lp_pc (m : Nat) (N : List PNte) (t : Nat) (j : Nat) (hj : j < 9) : (lp m N t j).pc = j ∧ (lp m N t j).steps = t + j := by
  match j, hj with
  | 0, _ => exact ⟨rfl, rfl⟩
  | 1, _ => exact ⟨rfl, rfl⟩
  | 2, _ => exact ⟨rfl, rfl⟩
  | 3, _ => exact ⟨rfl, rfl⟩
  | 4, _ => exact ⟨rfl, rfl⟩
  | 5, _ => exact ⟨rfl, rfl⟩
  | 6, _ => exact ⟨rfl, rfl⟩
  | 7, _ => exact ⟨rfl, rfl⟩
  | 8, _ => exact ⟨rfl, rfl⟩
theorem loop_round (fuel : Int) (m : Nat) (hm : m < 1000) (N : List PNte) (t f : Nat) : rn (oneP fuel lc) 0 [] lc (f + 9) (ls (m + 1) N t) = rn (oneP fuel lc) 0 [] lc f (ls m (N ++ [lnote]) (t + 9)) :=
  rn_path (sj := lp m N t) (L := 9) (fun j f hj => lp_step fuel m hm N t j f hj) 9 f (Nat.le_refl _)
theorem loop_short (fuel : Int) (m : Nat) (hm : m < 1000) (N : List PNte) (t f : Nat) (hf : f < 9) : (rn (oneP fuel lc) 0 [] lc f (ls (m + 1) N t)).1 = 2 ∧ (rn (oneP fuel lc) 0 [] lc f (ls (m + 1) N t)).2.steps = t + f := by
  have h := rn_path (sj := lp m N t) (L := 9) (fun j f hj => lp_step fuel m hm N t j f hj) f 0 (by omega)
  rw [Nat.zero_add] at h
  have e : ls (m + 1) N t = lp m N t 0 := rfl
  obtain ⟨h1, h2⟩ := lp_pc m N t f hf
  rw [e, h, rn_out (by rw [h1]; exact hf)]
  exact ⟨rfl, h2⟩
theorem loop_1 (fuel : Int) (N : List PNte) (t f : Nat) : rn (oneP fuel lc) 0 [] lc (f + 1) (ls 0 N t) = rn (oneP fuel lc) 0 [] lc f ⟨[0, 0], false, N, [0], 1, t + 1⟩ := x5 (code := lc) (pc := 0) (a := 0) (R := [0, 0]) (S := []) rfl
theorem loop_end (fuel : Int) (N : List PNte) (t f : Nat) : rn (oneP fuel lc) 0 [] lc (f + 2) (ls 0 N t) = (0, ⟨[0, 0], false, N, [], 9, t + 2⟩) :=
  (loop_1 fuel N t (f + 1)).trans ((x21z (code := lc) (pc := 1) (a := 9) rfl).trans (rn_end (by show ¬ 9 < 9; decide)))
theorem loop_short0 (fuel : Int) (N : List PNte) (t f : Nat) (hf : f < 2) : (rn (oneP fuel lc) 0 [] lc f (ls 0 N t)).1 = 2 ∧ (rn (oneP fuel lc) 0 [] lc f (ls 0 N t)).2.steps = t + f := by
  rcases (by omega : f = 0 ∨ f = 1) with rfl | rfl
  · rw [rn_out (by show 0 < 9; decide)]; exact ⟨rfl, rfl⟩
  · rw [loop_1, rn_out (by show 1 < 9; decide)]; exact ⟨rfl, rfl⟩
/-- P6.2: the loop ends, or starves. -/
theorem loop_all (fuel : Int) : ∀ (m : Nat) (N : List PNte) (t f : Nat), m < 1000 →
    (9 * m + 2 ≤ f → rn (oneP fuel lc) 0 [] lc f (ls m N t) = (0, ⟨[0, 0], false, N ++ List.replicate m lnote, [], 9, t + 9 * m + 2⟩)) ∧
    (f < 9 * m + 2 → (rn (oneP fuel lc) 0 [] lc f (ls m N t)).1 = 2 ∧ (rn (oneP fuel lc) 0 [] lc f (ls m N t)).2.steps = t + f)
  | 0, N, t, f, _ => by
    refine ⟨fun h => ?_, fun h => loop_short0 fuel N t f (by omega)⟩
    obtain ⟨g, rfl⟩ : ∃ g, f = g + 2 := ⟨f - 2, by omega⟩
    rw [loop_end]; simp
  | m + 1, N, t, f, hm => by
    by_cases hf : f < 9
    · exact ⟨fun h => by omega, fun _ => loop_short fuel m (by omega) N t f hf⟩
    · obtain ⟨g, rfl⟩ : ∃ g, f = g + 9 := ⟨f - 9, by omega⟩
      rw [loop_round fuel m (by omega)]
      obtain ⟨h1, h2⟩ := loop_all fuel m (N ++ [lnote]) (t + 9) g (by omega)
      refine ⟨fun h => ?_, fun h => ?_⟩
      · rw [h1 (by omega)]
        simp [List.replicate_succ]
        omega
      · obtain ⟨e1, e2⟩ := h2 (by omega)
        exact ⟨e1, by rw [e2]; omega⟩
/-- What comes of it. -/
def rlS (n : Nat) (fuel : Int) : PRes := ⟨⟨[(n : Int), 0], false, 2, 0, 0⟩, [], fuel⟩
def rlE (n : Nat) : PRes := ⟨⟨[0, 0], false, 0, (n : Int), 0⟩, List.replicate n lnote, 9 * (n : Int) + 2⟩
theorem elS {n : Nat} {fuel : Int} (hn : n ≤ 40) (hf : 1 ≤ fuel ∧ fuel ≤ 256) (h : fuel < 9 * (n : Int) + 2) : runP (oneP fuel lc) 0 (locP n 0) 0 [] = rlS n fuel := by
  rw [one_run (one_may (fl1 hf) (by decide) (by show 2 ≤ 8; decide) rfl)]
  obtain ⟨h1, h2⟩ := (loop_all fuel n [] 0 fuel.toNat (by omega)).2 (by omega)
  refine (fin_fall h1 (by decide) h2).trans ?_
  unfold rlS locP
  simp; omega
theorem elE {n : Nat} {fuel : Int} (hn : n ≤ 40) (hf : 1 ≤ fuel ∧ fuel ≤ 256) (h : ¬ fuel < 9 * (n : Int) + 2) : runP (oneP fuel lc) 0 (locP n 0) 0 [] = rlE n := by
  rw [one_run (one_may (fl1 hf) (by decide) (by show 2 ≤ 8; decide) rfl)]
  have h1 := (loop_all fuel n [] 0 fuel.toNat (by omega)).1 (by omega)
  show fin (locP n 0) (rn (oneP fuel lc) 0 [] lc fuel.toNat (ls n [] 0)) = rlE n
  rw [h1]
  unfold fin rlE locP
  simp [wm (show n < 1000 by omega)]
end Go.Proofs.YtpcffhhednplaaaDoor
