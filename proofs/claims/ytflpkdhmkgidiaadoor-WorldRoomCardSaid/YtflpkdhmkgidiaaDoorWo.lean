/-
  The start of the laws' program of two actors, with letters: how many notes go to each, and how many find no room. Conditions: at most 16 notes, a Cap of 0 to 16.
-/
import Derived.Test.YtflpkdhmkgidiaaDoorWk
namespace Go.Proofs.YtflpkdhmkgidiaaDoor
open Go.RowKit
def cA (k most : Nat) : Nat := min ((k + 1) / 2) most
def cB (k most : Nat) : Nat := min (k / 2) most
theorem toN_put (l : List PMsg) (m : PMsg) (who : Int) : toN (putP l m) who = toN l who + (if m.nt.to = who then 1 else 0) := by
  unfold toN
  rw [(put_perm l m).countP_eq, List.countP_cons]
  simp
def two0 (o0 o1 : Nat) : List PLoc := [⟨[4], false, 0, 0, (o0 : Int)⟩, ⟨[], false, 0, 0, (o1 : Int)⟩]
/-- Behind k notes. -/
structure RI (most k : Nat) (x : PWld) : Prop where
  acts : x.acts = two0 ((k + 1) / 2 - cA k most) (k / 2 - cB k most)
  t0 : toN x.mail 0 = cA k most
  t1 : toN x.mail 1 = cB k most
  len : x.mail.length = cA k most + cB k most
  ids : ∀ m ∈ x.mail, m.id.f = -1 ∧ m.id.n < (k : Int)
  used : x.used = ⟨0, 0, 0, 0⟩
theorem cap0 (N : Nat) (most : Int) : capP (twoP N most) 0 = most := rfl
theorem cap1 (N : Nat) (most : Int) : capP (twoP N most) 1 = most := rfl
theorem ri_step {N most k : Nat} {x : PWld} (h : RI most k x) (hk : k < 16) (hm : most ≤ 16) : RI most (k + 1) (stepN (twoP N most) 0 (-1) 2 x k (note1 k)) := by
  have hw : wrap64 (0 + (k : Int)) = k := by rw [Int.zero_add]; exact wrapS (by omega) (by omega)
  have hto : (note1 k).to = ((k % 2 : Nat) : Int) := rfl
  have hmod : k % 2 < 2 := Nat.mod_lt _ (by omega)
  have hst : stepN (twoP N most) 0 (-1) 2 x k (note1 k) = postP (twoP N most) x ⟨⟨-1, (k : Int), 0⟩, note1 k⟩ (k % 2) := by
    rw [step_yes (in_yes (by rw [hto]; show _ ∧ _ ≤ ((2 : Nat) : Int) - 1; omega)) (by rw [hto]; omega), hw, hto, Int.toNat_natCast]
  rw [hst]
  have hf : fnd x.mail ⟨-1, (k : Int), 0⟩ = -1 := fnd_iff.2 fun m hm e => by
    have := (h.ids m hm).2
    rw [e] at this
    exact absurd this (by show ¬ (k : Int) < k; omega)
  have hids : ∀ m ∈ putP x.mail ⟨⟨-1, (k : Int), 0⟩, note1 k⟩, m.id.f = -1 ∧ m.id.n < ((k + 1 : Nat) : Int) := fun m hm => by
    rcases putP_mem hm with rfl | hm
    · exact ⟨rfl, by show (k : Int) < _; omega⟩
    · exact ⟨(h.ids m hm).1, by have := (h.ids m hm).2; omega⟩
  have hids2 : ∀ m ∈ x.mail, m.id.f = -1 ∧ m.id.n < ((k + 1 : Nat) : Int) := fun m hm => ⟨(h.ids m hm).1, by have := (h.ids m hm).2; omega⟩
  have p0 := toN_put x.mail ⟨⟨-1, (k : Int), 0⟩, note1 k⟩ 0
  have p1 := toN_put x.mail ⟨⟨-1, (k : Int), 0⟩, note1 k⟩ 1
  have pl := putP_len x.mail ⟨⟨-1, (k : Int), 0⟩, note1 k⟩
  have t0 := h.t0
  have t1 := h.t1
  have hl := h.len
  unfold postP roomB
  dsimp only
  rw [hto, hf]
  rcases (by omega : k % 2 = 0 ∨ k % 2 = 1) with e | e
  · have ez : (((k % 2 : Nat) : Int)) = 0 := by rw [e]; rfl
    dsimp only at p0 p1
    rw [hto, ez] at p0 p1
    simp at p0 p1
    rw [ez, e, cap0]
    by_cases hr : (toN x.mail 0 : Int) < (most : Int)
    · rw [if_pos (by simp [hr])]
      refine ⟨?_, ?_, ?_, ?_, hids, h.used⟩
      · show x.acts = _
        rw [h.acts]; unfold cA cB at *; congr 1 <;> omega
      · show toN (putP _ _) 0 = _; rw [p0]; unfold cA cB at *; omega
      · show toN (putP _ _) 1 = _; rw [p1]; unfold cA cB at *; omega
      · show (putP _ _).length = _; rw [pl]; unfold cA cB at *; omega
    · rw [if_neg (by simp [hr])]
      refine ⟨?_, ?_, ?_, ?_, hids2, h.used⟩
      · show x.acts.set 0 _ = _
        rw [h.acts]
        show [_, _] = two0 _ _
        unfold two0
        rw [show (([⟨[4], false, 0, 0, (((k + 1) / 2 - cA k most : Nat) : Int)⟩, ⟨[], false, 0, 0, ((k / 2 - cB k most : Nat) : Int)⟩] : List PLoc).getD 0 default) = ⟨[4], false, 0, 0, (((k + 1) / 2 - cA k most : Nat) : Int)⟩ from rfl]
        dsimp only
        rw [wrapS (by omega) (by omega)]
        unfold cA cB at *
        have e1 : (((k + 1) / 2 - min ((k + 1) / 2) most : Nat) : Int) + 1 = (((k + 1 + 1) / 2 - min ((k + 1 + 1) / 2) most : Nat) : Int) := by omega
        have e2 : ((k / 2 - min (k / 2) most : Nat) : Int) = (((k + 1) / 2 - min ((k + 1) / 2) most : Nat) : Int) := by omega
        rw [e1, e2]
      · show toN x.mail 0 = _; unfold cA cB at *; omega
      · show toN x.mail 1 = _; unfold cA cB at *; omega
      · show x.mail.length = _; unfold cA cB at *; omega
  · have ez : (((k % 2 : Nat) : Int)) = 1 := by rw [e]; rfl
    dsimp only at p0 p1
    rw [hto, ez] at p0 p1
    simp at p0 p1
    rw [ez, e, cap1]
    by_cases hr : (toN x.mail 1 : Int) < (most : Int)
    · rw [if_pos (by simp [hr])]
      refine ⟨?_, ?_, ?_, ?_, hids, h.used⟩
      · show x.acts = _
        rw [h.acts]; unfold cA cB at *; congr 1 <;> omega
      · show toN (putP _ _) 0 = _; rw [p0]; unfold cA cB at *; omega
      · show toN (putP _ _) 1 = _; rw [p1]; unfold cA cB at *; omega
      · show (putP _ _).length = _; rw [pl]; unfold cA cB at *; omega
    · rw [if_neg (by simp [hr])]
      refine ⟨?_, ?_, ?_, ?_, hids2, h.used⟩
      · show x.acts.set 1 _ = _
        rw [h.acts]
        show [_, _] = two0 _ _
        unfold two0
        rw [show (([⟨[4], false, 0, 0, (((k + 1) / 2 - cA k most : Nat) : Int)⟩, ⟨[], false, 0, 0, ((k / 2 - cB k most : Nat) : Int)⟩] : List PLoc).getD 1 default) = ⟨[], false, 0, 0, ((k / 2 - cB k most : Nat) : Int)⟩ from rfl]
        dsimp only
        rw [wrapS (by omega) (by omega)]
        unfold cA cB at *
        have e1 : ((k / 2 - min (k / 2) most : Nat) : Int) + 1 = (((k + 1) / 2 - min ((k + 1) / 2) most : Nat) : Int) := by omega
        have e2 : (((k + 1) / 2 - min ((k + 1) / 2) most : Nat) : Int) = (((k + 1 + 1) / 2 - min ((k + 1 + 1) / 2) most : Nat) : Int) := by omega
        rw [e1]
        show [_, _] = [_, _]
        congr 1
        rw [e2]
      · show toN x.mail 0 = _; unfold cA cB at *; omega
      · show toN x.mail 1 = _; unfold cA cB at *; omega
      · show x.mail.length = _; unfold cA cB at *; omega
theorem room_start {N most : Nat} (hN : N ≤ 16) (hm : most ≤ 16) : RI most N (startP (twoP N most)) := by
  have e : inB (-1) (-1) (((startW (twoP N most)).acts.length : Int) - 1) = true := in_yes ⟨by omega, by show (-1 : Int) ≤ ((2 : Nat) : Int) - 1; omega⟩
  unfold startP
  rw [send_yes e]
  have hf : firstP (startW (twoP N most)) (-1) (twoP N most).bs.length = 0 := rfl
  have hl : (startW (twoP N most)).acts.length = 2 := rfl
  have hb : (twoP N most).bs.length = N := boots_len N
  rw [hf, hl, hb]
  have key : ∀ k, k ≤ N → RI most k (sendT (twoP N most) 0 (-1) 2 (startW (twoP N most)) (twoP N most).bs k) := by
    intro k
    induction k with
    | zero => exact fun _ => ⟨by show startL _ = _; rfl, rfl, rfl, rfl, (fun m hm => by cases hm), rfl⟩
    | succ k ih =>
      intro hk
      have hn : (twoP N most).bs[k]? = some (note1 k) := by
        show (boots N)[k]? = _
        unfold boots
        rw [List.getElem?_map, List.getElem?_range (by omega)]; rfl
      rw [step_at hn]
      exact ri_step (ih (by omega)) (by omega) hm
  exact key N (Nat.le_refl _)
theorem two_chk {N most : Nat} (hN : N ≤ 16) (hm : most ≤ 16) : chk (twoP N most) = 0 := by
  have h1 : ∀ n : Nat, n ≤ 16 → ∀ m : Nat, m ≤ 16 → chk (twoP n m) = 0 := by decide +kernel
  exact h1 N hN most hm
end Go.Proofs.YtflpkdhmkgidiaaDoor
