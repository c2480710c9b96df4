/-
 A world that is checked is one whose events may be told part by part (P12.2), plainly. Conditions: its numbers are of 64 bits; no actor has sent, or counted over, so many; its messages are few.
-/
import Derived.Test.YtfbeiedhdmndnaaGreatDoorFc
namespace Go.Proofs.YtfbeiedhdmndnaaGreatDoor
open Go.RowKit
theorem wk_of {p : PPrg} {n : Int} {x : PWld} (h : chkW p x = true) (hn : 16 ≤ n) (hn2 : n ≤ 2199023255551) (ha : ∀ y ∈ x.acts, y.sent ≤ n ∧ y.over ≤ n) (hm : x.mail.length ≤ 60) (hu : x.used.drop ≤ 9223372036854775807 ∧ x.used.dup ≤ 9223372036854775807 ∧ x.used.time ≤ 9223372036854775807 ∧ x.used.crash ≤ 9223372036854775807) : WK p n x := by
 unfold chkW at h
 simp only [Bool.and_eq_true, decide_eq_true_eq] at h
 obtain ⟨hf, hA, hM, hU⟩ := h
 unfold chkAs at hA
 obtain ⟨hl, hA⟩ := of_decide_eq_true hA
 unfold chkM at hM
 rw [Bool.and_eq_true, List.all_eq_true] at hM
 unfold chkUsed at hU
 simp only [Bool.and_eq_true, decide_eq_true_eq] at hU
 have hloc : ∀ (j : Nat) (y : PLoc) (a : PAct), x.acts[j]? = some y → p.acs[j]? = some a → LK n a y := fun j y a hy hac => by
  have hj := (List.getElem?_eq_some_iff.1 hy).1
  have h1 := hA j hj
  rw [getD_at hy, getD_at hac] at h1
  unfold chkLoc at h1
  simp only [Bool.and_eq_true] at h1
  obtain ⟨h1, h2, h3, h4, h5⟩ := h1
  have h1 := eq_of_beq h1
  have h2 := inB_iff.1 h2
  have h3 := inB_iff.1 h3
  have h4 := inB_iff.1 h4
  have h6 := ha y (List.mem_of_getElem? hy)
  refine ⟨by omega, h2, ⟨h3.1, h6.1⟩, ⟨h4.1, h6.2⟩, fun e => ?_⟩
  rw [e] at h5
  simpa using h5
 refine ⟨hf, hl, hloc, fun m hmm => ?_, hM.2, fun t => Nat.le_trans (toN_le _ _) hm, ⟨⟨hU.1, hu.1⟩, ⟨hU.2.1, hu.2.1⟩, ⟨hU.2.2.1, hu.2.2.1⟩, ⟨hU.2.2.2, hu.2.2.2⟩⟩⟩
 have h1 := hM.1 m hmm
 rw [Bool.and_eq_true] at h1
 refine ⟨h1.1, ?_⟩
 have h2 := h1.2
 unfold chkD at h2
 simp only [Bool.and_eq_true] at h2
 obtain ⟨d1, d2, d3⟩ := h2
 have d1 := inB_iff.1 d1
 have d2 := inB_iff.1 d2
 have d3 := inB_iff.1 d3
 have hs : 0 ≤ sentP x m.id.f ∧ sentP x m.id.f ≤ n := by
  unfold sentP
  by_cases e : m.id.f = -1
  ·rw [if_pos e]; omega
  ·rw [if_neg e]
   cases hy : x.acts[m.id.f.toNat]? with
   | none => show (0 : Int) ≤ 0 ∧ (0 : Int) ≤ n; omega
   | some y =>
    obtain ⟨a, hac⟩ := at_lt (l := p.acs) (k := m.id.f.toNat) (by rw [← hl]; exact (List.getElem?_eq_some_iff.1 hy).1)
    exact (hloc _ y a hy hac).sn
 rw [show wrap64 (sentP x m.id.f - 1) = sentP x m.id.f - 1 from IntWalk.wrap64_in _ ⟨by omega, by omega⟩] at d2
 exact ⟨by omega, by omega, d3⟩
end Go.Proofs.YtfbeiedhdmndnaaGreatDoor
