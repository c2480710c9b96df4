/-
  Who is down, in the laws' program of two actors (EventDown). Conditions: the table of the instructions is in the world.
-/
import Derived.Test.YtflpkdhmkgidiaaDoorEp
namespace Go.Proofs.YtflpkdhmkgidiaaDoor
open Go.RowKit
def xD (k : Nat) (dn : Int) : PWld := ⟨if k = 0 then [⟨[], true, dn, 0, 0⟩, ⟨[], false, 0, 0, 0⟩] else [⟨[], true, 0, 0, 0⟩, ⟨[], false, dn, 0, 0⟩], (xn 0).mail, ⟨0, 0, 0, 0⟩⟩
theorem dn_all {P : Int → Prop} (h1 : P 1) (h2 : P 2) (h3 : P 3) (h4 : P 4) {dn : Int} (a : 1 ≤ dn) (b : dn ≤ 4) : P dn := by
  have : dn = 1 ∨ dn = 2 ∨ dn = 3 ∨ dn = 4 := by omega
  rcases this with rfl | rfl | rfl | rfl
  · exact h1
  · exact h2
  · exact h3
  · exact h4
theorem xD_set0 (dn : Int) : ({ xn 0 with acts := (xn 0).acts.set 0 ⟨[], true, dn, 0, 0⟩ } : PWld) = xD 0 dn := by unfold xD; rw [x1]; rfl
theorem xD_set1 (dn : Int) : ({ xn 0 with acts := (xn 0).acts.set 1 ⟨[], false, dn, 0, 0⟩ } : PWld) = xD 1 dn := by unfold xD; rw [x1]; rfl
theorem xD_sm {k : Nat} {dn : Int} : SmW (xD k dn) := by
  have h := xn_sm (n := 0) (by decide)
  unfold xD
  refine ⟨?_, ?_, h.mail, h.args⟩
  · show (if k = 0 then _ else _ : List PLoc).length ≤ 100
    split <;> (show (2 : Nat) ≤ 100; decide)
  · intro a ha
    have ha' : a ∈ (if k = 0 then [⟨[], true, dn, 0, 0⟩, ⟨[], false, 0, 0, 0⟩] else [⟨[], true, 0, 0, 0⟩, ⟨[], false, dn, 0, 0⟩] : List PLoc) := ha
    split at ha' <;> simp at ha' <;> rcases ha' with rfl | rfl <;> (show (0 : Nat) ≤ 1000; decide)
theorem xD_len {k : Nat} {dn : Int} : (xD k dn).acts.length = 2 := by unfold xD; dsimp only; split <;> rfl
theorem left1 : leftB ⟨1, 1, 1, 1⟩ ⟨0, 0, 0, 0⟩ = ⟨1, 1, 1, 1⟩ := by decide +kernel
theorem dchk_0u : chkW (oneP 0) (xD 0 0) = true := by
  unfold chkW; rw [one_fc (by decide)]; decide +kernel
theorem dfit_0u : fitsP (oneP 0) ⟨1, 1, 1, 1⟩ (xD 0 0) = true := by unfold fitsP; rw [dchk_0u]; decide
theorem dl0_0u : isL ⟨1, 1, 1, 1⟩ (xD 0 0) ⟨1, ⟨-1, 0, 0⟩, 0⟩ = true := by
  decide +kernel
theorem dr0_0u : isP (oneP 0) ⟨1, 1, 1, 1⟩ (xD 0 0) ⟨1, ⟨-1, 0, 0⟩, 0⟩ = true := by
  rw [isP_eq (dfit_0u), show (xD 0 0).used = ⟨0, 0, 0, 0⟩ from rfl, left1]; exact dl0_0u
theorem dl1_0u : isL ⟨1, 1, 1, 1⟩ (xD 0 0) ⟨5, ⟨0, 0, 0⟩, 0⟩ = true := by
  decide +kernel
theorem dr1_0u : isP (oneP 0) ⟨1, 1, 1, 1⟩ (xD 0 0) ⟨5, ⟨0, 0, 0⟩, 0⟩ = true := by
  rw [isP_eq (dfit_0u), show (xD 0 0).used = ⟨0, 0, 0, 0⟩ from rfl, left1]; exact dl1_0u
theorem dl2_0u : isL ⟨1, 1, 1, 1⟩ (xD 0 0) ⟨4, ⟨0, 0, 0⟩, 0⟩ = true := by
  decide +kernel
theorem dr2_0u : isP (oneP 0) ⟨1, 1, 1, 1⟩ (xD 0 0) ⟨4, ⟨0, 0, 0⟩, 0⟩ = true := by
  rw [isP_eq (dfit_0u), show (xD 0 0).used = ⟨0, 0, 0, 0⟩ from rfl, left1]; exact dl2_0u
theorem dl3_0u : isL ⟨1, 1, 1, 1⟩ (xD 0 0) ⟨2, ⟨-1, 0, 0⟩, 0⟩ = true := by
  decide +kernel
theorem dr3_0u : isP (oneP 0) ⟨1, 1, 1, 1⟩ (xD 0 0) ⟨2, ⟨-1, 0, 0⟩, 0⟩ = true := by
  rw [isP_eq (dfit_0u), show (xD 0 0).used = ⟨0, 0, 0, 0⟩ from rfl, left1]; exact dl3_0u
theorem dl4_0u : isL ⟨1, 1, 1, 1⟩ (xD 0 0) ⟨3, ⟨-1, 0, 0⟩, 0⟩ = true := by
  decide +kernel
theorem dr4_0u : isP (oneP 0) ⟨1, 1, 1, 1⟩ (xD 0 0) ⟨3, ⟨-1, 0, 0⟩, 0⟩ = true := by
  rw [isP_eq (dfit_0u), show (xD 0 0).used = ⟨0, 0, 0, 0⟩ from rfl, left1]; exact dl4_0u
theorem dl5_0u : isL ⟨1, 1, 1, 1⟩ (xD 0 0) ⟨1, ⟨-1, 1, 0⟩, 0⟩ = true := by
  decide +kernel
theorem dr5_0u : isP (oneP 0) ⟨1, 1, 1, 1⟩ (xD 0 0) ⟨1, ⟨-1, 1, 0⟩, 0⟩ = true := by
  rw [isP_eq (dfit_0u), show (xD 0 0).used = ⟨0, 0, 0, 0⟩ from rfl, left1]; exact dl5_0u
theorem dq_0u : (enQ ⟨1, 1, 1, 1⟩ (xD 0 0) 2).length = 9 := by
  decide +kernel
theorem den_0u : (enabP (oneP 0) ⟨1, 1, 1, 1⟩ (xD 0 0)).length = 9 := by
  rw [enabP_yes (dfit_0u), show (xD 0 0).used = ⟨0, 0, 0, 0⟩ from rfl, left1]; exact dq_0u
theorem dchk_0d {dn : Int} (a : 1 ≤ dn) (b : dn ≤ 4) : chkW (oneP 0) (xD 0 dn) = true := by
  refine dn_all (P := fun dn => chkW (oneP 0) (xD 0 dn) = true) ?_ ?_ ?_ ?_ a b <;> (unfold chkW; rw [one_fc (by decide)]; decide +kernel)
theorem dfit_0d {dn : Int} (a : 1 ≤ dn) (b : dn ≤ 4) : fitsP (oneP 0) ⟨1, 1, 1, 1⟩ (xD 0 dn) = true := by unfold fitsP; rw [dchk_0d a b]; decide
theorem dl0_0d {dn : Int} (a : 1 ≤ dn) (b : dn ≤ 4) : isL ⟨1, 1, 1, 1⟩ (xD 0 dn) ⟨1, ⟨-1, 0, 0⟩, 0⟩ = false := by
  refine dn_all (P := fun dn => isL ⟨1, 1, 1, 1⟩ (xD 0 dn) ⟨1, ⟨-1, 0, 0⟩, 0⟩ = false) ?_ ?_ ?_ ?_ a b <;> (decide +kernel)
theorem dr0_0d {dn : Int} (a : 1 ≤ dn) (b : dn ≤ 4) : isP (oneP 0) ⟨1, 1, 1, 1⟩ (xD 0 dn) ⟨1, ⟨-1, 0, 0⟩, 0⟩ = false := by
  rw [isP_eq (dfit_0d a b), show (xD 0 dn).used = ⟨0, 0, 0, 0⟩ from rfl, left1]; exact dl0_0d a b
theorem dl1_0d {dn : Int} (a : 1 ≤ dn) (b : dn ≤ 4) : isL ⟨1, 1, 1, 1⟩ (xD 0 dn) ⟨5, ⟨0, 0, 0⟩, 0⟩ = false := by
  refine dn_all (P := fun dn => isL ⟨1, 1, 1, 1⟩ (xD 0 dn) ⟨5, ⟨0, 0, 0⟩, 0⟩ = false) ?_ ?_ ?_ ?_ a b <;> (decide +kernel)
theorem dr1_0d {dn : Int} (a : 1 ≤ dn) (b : dn ≤ 4) : isP (oneP 0) ⟨1, 1, 1, 1⟩ (xD 0 dn) ⟨5, ⟨0, 0, 0⟩, 0⟩ = false := by
  rw [isP_eq (dfit_0d a b), show (xD 0 dn).used = ⟨0, 0, 0, 0⟩ from rfl, left1]; exact dl1_0d a b
theorem dl2_0d {dn : Int} (a : 1 ≤ dn) (b : dn ≤ 4) : isL ⟨1, 1, 1, 1⟩ (xD 0 dn) ⟨4, ⟨0, 0, 0⟩, 0⟩ = false := by
  refine dn_all (P := fun dn => isL ⟨1, 1, 1, 1⟩ (xD 0 dn) ⟨4, ⟨0, 0, 0⟩, 0⟩ = false) ?_ ?_ ?_ ?_ a b <;> (decide +kernel)
theorem dr2_0d {dn : Int} (a : 1 ≤ dn) (b : dn ≤ 4) : isP (oneP 0) ⟨1, 1, 1, 1⟩ (xD 0 dn) ⟨4, ⟨0, 0, 0⟩, 0⟩ = false := by
  rw [isP_eq (dfit_0d a b), show (xD 0 dn).used = ⟨0, 0, 0, 0⟩ from rfl, left1]; exact dl2_0d a b
theorem dl3_0d {dn : Int} (a : 1 ≤ dn) (b : dn ≤ 4) : isL ⟨1, 1, 1, 1⟩ (xD 0 dn) ⟨2, ⟨-1, 0, 0⟩, 0⟩ = true := by
  refine dn_all (P := fun dn => isL ⟨1, 1, 1, 1⟩ (xD 0 dn) ⟨2, ⟨-1, 0, 0⟩, 0⟩ = true) ?_ ?_ ?_ ?_ a b <;> (decide +kernel)
theorem dr3_0d {dn : Int} (a : 1 ≤ dn) (b : dn ≤ 4) : isP (oneP 0) ⟨1, 1, 1, 1⟩ (xD 0 dn) ⟨2, ⟨-1, 0, 0⟩, 0⟩ = true := by
  rw [isP_eq (dfit_0d a b), show (xD 0 dn).used = ⟨0, 0, 0, 0⟩ from rfl, left1]; exact dl3_0d a b
theorem dl4_0d {dn : Int} (a : 1 ≤ dn) (b : dn ≤ 4) : isL ⟨1, 1, 1, 1⟩ (xD 0 dn) ⟨3, ⟨-1, 0, 0⟩, 0⟩ = true := by
  refine dn_all (P := fun dn => isL ⟨1, 1, 1, 1⟩ (xD 0 dn) ⟨3, ⟨-1, 0, 0⟩, 0⟩ = true) ?_ ?_ ?_ ?_ a b <;> (decide +kernel)
theorem dr4_0d {dn : Int} (a : 1 ≤ dn) (b : dn ≤ 4) : isP (oneP 0) ⟨1, 1, 1, 1⟩ (xD 0 dn) ⟨3, ⟨-1, 0, 0⟩, 0⟩ = true := by
  rw [isP_eq (dfit_0d a b), show (xD 0 dn).used = ⟨0, 0, 0, 0⟩ from rfl, left1]; exact dl4_0d a b
theorem dl5_0d {dn : Int} (a : 1 ≤ dn) (b : dn ≤ 4) : isL ⟨1, 1, 1, 1⟩ (xD 0 dn) ⟨1, ⟨-1, 1, 0⟩, 0⟩ = true := by
  refine dn_all (P := fun dn => isL ⟨1, 1, 1, 1⟩ (xD 0 dn) ⟨1, ⟨-1, 1, 0⟩, 0⟩ = true) ?_ ?_ ?_ ?_ a b <;> (decide +kernel)
theorem dr5_0d {dn : Int} (a : 1 ≤ dn) (b : dn ≤ 4) : isP (oneP 0) ⟨1, 1, 1, 1⟩ (xD 0 dn) ⟨1, ⟨-1, 1, 0⟩, 0⟩ = true := by
  rw [isP_eq (dfit_0d a b), show (xD 0 dn).used = ⟨0, 0, 0, 0⟩ from rfl, left1]; exact dl5_0d a b
theorem dq_0d {dn : Int} (a : 1 ≤ dn) (b : dn ≤ 4) : (enQ ⟨1, 1, 1, 1⟩ (xD 0 dn) 2).length = 6 := by
  refine dn_all (P := fun dn => (enQ ⟨1, 1, 1, 1⟩ (xD 0 dn) 2).length = 6) ?_ ?_ ?_ ?_ a b <;> (decide +kernel)
theorem den_0d {dn : Int} (a : 1 ≤ dn) (b : dn ≤ 4) : (enabP (oneP 0) ⟨1, 1, 1, 1⟩ (xD 0 dn)).length = 6 := by
  rw [enabP_yes (dfit_0d a b), show (xD 0 dn).used = ⟨0, 0, 0, 0⟩ from rfl, left1]; exact dq_0d a b
theorem dchk_1u : chkW (oneP 0) (xD 1 0) = true := by
  unfold chkW; rw [one_fc (by decide)]; decide +kernel
theorem dfit_1u : fitsP (oneP 0) ⟨1, 1, 1, 1⟩ (xD 1 0) = true := by unfold fitsP; rw [dchk_1u]; decide
theorem dl0_1u : isL ⟨1, 1, 1, 1⟩ (xD 1 0) ⟨1, ⟨-1, 1, 0⟩, 0⟩ = true := by
  decide +kernel
theorem dr0_1u : isP (oneP 0) ⟨1, 1, 1, 1⟩ (xD 1 0) ⟨1, ⟨-1, 1, 0⟩, 0⟩ = true := by
  rw [isP_eq (dfit_1u), show (xD 1 0).used = ⟨0, 0, 0, 0⟩ from rfl, left1]; exact dl0_1u
theorem dl1_1u : isL ⟨1, 1, 1, 1⟩ (xD 1 0) ⟨5, ⟨0, 0, 0⟩, 1⟩ = true := by
  decide +kernel
theorem dr1_1u : isP (oneP 0) ⟨1, 1, 1, 1⟩ (xD 1 0) ⟨5, ⟨0, 0, 0⟩, 1⟩ = true := by
  rw [isP_eq (dfit_1u), show (xD 1 0).used = ⟨0, 0, 0, 0⟩ from rfl, left1]; exact dl1_1u
theorem dl2_1u : isL ⟨1, 1, 1, 1⟩ (xD 1 0) ⟨4, ⟨0, 0, 0⟩, 1⟩ = false := by
  decide +kernel
theorem dr2_1u : isP (oneP 0) ⟨1, 1, 1, 1⟩ (xD 1 0) ⟨4, ⟨0, 0, 0⟩, 1⟩ = false := by
  rw [isP_eq (dfit_1u), show (xD 1 0).used = ⟨0, 0, 0, 0⟩ from rfl, left1]; exact dl2_1u
theorem dl3_1u : isL ⟨1, 1, 1, 1⟩ (xD 1 0) ⟨2, ⟨-1, 1, 0⟩, 0⟩ = true := by
  decide +kernel
theorem dr3_1u : isP (oneP 0) ⟨1, 1, 1, 1⟩ (xD 1 0) ⟨2, ⟨-1, 1, 0⟩, 0⟩ = true := by
  rw [isP_eq (dfit_1u), show (xD 1 0).used = ⟨0, 0, 0, 0⟩ from rfl, left1]; exact dl3_1u
theorem dl4_1u : isL ⟨1, 1, 1, 1⟩ (xD 1 0) ⟨3, ⟨-1, 1, 0⟩, 0⟩ = true := by
  decide +kernel
theorem dr4_1u : isP (oneP 0) ⟨1, 1, 1, 1⟩ (xD 1 0) ⟨3, ⟨-1, 1, 0⟩, 0⟩ = true := by
  rw [isP_eq (dfit_1u), show (xD 1 0).used = ⟨0, 0, 0, 0⟩ from rfl, left1]; exact dl4_1u
theorem dl5_1u : isL ⟨1, 1, 1, 1⟩ (xD 1 0) ⟨1, ⟨-1, 0, 0⟩, 0⟩ = true := by
  decide +kernel
theorem dr5_1u : isP (oneP 0) ⟨1, 1, 1, 1⟩ (xD 1 0) ⟨1, ⟨-1, 0, 0⟩, 0⟩ = true := by
  rw [isP_eq (dfit_1u), show (xD 1 0).used = ⟨0, 0, 0, 0⟩ from rfl, left1]; exact dl5_1u
theorem dq_1u : (enQ ⟨1, 1, 1, 1⟩ (xD 1 0) 2).length = 9 := by
  decide +kernel
theorem den_1u : (enabP (oneP 0) ⟨1, 1, 1, 1⟩ (xD 1 0)).length = 9 := by
  rw [enabP_yes (dfit_1u), show (xD 1 0).used = ⟨0, 0, 0, 0⟩ from rfl, left1]; exact dq_1u
theorem dchk_1d {dn : Int} (a : 1 ≤ dn) (b : dn ≤ 4) : chkW (oneP 0) (xD 1 dn) = true := by
  refine dn_all (P := fun dn => chkW (oneP 0) (xD 1 dn) = true) ?_ ?_ ?_ ?_ a b <;> (unfold chkW; rw [one_fc (by decide)]; decide +kernel)
theorem dfit_1d {dn : Int} (a : 1 ≤ dn) (b : dn ≤ 4) : fitsP (oneP 0) ⟨1, 1, 1, 1⟩ (xD 1 dn) = true := by unfold fitsP; rw [dchk_1d a b]; decide
theorem dl0_1d {dn : Int} (a : 1 ≤ dn) (b : dn ≤ 4) : isL ⟨1, 1, 1, 1⟩ (xD 1 dn) ⟨1, ⟨-1, 1, 0⟩, 0⟩ = false := by
  refine dn_all (P := fun dn => isL ⟨1, 1, 1, 1⟩ (xD 1 dn) ⟨1, ⟨-1, 1, 0⟩, 0⟩ = false) ?_ ?_ ?_ ?_ a b <;> (decide +kernel)
theorem dr0_1d {dn : Int} (a : 1 ≤ dn) (b : dn ≤ 4) : isP (oneP 0) ⟨1, 1, 1, 1⟩ (xD 1 dn) ⟨1, ⟨-1, 1, 0⟩, 0⟩ = false := by
  rw [isP_eq (dfit_1d a b), show (xD 1 dn).used = ⟨0, 0, 0, 0⟩ from rfl, left1]; exact dl0_1d a b
theorem dl1_1d {dn : Int} (a : 1 ≤ dn) (b : dn ≤ 4) : isL ⟨1, 1, 1, 1⟩ (xD 1 dn) ⟨5, ⟨0, 0, 0⟩, 1⟩ = false := by
  refine dn_all (P := fun dn => isL ⟨1, 1, 1, 1⟩ (xD 1 dn) ⟨5, ⟨0, 0, 0⟩, 1⟩ = false) ?_ ?_ ?_ ?_ a b <;> (decide +kernel)
theorem dr1_1d {dn : Int} (a : 1 ≤ dn) (b : dn ≤ 4) : isP (oneP 0) ⟨1, 1, 1, 1⟩ (xD 1 dn) ⟨5, ⟨0, 0, 0⟩, 1⟩ = false := by
  rw [isP_eq (dfit_1d a b), show (xD 1 dn).used = ⟨0, 0, 0, 0⟩ from rfl, left1]; exact dl1_1d a b
theorem dl2_1d {dn : Int} (a : 1 ≤ dn) (b : dn ≤ 4) : isL ⟨1, 1, 1, 1⟩ (xD 1 dn) ⟨4, ⟨0, 0, 0⟩, 1⟩ = false := by
  refine dn_all (P := fun dn => isL ⟨1, 1, 1, 1⟩ (xD 1 dn) ⟨4, ⟨0, 0, 0⟩, 1⟩ = false) ?_ ?_ ?_ ?_ a b <;> (decide +kernel)
theorem dr2_1d {dn : Int} (a : 1 ≤ dn) (b : dn ≤ 4) : isP (oneP 0) ⟨1, 1, 1, 1⟩ (xD 1 dn) ⟨4, ⟨0, 0, 0⟩, 1⟩ = false := by
  rw [isP_eq (dfit_1d a b), show (xD 1 dn).used = ⟨0, 0, 0, 0⟩ from rfl, left1]; exact dl2_1d a b
theorem dl3_1d {dn : Int} (a : 1 ≤ dn) (b : dn ≤ 4) : isL ⟨1, 1, 1, 1⟩ (xD 1 dn) ⟨2, ⟨-1, 1, 0⟩, 0⟩ = true := by
  refine dn_all (P := fun dn => isL ⟨1, 1, 1, 1⟩ (xD 1 dn) ⟨2, ⟨-1, 1, 0⟩, 0⟩ = true) ?_ ?_ ?_ ?_ a b <;> (decide +kernel)
theorem dr3_1d {dn : Int} (a : 1 ≤ dn) (b : dn ≤ 4) : isP (oneP 0) ⟨1, 1, 1, 1⟩ (xD 1 dn) ⟨2, ⟨-1, 1, 0⟩, 0⟩ = true := by
  rw [isP_eq (dfit_1d a b), show (xD 1 dn).used = ⟨0, 0, 0, 0⟩ from rfl, left1]; exact dl3_1d a b
theorem dl4_1d {dn : Int} (a : 1 ≤ dn) (b : dn ≤ 4) : isL ⟨1, 1, 1, 1⟩ (xD 1 dn) ⟨3, ⟨-1, 1, 0⟩, 0⟩ = true := by
  refine dn_all (P := fun dn => isL ⟨1, 1, 1, 1⟩ (xD 1 dn) ⟨3, ⟨-1, 1, 0⟩, 0⟩ = true) ?_ ?_ ?_ ?_ a b <;> (decide +kernel)
theorem dr4_1d {dn : Int} (a : 1 ≤ dn) (b : dn ≤ 4) : isP (oneP 0) ⟨1, 1, 1, 1⟩ (xD 1 dn) ⟨3, ⟨-1, 1, 0⟩, 0⟩ = true := by
  rw [isP_eq (dfit_1d a b), show (xD 1 dn).used = ⟨0, 0, 0, 0⟩ from rfl, left1]; exact dl4_1d a b
theorem dl5_1d {dn : Int} (a : 1 ≤ dn) (b : dn ≤ 4) : isL ⟨1, 1, 1, 1⟩ (xD 1 dn) ⟨1, ⟨-1, 0, 0⟩, 0⟩ = true := by
  refine dn_all (P := fun dn => isL ⟨1, 1, 1, 1⟩ (xD 1 dn) ⟨1, ⟨-1, 0, 0⟩, 0⟩ = true) ?_ ?_ ?_ ?_ a b <;> (decide +kernel)
theorem dr5_1d {dn : Int} (a : 1 ≤ dn) (b : dn ≤ 4) : isP (oneP 0) ⟨1, 1, 1, 1⟩ (xD 1 dn) ⟨1, ⟨-1, 0, 0⟩, 0⟩ = true := by
  rw [isP_eq (dfit_1d a b), show (xD 1 dn).used = ⟨0, 0, 0, 0⟩ from rfl, left1]; exact dl5_1d a b
theorem dq_1d {dn : Int} (a : 1 ≤ dn) (b : dn ≤ 4) : (enQ ⟨1, 1, 1, 1⟩ (xD 1 dn) 2).length = 7 := by
  refine dn_all (P := fun dn => (enQ ⟨1, 1, 1, 1⟩ (xD 1 dn) 2).length = 7) ?_ ?_ ?_ ?_ a b <;> (decide +kernel)
theorem den_1d {dn : Int} (a : 1 ≤ dn) (b : dn ≤ 4) : (enabP (oneP 0) ⟨1, 1, 1, 1⟩ (xD 1 dn)).length = 7 := by
  rw [enabP_yes (dfit_1d a b), show (xD 1 dn).used = ⟨0, 0, 0, 0⟩ from rfl, left1]; exact dq_1d a b
theorem OneB.same {N : Nat} {w w' : World} (h : OneB N w) {ok : Nat → Prop} (hS : Same ok w w') (h1 : ok (N + 1)) (h2 : ok (N + 1 + 1)) (h3 : ok (N + 1 + 1 + 1)) : OneB N w' :=
  ⟨(hS.block _ h1 (Array.getElem?_eq_some_iff.1 h.b1).1).trans h.b1, (hS.block _ h2 (Array.getElem?_eq_some_iff.1 h.b2).1).trans h.b2, (hS.block _ h3 (Array.getElem?_eq_some_iff.1 h.b3).1).trans h.b3⟩
structure DM (w : World) (pb wb : Nat) (PV WV BV : Obj) (vw : Value) (X : PWld) (v5 : World) : Prop where
  one : OneB w.heap.size v5
  low : Below w.heap.size w v5
  p : v5.heap[pb]? = some PV
  w : v5.heap[wb]? = some WV
  b : v5.heap[wb + 1]? = some BV
  x : WldV v5 vw X
  z : v5.heap.size = wb + 1 + 1
theorem down_mem {w w1 w2 : World} {ga ca lo hi k i off : Nat} {B : Option Addr} {d : Nat} {y y' : PLoc} {X : PWld} {v : Value} {PV BV : Obj} (hO : OneB w.heap.size w2) (hb : Below w.heap.size w w2) (hp : w2.heap[w1.heap.size]? = some PV) (h1 : w.heap.size + 1 + 1 + 1 < w1.heap.size)
    (hwn : WN (w1.heap.size + 1) lo hi w2 (.slice (some ⟨ga, 0, none⟩) 2 ca) (.slice B (0 + 2) d) (xn 0)) (hy : (xn 0).acts[k]? = some y) (hi2 : i = 2) (ho : off = k * 5 + i) (hv : v = .int .i64 y'.down) (hr0 : y'.regs = y.regs) (hr1 : y'.armed = y.armed) (hr3 : y'.sent = y.sent) (hr4 : y'.over = y.over)
    (hX : ({ xn 0 with acts := (xn 0).acts.set k y' } : PWld) = X) (hu : X.used = ⟨0, 0, 0, 0⟩) (hs : SmW X) :
    DM w w1.heap.size w2.heap.size PV (.cells #[.slice (some ⟨ga, 0, none⟩) 2 ca, .slice B (0 + 2) d, .int .i64 0, .int .i64 0, .int .i64 0, .int .i64 0] 34) BV (wVal ⟨0, 0, 0, 0⟩ (.slice (some ⟨ga, 0, none⟩) 2 ca) (.slice B (0 + 2) d)) X (((w2.setCell ⟨ga, off, none⟩ v).alloc (.cells #[.slice (some ⟨ga, 0, none⟩) 2 ca, .slice B (0 + 2) d, .int .i64 0, .int .i64 0, .int .i64 0, .int .i64 0] 34)).alloc BV) := by
  have hal : (xn 0).acts.length = 2 := by rw [xn_acts (by decide)]; rfl
  have hzp := (Array.getElem?_eq_some_iff.1 hp).1
  obtain ⟨g, c, e, hgN, hgr⟩ : ∃ g c, (Value.slice (some ⟨ga, 0, none⟩) 2 ca) = .slice (some ⟨g, 0, none⟩) (xn 0).acts.length c ∧ w1.heap.size + 1 ≤ g ∧ LR g (fun _ b => Qa (w1.heap.size + 1) lo hi b ∧ b ≠ g) w2 (xn 0).acts := by
    obtain ⟨A, c, e, hc, hl⟩ := hwn.acts
    rcases hl with ⟨e2, _⟩ | ⟨g, e2, hg, hr⟩
    · rw [xn_acts (by decide)] at e2; cases e2
    · subst e2; exact ⟨g, c, e, hg.1, hr⟩
  simp only [Value.slice.injEq, Option.some.injEq, Addr.mk.injEq] at e
  obtain ⟨⟨rfl, _⟩, _, rfl⟩ := e
  have hgl := hgr.lt
  have hsz : (w2.setCell ⟨ga, off, none⟩ v).heap.size = w2.heap.size := by simp [World.setCell]
  have hS : Same (fun b => b ≠ ga) w2 (w2.setCell ⟨ga, off, none⟩ v) := setCell_same fun _ h => h
  have hbA : ∀ X Y : Obj, Below (w2.setCell ⟨ga, off, none⟩ v).heap.size (w2.setCell ⟨ga, off, none⟩ v) (((w2.setCell ⟨ga, off, none⟩ v).alloc X).alloc Y) := fun _ _ => bAlloc (bAlloc (bRefl _) _) _
  have hlow : Below w.heap.size w (w2.setCell ⟨ga, off, none⟩ v) := hb.setCell (p := ⟨ga, off, none⟩) (by show w.heap.size ≤ ga; omega) v
  refine ⟨(hO.same hS (by show w.heap.size + 1 ≠ ga; omega) (by show w.heap.size + 1 + 1 ≠ ga; omega) (by show w.heap.size + 1 + 1 + 1 ≠ ga; omega)).below (hbA _ _), bAlloc (bAlloc hlow _) _, boxAt ((hS.block _ (by show w1.heap.size ≠ ga; omega) hzp).trans hp) (hbA _ _), ?_, ?_, ?_, by simp [hsz]⟩
  · exact boxAt (heap_new2 (w := w2.setCell ⟨ga, off, none⟩ v) (n := w2.heap.size) hsz) (bAlloc (bRefl _) _)
  · exact heap_new2 (by simp [hsz])
  · have hpw := hwn.toPW (by omega)
    rw [xn_used (by decide)] at hpw
    have h9 := PW.setAct (y' := y') (i := i) (off := off) (v := v) (by rw [hal]; exact hpw) hy ho (by omega) (by omega) hr0 (Or.inr ⟨by omega, hr1⟩) (Or.inl ⟨hi2, hv⟩) (Or.inr ⟨by omega, hr3⟩) (Or.inr ⟨by omega, hr4⟩)
    rw [hX, World.setCell_alloc_past _ _ _ _ hgl, hal] at h9
    have h10 := h9.wn.wld hs
    rw [hu] at h10
    exact h10.below (bAlloc (bRefl _) _)
set_option maxHeartbeats 4000000 in
set_option maxRecDepth 100000 in
theorem down_0d (w : World) (who dn : Int) (ht : Tab w) (hk : rnd who 2 = 0) (a : 1 ≤ dn) (b : dn ≤ 4) : Calls Tryd.prog 9 #[.int .i64 dn, .int .i64 who] w fun e w' => e = .returned (.bool true) ∧ Below w.heap.size w w' := by
  have HT := hid_mk ht
  clear ht
  have hR0 := dr0_0d a b
  have hR1 := dr1_0d a b
  have hR2 := dr2_0d a b
  have hR3 := dr3_0d a b
  have hR4 := dr4_0d a b
  have hR5 := dr5_0d a b
  have HLE := hid_mk (den_0d a b)
  have hd0 : (dn == 0) = false := beq_eq_false_iff_ne.2 (by omega)
  have hd1 : decide (dn < 0) = false := decide_eq_false (by omega)
  have hd2 : decide (4 < dn) = false := decide_eq_false (by omega)
  go_enter Tryd.func9, Tryd.ntmps9
  go_wp2_with fail
  refine (one_any _).mono ?_
  rintro e w1 ⟨rfl, ho, hb1⟩
  have HO := hid_mk ho
  have HZ1 := hid_mk ho.top
  have HB1 := hid_mk hb1
  clear ho hb1
  go_wp2_with fail
  refine (oneS (n := 0) _ _ (by decide) (HT.out.below (bAlloc HB1.out _)) (HO.out.below (bAlloc (bRefl _) _)).prg).mono ?_
  rintro e w2 ⟨ga, ca, B, d, lo, hi, rfl, hwn, hb2⟩
  have hPB := boxAt (heap_new w1 (.cells #[.slice (some ⟨w.heap.size + 1, 0, none⟩) 1 1, .slice (some ⟨w.heap.size + 1 + 1, 0, none⟩) 2 2, .slice (some ⟨w.heap.size + 1 + 1 + 1, 0, none⟩) 2 2, .int .i64 5] 27)) hb2
  have HO2 := hid_mk (HO.out.below (bTrans (bAlloc (bRefl _) _) hb2))
  have HB2 := hid_mk (bTrans (bAlloc HB1.out _) hb2)
  have HWN := hid_mk hwn
  have HPB := hid_mk hPB
  obtain ⟨gg, cc, hgg, hgN, hgr⟩ : ∃ g c, (Value.slice (some ⟨ga, 0, none⟩) 2 ca) = .slice (some ⟨g, 0, none⟩) (xn 0).acts.length c ∧ (w1.alloc (.cells #[.slice (some ⟨w.heap.size + 1, 0, none⟩) 1 1, .slice (some ⟨w.heap.size + 1 + 1, 0, none⟩) 2 2, .slice (some ⟨w.heap.size + 1 + 1 + 1, 0, none⟩) 2 2, .int .i64 5] 27)).heap.size ≤ g ∧ LR g (fun _ b => Qa (w1.alloc (.cells #[.slice (some ⟨w.heap.size + 1, 0, none⟩) 1 1, .slice (some ⟨w.heap.size + 1 + 1, 0, none⟩) 2 2, .slice (some ⟨w.heap.size + 1 + 1 + 1, 0, none⟩) 2 2, .int .i64 5] 27)).heap.size lo hi b ∧ b ≠ g) w2 (xn 0).acts := by
    obtain ⟨A, c, e, hc, hl⟩ := hwn.acts
    rcases hl with ⟨e2, _⟩ | ⟨g, e2, hg, hr⟩
    · rw [xn_acts (by decide)] at e2; cases e2
    · subst e2; exact ⟨g, c, e, hg.1, hr⟩
  obtain ⟨rfl, -, rfl⟩ : ga = gg ∧ _ ∧ ca = cc := by simpa using hgg
  have hgl := hgr.lt
  have hng : ¬ w1.heap.size = ga := by simp at hgN; omega
  have ff : ∀ (X : Obj) o, (w2.alloc X).frozen? ⟨ga, o, none⟩ = false := fun X o => (hgr.below (bAlloc (bRefl _) X)).frozen o
  have gd : w2.cell? ⟨ga, 2, none⟩ = some (.int .i64 0) := (hgr.rd 0 ⟨[], true, 0, 0, 0⟩ (by rw [xn_acts (by decide)]; rfl)).2.2.1
  have gd2 : ∀ X : Obj, (w2.alloc X).cell? ⟨ga, 2, none⟩ = some (.int .i64 0) := fun X => ((bAlloc (bRefl w2) X).cell (p := ⟨ga, 2, none⟩) hgl).trans gd
  have ff2 : ∀ o, w2.frozen? ⟨ga, o, none⟩ = false := hgr.frozen
  obtain ⟨p0, p1, p2, p3⟩ := blk4 hPB
  have z1 : w1.heap.size < w2.heap.size := (Array.getElem?_eq_some_iff.1 hPB).1
  have hS5 : Same (fun b => b ≠ ga) w2 (w2.setCell ⟨ga, 2, none⟩ (.int .i64 dn)) := setCell_same fun _ h => h
  have hP5 := (hS5.block w1.heap.size hng z1).trans hPB
  have hz5 : w1.heap.size < (w2.setCell ⟨ga, 2, none⟩ (.int .i64 dn)).heap.size := (Array.getElem?_eq_some_iff.1 hP5).1
  clear p0 p1 p2 p3
  have HZ12 := hid_mk z1
  have HBA : Hid (∀ X Y Z : Obj, Below (w2.setCell ⟨ga, 2, none⟩ (.int .i64 dn)).heap.size (w2.setCell ⟨ga, 2, none⟩ (.int .i64 dn)) ((((w2.setCell ⟨ga, 2, none⟩ (.int .i64 dn)).alloc X).alloc Y).alloc Z)) := fun _ _ _ => bAlloc (bAlloc (bAlloc (bRefl _) _) _) _
  obtain ⟨p0, p1, p2, p3⟩ := blk4 hP5
  have q0 := fun X Y Z => ((HBA.out X Y Z).cell (p := ⟨w1.heap.size, 0, none⟩) hz5).trans p0
  have q1 := fun X Y Z => ((HBA.out X Y Z).cell (p := ⟨w1.heap.size, 1, none⟩) hz5).trans p1
  have q2 := fun X Y Z => ((HBA.out X Y Z).cell (p := ⟨w1.heap.size, 2, none⟩) hz5).trans p2
  have q3 := fun X Y Z => ((HBA.out X Y Z).cell (p := ⟨w1.heap.size, 3, none⟩) hz5).trans p3
  clear hb2 hwn hPB hgr hgg hgN hS5 hP5
  go_wp2_with fail
  refine (round_any _ _ _ (by decide) (by decide)).mono ?_
  rw [hk]
  rintro e w' ⟨rfl, rfl⟩
  go_wp2_with fail
  have dm := down_mem (k := 0) (i := 2) (off := 2) (y := ⟨[], true, 0, 0, 0⟩) (y' := ⟨[], true, dn, 0, 0⟩) (X := xD 0 dn) (v := .int .i64 dn) (PV := (.cells #[.slice (some ⟨w.heap.size + 1, 0, none⟩) 1 1, .slice (some ⟨w.heap.size + 1 + 1, 0, none⟩) 2 2, .slice (some ⟨w.heap.size + 1 + 1 + 1, 0, none⟩) 2 2, .int .i64 5] 27)) (BV := (.cells #[.int .i64 1, .int .i64 1, .int .i64 1, .int .i64 1] 32)) HO2.out HB2.out HPB.out HZ1.out (by simpa using HWN.out) (by rw [xn_acts (by decide)]; rfl) rfl rfl rfl rfl rfl rfl rfl (xD_set0 _) rfl xD_sm
  generalize ((((w2.setCell ⟨ga, 2, none⟩ (.int .i64 dn)).alloc (.cells #[.slice (some ⟨ga, 0, none⟩) 2 ca, .slice B (0 + 2) d, .int .i64 0, .int .i64 0, .int .i64 0, .int .i64 0] 34)).alloc (.cells #[.int .i64 1, .int .i64 1, .int .i64 1, .int .i64 1] 32))) = v5 at dm ⊢
  have DM := hid_mk dm
  have HX6 := hid_mk (heap_new2 (o := (.cells #[.int .i64 1, .int .i64 (-1), .int .i64 0, .int .i64 0, .int .i64 0] 56)) dm.z)
  have HZ5 := hid_mk dm.z
  have HT5 := hid_mk (HT.out.below dm.low)
  have hbb : Below v5.heap.size v5 (v5.alloc (.cells #[.int .i64 1, .int .i64 (-1), .int .i64 0, .int .i64 0, .int .i64 0] 56)) := bAlloc (bRefl _) _
  clear dm p0 p1 p2 p3 q0 q1 q2 q3 z1 ff ff2 gd gd2 hgl hng
  generalize (v5.alloc (.cells #[.int .i64 1, .int .i64 (-1), .int .i64 0, .int .i64 0, .int .i64 0] 56)) = w6 at hbb HX6 ⊢
  refine (is_5 _ _ _ (oneP 0) ⟨1, 1, 1, 1⟩ (xD 0 dn) _ _ _ _ _ (HT5.out.below hbb) (DM.out.one.below hbb).prg (DM.out.x.below hbb)).mono ?_
  rintro e w7 ⟨rfl, hb7⟩
  have HX7 := hid_mk (boxAt HX6.out hb7)
  replace hbb := bTrans hbb hb7
  clear hb7
  obtain ⟨p0, p1, p2, p3⟩ := blk4 (boxAt DM.out.p hbb)
  obtain ⟨x0, x1, x2, x3, x4, x5⟩ := blk6 (boxAt DM.out.w hbb)
  obtain ⟨b0, b1, b2, b3⟩ := blk4 (boxAt DM.out.b hbb)
  obtain ⟨e0, e1, e2, e3, e4⟩ := blk5 HX7.out
  go_wp2_with fail
  refine (is_5 _ _ _ (oneP 0) ⟨1, 1, 1, 1⟩ (xD 0 dn) _ _ _ _ _ (HT5.out.below hbb) (DM.out.one.below hbb).prg (DM.out.x.below hbb)).mono ?_
  rintro e w8 ⟨rfl, hb8⟩
  have HX8 := hid_mk (boxAt HX7.out hb8)
  replace hbb := bTrans hbb hb8
  clear hb8
  clear p0 p1 p2 p3 x0 x1 x2 x3 x4 x5 b0 b1 b2 b3 e0 e1 e2 e3 e4
  obtain ⟨p0, p1, p2, p3⟩ := blk4 (boxAt DM.out.p hbb)
  obtain ⟨x0, x1, x2, x3, x4, x5⟩ := blk6 (boxAt DM.out.w hbb)
  obtain ⟨b0, b1, b2, b3⟩ := blk4 (boxAt DM.out.b hbb)
  obtain ⟨e0, e1, e2, e3, e4⟩ := blk5 HX8.out
  go_wp2_with fail
  refine (is_5 _ _ _ (oneP 0) ⟨1, 1, 1, 1⟩ (xD 0 dn) _ _ _ _ _ (HT5.out.below hbb) (DM.out.one.below hbb).prg (DM.out.x.below hbb)).mono ?_
  rintro e w9 ⟨rfl, hb9⟩
  have HX9 := hid_mk (boxAt HX8.out hb9)
  replace hbb := bTrans hbb hb9
  clear hb9 p0 p1 p2 p3 x0 x1 x2 x3 x4 x5 b0 b1 b2 b3 e0 e1 e2 e3 e4
  have g0 : w9.cell? ⟨w2.heap.size + 1 + 1, 0, none⟩ = some (.int .i64 1) := (blk5 HX9.out).1
  have hff : ∀ o, w9.frozen? ⟨w2.heap.size + 1 + 1, o, none⟩ = false := fun o => heap_frozen HX9.out
  have hx10 : (w9.setCell ⟨w2.heap.size + 1 + 1, 0, none⟩ (.int .i64 2)).heap[w2.heap.size + 1 + 1]? = some (.cells #[.int .i64 2, .int .i64 (-1), .int .i64 0, .int .i64 0, .int .i64 0] 56) := (setCell_heap HX9.out).trans (by simp)
  have hb10 : Below v5.heap.size v5 (w9.setCell ⟨w2.heap.size + 1 + 1, 0, none⟩ (.int .i64 2)) := hbb.setCell (p := ⟨w2.heap.size + 1 + 1, 0, none⟩) (by have := HZ5.out; show v5.heap.size ≤ w2.heap.size + 1 + 1; omega) _
  have hsz9 : (w9.setCell ⟨w2.heap.size + 1 + 1, 0, none⟩ (.int .i64 2)).heap.size = w9.heap.size := by simp [World.setCell]
  have HSZ9 := hid_mk hsz9
  have hz9 : w2.heap.size + 1 + 1 < w9.heap.size := (Array.getElem?_eq_some_iff.1 HX9.out).1
  have z9 : w2.heap.size + 1 + 1 < (w9.setCell ⟨w2.heap.size + 1 + 1, 0, none⟩ (.int .i64 2)).heap.size := by omega
  have za : w1.heap.size < (w9.setCell ⟨w2.heap.size + 1 + 1, 0, none⟩ (.int .i64 2)).heap.size := by have := HZ12.out; omega
  have zb : w2.heap.size < (w9.setCell ⟨w2.heap.size + 1 + 1, 0, none⟩ (.int .i64 2)).heap.size := by omega
  have zc : w2.heap.size + 1 < (w9.setCell ⟨w2.heap.size + 1 + 1, 0, none⟩ (.int .i64 2)).heap.size := by omega
  clear hsz9
  have HBYO : Hid (∀ Y O : Obj, Below (w9.setCell ⟨w2.heap.size + 1 + 1, 0, none⟩ (.int .i64 2)).heap.size (w9.setCell ⟨w2.heap.size + 1 + 1, 0, none⟩ (.int .i64 2)) (((w9.setCell ⟨w2.heap.size + 1 + 1, 0, none⟩ (.int .i64 2)).alloc Y).alloc O)) := fun _ _ => bAlloc (bAlloc (bRefl _) _) _
  obtain ⟨p0, p1, p2, p3⟩ := blk4 (boxAt DM.out.p hb10)
  obtain ⟨x0, x1, x2, x3, x4, x5⟩ := blk6 (boxAt DM.out.w hb10)
  obtain ⟨b0, b1, b2, b3⟩ := blk4 (boxAt DM.out.b hb10)
  obtain ⟨e0, e1, e2, e3, e4⟩ := blk5 hx10
  have rp0 := fun Y O => ((HBYO.out Y O).cell (p := ⟨w1.heap.size, 0, none⟩) za).trans p0
  have rp1 := fun Y O => ((HBYO.out Y O).cell (p := ⟨w1.heap.size, 1, none⟩) za).trans p1
  have rp2 := fun Y O => ((HBYO.out Y O).cell (p := ⟨w1.heap.size, 2, none⟩) za).trans p2
  have rp3 := fun Y O => ((HBYO.out Y O).cell (p := ⟨w1.heap.size, 3, none⟩) za).trans p3
  have rx0 := fun Y O => ((HBYO.out Y O).cell (p := ⟨w2.heap.size, 0, none⟩) zb).trans x0
  have rx1 := fun Y O => ((HBYO.out Y O).cell (p := ⟨w2.heap.size, 1, none⟩) zb).trans x1
  have rx2 := fun Y O => ((HBYO.out Y O).cell (p := ⟨w2.heap.size, 2, none⟩) zb).trans x2
  have rx3 := fun Y O => ((HBYO.out Y O).cell (p := ⟨w2.heap.size, 3, none⟩) zb).trans x3
  have rx4 := fun Y O => ((HBYO.out Y O).cell (p := ⟨w2.heap.size, 4, none⟩) zb).trans x4
  have rx5 := fun Y O => ((HBYO.out Y O).cell (p := ⟨w2.heap.size, 5, none⟩) zb).trans x5
  have rb0 := fun Y O => ((HBYO.out Y O).cell (p := ⟨w2.heap.size + 1, 0, none⟩) zc).trans b0
  have rb1 := fun Y O => ((HBYO.out Y O).cell (p := ⟨w2.heap.size + 1, 1, none⟩) zc).trans b1
  have rb2 := fun Y O => ((HBYO.out Y O).cell (p := ⟨w2.heap.size + 1, 2, none⟩) zc).trans b2
  have rb3 := fun Y O => ((HBYO.out Y O).cell (p := ⟨w2.heap.size + 1, 3, none⟩) zc).trans b3
  have re0 := fun Y O => ((HBYO.out Y O).cell (p := ⟨w2.heap.size + 1 + 1, 0, none⟩) z9).trans e0
  have re1 := fun Y O => ((HBYO.out Y O).cell (p := ⟨w2.heap.size + 1 + 1, 1, none⟩) z9).trans e1
  have re2 := fun Y O => ((HBYO.out Y O).cell (p := ⟨w2.heap.size + 1 + 1, 2, none⟩) z9).trans e2
  have re3 := fun Y O => ((HBYO.out Y O).cell (p := ⟨w2.heap.size + 1 + 1, 3, none⟩) z9).trans e3
  have re4 := fun Y O => ((HBYO.out Y O).cell (p := ⟨w2.heap.size + 1 + 1, 4, none⟩) z9).trans e4
  have HX10 := hid_mk hx10
  have HB10 := hid_mk hb10
  clear hx10 hb10
  go_wp2_with fail
  have hy := heap_new2 (w := w9.setCell ⟨w2.heap.size + 1 + 1, 0, none⟩ (.int .i64 2)) (o := (.cells #[.int .i64 3, .int .i64 (-1), .int .i64 0, .int .i64 0, .int .i64 0] 56)) HSZ9.out
  have hy2 := boxAt hy (bAlloc (bRefl _) (.cells #[.int .i64 1, .int .i64 (-1), .int .i64 1, .int .i64 0, .int .i64 0] 56))
  have ho2 : (((w9.setCell ⟨w2.heap.size + 1 + 1, 0, none⟩ (.int .i64 2)).alloc (.cells #[.int .i64 3, .int .i64 (-1), .int .i64 0, .int .i64 0, .int .i64 0] 56)).alloc (.cells #[.int .i64 1, .int .i64 (-1), .int .i64 1, .int .i64 0, .int .i64 0] 56)).heap[w9.heap.size + 1]? = some (.cells #[.int .i64 1, .int .i64 (-1), .int .i64 1, .int .i64 0, .int .i64 0] 56) := heap_new2 (by have := HSZ9.out; simp at this ⊢)
  replace hbb := bTrans HB10.out (HBYO.out (.cells #[.int .i64 3, .int .i64 (-1), .int .i64 0, .int .i64 0, .int .i64 0] 56) (.cells #[.int .i64 1, .int .i64 (-1), .int .i64 1, .int .i64 0, .int .i64 0] 56))
  have hx2 := boxAt HX10.out (HBYO.out (.cells #[.int .i64 3, .int .i64 (-1), .int .i64 0, .int .i64 0, .int .i64 0] 56) (.cells #[.int .i64 1, .int .i64 (-1), .int .i64 1, .int .i64 0, .int .i64 0] 56))
  clear hy p0 p1 p2 p3 x0 x1 x2 x3 x4 x5 b0 b1 b2 b3 e0 e1 e2 e3 e4 rp0 rp1 rp2 rp3 rx0 rx1 rx2 rx3 rx4 rx5 rb0 rb1 rb2 rb3 re0 re1 re2 re3 re4 hff z9 za zb zc HBYO HB10 HX10 HSZ9
  generalize (((w9.setCell ⟨w2.heap.size + 1 + 1, 0, none⟩ (.int .i64 2)).alloc (.cells #[.int .i64 3, .int .i64 (-1), .int .i64 0, .int .i64 0, .int .i64 0] 56)).alloc (.cells #[.int .i64 1, .int .i64 (-1), .int .i64 1, .int .i64 0, .int .i64 0] 56)) = wa at hy2 ho2 hbb hx2 ⊢
  refine (is_5 _ _ _ (oneP 0) ⟨1, 1, 1, 1⟩ (xD 0 dn) _ _ _ _ _ (HT5.out.below hbb) (DM.out.one.below hbb).prg (DM.out.x.below hbb)).mono ?_
  rintro e wb ⟨rfl, hb⟩
  replace hy2 := boxAt hy2 hb
  replace ho2 := boxAt ho2 hb
  replace hx2 := boxAt hx2 hb
  replace hbb := bTrans hbb hb
  have HY := hid_mk hy2
  have HO3 := hid_mk ho2
  clear hb hy2 ho2
  obtain ⟨p0, p1, p2, p3⟩ := blk4 (boxAt DM.out.p hbb)
  obtain ⟨x0, x1, x2, x3, x4, x5⟩ := blk6 (boxAt DM.out.w hbb)
  obtain ⟨b0, b1, b2, b3⟩ := blk4 (boxAt DM.out.b hbb)
  obtain ⟨e0, e1, e2, e3, e4⟩ := blk5 HY.out
  go_wp2_with fail
  refine (is_5 _ _ _ (oneP 0) ⟨1, 1, 1, 1⟩ (xD 0 dn) _ _ _ _ _ (HT5.out.below hbb) (DM.out.one.below hbb).prg (DM.out.x.below hbb)).mono ?_
  rintro e wc ⟨rfl, hb⟩
  replace hbb := bTrans hbb hb
  have HO4 := hid_mk (boxAt HO3.out hb)
  clear hb
  clear p0 p1 p2 p3 x0 x1 x2 x3 x4 x5 b0 b1 b2 b3 e0 e1 e2 e3 e4
  obtain ⟨p0, p1, p2, p3⟩ := blk4 (boxAt DM.out.p hbb)
  obtain ⟨x0, x1, x2, x3, x4, x5⟩ := blk6 (boxAt DM.out.w hbb)
  obtain ⟨b0, b1, b2, b3⟩ := blk4 (boxAt DM.out.b hbb)
  obtain ⟨e0, e1, e2, e3, e4⟩ := blk5 HO4.out
  go_wp2_with fail
  refine (is_5 _ _ _ (oneP 0) ⟨1, 1, 1, 1⟩ (xD 0 dn) _ _ _ _ _ (HT5.out.below hbb) (DM.out.one.below hbb).prg (DM.out.x.below hbb)).mono ?_
  rintro e wd ⟨rfl, hb⟩
  replace hbb := bTrans hbb hb
  have HO5 := hid_mk (boxAt HO4.out hb)
  clear hb
  clear p0 p1 p2 p3 x0 x1 x2 x3 x4 x5 b0 b1 b2 b3 e0 e1 e2 e3 e4
  obtain ⟨p0, p1, p2, p3⟩ := blk4 (boxAt DM.out.p hbb)
  obtain ⟨x0, x1, x2, x3, x4, x5⟩ := blk6 (boxAt DM.out.w hbb)
  obtain ⟨b0, b1, b2, b3⟩ := blk4 (boxAt DM.out.b hbb)
  obtain ⟨e0, e1, e2, e3, e4⟩ := blk5 HO5.out
  go_wp2_with fail
  refine (enab_any _ _ _ (oneP 0) ⟨1, 1, 1, 1⟩ (xD 0 dn) (HT5.out.below hbb) (DM.out.one.below hbb).prg (DM.out.x.below hbb) (by rw [show (xD 0 dn).mail = (xn 0).mail from rfl, xn_mail (by decide)]; decide) (by rw [xD_len]; decide)).mono ?_
  rintro e we ⟨v, rfl, hen⟩
  have hle := HLE.out
  obtain ⟨A7, c7, rfl⟩ := hen.form
  rw [hle]
  replace hbb := bTrans hbb hen.low
  clear hen hle
  go_wp2_with fail
  refine (ewake_any _ (HT5.out.below hbb)).mono ?_
  rintro e wf ⟨rfl, hb⟩
  go_wp2_with fail
  go_ret
  exact ⟨rfl, bTrans DM.out.low (bTrans hbb hb)⟩
set_option maxHeartbeats 4000000 in
set_option maxRecDepth 100000 in
theorem down_0u (w : World) (who : Int) (ht : Tab w) (hk : rnd who 2 = 0)  : Calls Tryd.prog 9 #[.int .i64 0, .int .i64 who] w fun e w' => e = .returned (.bool true) ∧ Below w.heap.size w w' := by
  have HT := hid_mk ht
  clear ht
  have hR0 := dr0_0u
  have hR1 := dr1_0u
  have hR2 := dr2_0u
  have hR3 := dr3_0u
  have hR4 := dr4_0u
  have hR5 := dr5_0u
  have HLE := hid_mk (den_0u)
  go_enter Tryd.func9, Tryd.ntmps9
  go_wp2_with fail
  refine (one_any _).mono ?_
  rintro e w1 ⟨rfl, ho, hb1⟩
  have HO := hid_mk ho
  have HZ1 := hid_mk ho.top
  have HB1 := hid_mk hb1
  clear ho hb1
  go_wp2_with fail
  refine (oneS (n := 0) _ _ (by decide) (HT.out.below (bAlloc HB1.out _)) (HO.out.below (bAlloc (bRefl _) _)).prg).mono ?_
  rintro e w2 ⟨ga, ca, B, d, lo, hi, rfl, hwn, hb2⟩
  have hPB := boxAt (heap_new w1 (.cells #[.slice (some ⟨w.heap.size + 1, 0, none⟩) 1 1, .slice (some ⟨w.heap.size + 1 + 1, 0, none⟩) 2 2, .slice (some ⟨w.heap.size + 1 + 1 + 1, 0, none⟩) 2 2, .int .i64 5] 27)) hb2
  have HO2 := hid_mk (HO.out.below (bTrans (bAlloc (bRefl _) _) hb2))
  have HB2 := hid_mk (bTrans (bAlloc HB1.out _) hb2)
  have HWN := hid_mk hwn
  have HPB := hid_mk hPB
  obtain ⟨gg, cc, hgg, hgN, hgr⟩ : ∃ g c, (Value.slice (some ⟨ga, 0, none⟩) 2 ca) = .slice (some ⟨g, 0, none⟩) (xn 0).acts.length c ∧ (w1.alloc (.cells #[.slice (some ⟨w.heap.size + 1, 0, none⟩) 1 1, .slice (some ⟨w.heap.size + 1 + 1, 0, none⟩) 2 2, .slice (some ⟨w.heap.size + 1 + 1 + 1, 0, none⟩) 2 2, .int .i64 5] 27)).heap.size ≤ g ∧ LR g (fun _ b => Qa (w1.alloc (.cells #[.slice (some ⟨w.heap.size + 1, 0, none⟩) 1 1, .slice (some ⟨w.heap.size + 1 + 1, 0, none⟩) 2 2, .slice (some ⟨w.heap.size + 1 + 1 + 1, 0, none⟩) 2 2, .int .i64 5] 27)).heap.size lo hi b ∧ b ≠ g) w2 (xn 0).acts := by
    obtain ⟨A, c, e, hc, hl⟩ := hwn.acts
    rcases hl with ⟨e2, _⟩ | ⟨g, e2, hg, hr⟩
    · rw [xn_acts (by decide)] at e2; cases e2
    · subst e2; exact ⟨g, c, e, hg.1, hr⟩
  obtain ⟨rfl, -, rfl⟩ : ga = gg ∧ _ ∧ ca = cc := by simpa using hgg
  have hgl := hgr.lt
  have hng : ¬ w1.heap.size = ga := by simp at hgN; omega
  have ff : ∀ (X : Obj) o, (w2.alloc X).frozen? ⟨ga, o, none⟩ = false := fun X o => (hgr.below (bAlloc (bRefl _) X)).frozen o
  have gd : w2.cell? ⟨ga, 2, none⟩ = some (.int .i64 0) := (hgr.rd 0 ⟨[], true, 0, 0, 0⟩ (by rw [xn_acts (by decide)]; rfl)).2.2.1
  have gd2 : ∀ X : Obj, (w2.alloc X).cell? ⟨ga, 2, none⟩ = some (.int .i64 0) := fun X => ((bAlloc (bRefl w2) X).cell (p := ⟨ga, 2, none⟩) hgl).trans gd
  have ff2 : ∀ o, w2.frozen? ⟨ga, o, none⟩ = false := hgr.frozen
  obtain ⟨p0, p1, p2, p3⟩ := blk4 hPB
  have z1 : w1.heap.size < w2.heap.size := (Array.getElem?_eq_some_iff.1 hPB).1
  have hS5 : Same (fun b => b ≠ ga) w2 (w2.setCell ⟨ga, 2, none⟩ (.int .i64 0)) := setCell_same fun _ h => h
  have hP5 := (hS5.block w1.heap.size hng z1).trans hPB
  have hz5 : w1.heap.size < (w2.setCell ⟨ga, 2, none⟩ (.int .i64 0)).heap.size := (Array.getElem?_eq_some_iff.1 hP5).1
  clear p0 p1 p2 p3
  have HZ12 := hid_mk z1
  have HBA : Hid (∀ X Y Z : Obj, Below (w2.setCell ⟨ga, 2, none⟩ (.int .i64 0)).heap.size (w2.setCell ⟨ga, 2, none⟩ (.int .i64 0)) ((((w2.setCell ⟨ga, 2, none⟩ (.int .i64 0)).alloc X).alloc Y).alloc Z)) := fun _ _ _ => bAlloc (bAlloc (bAlloc (bRefl _) _) _) _
  obtain ⟨p0, p1, p2, p3⟩ := blk4 hP5
  have q0 := fun X Y Z => ((HBA.out X Y Z).cell (p := ⟨w1.heap.size, 0, none⟩) hz5).trans p0
  have q1 := fun X Y Z => ((HBA.out X Y Z).cell (p := ⟨w1.heap.size, 1, none⟩) hz5).trans p1
  have q2 := fun X Y Z => ((HBA.out X Y Z).cell (p := ⟨w1.heap.size, 2, none⟩) hz5).trans p2
  have q3 := fun X Y Z => ((HBA.out X Y Z).cell (p := ⟨w1.heap.size, 3, none⟩) hz5).trans p3
  clear hb2 hwn hPB hgr hgg hgN hS5 hP5
  go_wp2_with fail
  refine (round_any _ _ _ (by decide) (by decide)).mono ?_
  rw [hk]
  rintro e w' ⟨rfl, rfl⟩
  go_wp2_with fail
  have dm := down_mem (k := 0) (i := 2) (off := 2) (y := ⟨[], true, 0, 0, 0⟩) (y' := ⟨[], true, 0, 0, 0⟩) (X := xD 0 0) (v := .int .i64 0) (PV := (.cells #[.slice (some ⟨w.heap.size + 1, 0, none⟩) 1 1, .slice (some ⟨w.heap.size + 1 + 1, 0, none⟩) 2 2, .slice (some ⟨w.heap.size + 1 + 1 + 1, 0, none⟩) 2 2, .int .i64 5] 27)) (BV := (.cells #[.int .i64 1, .int .i64 1, .int .i64 1, .int .i64 1] 32)) HO2.out HB2.out HPB.out HZ1.out (by simpa using HWN.out) (by rw [xn_acts (by decide)]; rfl) rfl rfl rfl rfl rfl rfl rfl (xD_set0 _) rfl xD_sm
  generalize ((((w2.setCell ⟨ga, 2, none⟩ (.int .i64 0)).alloc (.cells #[.slice (some ⟨ga, 0, none⟩) 2 ca, .slice B (0 + 2) d, .int .i64 0, .int .i64 0, .int .i64 0, .int .i64 0] 34)).alloc (.cells #[.int .i64 1, .int .i64 1, .int .i64 1, .int .i64 1] 32))) = v5 at dm ⊢
  have DM := hid_mk dm
  have HX6 := hid_mk (heap_new2 (o := (.cells #[.int .i64 1, .int .i64 (-1), .int .i64 0, .int .i64 0, .int .i64 0] 56)) dm.z)
  have HZ5 := hid_mk dm.z
  have HT5 := hid_mk (HT.out.below dm.low)
  have hbb : Below v5.heap.size v5 (v5.alloc (.cells #[.int .i64 1, .int .i64 (-1), .int .i64 0, .int .i64 0, .int .i64 0] 56)) := bAlloc (bRefl _) _
  clear dm p0 p1 p2 p3 q0 q1 q2 q3 z1 ff ff2 gd gd2 hgl hng
  generalize (v5.alloc (.cells #[.int .i64 1, .int .i64 (-1), .int .i64 0, .int .i64 0, .int .i64 0] 56)) = w6 at hbb HX6 ⊢
  refine (is_5 _ _ _ (oneP 0) ⟨1, 1, 1, 1⟩ (xD 0 0) _ _ _ _ _ (HT5.out.below hbb) (DM.out.one.below hbb).prg (DM.out.x.below hbb)).mono ?_
  rintro e w7 ⟨rfl, hb7⟩
  have HX7 := hid_mk (boxAt HX6.out hb7)
  replace hbb := bTrans hbb hb7
  clear hb7
  obtain ⟨p0, p1, p2, p3⟩ := blk4 (boxAt DM.out.p hbb)
  obtain ⟨x0, x1, x2, x3, x4, x5⟩ := blk6 (boxAt DM.out.w hbb)
  obtain ⟨b0, b1, b2, b3⟩ := blk4 (boxAt DM.out.b hbb)
  obtain ⟨e0, e1, e2, e3, e4⟩ := blk5 HX7.out
  go_wp2_with fail
  refine (is_5 _ _ _ (oneP 0) ⟨1, 1, 1, 1⟩ (xD 0 0) _ _ _ _ _ (HT5.out.below hbb) (DM.out.one.below hbb).prg (DM.out.x.below hbb)).mono ?_
  rintro e w8 ⟨rfl, hb8⟩
  have HX8 := hid_mk (boxAt HX7.out hb8)
  replace hbb := bTrans hbb hb8
  clear hb8
  clear p0 p1 p2 p3 x0 x1 x2 x3 x4 x5 b0 b1 b2 b3 e0 e1 e2 e3 e4
  obtain ⟨p0, p1, p2, p3⟩ := blk4 (boxAt DM.out.p hbb)
  obtain ⟨x0, x1, x2, x3, x4, x5⟩ := blk6 (boxAt DM.out.w hbb)
  obtain ⟨b0, b1, b2, b3⟩ := blk4 (boxAt DM.out.b hbb)
  obtain ⟨e0, e1, e2, e3, e4⟩ := blk5 HX8.out
  go_wp2_with fail
  refine (is_5 _ _ _ (oneP 0) ⟨1, 1, 1, 1⟩ (xD 0 0) _ _ _ _ _ (HT5.out.below hbb) (DM.out.one.below hbb).prg (DM.out.x.below hbb)).mono ?_
  rintro e w9 ⟨rfl, hb9⟩
  have HX9 := hid_mk (boxAt HX8.out hb9)
  replace hbb := bTrans hbb hb9
  clear hb9 p0 p1 p2 p3 x0 x1 x2 x3 x4 x5 b0 b1 b2 b3 e0 e1 e2 e3 e4
  have g0 : w9.cell? ⟨w2.heap.size + 1 + 1, 0, none⟩ = some (.int .i64 1) := (blk5 HX9.out).1
  have hff : ∀ o, w9.frozen? ⟨w2.heap.size + 1 + 1, o, none⟩ = false := fun o => heap_frozen HX9.out
  have hx10 : (w9.setCell ⟨w2.heap.size + 1 + 1, 0, none⟩ (.int .i64 2)).heap[w2.heap.size + 1 + 1]? = some (.cells #[.int .i64 2, .int .i64 (-1), .int .i64 0, .int .i64 0, .int .i64 0] 56) := (setCell_heap HX9.out).trans (by simp)
  have hb10 : Below v5.heap.size v5 (w9.setCell ⟨w2.heap.size + 1 + 1, 0, none⟩ (.int .i64 2)) := hbb.setCell (p := ⟨w2.heap.size + 1 + 1, 0, none⟩) (by have := HZ5.out; show v5.heap.size ≤ w2.heap.size + 1 + 1; omega) _
  have hsz9 : (w9.setCell ⟨w2.heap.size + 1 + 1, 0, none⟩ (.int .i64 2)).heap.size = w9.heap.size := by simp [World.setCell]
  have HSZ9 := hid_mk hsz9
  have hz9 : w2.heap.size + 1 + 1 < w9.heap.size := (Array.getElem?_eq_some_iff.1 HX9.out).1
  have z9 : w2.heap.size + 1 + 1 < (w9.setCell ⟨w2.heap.size + 1 + 1, 0, none⟩ (.int .i64 2)).heap.size := by omega
  have za : w1.heap.size < (w9.setCell ⟨w2.heap.size + 1 + 1, 0, none⟩ (.int .i64 2)).heap.size := by have := HZ12.out; omega
  have zb : w2.heap.size < (w9.setCell ⟨w2.heap.size + 1 + 1, 0, none⟩ (.int .i64 2)).heap.size := by omega
  have zc : w2.heap.size + 1 < (w9.setCell ⟨w2.heap.size + 1 + 1, 0, none⟩ (.int .i64 2)).heap.size := by omega
  clear hsz9
  have HBYO : Hid (∀ Y O : Obj, Below (w9.setCell ⟨w2.heap.size + 1 + 1, 0, none⟩ (.int .i64 2)).heap.size (w9.setCell ⟨w2.heap.size + 1 + 1, 0, none⟩ (.int .i64 2)) (((w9.setCell ⟨w2.heap.size + 1 + 1, 0, none⟩ (.int .i64 2)).alloc Y).alloc O)) := fun _ _ => bAlloc (bAlloc (bRefl _) _) _
  obtain ⟨p0, p1, p2, p3⟩ := blk4 (boxAt DM.out.p hb10)
  obtain ⟨x0, x1, x2, x3, x4, x5⟩ := blk6 (boxAt DM.out.w hb10)
  obtain ⟨b0, b1, b2, b3⟩ := blk4 (boxAt DM.out.b hb10)
  obtain ⟨e0, e1, e2, e3, e4⟩ := blk5 hx10
  have rp0 := fun Y O => ((HBYO.out Y O).cell (p := ⟨w1.heap.size, 0, none⟩) za).trans p0
  have rp1 := fun Y O => ((HBYO.out Y O).cell (p := ⟨w1.heap.size, 1, none⟩) za).trans p1
  have rp2 := fun Y O => ((HBYO.out Y O).cell (p := ⟨w1.heap.size, 2, none⟩) za).trans p2
  have rp3 := fun Y O => ((HBYO.out Y O).cell (p := ⟨w1.heap.size, 3, none⟩) za).trans p3
  have rx0 := fun Y O => ((HBYO.out Y O).cell (p := ⟨w2.heap.size, 0, none⟩) zb).trans x0
  have rx1 := fun Y O => ((HBYO.out Y O).cell (p := ⟨w2.heap.size, 1, none⟩) zb).trans x1
  have rx2 := fun Y O => ((HBYO.out Y O).cell (p := ⟨w2.heap.size, 2, none⟩) zb).trans x2
  have rx3 := fun Y O => ((HBYO.out Y O).cell (p := ⟨w2.heap.size, 3, none⟩) zb).trans x3
  have rx4 := fun Y O => ((HBYO.out Y O).cell (p := ⟨w2.heap.size, 4, none⟩) zb).trans x4
  have rx5 := fun Y O => ((HBYO.out Y O).cell (p := ⟨w2.heap.size, 5, none⟩) zb).trans x5
  have rb0 := fun Y O => ((HBYO.out Y O).cell (p := ⟨w2.heap.size + 1, 0, none⟩) zc).trans b0
  have rb1 := fun Y O => ((HBYO.out Y O).cell (p := ⟨w2.heap.size + 1, 1, none⟩) zc).trans b1
  have rb2 := fun Y O => ((HBYO.out Y O).cell (p := ⟨w2.heap.size + 1, 2, none⟩) zc).trans b2
  have rb3 := fun Y O => ((HBYO.out Y O).cell (p := ⟨w2.heap.size + 1, 3, none⟩) zc).trans b3
  have re0 := fun Y O => ((HBYO.out Y O).cell (p := ⟨w2.heap.size + 1 + 1, 0, none⟩) z9).trans e0
  have re1 := fun Y O => ((HBYO.out Y O).cell (p := ⟨w2.heap.size + 1 + 1, 1, none⟩) z9).trans e1
  have re2 := fun Y O => ((HBYO.out Y O).cell (p := ⟨w2.heap.size + 1 + 1, 2, none⟩) z9).trans e2
  have re3 := fun Y O => ((HBYO.out Y O).cell (p := ⟨w2.heap.size + 1 + 1, 3, none⟩) z9).trans e3
  have re4 := fun Y O => ((HBYO.out Y O).cell (p := ⟨w2.heap.size + 1 + 1, 4, none⟩) z9).trans e4
  have HX10 := hid_mk hx10
  have HB10 := hid_mk hb10
  clear hx10 hb10
  go_wp2_with fail
  have hy := heap_new2 (w := w9.setCell ⟨w2.heap.size + 1 + 1, 0, none⟩ (.int .i64 2)) (o := (.cells #[.int .i64 3, .int .i64 (-1), .int .i64 0, .int .i64 0, .int .i64 0] 56)) HSZ9.out
  have hy2 := boxAt hy (bAlloc (bRefl _) (.cells #[.int .i64 1, .int .i64 (-1), .int .i64 1, .int .i64 0, .int .i64 0] 56))
  have ho2 : (((w9.setCell ⟨w2.heap.size + 1 + 1, 0, none⟩ (.int .i64 2)).alloc (.cells #[.int .i64 3, .int .i64 (-1), .int .i64 0, .int .i64 0, .int .i64 0] 56)).alloc (.cells #[.int .i64 1, .int .i64 (-1), .int .i64 1, .int .i64 0, .int .i64 0] 56)).heap[w9.heap.size + 1]? = some (.cells #[.int .i64 1, .int .i64 (-1), .int .i64 1, .int .i64 0, .int .i64 0] 56) := heap_new2 (by have := HSZ9.out; simp at this ⊢)
  replace hbb := bTrans HB10.out (HBYO.out (.cells #[.int .i64 3, .int .i64 (-1), .int .i64 0, .int .i64 0, .int .i64 0] 56) (.cells #[.int .i64 1, .int .i64 (-1), .int .i64 1, .int .i64 0, .int .i64 0] 56))
  have hx2 := boxAt HX10.out (HBYO.out (.cells #[.int .i64 3, .int .i64 (-1), .int .i64 0, .int .i64 0, .int .i64 0] 56) (.cells #[.int .i64 1, .int .i64 (-1), .int .i64 1, .int .i64 0, .int .i64 0] 56))
  clear hy p0 p1 p2 p3 x0 x1 x2 x3 x4 x5 b0 b1 b2 b3 e0 e1 e2 e3 e4 rp0 rp1 rp2 rp3 rx0 rx1 rx2 rx3 rx4 rx5 rb0 rb1 rb2 rb3 re0 re1 re2 re3 re4 hff z9 za zb zc HBYO HB10 HX10 HSZ9
  generalize (((w9.setCell ⟨w2.heap.size + 1 + 1, 0, none⟩ (.int .i64 2)).alloc (.cells #[.int .i64 3, .int .i64 (-1), .int .i64 0, .int .i64 0, .int .i64 0] 56)).alloc (.cells #[.int .i64 1, .int .i64 (-1), .int .i64 1, .int .i64 0, .int .i64 0] 56)) = wa at hy2 ho2 hbb hx2 ⊢
  refine (is_5 _ _ _ (oneP 0) ⟨1, 1, 1, 1⟩ (xD 0 0) _ _ _ _ _ (HT5.out.below hbb) (DM.out.one.below hbb).prg (DM.out.x.below hbb)).mono ?_
  rintro e wb ⟨rfl, hb⟩
  replace hy2 := boxAt hy2 hb
  replace ho2 := boxAt ho2 hb
  replace hx2 := boxAt hx2 hb
  replace hbb := bTrans hbb hb
  have HY := hid_mk hy2
  have HO3 := hid_mk ho2
  clear hb hy2 ho2
  obtain ⟨p0, p1, p2, p3⟩ := blk4 (boxAt DM.out.p hbb)
  obtain ⟨x0, x1, x2, x3, x4, x5⟩ := blk6 (boxAt DM.out.w hbb)
  obtain ⟨b0, b1, b2, b3⟩ := blk4 (boxAt DM.out.b hbb)
  obtain ⟨e0, e1, e2, e3, e4⟩ := blk5 HY.out
  go_wp2_with fail
  refine (is_5 _ _ _ (oneP 0) ⟨1, 1, 1, 1⟩ (xD 0 0) _ _ _ _ _ (HT5.out.below hbb) (DM.out.one.below hbb).prg (DM.out.x.below hbb)).mono ?_
  rintro e wc ⟨rfl, hb⟩
  replace hbb := bTrans hbb hb
  have HO4 := hid_mk (boxAt HO3.out hb)
  clear hb
  clear p0 p1 p2 p3 x0 x1 x2 x3 x4 x5 b0 b1 b2 b3 e0 e1 e2 e3 e4
  obtain ⟨p0, p1, p2, p3⟩ := blk4 (boxAt DM.out.p hbb)
  obtain ⟨x0, x1, x2, x3, x4, x5⟩ := blk6 (boxAt DM.out.w hbb)
  obtain ⟨b0, b1, b2, b3⟩ := blk4 (boxAt DM.out.b hbb)
  obtain ⟨e0, e1, e2, e3, e4⟩ := blk5 HO4.out
  go_wp2_with fail
  refine (is_5 _ _ _ (oneP 0) ⟨1, 1, 1, 1⟩ (xD 0 0) _ _ _ _ _ (HT5.out.below hbb) (DM.out.one.below hbb).prg (DM.out.x.below hbb)).mono ?_
  rintro e wd ⟨rfl, hb⟩
  replace hbb := bTrans hbb hb
  have HO5 := hid_mk (boxAt HO4.out hb)
  clear hb
  clear p0 p1 p2 p3 x0 x1 x2 x3 x4 x5 b0 b1 b2 b3 e0 e1 e2 e3 e4
  obtain ⟨p0, p1, p2, p3⟩ := blk4 (boxAt DM.out.p hbb)
  obtain ⟨x0, x1, x2, x3, x4, x5⟩ := blk6 (boxAt DM.out.w hbb)
  obtain ⟨b0, b1, b2, b3⟩ := blk4 (boxAt DM.out.b hbb)
  obtain ⟨e0, e1, e2, e3, e4⟩ := blk5 HO5.out
  go_wp2_with fail
  refine (enab_any _ _ _ (oneP 0) ⟨1, 1, 1, 1⟩ (xD 0 0) (HT5.out.below hbb) (DM.out.one.below hbb).prg (DM.out.x.below hbb) (by rw [show (xD 0 0).mail = (xn 0).mail from rfl, xn_mail (by decide)]; decide) (by rw [xD_len]; decide)).mono ?_
  rintro e we ⟨v, rfl, hen⟩
  have hle := HLE.out
  obtain ⟨A7, c7, rfl⟩ := hen.form
  rw [hle]
  replace hbb := bTrans hbb hen.low
  clear hen hle
  go_wp2_with fail
  refine (ewake_any _ (HT5.out.below hbb)).mono ?_
  rintro e wf ⟨rfl, hb⟩
  go_wp2_with fail
  go_ret
  exact ⟨rfl, bTrans DM.out.low (bTrans hbb hb)⟩
set_option maxHeartbeats 4000000 in
set_option maxRecDepth 100000 in
theorem down_1d (w : World) (who dn : Int) (ht : Tab w) (hk : rnd who 2 = 1) (a : 1 ≤ dn) (b : dn ≤ 4) : Calls Tryd.prog 9 #[.int .i64 dn, .int .i64 who] w fun e w' => e = .returned (.bool true) ∧ Below w.heap.size w w' := by
  have HT := hid_mk ht
  clear ht
  have hR0 := dr0_1d a b
  have hR1 := dr1_1d a b
  have hR2 := dr2_1d a b
  have hR3 := dr3_1d a b
  have hR4 := dr4_1d a b
  have hR5 := dr5_1d a b
  have HLE := hid_mk (den_1d a b)
  have hd0 : (dn == 0) = false := beq_eq_false_iff_ne.2 (by omega)
  have hd1 : decide (dn < 0) = false := decide_eq_false (by omega)
  have hd2 : decide (4 < dn) = false := decide_eq_false (by omega)
  go_enter Tryd.func9, Tryd.ntmps9
  go_wp2_with fail
  refine (one_any _).mono ?_
  rintro e w1 ⟨rfl, ho, hb1⟩
  have HO := hid_mk ho
  have HZ1 := hid_mk ho.top
  have HB1 := hid_mk hb1
  clear ho hb1
  go_wp2_with fail
  refine (oneS (n := 0) _ _ (by decide) (HT.out.below (bAlloc HB1.out _)) (HO.out.below (bAlloc (bRefl _) _)).prg).mono ?_
  rintro e w2 ⟨ga, ca, B, d, lo, hi, rfl, hwn, hb2⟩
  have hPB := boxAt (heap_new w1 (.cells #[.slice (some ⟨w.heap.size + 1, 0, none⟩) 1 1, .slice (some ⟨w.heap.size + 1 + 1, 0, none⟩) 2 2, .slice (some ⟨w.heap.size + 1 + 1 + 1, 0, none⟩) 2 2, .int .i64 5] 27)) hb2
  have HO2 := hid_mk (HO.out.below (bTrans (bAlloc (bRefl _) _) hb2))
  have HB2 := hid_mk (bTrans (bAlloc HB1.out _) hb2)
  have HWN := hid_mk hwn
  have HPB := hid_mk hPB
  obtain ⟨gg, cc, hgg, hgN, hgr⟩ : ∃ g c, (Value.slice (some ⟨ga, 0, none⟩) 2 ca) = .slice (some ⟨g, 0, none⟩) (xn 0).acts.length c ∧ (w1.alloc (.cells #[.slice (some ⟨w.heap.size + 1, 0, none⟩) 1 1, .slice (some ⟨w.heap.size + 1 + 1, 0, none⟩) 2 2, .slice (some ⟨w.heap.size + 1 + 1 + 1, 0, none⟩) 2 2, .int .i64 5] 27)).heap.size ≤ g ∧ LR g (fun _ b => Qa (w1.alloc (.cells #[.slice (some ⟨w.heap.size + 1, 0, none⟩) 1 1, .slice (some ⟨w.heap.size + 1 + 1, 0, none⟩) 2 2, .slice (some ⟨w.heap.size + 1 + 1 + 1, 0, none⟩) 2 2, .int .i64 5] 27)).heap.size lo hi b ∧ b ≠ g) w2 (xn 0).acts := by
    obtain ⟨A, c, e, hc, hl⟩ := hwn.acts
    rcases hl with ⟨e2, _⟩ | ⟨g, e2, hg, hr⟩
    · rw [xn_acts (by decide)] at e2; cases e2
    · subst e2; exact ⟨g, c, e, hg.1, hr⟩
  obtain ⟨rfl, -, rfl⟩ : ga = gg ∧ _ ∧ ca = cc := by simpa using hgg
  have hgl := hgr.lt
  have hng : ¬ w1.heap.size = ga := by simp at hgN; omega
  have ff : ∀ (X : Obj) o, (w2.alloc X).frozen? ⟨ga, o, none⟩ = false := fun X o => (hgr.below (bAlloc (bRefl _) X)).frozen o
  have gd : w2.cell? ⟨ga, 7, none⟩ = some (.int .i64 0) := (hgr.rd 1 ⟨[], false, 0, 0, 0⟩ (by rw [xn_acts (by decide)]; rfl)).2.2.1
  have gd2 : ∀ X : Obj, (w2.alloc X).cell? ⟨ga, 7, none⟩ = some (.int .i64 0) := fun X => ((bAlloc (bRefl w2) X).cell (p := ⟨ga, 7, none⟩) hgl).trans gd
  have ff2 : ∀ o, w2.frozen? ⟨ga, o, none⟩ = false := hgr.frozen
  obtain ⟨p0, p1, p2, p3⟩ := blk4 hPB
  have z1 : w1.heap.size < w2.heap.size := (Array.getElem?_eq_some_iff.1 hPB).1
  have hS5 : Same (fun b => b ≠ ga) w2 (w2.setCell ⟨ga, 7, none⟩ (.int .i64 dn)) := setCell_same fun _ h => h
  have hP5 := (hS5.block w1.heap.size hng z1).trans hPB
  have hz5 : w1.heap.size < (w2.setCell ⟨ga, 7, none⟩ (.int .i64 dn)).heap.size := (Array.getElem?_eq_some_iff.1 hP5).1
  clear p0 p1 p2 p3
  have HZ12 := hid_mk z1
  have HBA : Hid (∀ X Y Z : Obj, Below (w2.setCell ⟨ga, 7, none⟩ (.int .i64 dn)).heap.size (w2.setCell ⟨ga, 7, none⟩ (.int .i64 dn)) ((((w2.setCell ⟨ga, 7, none⟩ (.int .i64 dn)).alloc X).alloc Y).alloc Z)) := fun _ _ _ => bAlloc (bAlloc (bAlloc (bRefl _) _) _) _
  obtain ⟨p0, p1, p2, p3⟩ := blk4 hP5
  have q0 := fun X Y Z => ((HBA.out X Y Z).cell (p := ⟨w1.heap.size, 0, none⟩) hz5).trans p0
  have q1 := fun X Y Z => ((HBA.out X Y Z).cell (p := ⟨w1.heap.size, 1, none⟩) hz5).trans p1
  have q2 := fun X Y Z => ((HBA.out X Y Z).cell (p := ⟨w1.heap.size, 2, none⟩) hz5).trans p2
  have q3 := fun X Y Z => ((HBA.out X Y Z).cell (p := ⟨w1.heap.size, 3, none⟩) hz5).trans p3
  clear hb2 hwn hPB hgr hgg hgN hS5 hP5
  go_wp2_with fail
  refine (round_any _ _ _ (by decide) (by decide)).mono ?_
  rw [hk]
  rintro e w' ⟨rfl, rfl⟩
  go_wp2_with fail
  have dm := down_mem (k := 1) (i := 2) (off := 7) (y := ⟨[], false, 0, 0, 0⟩) (y' := ⟨[], false, dn, 0, 0⟩) (X := xD 1 dn) (v := .int .i64 dn) (PV := (.cells #[.slice (some ⟨w.heap.size + 1, 0, none⟩) 1 1, .slice (some ⟨w.heap.size + 1 + 1, 0, none⟩) 2 2, .slice (some ⟨w.heap.size + 1 + 1 + 1, 0, none⟩) 2 2, .int .i64 5] 27)) (BV := (.cells #[.int .i64 1, .int .i64 1, .int .i64 1, .int .i64 1] 32)) HO2.out HB2.out HPB.out HZ1.out (by simpa using HWN.out) (by rw [xn_acts (by decide)]; rfl) rfl rfl rfl rfl rfl rfl rfl (xD_set1 _) rfl xD_sm
  generalize ((((w2.setCell ⟨ga, 7, none⟩ (.int .i64 dn)).alloc (.cells #[.slice (some ⟨ga, 0, none⟩) 2 ca, .slice B (0 + 2) d, .int .i64 0, .int .i64 0, .int .i64 0, .int .i64 0] 34)).alloc (.cells #[.int .i64 1, .int .i64 1, .int .i64 1, .int .i64 1] 32))) = v5 at dm ⊢
  have DM := hid_mk dm
  have HX6 := hid_mk (heap_new2 (o := (.cells #[.int .i64 1, .int .i64 (-1), .int .i64 1, .int .i64 0, .int .i64 0] 56)) dm.z)
  have HZ5 := hid_mk dm.z
  have HT5 := hid_mk (HT.out.below dm.low)
  have hbb : Below v5.heap.size v5 (v5.alloc (.cells #[.int .i64 1, .int .i64 (-1), .int .i64 1, .int .i64 0, .int .i64 0] 56)) := bAlloc (bRefl _) _
  clear dm p0 p1 p2 p3 q0 q1 q2 q3 z1 ff ff2 gd gd2 hgl hng
  generalize (v5.alloc (.cells #[.int .i64 1, .int .i64 (-1), .int .i64 1, .int .i64 0, .int .i64 0] 56)) = w6 at hbb HX6 ⊢
  refine (is_5 _ _ _ (oneP 0) ⟨1, 1, 1, 1⟩ (xD 1 dn) _ _ _ _ _ (HT5.out.below hbb) (DM.out.one.below hbb).prg (DM.out.x.below hbb)).mono ?_
  rintro e w7 ⟨rfl, hb7⟩
  have HX7 := hid_mk (boxAt HX6.out hb7)
  replace hbb := bTrans hbb hb7
  clear hb7
  obtain ⟨p0, p1, p2, p3⟩ := blk4 (boxAt DM.out.p hbb)
  obtain ⟨x0, x1, x2, x3, x4, x5⟩ := blk6 (boxAt DM.out.w hbb)
  obtain ⟨b0, b1, b2, b3⟩ := blk4 (boxAt DM.out.b hbb)
  obtain ⟨e0, e1, e2, e3, e4⟩ := blk5 HX7.out
  go_wp2_with fail
  refine (is_5 _ _ _ (oneP 0) ⟨1, 1, 1, 1⟩ (xD 1 dn) _ _ _ _ _ (HT5.out.below hbb) (DM.out.one.below hbb).prg (DM.out.x.below hbb)).mono ?_
  rintro e w8 ⟨rfl, hb8⟩
  have HX8 := hid_mk (boxAt HX7.out hb8)
  replace hbb := bTrans hbb hb8
  clear hb8
  clear p0 p1 p2 p3 x0 x1 x2 x3 x4 x5 b0 b1 b2 b3 e0 e1 e2 e3 e4
  obtain ⟨p0, p1, p2, p3⟩ := blk4 (boxAt DM.out.p hbb)
  obtain ⟨x0, x1, x2, x3, x4, x5⟩ := blk6 (boxAt DM.out.w hbb)
  obtain ⟨b0, b1, b2, b3⟩ := blk4 (boxAt DM.out.b hbb)
  obtain ⟨e0, e1, e2, e3, e4⟩ := blk5 HX8.out
  go_wp2_with fail
  refine (is_5 _ _ _ (oneP 0) ⟨1, 1, 1, 1⟩ (xD 1 dn) _ _ _ _ _ (HT5.out.below hbb) (DM.out.one.below hbb).prg (DM.out.x.below hbb)).mono ?_
  rintro e w9 ⟨rfl, hb9⟩
  have HX9 := hid_mk (boxAt HX8.out hb9)
  replace hbb := bTrans hbb hb9
  clear hb9 p0 p1 p2 p3 x0 x1 x2 x3 x4 x5 b0 b1 b2 b3 e0 e1 e2 e3 e4
  have g0 : w9.cell? ⟨w2.heap.size + 1 + 1, 0, none⟩ = some (.int .i64 1) := (blk5 HX9.out).1
  have hff : ∀ o, w9.frozen? ⟨w2.heap.size + 1 + 1, o, none⟩ = false := fun o => heap_frozen HX9.out
  have hx10 : (w9.setCell ⟨w2.heap.size + 1 + 1, 0, none⟩ (.int .i64 2)).heap[w2.heap.size + 1 + 1]? = some (.cells #[.int .i64 2, .int .i64 (-1), .int .i64 1, .int .i64 0, .int .i64 0] 56) := (setCell_heap HX9.out).trans (by simp)
  have hb10 : Below v5.heap.size v5 (w9.setCell ⟨w2.heap.size + 1 + 1, 0, none⟩ (.int .i64 2)) := hbb.setCell (p := ⟨w2.heap.size + 1 + 1, 0, none⟩) (by have := HZ5.out; show v5.heap.size ≤ w2.heap.size + 1 + 1; omega) _
  have hsz9 : (w9.setCell ⟨w2.heap.size + 1 + 1, 0, none⟩ (.int .i64 2)).heap.size = w9.heap.size := by simp [World.setCell]
  have HSZ9 := hid_mk hsz9
  have hz9 : w2.heap.size + 1 + 1 < w9.heap.size := (Array.getElem?_eq_some_iff.1 HX9.out).1
  have z9 : w2.heap.size + 1 + 1 < (w9.setCell ⟨w2.heap.size + 1 + 1, 0, none⟩ (.int .i64 2)).heap.size := by omega
  have za : w1.heap.size < (w9.setCell ⟨w2.heap.size + 1 + 1, 0, none⟩ (.int .i64 2)).heap.size := by have := HZ12.out; omega
  have zb : w2.heap.size < (w9.setCell ⟨w2.heap.size + 1 + 1, 0, none⟩ (.int .i64 2)).heap.size := by omega
  have zc : w2.heap.size + 1 < (w9.setCell ⟨w2.heap.size + 1 + 1, 0, none⟩ (.int .i64 2)).heap.size := by omega
  clear hsz9
  have HBYO : Hid (∀ Y O : Obj, Below (w9.setCell ⟨w2.heap.size + 1 + 1, 0, none⟩ (.int .i64 2)).heap.size (w9.setCell ⟨w2.heap.size + 1 + 1, 0, none⟩ (.int .i64 2)) (((w9.setCell ⟨w2.heap.size + 1 + 1, 0, none⟩ (.int .i64 2)).alloc Y).alloc O)) := fun _ _ => bAlloc (bAlloc (bRefl _) _) _
  obtain ⟨p0, p1, p2, p3⟩ := blk4 (boxAt DM.out.p hb10)
  obtain ⟨x0, x1, x2, x3, x4, x5⟩ := blk6 (boxAt DM.out.w hb10)
  obtain ⟨b0, b1, b2, b3⟩ := blk4 (boxAt DM.out.b hb10)
  obtain ⟨e0, e1, e2, e3, e4⟩ := blk5 hx10
  have rp0 := fun Y O => ((HBYO.out Y O).cell (p := ⟨w1.heap.size, 0, none⟩) za).trans p0
  have rp1 := fun Y O => ((HBYO.out Y O).cell (p := ⟨w1.heap.size, 1, none⟩) za).trans p1
  have rp2 := fun Y O => ((HBYO.out Y O).cell (p := ⟨w1.heap.size, 2, none⟩) za).trans p2
  have rp3 := fun Y O => ((HBYO.out Y O).cell (p := ⟨w1.heap.size, 3, none⟩) za).trans p3
  have rx0 := fun Y O => ((HBYO.out Y O).cell (p := ⟨w2.heap.size, 0, none⟩) zb).trans x0
  have rx1 := fun Y O => ((HBYO.out Y O).cell (p := ⟨w2.heap.size, 1, none⟩) zb).trans x1
  have rx2 := fun Y O => ((HBYO.out Y O).cell (p := ⟨w2.heap.size, 2, none⟩) zb).trans x2
  have rx3 := fun Y O => ((HBYO.out Y O).cell (p := ⟨w2.heap.size, 3, none⟩) zb).trans x3
  have rx4 := fun Y O => ((HBYO.out Y O).cell (p := ⟨w2.heap.size, 4, none⟩) zb).trans x4
  have rx5 := fun Y O => ((HBYO.out Y O).cell (p := ⟨w2.heap.size, 5, none⟩) zb).trans x5
  have rb0 := fun Y O => ((HBYO.out Y O).cell (p := ⟨w2.heap.size + 1, 0, none⟩) zc).trans b0
  have rb1 := fun Y O => ((HBYO.out Y O).cell (p := ⟨w2.heap.size + 1, 1, none⟩) zc).trans b1
  have rb2 := fun Y O => ((HBYO.out Y O).cell (p := ⟨w2.heap.size + 1, 2, none⟩) zc).trans b2
  have rb3 := fun Y O => ((HBYO.out Y O).cell (p := ⟨w2.heap.size + 1, 3, none⟩) zc).trans b3
  have re0 := fun Y O => ((HBYO.out Y O).cell (p := ⟨w2.heap.size + 1 + 1, 0, none⟩) z9).trans e0
  have re1 := fun Y O => ((HBYO.out Y O).cell (p := ⟨w2.heap.size + 1 + 1, 1, none⟩) z9).trans e1
  have re2 := fun Y O => ((HBYO.out Y O).cell (p := ⟨w2.heap.size + 1 + 1, 2, none⟩) z9).trans e2
  have re3 := fun Y O => ((HBYO.out Y O).cell (p := ⟨w2.heap.size + 1 + 1, 3, none⟩) z9).trans e3
  have re4 := fun Y O => ((HBYO.out Y O).cell (p := ⟨w2.heap.size + 1 + 1, 4, none⟩) z9).trans e4
  have HX10 := hid_mk hx10
  have HB10 := hid_mk hb10
  clear hx10 hb10
  go_wp2_with fail
  have hy := heap_new2 (w := w9.setCell ⟨w2.heap.size + 1 + 1, 0, none⟩ (.int .i64 2)) (o := (.cells #[.int .i64 3, .int .i64 (-1), .int .i64 1, .int .i64 0, .int .i64 0] 56)) HSZ9.out
  have hy2 := boxAt hy (bAlloc (bRefl _) (.cells #[.int .i64 1, .int .i64 (-1), .int .i64 0, .int .i64 0, .int .i64 0] 56))
  have ho2 : (((w9.setCell ⟨w2.heap.size + 1 + 1, 0, none⟩ (.int .i64 2)).alloc (.cells #[.int .i64 3, .int .i64 (-1), .int .i64 1, .int .i64 0, .int .i64 0] 56)).alloc (.cells #[.int .i64 1, .int .i64 (-1), .int .i64 0, .int .i64 0, .int .i64 0] 56)).heap[w9.heap.size + 1]? = some (.cells #[.int .i64 1, .int .i64 (-1), .int .i64 0, .int .i64 0, .int .i64 0] 56) := heap_new2 (by have := HSZ9.out; simp at this ⊢)
  replace hbb := bTrans HB10.out (HBYO.out (.cells #[.int .i64 3, .int .i64 (-1), .int .i64 1, .int .i64 0, .int .i64 0] 56) (.cells #[.int .i64 1, .int .i64 (-1), .int .i64 0, .int .i64 0, .int .i64 0] 56))
  have hx2 := boxAt HX10.out (HBYO.out (.cells #[.int .i64 3, .int .i64 (-1), .int .i64 1, .int .i64 0, .int .i64 0] 56) (.cells #[.int .i64 1, .int .i64 (-1), .int .i64 0, .int .i64 0, .int .i64 0] 56))
  clear hy p0 p1 p2 p3 x0 x1 x2 x3 x4 x5 b0 b1 b2 b3 e0 e1 e2 e3 e4 rp0 rp1 rp2 rp3 rx0 rx1 rx2 rx3 rx4 rx5 rb0 rb1 rb2 rb3 re0 re1 re2 re3 re4 hff z9 za zb zc HBYO HB10 HX10 HSZ9
  generalize (((w9.setCell ⟨w2.heap.size + 1 + 1, 0, none⟩ (.int .i64 2)).alloc (.cells #[.int .i64 3, .int .i64 (-1), .int .i64 1, .int .i64 0, .int .i64 0] 56)).alloc (.cells #[.int .i64 1, .int .i64 (-1), .int .i64 0, .int .i64 0, .int .i64 0] 56)) = wa at hy2 ho2 hbb hx2 ⊢
  refine (is_5 _ _ _ (oneP 0) ⟨1, 1, 1, 1⟩ (xD 1 dn) _ _ _ _ _ (HT5.out.below hbb) (DM.out.one.below hbb).prg (DM.out.x.below hbb)).mono ?_
  rintro e wb ⟨rfl, hb⟩
  replace hy2 := boxAt hy2 hb
  replace ho2 := boxAt ho2 hb
  replace hx2 := boxAt hx2 hb
  replace hbb := bTrans hbb hb
  have HY := hid_mk hy2
  have HO3 := hid_mk ho2
  clear hb hy2 ho2
  obtain ⟨p0, p1, p2, p3⟩ := blk4 (boxAt DM.out.p hbb)
  obtain ⟨x0, x1, x2, x3, x4, x5⟩ := blk6 (boxAt DM.out.w hbb)
  obtain ⟨b0, b1, b2, b3⟩ := blk4 (boxAt DM.out.b hbb)
  obtain ⟨e0, e1, e2, e3, e4⟩ := blk5 HY.out
  go_wp2_with fail
  refine (is_5 _ _ _ (oneP 0) ⟨1, 1, 1, 1⟩ (xD 1 dn) _ _ _ _ _ (HT5.out.below hbb) (DM.out.one.below hbb).prg (DM.out.x.below hbb)).mono ?_
  rintro e wc ⟨rfl, hb⟩
  replace hbb := bTrans hbb hb
  have HO4 := hid_mk (boxAt HO3.out hb)
  clear hb
  clear p0 p1 p2 p3 x0 x1 x2 x3 x4 x5 b0 b1 b2 b3 e0 e1 e2 e3 e4
  obtain ⟨p0, p1, p2, p3⟩ := blk4 (boxAt DM.out.p hbb)
  obtain ⟨x0, x1, x2, x3, x4, x5⟩ := blk6 (boxAt DM.out.w hbb)
  obtain ⟨b0, b1, b2, b3⟩ := blk4 (boxAt DM.out.b hbb)
  obtain ⟨e0, e1, e2, e3, e4⟩ := blk5 HO4.out
  go_wp2_with fail
  refine (is_5 _ _ _ (oneP 0) ⟨1, 1, 1, 1⟩ (xD 1 dn) _ _ _ _ _ (HT5.out.below hbb) (DM.out.one.below hbb).prg (DM.out.x.below hbb)).mono ?_
  rintro e wd ⟨rfl, hb⟩
  replace hbb := bTrans hbb hb
  have HO5 := hid_mk (boxAt HO4.out hb)
  clear hb
  clear p0 p1 p2 p3 x0 x1 x2 x3 x4 x5 b0 b1 b2 b3 e0 e1 e2 e3 e4
  obtain ⟨p0, p1, p2, p3⟩ := blk4 (boxAt DM.out.p hbb)
  obtain ⟨x0, x1, x2, x3, x4, x5⟩ := blk6 (boxAt DM.out.w hbb)
  obtain ⟨b0, b1, b2, b3⟩ := blk4 (boxAt DM.out.b hbb)
  obtain ⟨e0, e1, e2, e3, e4⟩ := blk5 HO5.out
  go_wp2_with fail
  refine (enab_any _ _ _ (oneP 0) ⟨1, 1, 1, 1⟩ (xD 1 dn) (HT5.out.below hbb) (DM.out.one.below hbb).prg (DM.out.x.below hbb) (by rw [show (xD 1 dn).mail = (xn 0).mail from rfl, xn_mail (by decide)]; decide) (by rw [xD_len]; decide)).mono ?_
  rintro e we ⟨v, rfl, hen⟩
  have hle := HLE.out
  obtain ⟨A7, c7, rfl⟩ := hen.form
  rw [hle]
  replace hbb := bTrans hbb hen.low
  clear hen hle
  go_wp2_with fail
  refine (ewake_any _ (HT5.out.below hbb)).mono ?_
  rintro e wf ⟨rfl, hb⟩
  go_wp2_with fail
  go_ret
  exact ⟨rfl, bTrans DM.out.low (bTrans hbb hb)⟩
set_option maxHeartbeats 4000000 in
set_option maxRecDepth 100000 in
theorem down_1u (w : World) (who : Int) (ht : Tab w) (hk : rnd who 2 = 1)  : Calls Tryd.prog 9 #[.int .i64 0, .int .i64 who] w fun e w' => e = .returned (.bool true) ∧ Below w.heap.size w w' := by
  have HT := hid_mk ht
  clear ht
  have hR0 := dr0_1u
  have hR1 := dr1_1u
  have hR2 := dr2_1u
  have hR3 := dr3_1u
  have hR4 := dr4_1u
  have hR5 := dr5_1u
  have HLE := hid_mk (den_1u)
  go_enter Tryd.func9, Tryd.ntmps9
  go_wp2_with fail
  refine (one_any _).mono ?_
  rintro e w1 ⟨rfl, ho, hb1⟩
  have HO := hid_mk ho
  have HZ1 := hid_mk ho.top
  have HB1 := hid_mk hb1
  clear ho hb1
  go_wp2_with fail
  refine (oneS (n := 0) _ _ (by decide) (HT.out.below (bAlloc HB1.out _)) (HO.out.below (bAlloc (bRefl _) _)).prg).mono ?_
  rintro e w2 ⟨ga, ca, B, d, lo, hi, rfl, hwn, hb2⟩
  have hPB := boxAt (heap_new w1 (.cells #[.slice (some ⟨w.heap.size + 1, 0, none⟩) 1 1, .slice (some ⟨w.heap.size + 1 + 1, 0, none⟩) 2 2, .slice (some ⟨w.heap.size + 1 + 1 + 1, 0, none⟩) 2 2, .int .i64 5] 27)) hb2
  have HO2 := hid_mk (HO.out.below (bTrans (bAlloc (bRefl _) _) hb2))
  have HB2 := hid_mk (bTrans (bAlloc HB1.out _) hb2)
  have HWN := hid_mk hwn
  have HPB := hid_mk hPB
  obtain ⟨gg, cc, hgg, hgN, hgr⟩ : ∃ g c, (Value.slice (some ⟨ga, 0, none⟩) 2 ca) = .slice (some ⟨g, 0, none⟩) (xn 0).acts.length c ∧ (w1.alloc (.cells #[.slice (some ⟨w.heap.size + 1, 0, none⟩) 1 1, .slice (some ⟨w.heap.size + 1 + 1, 0, none⟩) 2 2, .slice (some ⟨w.heap.size + 1 + 1 + 1, 0, none⟩) 2 2, .int .i64 5] 27)).heap.size ≤ g ∧ LR g (fun _ b => Qa (w1.alloc (.cells #[.slice (some ⟨w.heap.size + 1, 0, none⟩) 1 1, .slice (some ⟨w.heap.size + 1 + 1, 0, none⟩) 2 2, .slice (some ⟨w.heap.size + 1 + 1 + 1, 0, none⟩) 2 2, .int .i64 5] 27)).heap.size lo hi b ∧ b ≠ g) w2 (xn 0).acts := by
    obtain ⟨A, c, e, hc, hl⟩ := hwn.acts
    rcases hl with ⟨e2, _⟩ | ⟨g, e2, hg, hr⟩
    · rw [xn_acts (by decide)] at e2; cases e2
    · subst e2; exact ⟨g, c, e, hg.1, hr⟩
  obtain ⟨rfl, -, rfl⟩ : ga = gg ∧ _ ∧ ca = cc := by simpa using hgg
  have hgl := hgr.lt
  have hng : ¬ w1.heap.size = ga := by simp at hgN; omega
  have ff : ∀ (X : Obj) o, (w2.alloc X).frozen? ⟨ga, o, none⟩ = false := fun X o => (hgr.below (bAlloc (bRefl _) X)).frozen o
  have gd : w2.cell? ⟨ga, 7, none⟩ = some (.int .i64 0) := (hgr.rd 1 ⟨[], false, 0, 0, 0⟩ (by rw [xn_acts (by decide)]; rfl)).2.2.1
  have gd2 : ∀ X : Obj, (w2.alloc X).cell? ⟨ga, 7, none⟩ = some (.int .i64 0) := fun X => ((bAlloc (bRefl w2) X).cell (p := ⟨ga, 7, none⟩) hgl).trans gd
  have ff2 : ∀ o, w2.frozen? ⟨ga, o, none⟩ = false := hgr.frozen
  obtain ⟨p0, p1, p2, p3⟩ := blk4 hPB
  have z1 : w1.heap.size < w2.heap.size := (Array.getElem?_eq_some_iff.1 hPB).1
  have hS5 : Same (fun b => b ≠ ga) w2 (w2.setCell ⟨ga, 7, none⟩ (.int .i64 0)) := setCell_same fun _ h => h
  have hP5 := (hS5.block w1.heap.size hng z1).trans hPB
  have hz5 : w1.heap.size < (w2.setCell ⟨ga, 7, none⟩ (.int .i64 0)).heap.size := (Array.getElem?_eq_some_iff.1 hP5).1
  clear p0 p1 p2 p3
  have HZ12 := hid_mk z1
  have HBA : Hid (∀ X Y Z : Obj, Below (w2.setCell ⟨ga, 7, none⟩ (.int .i64 0)).heap.size (w2.setCell ⟨ga, 7, none⟩ (.int .i64 0)) ((((w2.setCell ⟨ga, 7, none⟩ (.int .i64 0)).alloc X).alloc Y).alloc Z)) := fun _ _ _ => bAlloc (bAlloc (bAlloc (bRefl _) _) _) _
  obtain ⟨p0, p1, p2, p3⟩ := blk4 hP5
  have q0 := fun X Y Z => ((HBA.out X Y Z).cell (p := ⟨w1.heap.size, 0, none⟩) hz5).trans p0
  have q1 := fun X Y Z => ((HBA.out X Y Z).cell (p := ⟨w1.heap.size, 1, none⟩) hz5).trans p1
  have q2 := fun X Y Z => ((HBA.out X Y Z).cell (p := ⟨w1.heap.size, 2, none⟩) hz5).trans p2
  have q3 := fun X Y Z => ((HBA.out X Y Z).cell (p := ⟨w1.heap.size, 3, none⟩) hz5).trans p3
  clear hb2 hwn hPB hgr hgg hgN hS5 hP5
  go_wp2_with fail
  refine (round_any _ _ _ (by decide) (by decide)).mono ?_
  rw [hk]
  rintro e w' ⟨rfl, rfl⟩
  go_wp2_with fail
  have dm := down_mem (k := 1) (i := 2) (off := 7) (y := ⟨[], false, 0, 0, 0⟩) (y' := ⟨[], false, 0, 0, 0⟩) (X := xD 1 0) (v := .int .i64 0) (PV := (.cells #[.slice (some ⟨w.heap.size + 1, 0, none⟩) 1 1, .slice (some ⟨w.heap.size + 1 + 1, 0, none⟩) 2 2, .slice (some ⟨w.heap.size + 1 + 1 + 1, 0, none⟩) 2 2, .int .i64 5] 27)) (BV := (.cells #[.int .i64 1, .int .i64 1, .int .i64 1, .int .i64 1] 32)) HO2.out HB2.out HPB.out HZ1.out (by simpa using HWN.out) (by rw [xn_acts (by decide)]; rfl) rfl rfl rfl rfl rfl rfl rfl (xD_set1 _) rfl xD_sm
  generalize ((((w2.setCell ⟨ga, 7, none⟩ (.int .i64 0)).alloc (.cells #[.slice (some ⟨ga, 0, none⟩) 2 ca, .slice B (0 + 2) d, .int .i64 0, .int .i64 0, .int .i64 0, .int .i64 0] 34)).alloc (.cells #[.int .i64 1, .int .i64 1, .int .i64 1, .int .i64 1] 32))) = v5 at dm ⊢
  have DM := hid_mk dm
  have HX6 := hid_mk (heap_new2 (o := (.cells #[.int .i64 1, .int .i64 (-1), .int .i64 1, .int .i64 0, .int .i64 0] 56)) dm.z)
  have HZ5 := hid_mk dm.z
  have HT5 := hid_mk (HT.out.below dm.low)
  have hbb : Below v5.heap.size v5 (v5.alloc (.cells #[.int .i64 1, .int .i64 (-1), .int .i64 1, .int .i64 0, .int .i64 0] 56)) := bAlloc (bRefl _) _
  clear dm p0 p1 p2 p3 q0 q1 q2 q3 z1 ff ff2 gd gd2 hgl hng
  generalize (v5.alloc (.cells #[.int .i64 1, .int .i64 (-1), .int .i64 1, .int .i64 0, .int .i64 0] 56)) = w6 at hbb HX6 ⊢
  refine (is_5 _ _ _ (oneP 0) ⟨1, 1, 1, 1⟩ (xD 1 0) _ _ _ _ _ (HT5.out.below hbb) (DM.out.one.below hbb).prg (DM.out.x.below hbb)).mono ?_
  rintro e w7 ⟨rfl, hb7⟩
  have HX7 := hid_mk (boxAt HX6.out hb7)
  replace hbb := bTrans hbb hb7
  clear hb7
  obtain ⟨p0, p1, p2, p3⟩ := blk4 (boxAt DM.out.p hbb)
  obtain ⟨x0, x1, x2, x3, x4, x5⟩ := blk6 (boxAt DM.out.w hbb)
  obtain ⟨b0, b1, b2, b3⟩ := blk4 (boxAt DM.out.b hbb)
  obtain ⟨e0, e1, e2, e3, e4⟩ := blk5 HX7.out
  go_wp2_with fail
  refine (is_5 _ _ _ (oneP 0) ⟨1, 1, 1, 1⟩ (xD 1 0) _ _ _ _ _ (HT5.out.below hbb) (DM.out.one.below hbb).prg (DM.out.x.below hbb)).mono ?_
  rintro e w8 ⟨rfl, hb8⟩
  have HX8 := hid_mk (boxAt HX7.out hb8)
  replace hbb := bTrans hbb hb8
  clear hb8
  clear p0 p1 p2 p3 x0 x1 x2 x3 x4 x5 b0 b1 b2 b3 e0 e1 e2 e3 e4
  obtain ⟨p0, p1, p2, p3⟩ := blk4 (boxAt DM.out.p hbb)
  obtain ⟨x0, x1, x2, x3, x4, x5⟩ := blk6 (boxAt DM.out.w hbb)
  obtain ⟨b0, b1, b2, b3⟩ := blk4 (boxAt DM.out.b hbb)
  obtain ⟨e0, e1, e2, e3, e4⟩ := blk5 HX8.out
  go_wp2_with fail
  refine (is_5 _ _ _ (oneP 0) ⟨1, 1, 1, 1⟩ (xD 1 0) _ _ _ _ _ (HT5.out.below hbb) (DM.out.one.below hbb).prg (DM.out.x.below hbb)).mono ?_
  rintro e w9 ⟨rfl, hb9⟩
  have HX9 := hid_mk (boxAt HX8.out hb9)
  replace hbb := bTrans hbb hb9
  clear hb9 p0 p1 p2 p3 x0 x1 x2 x3 x4 x5 b0 b1 b2 b3 e0 e1 e2 e3 e4
  have g0 : w9.cell? ⟨w2.heap.size + 1 + 1, 0, none⟩ = some (.int .i64 1) := (blk5 HX9.out).1
  have hff : ∀ o, w9.frozen? ⟨w2.heap.size + 1 + 1, o, none⟩ = false := fun o => heap_frozen HX9.out
  have hx10 : (w9.setCell ⟨w2.heap.size + 1 + 1, 0, none⟩ (.int .i64 2)).heap[w2.heap.size + 1 + 1]? = some (.cells #[.int .i64 2, .int .i64 (-1), .int .i64 1, .int .i64 0, .int .i64 0] 56) := (setCell_heap HX9.out).trans (by simp)
  have hb10 : Below v5.heap.size v5 (w9.setCell ⟨w2.heap.size + 1 + 1, 0, none⟩ (.int .i64 2)) := hbb.setCell (p := ⟨w2.heap.size + 1 + 1, 0, none⟩) (by have := HZ5.out; show v5.heap.size ≤ w2.heap.size + 1 + 1; omega) _
  have hsz9 : (w9.setCell ⟨w2.heap.size + 1 + 1, 0, none⟩ (.int .i64 2)).heap.size = w9.heap.size := by simp [World.setCell]
  have HSZ9 := hid_mk hsz9
  have hz9 : w2.heap.size + 1 + 1 < w9.heap.size := (Array.getElem?_eq_some_iff.1 HX9.out).1
  have z9 : w2.heap.size + 1 + 1 < (w9.setCell ⟨w2.heap.size + 1 + 1, 0, none⟩ (.int .i64 2)).heap.size := by omega
  have za : w1.heap.size < (w9.setCell ⟨w2.heap.size + 1 + 1, 0, none⟩ (.int .i64 2)).heap.size := by have := HZ12.out; omega
  have zb : w2.heap.size < (w9.setCell ⟨w2.heap.size + 1 + 1, 0, none⟩ (.int .i64 2)).heap.size := by omega
  have zc : w2.heap.size + 1 < (w9.setCell ⟨w2.heap.size + 1 + 1, 0, none⟩ (.int .i64 2)).heap.size := by omega
  clear hsz9
  have HBYO : Hid (∀ Y O : Obj, Below (w9.setCell ⟨w2.heap.size + 1 + 1, 0, none⟩ (.int .i64 2)).heap.size (w9.setCell ⟨w2.heap.size + 1 + 1, 0, none⟩ (.int .i64 2)) (((w9.setCell ⟨w2.heap.size + 1 + 1, 0, none⟩ (.int .i64 2)).alloc Y).alloc O)) := fun _ _ => bAlloc (bAlloc (bRefl _) _) _
  obtain ⟨p0, p1, p2, p3⟩ := blk4 (boxAt DM.out.p hb10)
  obtain ⟨x0, x1, x2, x3, x4, x5⟩ := blk6 (boxAt DM.out.w hb10)
  obtain ⟨b0, b1, b2, b3⟩ := blk4 (boxAt DM.out.b hb10)
  obtain ⟨e0, e1, e2, e3, e4⟩ := blk5 hx10
  have rp0 := fun Y O => ((HBYO.out Y O).cell (p := ⟨w1.heap.size, 0, none⟩) za).trans p0
  have rp1 := fun Y O => ((HBYO.out Y O).cell (p := ⟨w1.heap.size, 1, none⟩) za).trans p1
  have rp2 := fun Y O => ((HBYO.out Y O).cell (p := ⟨w1.heap.size, 2, none⟩) za).trans p2
  have rp3 := fun Y O => ((HBYO.out Y O).cell (p := ⟨w1.heap.size, 3, none⟩) za).trans p3
  have rx0 := fun Y O => ((HBYO.out Y O).cell (p := ⟨w2.heap.size, 0, none⟩) zb).trans x0
  have rx1 := fun Y O => ((HBYO.out Y O).cell (p := ⟨w2.heap.size, 1, none⟩) zb).trans x1
  have rx2 := fun Y O => ((HBYO.out Y O).cell (p := ⟨w2.heap.size, 2, none⟩) zb).trans x2
  have rx3 := fun Y O => ((HBYO.out Y O).cell (p := ⟨w2.heap.size, 3, none⟩) zb).trans x3
  have rx4 := fun Y O => ((HBYO.out Y O).cell (p := ⟨w2.heap.size, 4, none⟩) zb).trans x4
  have rx5 := fun Y O => ((HBYO.out Y O).cell (p := ⟨w2.heap.size, 5, none⟩) zb).trans x5
  have rb0 := fun Y O => ((HBYO.out Y O).cell (p := ⟨w2.heap.size + 1, 0, none⟩) zc).trans b0
  have rb1 := fun Y O => ((HBYO.out Y O).cell (p := ⟨w2.heap.size + 1, 1, none⟩) zc).trans b1
  have rb2 := fun Y O => ((HBYO.out Y O).cell (p := ⟨w2.heap.size + 1, 2, none⟩) zc).trans b2
  have rb3 := fun Y O => ((HBYO.out Y O).cell (p := ⟨w2.heap.size + 1, 3, none⟩) zc).trans b3
  have re0 := fun Y O => ((HBYO.out Y O).cell (p := ⟨w2.heap.size + 1 + 1, 0, none⟩) z9).trans e0
  have re1 := fun Y O => ((HBYO.out Y O).cell (p := ⟨w2.heap.size + 1 + 1, 1, none⟩) z9).trans e1
  have re2 := fun Y O => ((HBYO.out Y O).cell (p := ⟨w2.heap.size + 1 + 1, 2, none⟩) z9).trans e2
  have re3 := fun Y O => ((HBYO.out Y O).cell (p := ⟨w2.heap.size + 1 + 1, 3, none⟩) z9).trans e3
  have re4 := fun Y O => ((HBYO.out Y O).cell (p := ⟨w2.heap.size + 1 + 1, 4, none⟩) z9).trans e4
  have HX10 := hid_mk hx10
  have HB10 := hid_mk hb10
  clear hx10 hb10
  go_wp2_with fail
  have hy := heap_new2 (w := w9.setCell ⟨w2.heap.size + 1 + 1, 0, none⟩ (.int .i64 2)) (o := (.cells #[.int .i64 3, .int .i64 (-1), .int .i64 1, .int .i64 0, .int .i64 0] 56)) HSZ9.out
  have hy2 := boxAt hy (bAlloc (bRefl _) (.cells #[.int .i64 1, .int .i64 (-1), .int .i64 0, .int .i64 0, .int .i64 0] 56))
  have ho2 : (((w9.setCell ⟨w2.heap.size + 1 + 1, 0, none⟩ (.int .i64 2)).alloc (.cells #[.int .i64 3, .int .i64 (-1), .int .i64 1, .int .i64 0, .int .i64 0] 56)).alloc (.cells #[.int .i64 1, .int .i64 (-1), .int .i64 0, .int .i64 0, .int .i64 0] 56)).heap[w9.heap.size + 1]? = some (.cells #[.int .i64 1, .int .i64 (-1), .int .i64 0, .int .i64 0, .int .i64 0] 56) := heap_new2 (by have := HSZ9.out; simp at this ⊢)
  replace hbb := bTrans HB10.out (HBYO.out (.cells #[.int .i64 3, .int .i64 (-1), .int .i64 1, .int .i64 0, .int .i64 0] 56) (.cells #[.int .i64 1, .int .i64 (-1), .int .i64 0, .int .i64 0, .int .i64 0] 56))
  have hx2 := boxAt HX10.out (HBYO.out (.cells #[.int .i64 3, .int .i64 (-1), .int .i64 1, .int .i64 0, .int .i64 0] 56) (.cells #[.int .i64 1, .int .i64 (-1), .int .i64 0, .int .i64 0, .int .i64 0] 56))
  clear hy p0 p1 p2 p3 x0 x1 x2 x3 x4 x5 b0 b1 b2 b3 e0 e1 e2 e3 e4 rp0 rp1 rp2 rp3 rx0 rx1 rx2 rx3 rx4 rx5 rb0 rb1 rb2 rb3 re0 re1 re2 re3 re4 hff z9 za zb zc HBYO HB10 HX10 HSZ9
  generalize (((w9.setCell ⟨w2.heap.size + 1 + 1, 0, none⟩ (.int .i64 2)).alloc (.cells #[.int .i64 3, .int .i64 (-1), .int .i64 1, .int .i64 0, .int .i64 0] 56)).alloc (.cells #[.int .i64 1, .int .i64 (-1), .int .i64 0, .int .i64 0, .int .i64 0] 56)) = wa at hy2 ho2 hbb hx2 ⊢
  refine (is_5 _ _ _ (oneP 0) ⟨1, 1, 1, 1⟩ (xD 1 0) _ _ _ _ _ (HT5.out.below hbb) (DM.out.one.below hbb).prg (DM.out.x.below hbb)).mono ?_
  rintro e wb ⟨rfl, hb⟩
  replace hy2 := boxAt hy2 hb
  replace ho2 := boxAt ho2 hb
  replace hx2 := boxAt hx2 hb
  replace hbb := bTrans hbb hb
  have HY := hid_mk hy2
  have HO3 := hid_mk ho2
  clear hb hy2 ho2
  obtain ⟨p0, p1, p2, p3⟩ := blk4 (boxAt DM.out.p hbb)
  obtain ⟨x0, x1, x2, x3, x4, x5⟩ := blk6 (boxAt DM.out.w hbb)
  obtain ⟨b0, b1, b2, b3⟩ := blk4 (boxAt DM.out.b hbb)
  obtain ⟨e0, e1, e2, e3, e4⟩ := blk5 HY.out
  go_wp2_with fail
  refine (is_5 _ _ _ (oneP 0) ⟨1, 1, 1, 1⟩ (xD 1 0) _ _ _ _ _ (HT5.out.below hbb) (DM.out.one.below hbb).prg (DM.out.x.below hbb)).mono ?_
  rintro e wc ⟨rfl, hb⟩
  replace hbb := bTrans hbb hb
  have HO4 := hid_mk (boxAt HO3.out hb)
  clear hb
  clear p0 p1 p2 p3 x0 x1 x2 x3 x4 x5 b0 b1 b2 b3 e0 e1 e2 e3 e4
  obtain ⟨p0, p1, p2, p3⟩ := blk4 (boxAt DM.out.p hbb)
  obtain ⟨x0, x1, x2, x3, x4, x5⟩ := blk6 (boxAt DM.out.w hbb)
  obtain ⟨b0, b1, b2, b3⟩ := blk4 (boxAt DM.out.b hbb)
  obtain ⟨e0, e1, e2, e3, e4⟩ := blk5 HO4.out
  go_wp2_with fail
  refine (is_5 _ _ _ (oneP 0) ⟨1, 1, 1, 1⟩ (xD 1 0) _ _ _ _ _ (HT5.out.below hbb) (DM.out.one.below hbb).prg (DM.out.x.below hbb)).mono ?_
  rintro e wd ⟨rfl, hb⟩
  replace hbb := bTrans hbb hb
  have HO5 := hid_mk (boxAt HO4.out hb)
  clear hb
  clear p0 p1 p2 p3 x0 x1 x2 x3 x4 x5 b0 b1 b2 b3 e0 e1 e2 e3 e4
  obtain ⟨p0, p1, p2, p3⟩ := blk4 (boxAt DM.out.p hbb)
  obtain ⟨x0, x1, x2, x3, x4, x5⟩ := blk6 (boxAt DM.out.w hbb)
  obtain ⟨b0, b1, b2, b3⟩ := blk4 (boxAt DM.out.b hbb)
  obtain ⟨e0, e1, e2, e3, e4⟩ := blk5 HO5.out
  go_wp2_with fail
  refine (enab_any _ _ _ (oneP 0) ⟨1, 1, 1, 1⟩ (xD 1 0) (HT5.out.below hbb) (DM.out.one.below hbb).prg (DM.out.x.below hbb) (by rw [show (xD 1 0).mail = (xn 0).mail from rfl, xn_mail (by decide)]; decide) (by rw [xD_len]; decide)).mono ?_
  rintro e we ⟨v, rfl, hen⟩
  have hle := HLE.out
  obtain ⟨A7, c7, rfl⟩ := hen.form
  rw [hle]
  replace hbb := bTrans hbb hen.low
  clear hen hle
  go_wp2_with fail
  refine (ewake_any _ (HT5.out.below hbb)).mono ?_
  rintro e wf ⟨rfl, hb⟩
  go_wp2_with fail
  go_ret
  exact ⟨rfl, bTrans DM.out.low (bTrans hbb hb)⟩
theorem down_o0 (w : World) (dn who : Int) (ht : Tab w) (h0 : dn < 0) : Calls Tryd.prog 9 #[.int .i64 dn, .int .i64 who] w fun e w' => e = .returned (.bool true) ∧ Below w.heap.size w w' := by
  have HT := hid_mk ht
  have d0 : decide (dn < 0) = true := decide_eq_true h0
  clear ht h0
  go_enter Tryd.func9, Tryd.ntmps9
  go_wp2_with (first | (go_at_call 22; refine (ewake_any _ HT.out).mono ?_; rintro e w2 ⟨rfl, hb2⟩))
  go_ret
  exact ⟨rfl, hb2⟩
theorem down_o1 (w : World) (dn who : Int) (ht : Tab w) (h0 : ¬ dn < 0) (h1 : 4 < dn) : Calls Tryd.prog 9 #[.int .i64 dn, .int .i64 who] w fun e w' => e = .returned (.bool true) ∧ Below w.heap.size w w' := by
  have HT := hid_mk ht
  have d0 : decide (dn < 0) = false := decide_eq_false h0
  have d1 : decide (4 < dn) = true := decide_eq_true h1
  clear ht h0 h1
  go_enter Tryd.func9, Tryd.ntmps9
  go_wp2_with (first | (go_at_call 22; refine (ewake_any _ HT.out).mono ?_; rintro e w2 ⟨rfl, hb2⟩))
  go_ret
  exact ⟨rfl, hb2⟩
theorem edown_any (w : World) (dn who : Int) (ht : Tab w) : Calls Tryd.prog 9 #[.int .i64 dn, .int .i64 who] w fun e w' => e = .returned (.bool true) ∧ Below w.heap.size w w' := by
  by_cases h0 : dn < 0
  · exact down_o0 w dn who ht h0
  by_cases h1 : 4 < dn
  · exact down_o1 w dn who ht h0 h1
  obtain ⟨r0, r1⟩ := rnd_bd who (n := 2) (by decide)
  have h4 : rnd who 2 = 0 ∨ rnd who 2 = 1 := by omega
  by_cases h2 : dn = 0
  · subst h2
    rcases h4 with h | h
    · exact down_0u w who ht h
    · exact down_1u w who ht h
  · rcases h4 with h | h
    · exact down_0d w who dn ht h (by omega) (by omega)
    · exact down_1d w who dn ht h (by omega) (by omega)
end Go.Proofs.YtflpkdhmkgidiaaDoor
