/-
 Whom the deliveries of chapter 12's laws touch, plainly (P12.1). Condition: so many notes, to the four or to nobody.
-/
import Derived.Test.YtfbeiedhdmndnaaGreatDoorUa
import Derived.Test.YtfbeiedhdmndnaaGreatDoorTe
namespace Go.Proofs.YtfbeiedhdmndnaaGreatDoor
open Go.RowKit
theorem run_net0m (l : List Int) : (runQ (netP l) 0 nloc 0 [-1]).notes = [] := by kernel_rfl
theorem run_net00 (l : List Int) : (runQ (netP l) 0 nloc 0 [0]).notes = [⟨0, 0, [-1]⟩] := by kernel_rfl
theorem run_net01 (l : List Int) : (runQ (netP l) 0 nloc 0 [1]).notes = [⟨1, 0, [-1]⟩] := by kernel_rfl
theorem run_net02 (l : List Int) : (runQ (netP l) 0 nloc 0 [2]).notes = [⟨2, 0, [-1]⟩] := by kernel_rfl
theorem run_net03 (l : List Int) : (runQ (netP l) 0 nloc 0 [3]).notes = [⟨3, 0, [-1]⟩] := by kernel_rfl
theorem run_net1m (l : List Int) : (runQ (netP l) 1 nloc 0 [-1]).notes = [] := by kernel_rfl
theorem run_net10 (l : List Int) : (runQ (netP l) 1 nloc 0 [0]).notes = [⟨0, 0, [-1]⟩] := by kernel_rfl
theorem run_net11 (l : List Int) : (runQ (netP l) 1 nloc 0 [1]).notes = [⟨1, 0, [-1]⟩] := by kernel_rfl
theorem run_net12 (l : List Int) : (runQ (netP l) 1 nloc 0 [2]).notes = [⟨2, 0, [-1]⟩] := by kernel_rfl
theorem run_net13 (l : List Int) : (runQ (netP l) 1 nloc 0 [3]).notes = [⟨3, 0, [-1]⟩] := by kernel_rfl
theorem run_net2m (l : List Int) : (runQ (netP l) 2 nloc 0 [-1]).notes = [] := by kernel_rfl
theorem run_net20 (l : List Int) : (runQ (netP l) 2 nloc 0 [0]).notes = [⟨0, 0, [-1]⟩] := by kernel_rfl
theorem run_net21 (l : List Int) : (runQ (netP l) 2 nloc 0 [1]).notes = [⟨1, 0, [-1]⟩] := by kernel_rfl
theorem run_net22 (l : List Int) : (runQ (netP l) 2 nloc 0 [2]).notes = [⟨2, 0, [-1]⟩] := by kernel_rfl
theorem run_net23 (l : List Int) : (runQ (netP l) 2 nloc 0 [3]).notes = [⟨3, 0, [-1]⟩] := by kernel_rfl
theorem run_net3m (l : List Int) : (runQ (netP l) 3 nloc 0 [-1]).notes = [] := by kernel_rfl
theorem run_net30 (l : List Int) : (runQ (netP l) 3 nloc 0 [0]).notes = [⟨0, 0, [-1]⟩] := by kernel_rfl
theorem run_net31 (l : List Int) : (runQ (netP l) 3 nloc 0 [1]).notes = [⟨1, 0, [-1]⟩] := by kernel_rfl
theorem run_net32 (l : List Int) : (runQ (netP l) 3 nloc 0 [2]).notes = [⟨2, 0, [-1]⟩] := by kernel_rfl
theorem run_net33 (l : List Int) : (runQ (netP l) 3 nloc 0 [3]).notes = [⟨3, 0, [-1]⟩] := by kernel_rfl
theorem four {j : Nat} (h : j < 4) : j = 0 ∨ j = 1 ∨ j = 2 ∨ j = 3 := by omega
theorem run_net (l : List Int) {j : Nat} (hj : j < 4) {v : Int} (hv : -1 ≤ v ∧ v ≤ 3) : (runQ (netP l) (j : Int) nloc 0 [v]).notes = if 0 ≤ v then [⟨v, 0, [-1]⟩] else [] := by
 have h5 : v = -1 ∨ v = 0 ∨ v = 1 ∨ v = 2 ∨ v = 3 := by omega
 rcases four hj with rfl | rfl | rfl | rfl <;> rcases h5 with rfl | rfl | rfl | rfl | rfl
 ·exact run_net0m l
 ·exact run_net00 l
 ·exact run_net01 l
 ·exact run_net02 l
 ·exact run_net03 l
 ·exact run_net1m l
 ·exact run_net10 l
 ·exact run_net11 l
 ·exact run_net12 l
 ·exact run_net13 l
 ·exact run_net2m l
 ·exact run_net20 l
 ·exact run_net21 l
 ·exact run_net22 l
 ·exact run_net23 l
 ·exact run_net3m l
 ·exact run_net30 l
 ·exact run_net31 l
 ·exact run_net32 l
 ·exact run_net33 l
theorem net_at (l : List Int) {j : Nat} (hj : j < 4) : (netW l).acts[j]? = some nloc := by
 rcases four hj with rfl | rfl | rfl | rfl <;> rfl
theorem net_mem {l : List Int} {i : Nat} (hi : i < l.length) : nMsg l i ∈ (netW l).mail := List.mem_map.2 ⟨i, List.mem_range.2 hi, rfl⟩
theorem net_of {l : List Int} {i : Nat} {κ : Int} (hi : i < l.length) (hk : κ = 1 ∨ κ = 2 ∨ κ = 3) : Of (netW l) ⟨κ, ⟨-1, (i : Int), 0⟩, 0⟩ (i % 4) nloc (nMsg l i) :=
 ⟨net_at l (Nat.mod_lt _ (by decide)), fun _ => ⟨net_mem hi, rfl, rfl⟩, fun h => by have h' : κ = 4 ∨ κ = 5 := h; omega, fun h => by have h' : κ = 4 ∨ κ = 5 := h; omega⟩
theorem net_is {l : List Int} {i : Nat} (hl : l.length ≤ 8) (hi : i < l.length) {b : PBud} (hb : mayB b = true) : isP (netP l) b (netW l) (mailE (i : Int)) = true := by
 have hw := net_wk hl
 have hL : isL (leftB b (netW l).used) (netW l) (mailE (i : Int)) = true := by
  refine (isL_mem hw.srt _).2 ?_
  rw [mem_enQ, mem_enP]
  refine Or.inl ⟨1, by decide, by decide, ?_⟩
  rw [mem_gM]
  refine ⟨nMsg l i, net_mem hi, ?_, rfl⟩
  unfold ofM
  rw [if_pos (by rfl)]
  have e : (netW l).acts.getD (nMsg l i).nt.to.toNat default = nloc := by
   show (netW l).acts.getD (((i % 4 : Nat) : Int)).toNat default = nloc
   rw [Int.toNat_natCast]
   exact getD_at (net_at l (Nat.mod_lt _ (by decide)))
  rw [e]; rfl
 unfold isP fitsP
 rw [hb, hw.chk (by decide) (by decide), hL]; rfl
/-- Whom a delivery touches. -/
theorem who_net {l : List Int} {i : Nat} (hl : l.length ≤ 8) (hi : i < l.length) (hv : -1 ≤ l.getD i 0 ∧ l.getD i 0 ≤ 3) : whoP (netP l) (netW l) (mailE (i : Int)) = risI (((i % 4 : Nat) : Int) :: if 0 ≤ l.getD i 0 then [l.getD i 0] else []) := by
 have hw := net_wk hl
 have hn : nD (netP l) 1 (i % 4) nloc (nMsg l i) = if 0 ≤ l.getD i 0 then [⟨l.getD i 0, 0, [-1]⟩] else [] := by
  unfold nD
  rw [if_pos rfl, runP_Q (net_fc hl)]
  exact run_net l (Nat.mod_lt _ (by decide)) hv
 have h := who_of (b := ⟨0, 0, 0, 0⟩) hw (by decide) (by decide) (net_is hl hi (by decide)) (net_of (κ := 1) hi (Or.inl rfl))
 have h2 : whoP (netP l) (netW l) (mailE (i : Int)) = risI (((i % 4 : Nat) : Int) :: (nD (netP l) 1 (i % 4) nloc (nMsg l i)).map (·.to)) := h
 rw [h2, hn]
 split <;> rfl
theorem who_not {l : List Int} {i : Nat} (hi : l.length ≤ i) : whoP (netP l) (netW l) (mailE (i : Int)) = [] := by
 refine whoP_none ?_
 have hf : fnd (netW l).mail ⟨-1, (i : Int), 0⟩ = -1 := fnd_iff.2 fun x hx => by
  have hx' : x ∈ (List.range l.length).map (nMsg l) := hx
  rw [List.mem_map] at hx'
  obtain ⟨j, hj, rfl⟩ := hx'
  rw [List.mem_range] at hj
  intro e
  have : (j : Int) = i := congrArg PID.n e
  omega
 unfold whoseP mailE
 rw [if_pos (Or.inl rfl), if_neg (by rw [hf]; decide)]
/-! ### The fixed one -/
def aL : List Int := [-1, 2, 1]
theorem tw_0 : whoP (netP aL) (netW aL) (mailE 0) = [0] := (who_net (l := aL) (i := 0) (by decide) (by decide) (by decide)).trans (ris_self (by decide))
theorem tw_1 : whoP (netP aL) (netW aL) (mailE 1) = [1, 2] := (who_net (l := aL) (i := 1) (by decide) (by decide) (by decide)).trans (ris_self (by decide))
theorem tw_2 : whoP (netP aL) (netW aL) (mailE 2) = [1, 2] := (who_net (l := aL) (i := 2) (by decide) (by decide) (by decide)).trans ((ris_eq (l' := [1, 2]) (fun x => by simp [aL]; omega)).trans (ris_self (by decide)))
theorem tw_5 : whoP (netP aL) (netW aL) (mailE 5) = [] := who_not (l := aL) (i := 5) (by decide)
theorem tw_f01 : freeP (netP aL) (netW aL) (mailE 0) (mailE 1) = true := by unfold freeP; rw [tw_0, tw_1]; decide
theorem tw_f12 : freeP (netP aL) (netW aL) (mailE 1) (mailE 2) = false := by unfold freeP; rw [tw_1, tw_2]; decide
theorem tw_f00 : freeP (netP aL) (netW aL) (mailE 0) (mailE 0) = false := by unfold freeP; rw [tw_0]; decide
end Go.Proofs.YtfbeiedhdmndnaaGreatDoor
