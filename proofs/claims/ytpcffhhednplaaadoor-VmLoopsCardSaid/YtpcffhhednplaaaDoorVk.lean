/-
  The programs that the document fixes: when they may run, and what comes of them. No conditions.
-/
import Derived.Test.YtpcffhhednplaaaDoorVb
namespace Go.Proofs.YtpcffhhednplaaaDoor
open Go.RowKit
def k1 : List PIns := [⟨5, 0⟩, ⟨1, 2⟩, ⟨11, 0⟩, ⟨6, 1⟩, ⟨8, 0⟩, ⟨22, 0⟩, ⟨23, 0⟩]
def k2 : List PIns := [⟨20, 0⟩]
def k3 : List PIns := [⟨1, 0⟩, ⟨1, 0⟩, ⟨12, 0⟩]
def k4 : List PIns := [⟨1, 2⟩, ⟨22, 0⟩]
def prv (k : Nat) : Nat := k - 1
theorem chk_all {code : List PIns} (h : code.all (fun i => decide (chkI code.length 0 1 i = 0)) = true) : ∀ i ∈ code, chkI code.length 0 1 i = 0 := fun i hi => by
  have := List.all_eq_true.1 h i hi
  exact of_decide_eq_true this
theorem f1 : fc (oneP 10 k1) = 0 := one_fc (l := [0, 1, 2, 1, 0, 1, 0, 0]) (by decide) (by decide) (chk_all (by decide +kernel)) (goodB_good (pr := prv) (by decide +kernel))
theorem f2 : fc (oneP 10 k2) = 0 := one_fc (l := [0, -1]) (by decide) (by decide) (chk_all (by decide +kernel)) (goodB_good (pr := prv) (by decide +kernel))
theorem f3 : fc (oneP 10 k3) = 0 := one_fc (l := [0, 1, 2, 1]) (by decide) (by decide) (chk_all (by decide +kernel)) (goodB_good (pr := prv) (by decide +kernel))
theorem f4 : fc (oneP 10 k4) = 0 := one_fc (l := [0, 1, 0]) (by decide) (by decide) (chk_all (by decide +kernel)) (goodB_good (pr := prv) (by decide +kernel))
def r1 : PRes := ⟨⟨[7, 14], true, 0, 1, 0⟩, [⟨0, 0, []⟩], 7⟩
def r2 : PRes := ⟨⟨[1, 2], false, 2, 0, 0⟩, [], 10⟩
def r3 : PRes := ⟨⟨[1, 2], false, 3, 0, 0⟩, [], 3⟩
def r4 : PRes := ⟨⟨[1, 2], false, 4, 0, 0⟩, [], 2⟩
theorem e1 : runP (oneP 10 k1) 0 (locP 7 0) 0 [] = r1 := (one_run (one_may f1 (by decide) (by decide) rfl)).trans (by decide +kernel)
theorem e2 : runP (oneP 10 k2) 0 (locP 1 2) 0 [] = r2 := (one_run (one_may f2 (by decide) (by decide) rfl)).trans (by decide +kernel)
theorem e3 : runP (oneP 10 k3) 0 (locP 1 2) 0 [] = r3 := (one_run (one_may f3 (by decide) (by decide) rfl)).trans (by decide +kernel)
theorem e4 : runP (oneP 10 k4) 0 (locP 1 2) 0 [] = r4 := (one_run (one_may f4 (by decide) (by decide) rfl)).trans (by decide +kernel)
theorem m1 : mayB (oneP 10 k1) 2 (locP 0 0) 0 [] = false := mayB_no fun h => by have := h.2.1.2; exact absurd this (by decide)
theorem m2 : mayB (oneP 10 k1) 0 (locP 0 0) 0 [] = true := mayB_yes (one_may f1 (by decide) (by decide) rfl)
end Go.Proofs.YtpcffhhednplaaaDoor
