/-
  What the fifth law's programs come to, as plain data. No conditions.
-/
import Derived.Test.YtpcffhhednplaaaDoorVk
namespace Go.Proofs.YtpcffhhednplaaaDoor
open Go.RowKit
def s1 (a b : Int) : List PIns := [⟨1, a⟩, ⟨1, b⟩, ⟨4, 0⟩, ⟨3, 0⟩, ⟨2, 0⟩, ⟨6, 0⟩, ⟨6, 1⟩]
def s2 (a : Int) : List PIns := [⟨1, a⟩, ⟨3, 0⟩, ⟨10, 0⟩, ⟨6, 0⟩]
theorem fs1 (a b : Int) : fc (oneP 20 (s1 a b)) = 0 := one_fc (l := [0, 1, 2, 2, 3, 2, 1, 0]) (by decide) (by show 7 ≤ 64; decide) (chk_all (by rfl)) (goodB_good (pr := prv) (by rfl))
theorem fs2 (a : Int) : fc (oneP 20 (s2 a)) = 0 := one_fc (l := [0, 1, 2, 1, 0]) (by decide) (by show 4 ≤ 64; decide) (chk_all (by rfl)) (goodB_good (pr := prv) (by rfl))
def rs1 (a b : Int) : PRes := ⟨⟨[a, b], false, 0, 0, 0⟩, [], 7⟩
def rs2 : PRes := ⟨⟨[0, 8], false, 0, 0, 0⟩, [], 4⟩
theorem w64 : wrap64 0 = 0 := wrap_inN ⟨by decide, by decide⟩
theorem es1 (a b : Int) : runP (oneP 20 (s1 a b)) 0 (locP 7 8) 0 [] = rs1 a b := (one_run (one_may (fs1 a b) (by decide) (by decide) rfl)).trans (by
  show fin (locP 7 8) (rn (oneP 20 (s1 a b)) 0 [] (s1 a b) 20 (ms0 (locP 7 8))) = rs1 a b
  simp [rn, stp, fin, ms0, locP, s1, hd0, rs1, w64])
theorem es2 (a : Int) : runP (oneP 20 (s2 a)) 0 (locP 7 8) 0 [] = rs2 := (one_run (one_may (fs2 a) (by decide) (by decide) rfl)).trans (by
  show fin (locP 7 8) (rn (oneP 20 (s2 a)) 0 [] (s2 a) 20 (ms0 (locP 7 8))) = rs2
  simp [rn, stp, fin, ms0, locP, s2, hd0, rs2, tw, dn, w64])
end Go.Proofs.YtpcffhhednplaaaDoor
