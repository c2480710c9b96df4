/-
  The first law of chapter 7, for every text. Conditions: numbers of 64 bits; what it reads is there.
-/
import Derived.Test.YtdgialhigibnlaaDoorLt
namespace Go.Proofs.YtdgialhigibnlaaDoor
open Go.RowKit
attribute [local go_sem ↓] Go.wp_at_zero Go.wp_at_succ
set_option maxHeartbeats 1000000 in
set_option maxRecDepth 100000 in
theorem tells_long (w : World) (he : Env w) (a b : PID) (x y : PEv) (s : List UInt8) (hl : 300 < s.length) :
    Calls Tryd.prog 3 #[dV a, dV b, eV x, eV y, .string (bs s)] w fun e w' => e = .returned (.bool true) ∧ Below w.heap.size w w' := by
  have HE : Hid (Env w) := he
  have hz : (bs s).size = s.length := bs_size s
  clear he
  go_enter Tryd.func3, Tryd.ntmps3
  go_wp2_with fail
  refine (awake_any _ (HE.out.below (bAlloc (bAlloc (bAlloc (bAlloc (bRefl w) _) _) _) _))).mono ?_
  rintro e w9 ⟨rfl, hb⟩
  go_wp2_with fail
  go_ret
  exact ⟨rfl, bTrans (bAlloc (bAlloc (bAlloc (bAlloc (bRefl w) _) _) _) _) hb⟩
theorem tells_any (w : World) (he : Env w) (a b : PID) (x y : PEv) (z : ByteArray) (ra : RgD a) (rx : RgE x) :
    Calls Tryd.prog 3 #[dV a, dV b, eV x, eV y, .string z] w fun e w' => e = .returned (.bool true) ∧ Below w.heap.size w w' := by
  rw [bs_of z]
  by_cases h : z.data.toList.length ≤ 300
  · exact tells_short w he a b x y _ ra rx h
  · exact tells_long w he a b x y _ (by omega)
end Go.Proofs.YtdgialhigibnlaaDoor
