/-
 The events of chapter 12's laws: what mail and fault answer.
-/
import Derived.Test.YtfbeiedhdmndnaaGreatDoorTf
import Derived.Test.YtfbeiedhdmndnaaGreatDoorUa
namespace Go.Proofs.YtfbeiedhdmndnaaGreatDoor
open Go.RowKit
attribute [local go_sem ↓] Go.wp_at_zero Go.wp_at_succ
set_option maxHeartbeats 4000000 in
theorem tmail_any (W : World) (i : Int) : Calls Tryz.prog 32 #[.int .i64 i] W fun e w' => e = .returned (eVal (mailE i)) ∧ Below W.heap.size W w' := by
 go_enter Tryz.func32, Tryz.ntmps32
 go_wp2_with fail
 exact bodyPost_ret (v := eVal (mailE i)) (by simp [results, Tryz.results32, go_sem, eVal, mailE]) rfl ⟨rfl, bAlloc (bRefl _) _⟩
end Go.Proofs.YtfbeiedhdmndnaaGreatDoor
