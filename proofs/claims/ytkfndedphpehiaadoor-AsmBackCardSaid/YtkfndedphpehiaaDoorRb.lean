/-
  The second law, as its row wants it. No conditions beyond the row's own.
-/
import Derived.Test.YtkfndedphpehiaaDoorBack
import Derived.Test.YtkfndedphpehiaaDoorLaid
namespace Go.Proofs.YtkfndedphpehiaaDoor
open Go.RowKit
theorem byte_of {a : Int} (h : (Lit.int .u8 a).wf = true) : ∃ c : UInt8, a = (c.toNat : Int) := by
  have hb : 0 ≤ a ∧ a ≤ 255 := by
    simp [Lit.wf, IntKind.min, IntKind.max, IntKind.bits, IntKind.signed] at h
    omega
  refine ⟨UInt8.ofNat a.toNat, ?_⟩
  rw [UInt8.toNat_ofNat']
  omega
theorem back_row (W : World) (hL : laidMetH Tryd.prog laid1 W) (hS : W.ShapedOpen Tryd.prog) {v0 : Value} {x0 : List PIns} (h0 : Code anyB W v0 x0 ∧ ∀ i ∈ x0, RgI i) (a1 : Int) (h1 : (Lit.int .i64 a1).wf = true) (a2 : Int) (h2 : (Lit.int .u8 a2).wf = true) :
    Calls Tryd.prog 4 #[v0, .int .i64 a1, .int .u8 a2] W fun e w' => e = .returned (.bool true) ∧ Below W.heap.size W w' := by
  obtain ⟨c, rfl⟩ := byte_of h2
  exact back_any anyB W v0 x0 a1 c h0.2 (rg_of h1) h0.1 (of_laid hL hS)
end Go.Proofs.YtkfndedphpehiaaDoor
