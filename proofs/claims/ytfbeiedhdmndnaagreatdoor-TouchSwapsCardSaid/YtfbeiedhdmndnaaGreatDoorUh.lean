/-
 TouchSwaps: the five boxes of the law's parameters.
-/
import Derived.Test.YtfbeiedhdmndnaaGreatDoorUg
import Derived.Test.YtfbeiedhdmndnaaGreatDoorTa
import Derived.Test.YtfbeiedhdmndnaaGreatDoorFd
import Derived.Test.YtfbeiedhdmndnaaGreatDoorKd
import Derived.Test.YtfbeiedhdmndnaaGreatDoorEw
namespace Go.Proofs.YtfbeiedhdmndnaaGreatDoor
open Go.RowKit
/-- The five boxes, in a world below which all of W is as it was. -/
structure BX (W : World) (P B X E F : Obj) (w : World) : Prop where
 low : Below W.heap.size W w
 b0 : w.heap[W.heap.size]? = some P
 b1 : w.heap[W.heap.size + 1]? = some B
 b2 : w.heap[W.heap.size + 1 + 1]? = some X
 b3 : w.heap[W.heap.size + 1 + 1 + 1]? = some E
 b4 : w.heap[W.heap.size + 1 + 1 + 1 + 1]? = some F
theorem BX.below {W w w' : World} {P B X E F : Obj} (h : BX W P B X E F w) (hb : Below w.heap.size w w') : BX W P B X E F w' :=
 ⟨bTrans h.low hb, boxAt h.b0 hb, boxAt h.b1 hb, boxAt h.b2 hb, boxAt h.b3 hb, boxAt h.b4 hb⟩
theorem BX.start (W : World) (P B X E F : Obj) : BX W P B X E F (((((W.alloc P).alloc B).alloc X).alloc E).alloc F) :=
 have h := fun i X' e => allocs_at [P, B, X, E, F] W i X' e
 ⟨(h 0 _ rfl).2, (h 0 _ rfl).1, (h 1 _ rfl).1, (h 2 _ rfl).1, (h 3 _ rfl).1, (h 4 _ rfl).1⟩
/-- What the law looks at before it swaps: the world's numbers are not too great. -/
def lowN (x : PWld) : Prop := ∀ y ∈ x.acts, y.sent < 1099511627776 ∧ y.over < 1099511627776
instance (x : PWld) : Decidable (lowN x) := by unfold lowN; infer_instance
theorem isP_chk {p : PPrg} {b : PBud} {x : PWld} {e : PEv} (h : isP p b x e = true) : chkW p x = true := (isP_parts h).2.1
theorem swp_law {p : PPrg} {b : PBud} {x : PWld} {e1 e2 : PEv} (hs : SmallW x) (hl : lowN x) (hr : x.used.drop ≤ 9223372036854775807 ∧ x.used.dup ≤ 9223372036854775807 ∧ x.used.time ≤ 9223372036854775807 ∧ x.used.crash ≤ 9223372036854775807) (h1 : isP p b x e1 = true) (h2 : isP p b x e2 = true) (hf : freeP p x e1 e2 = true) : Swp p b x e1 e2 ∧ (SmW (doP p x e1) ∧ RgU (doP p x e1).used) ∧ (SmW (doP p x e2) ∧ RgU (doP p x e2).used) := by
 have hw : WK p 1099511627776 x := wk_of (isP_chk h1) (by decide) (by decide) (fun y hy => ⟨by have := (hl y hy).1; omega, by have := (hl y hy).2; omega⟩) (by have h := hs.2.1.1; omega) hr
 refine ⟨swp_of hw (by decide) (by decide) h1 h2 hf, ?_, ?_⟩
 ·have h := (do_keep hw (by decide) (by decide) h1).1; exact ⟨h.sm, RgU.of h.used⟩
 ·have h := (do_keep hw (by decide) (by decide) h2).1; exact ⟨h.sm, RgU.of h.used⟩
end Go.Proofs.YtfbeiedhdmndnaaGreatDoor
