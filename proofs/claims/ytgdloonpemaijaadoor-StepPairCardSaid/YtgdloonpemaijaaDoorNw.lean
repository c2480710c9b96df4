/-
  Blocks laid one behind the other; what a world holds lies below the world's end. No conditions.
-/
import Derived.Test.YtgdloonpemaijaaDoorTm
namespace Go.Proofs.YtgdloonpemaijaaDoor
open Go.RowKit
theorem Sl.ltA {α : Type} {sz : Nat} {R R' : World → Nat → Nat → α → Prop} {ok : Nat → Prop} {w : World} {v : Value} {l : List α} (h : Sl sz R ok w v l) (hR : ∀ b o x, R w b o x → R' w b o x) : Sl sz R' (fun b => b < w.heap.size) w v l := by
  obtain ⟨A, c, rfl, h1, h2, h⟩ := h
  exact ⟨A, c, rfl, h1, h2, h.imp id fun ⟨b, o, e, _, hb, hc⟩ => ⟨b, o, e, hb, hb, fun k x hx => hR _ _ _ (hc k x hx)⟩⟩
/-- What a world holds lies below the world's end. -/
theorem WldV.lt {w : World} {v : Value} {x : PWld} (h : WldV w v x) : WldA (fun b => b < w.heap.size) w v x := by
  obtain ⟨a, m, e, h1, h2⟩ := h
  exact ⟨a, m, e, h1.ltA fun _ _ _ ⟨⟨c, g1, g2⟩, g3⟩ => ⟨⟨c, g1, g2.ltA fun _ _ _ h => h⟩, g3⟩, h2.ltA fun _ _ _ ⟨g0, g1, g2, g3, g4, c, g5, g6⟩ => ⟨g0, g1, g2, g3, g4, c, g5, g6.ltA fun _ _ _ h => h⟩⟩
theorem new5 (W : World) (X0 X1 X2 X3 X4 : Obj) : (((((W.alloc X0).alloc X1).alloc X2).alloc X3).alloc X4).heap[W.heap.size]? = some X0 ∧ (((((W.alloc X0).alloc X1).alloc X2).alloc X3).alloc X4).heap[W.heap.size + 1]? = some X1 ∧
    (((((W.alloc X0).alloc X1).alloc X2).alloc X3).alloc X4).heap[W.heap.size + 1 + 1]? = some X2 ∧ (((((W.alloc X0).alloc X1).alloc X2).alloc X3).alloc X4).heap[W.heap.size + 1 + 1 + 1]? = some X3 ∧
    (((((W.alloc X0).alloc X1).alloc X2).alloc X3).alloc X4).heap[W.heap.size + 1 + 1 + 1 + 1]? = some X4 ∧ Below W.heap.size W (((((W.alloc X0).alloc X1).alloc X2).alloc X3).alloc X4) :=
  have h := fun i X e => allocs_at [X0, X1, X2, X3, X4] W i X e
  ⟨(h 0 _ rfl).1, (h 1 _ rfl).1, (h 2 _ rfl).1, (h 3 _ rfl).1, (h 4 _ rfl).1, (h 0 _ rfl).2⟩
theorem new4 (W : World) (X0 X1 X2 X3 : Obj) : ((((W.alloc X0).alloc X1).alloc X2).alloc X3).heap[W.heap.size]? = some X0 ∧ ((((W.alloc X0).alloc X1).alloc X2).alloc X3).heap[W.heap.size + 1]? = some X1 ∧
    ((((W.alloc X0).alloc X1).alloc X2).alloc X3).heap[W.heap.size + 1 + 1]? = some X2 ∧ ((((W.alloc X0).alloc X1).alloc X2).alloc X3).heap[W.heap.size + 1 + 1 + 1]? = some X3 ∧ Below W.heap.size W ((((W.alloc X0).alloc X1).alloc X2).alloc X3) :=
  have h := fun i X e => allocs_at [X0, X1, X2, X3] W i X e
  ⟨(h 0 _ rfl).1, (h 1 _ rfl).1, (h 2 _ rfl).1, (h 3 _ rfl).1, (h 0 _ rfl).2⟩
end Go.Proofs.YtgdloonpemaijaaDoor
