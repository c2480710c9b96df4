/-
  Two programs that the law makes, one behind the other, and what their cells hold behind a call that turns nothing old. No conditions.
-/
import Derived.Test.YtlpeiiejkpkpjaaDoorAt
namespace Go.Proofs.YtlpeiiejkpkpjaaDoor
open Go.RowKit

theorem cell_set {w : World} {b i b' j : Nat} {v : Value} : (w.setCell ⟨b, i, none⟩ v).cell? ⟨b', j, none⟩ = if b = b' ∧ i = j then (if (w.cell? ⟨b, i, none⟩).isSome = true then some v else none) else w.cell? ⟨b', j, none⟩ := by
  by_cases h : b = b' ∧ i = j
  · obtain ⟨rfl, rfl⟩ := h
    rw [if_pos ⟨rfl, rfl⟩]
    cases hc : w.cell? ⟨b, i, none⟩ with
    | some u => rw [World.cell?_setCell_same _ _ _ hc]; rfl
    | none =>
      unfold World.cell? at hc ⊢
      simp only [World.setCell, Array.getElem?_modify, if_true]
      cases hh : w.heap[b]? with
      | none => simp
      | some o =>
        cases o <;> simp_all
  · rw [if_neg h]
    exact World.cell?_setCell_other _ _ _ _ (fun e => h (by injection e with h1 h2; exact ⟨h1, h2⟩))

/-- The eight blocks of a second program, its box and the first one's box, in w; n: where they begin. -/
structure Two (n : Nat) (P : Array Value) (w : World) : Prop where
  sz : n + 9 ≤ w.heap.size
  bC : ∀ o, w.cell? ⟨n + 1, o, none⟩ = (#[.int .i64 7, .int .i64 0, .int .i64 6, .int .i64 0] : Array Value)[o]?
  bH : ∀ o, w.cell? ⟨n + 1 + 1, o, none⟩ = (#[.int .i64 1, .slice (some ⟨n + 1, 0, none⟩) 2 2] : Array Value)[o]?
  bR : ∀ o, w.cell? ⟨n + 1 + 1 + 1, o, none⟩ = (#[.int .i64 3] : Array Value)[o]?
  bA : ∀ o, w.cell? ⟨n + 1 + 1 + 1 + 1, o, none⟩ = (#[.slice (some ⟨n + 1 + 1 + 1, 0, none⟩) 1 1, .int .i64 2, .int .i64 (-1), .bool false] : Array Value)[o]?
  bG : ∀ o, w.cell? ⟨n + 1 + 1 + 1 + 1 + 1, o, none⟩ = (#[.int .i64 5] : Array Value)[o]?
  bN : ∀ o, w.cell? ⟨n + 1 + 1 + 1 + 1 + 1 + 1, o, none⟩ = (#[.int .i64 0, .int .i64 0, .slice (some ⟨n + 1 + 1 + 1 + 1 + 1, 0, none⟩) 1 1] : Array Value)[o]?
  bP : ∀ o, w.cell? ⟨n + 1 + 1 + 1 + 1 + 1 + 1 + 1, o, none⟩ = P[o]?
  bQ : ∀ o, w.cell? ⟨n + 1 + 1 + 1 + 1 + 1 + 1 + 1 + 1, o, none⟩ = (#[.slice (some ⟨n + 1 + 1, 0, none⟩) 1 1, .slice (some ⟨n + 1 + 1 + 1 + 1, 0, none⟩) 1 1, .slice (some ⟨n + 1 + 1 + 1 + 1 + 1 + 1, 0, none⟩) 1 1, .int .i64 10] : Array Value)[o]?
  fz : ∀ b o, n ≤ b → b < n + 9 → w.frozen? ⟨b, o, none⟩ = false

set_option maxHeartbeats 1000000 in
theorem two_start (w : World) (P : Array Value) : Two w.heap.size P (((oneW w).alloc (.cells P 26)).alloc (.cells #[.slice (some ⟨w.heap.size + 1 + 1, 0, none⟩) 1 1, .slice (some ⟨w.heap.size + 1 + 1 + 1 + 1, 0, none⟩) 1 1, .slice (some ⟨w.heap.size + 1 + 1 + 1 + 1 + 1 + 1, 0, none⟩) 1 1, .int .i64 10] 26)) where
  sz := by simp [oneW]
  bC o := by simp [oneW, go_sem]
  bH o := by simp [oneW, go_sem]
  bR o := by simp [oneW, go_sem]
  bA o := by simp [oneW, go_sem]
  bG o := by simp [oneW, go_sem]
  bN o := by simp [oneW, go_sem]
  bP o := by simp [oneW, go_sem]
  bQ o := by simp [oneW, go_sem]
  fz b o h1 h2 := by
    have hp : Plain w.heap.size (((oneW w).alloc (.cells P 26)).alloc (.cells #[.slice (some ⟨w.heap.size + 1 + 1, 0, none⟩) 1 1, .slice (some ⟨w.heap.size + 1 + 1 + 1 + 1, 0, none⟩) 1 1, .slice (some ⟨w.heap.size + 1 + 1 + 1 + 1 + 1 + 1, 0, none⟩) 1 1, .int .i64 10] 26)) := by
      unfold oneW
      repeat (first | exact Plain.start _ | refine Plain.alloc ?_ _ _)
    exact hp.frozen h1 (by simp [oneW]; omega)

theorem Two.below {n : Nat} {P : Array Value} {w w' : World} (h : Two n P w) (hb : Below w.heap.size w w') : Two n P w' := by
  have hs := h.sz
  have c : ∀ b o, b < n + 9 → w'.cell? ⟨b, o, none⟩ = w.cell? ⟨b, o, none⟩ := fun b o hlt => hb.cell (p := ⟨b, o, none⟩) (by simp; omega)
  exact ⟨Nat.le_trans hs hb.size, fun o => (c _ o (by omega)).trans (h.bC o), fun o => (c _ o (by omega)).trans (h.bH o), fun o => (c _ o (by omega)).trans (h.bR o), fun o => (c _ o (by omega)).trans (h.bA o), fun o => (c _ o (by omega)).trans (h.bG o), fun o => (c _ o (by omega)).trans (h.bN o), fun o => (c _ o (by omega)).trans (h.bP o), fun o => (c _ o (by omega)).trans (h.bQ o),
    fun b o h1 h2 => (hb.frozen (p := ⟨b, o, none⟩) (by simp; omega)).trans (h.fz b o h1 h2)⟩
end Go.Proofs.YtlpeiiejkpkpjaaDoor
