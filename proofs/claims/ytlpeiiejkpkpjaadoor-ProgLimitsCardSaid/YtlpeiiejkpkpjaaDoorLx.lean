/-
  A list that lies in a field of a list's element, appended to, one element a round: what stays, and what the list holds. No conditions.
-/
import Derived.Test.YtlpeiiejkpkpjaaDoorLr
namespace Go.Proofs.YtlpeiiejkpkpjaaDoor
open Go.RowKit

/-- W: the world ahead of the loop; c: nothing below it turns. The list v, in a cell of the block X, has L elements, the cells xs; it lies in bo, or behind W; all else of W stands. -/
structure LX (W : World) (c E sz bo X TX : Nat) (box : Value → Array Value) (L : Nat) (xs : List Value) (v : Value) (wr : World) : Prop where
  low : Below c W wr
  bx : wr.heap[X]? = some (.cells (box v) TX)
  own : wr.ownsRow c E sz v L xs
  blk : v.ownBlock = some bo ∨ ∃ g, v.ownBlock = some g ∧ W.heap.size ≤ g
  oth : ∀ b, b < W.heap.size → b ≠ bo → b ≠ X → wr.heap[b]? = W.heap[b]?

section
variable {W wr w1 w' : World} {c E sz bo X TX L : Nat} {box : Value → Array Value} {xs : List Value} {v : Value}
theorem LX.bxc (h : LX W c E sz bo X TX box L xs v wr) (o : Nat) : wr.cell? ⟨X, o, none⟩ = (box v)[o]? := by
  simp [World.cell?, h.bx]
theorem LX.ne (h : LX W c E sz bo X TX box L xs v wr) (k : Nat) (hk : k ≠ bo) (hk2 : k < W.heap.size) : some k ≠ v.ownBlock := by
  intro e
  rcases h.blk with hb | ⟨g', hb, hg'⟩
  · rw [hb] at e; exact hk (Option.some.inj e)
  · rw [hb] at e; have := Option.some.inj e; omega
theorem LX.mid (h : LX W c E sz bo X TX box L xs v wr) (hX : X < W.heap.size) (hne : bo ≠ X) (hb1 : Below wr.heap.size wr w1) (hg : w1.grownBy w' v.ownBlock) : w'.heap[X]? = some (.cells (box v) TX) := by
  have hs := h.low.size
  have hs1 := hb1.size
  rw [hg.block _ (by omega) (h.ne _ (by omega) hX), hb1.block _ (by omega)]
  exact h.bx
theorem LX.far (h : LX W c E sz bo X TX box L xs v wr) {b : Nat} (hb : b < W.heap.size) (hne : b ≠ bo) (hb1 : Below wr.heap.size wr w1) (hg : w1.grownBy w' v.ownBlock) : w'.heap[b]? = wr.heap[b]? := by
  have hs := h.low.size
  have hs1 := hb1.size
  rw [hg.block _ (by omega) (h.ne _ hne hb), hb1.block _ (by omega)]

/-- A round: new blocks, then the append, then the store. -/
theorem LX.step {g cap j H : Nat} {ys : List Value} (h : LX W c E sz bo X TX box L xs v wr) (hbo : bo < W.heap.size) (hc : c ≤ bo) (hX : X < W.heap.size) (hcX : c ≤ X) (hne : bo ≠ X) (hb1 : Below wr.heap.size wr w1)
    (ho : w'.ownsRow c E sz (.slice (some ⟨g, 0, none⟩) (L + 1) cap) (L + 1) (xs ++ ys)) (hg : w1.grownBy w' v.ownBlock) (hat : v.ownBlock = some g ∨ g = H) (hH : wr.heap.size ≤ H) (hbx : ∀ u, (box v).setIfInBounds j u = box u) :
    LX W c E sz bo X TX box (L + 1) (xs ++ ys) (.slice (some ⟨g, 0, none⟩) (L + 1) cap) (w'.setCell ⟨X, j, none⟩ (.slice (some ⟨g, 0, none⟩) (L + 1) cap)) := by
  have hs := h.low.size
  have hs1 := hb1.size
  have hgk : g = bo ∨ W.heap.size ≤ g := by
    rcases hat with hat | hat
    · rcases h.blk with hb | ⟨g', hb, hg'⟩
      · rw [hb] at hat; exact Or.inl (Option.some.inj hat).symm
      · rw [hb] at hat; have := Option.some.inj hat; omega
    · omega
  have hlow : Below c W w' := by
    have h1 := h.low
    refine ⟨hg.os.trans (hb1.os.trans h1.os), hg.tape.trans (hb1.tape.trans h1.tape), hg.output.trans (hb1.output.trans h1.output), Nat.le_trans h1.size (Nat.le_trans hs1 hg.size), fun k hk => ?_⟩
    rw [h.far (by omega) (by omega) hb1 hg]
    exact h1.block k hk
  refine ⟨hlow.setCell (by simp; omega) _, ?_, own_set ho (by simp [Value.ownBlock]; omega), ?_, fun b hb1' hb3 hb4 => ?_⟩
  · rw [setCell_heap (h.mid hX hne hb1 hg), hbx]
  · rcases hgk with rfl | hgk
    · exact Or.inl rfl
    · exact Or.inr ⟨g, rfl, hgk⟩
  · rw [Below.heap_setCell _ _ _ _ (by simp; omega), h.far hb1' hb3 hb1 hg]
    exact h.oth b hb1' hb3 hb4

/-- The list, off its cells. -/
theorem LX.cells (h : LX W c E sz bo X TX box L xs v wr) (h0 : 0 < L) :
    ∃ g cap, v = .slice (some ⟨g, 0, none⟩) L cap ∧ g < wr.heap.size ∧ ∀ i, i < L * sz → wr.cell? ⟨g, i, none⟩ = xs[i]? := by
  obtain ⟨h1, h2⟩ := h.own
  rcases h2 with ⟨_, h2⟩ | ⟨g, cap, cur, rfl, hb, hh, h3, h4, h5, h6⟩
  · omega
  · refine ⟨g, cap, rfl, (Array.getElem?_eq_some_iff.1 hh).1, fun i hi => ?_⟩
    rw [← h6, List.getElem?_take, if_pos hi]
    simp [World.cell?, hh]
theorem LX.old (h : LX W c E sz bo X TX box L xs v wr) {b : Nat} (hb : b < W.heap.size) (hne : b ≠ bo) (hne2 : b ≠ X) (o : Nat) : wr.cell? ⟨b, o, none⟩ = W.cell? ⟨b, o, none⟩ := World.cell?_of_block (w := W) (h.oth b hb hne hne2)
end
theorem oneW_h1 (w : World) : (oneW w).heap[w.heap.size + 1]? = some (.cells #[.int .i64 7, .int .i64 0, .int .i64 6, .int .i64 0] 38) := by
  unfold oneW; rw [Below.heap_alloc _ _ _ (by simp), Below.heap_alloc _ _ _ (by simp), Below.heap_alloc _ _ _ (by simp), Below.heap_alloc _ _ _ (by simp), Below.heap_alloc _ _ _ (by simp)]; exact heap_new2 (by simp)
theorem oneW_h3 (w : World) : (oneW w).heap[w.heap.size + 1 + 1 + 1]? = some (.cells #[.int .i64 3] 3) := by
  unfold oneW; rw [Below.heap_alloc _ _ _ (by simp), Below.heap_alloc _ _ _ (by simp), Below.heap_alloc _ _ _ (by simp)]; exact heap_new2 (by simp)
theorem size_alloc1 (w : World) (o : Obj) : (w.alloc o).heap.size = w.heap.size + 1 := by simp
theorem lx_cast {W wr : World} {c E sz bo X TX L L' : Nat} {box : Value → Array Value} {xs : List Value} {v : Value} (e : L = L') (h : Hid (LX W c E sz bo X TX box L xs v wr)) : Hid (LX W c E sz bo X TX box L' xs v wr) := by subst e; exact h
end Go.Proofs.YtlpeiiejkpkpjaaDoor
