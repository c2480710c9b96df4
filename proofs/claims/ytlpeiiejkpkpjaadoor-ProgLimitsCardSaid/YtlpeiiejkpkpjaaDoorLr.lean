/-
  A list of the law's own program that is appended to, one element a round: what stays, and what the list holds. No conditions.
-/
import Derived.Test.YtlpeiiejkpkpjaaDoorAt
import Derived.Deep.AppendLies
namespace Go.Proofs.YtlpeiiejkpkpjaaDoor
open Go.RowKit

/-- W: the world ahead of the variable's box, which is its next block; c: nothing below it turns. The list v, in the variable's cell of the box, has L elements, the cells xs; it lies in bo, or behind the box; all else of W stands. -/
structure LR (W : World) (c E sz bo : Nat) (box : Value → Array Value) (L : Nat) (xs : List Value) (v : Value) (wr : World) : Prop where
  low : Below c W wr
  bx : wr.heap[W.heap.size]? = some (.cells (box v) 26)
  own : wr.ownsRow c E sz v L xs
  blk : v.ownBlock = some bo ∨ ∃ g, v.ownBlock = some g ∧ W.heap.size + 1 ≤ g
  oth : ∀ b, b < W.heap.size → b ≠ bo → wr.heap[b]? = W.heap[b]?

theorem own_set {w : World} {base e size : Nat} {v : Value} {n : Nat} {xs : List Value} {b i : Nat} {u : Value} (h : w.ownsRow base e size v n xs) (hne : v.ownBlock ≠ some b) : (w.setCell ⟨b, i, none⟩ u).ownsRow base e size v n xs := by
  obtain ⟨h1, h2⟩ := h
  refine ⟨h1, ?_⟩
  rcases h2 with h2 | ⟨g, cap, cur, rfl, hb, hh, h3⟩
  · exact Or.inl h2
  · refine Or.inr ⟨g, cap, cur, rfl, hb, ?_, h3⟩
    rw [Below.heap_setCell _ _ _ _ (fun e => hne (by have e' : g = b := e; subst e'; rfl))]
    exact hh

section
variable {W wr w1 w' : World} {c E sz bo L : Nat} {box : Value → Array Value} {xs : List Value} {v : Value}
theorem LR.lt (h : LR W c E sz bo box L xs v wr) : W.heap.size < wr.heap.size := (Array.getElem?_eq_some_iff.1 h.bx).1

theorem LR.bxc (h : LR W c E sz bo box L xs v wr) (o : Nat) : wr.cell? ⟨W.heap.size, o, none⟩ = (box v)[o]? := by
  simp [World.cell?, h.bx]

theorem LR.thaw (h : LR W c E sz bo box L xs v wr) (o : Nat) : wr.frozen? ⟨W.heap.size, o, none⟩ = false := by
  simp [World.frozen?, h.bx]

/-- A round: new blocks, then the append, then the store. -/
theorem LR.step {g cap j H : Nat} {ys : List Value} (h : LR W c E sz bo box L xs v wr) (hbo : bo < W.heap.size) (hc : c ≤ bo) (hb1 : Below wr.heap.size wr w1)
    (ho : w'.ownsRow c E sz (.slice (some ⟨g, 0, none⟩) (L + 1) cap) (L + 1) (xs ++ ys)) (hg : w1.grownBy w' v.ownBlock) (hat : v.ownBlock = some g ∨ g = H) (hH : wr.heap.size ≤ H) (hbx : ∀ u, (box v).setIfInBounds j u = box u) :
    LR W c E sz bo box (L + 1) (xs ++ ys) (.slice (some ⟨g, 0, none⟩) (L + 1) cap) (w'.setCell ⟨W.heap.size, j, none⟩ (.slice (some ⟨g, 0, none⟩) (L + 1) cap)) := by
  have hlt := h.lt
  have hs1 := hb1.size
  have hn : ∀ k, k ≠ bo → k < W.heap.size + 1 → some k ≠ v.ownBlock := by
    intro k hk hk2 e
    rcases h.blk with hb | ⟨g', hb, hg'⟩
    · rw [hb] at e; exact hk (Option.some.inj e)
    · rw [hb] at e; have := Option.some.inj e; omega
  have hgk : g = bo ∨ W.heap.size + 1 ≤ g := by
    rcases hat with hat | hat
    · rcases h.blk with hb | ⟨g', hb, hg'⟩
      · rw [hb] at hat; exact Or.inl (Option.some.inj hat).symm
      · rw [hb] at hat; have := Option.some.inj hat; omega
    · omega
  have hb7 : w'.heap[W.heap.size]? = some (.cells (box v) 26) := by
    rw [hg.block _ (by omega) (hn _ (by omega) (by omega)), hb1.block _ hlt]
    exact h.bx
  have hlow : Below c W w' := by
    have h1 := h.low
    refine ⟨hg.os.trans (hb1.os.trans h1.os), hg.tape.trans (hb1.tape.trans h1.tape), hg.output.trans (hb1.output.trans h1.output), Nat.le_trans h1.size (Nat.le_trans hs1 hg.size), fun k hk => ?_⟩
    rw [hg.block k (by omega) (hn _ (by omega) (by omega)), hb1.block _ (by omega)]
    exact h1.block k hk
  refine ⟨hlow.setCell (by simp; omega) _, ?_, own_set ho (by simp [Value.ownBlock]; omega), ?_, fun b hb1' hb3 => ?_⟩
  · rw [setCell_heap hb7, hbx]
  · rcases hgk with rfl | hgk
    · exact Or.inl rfl
    · exact Or.inr ⟨g, rfl, hgk⟩
  · rw [Below.heap_setCell _ _ _ _ (by simp; omega), hg.block _ (by omega) (hn _ hb3 (by omega)), hb1.block _ (by omega)]
    exact h.oth b hb1' hb3

/-- The list, off its cells. -/
theorem LR.cells (h : LR W c E sz bo box L xs v wr) (h0 : 0 < L) :
    ∃ g cap, v = .slice (some ⟨g, 0, none⟩) L cap ∧ g < wr.heap.size ∧ (g = bo ∨ W.heap.size + 1 ≤ g) ∧ ∀ i, i < L * sz → wr.cell? ⟨g, i, none⟩ = xs[i]? := by
  obtain ⟨h1, h2⟩ := h.own
  rcases h2 with ⟨_, h2⟩ | ⟨g, cap, cur, rfl, hb, hh, h3, h4, h5, h6⟩
  · omega
  · refine ⟨g, cap, rfl, (Array.getElem?_eq_some_iff.1 hh).1, ?_, fun i hi => ?_⟩
    · rcases h.blk with hb | ⟨g', hb, hg'⟩
      · exact Or.inl (Option.some.inj hb)
      · have := Option.some.inj hb; simp at this; omega
    · rw [← h6, List.getElem?_take, if_pos hi]
      simp [World.cell?, hh]

theorem LR.old (h : LR W c E sz bo box L xs v wr) {b : Nat} (hb : b < W.heap.size) (hne : b ≠ bo) (o : Nat) : wr.cell? ⟨b, o, none⟩ = W.cell? ⟨b, o, none⟩ := World.cell?_of_block (w := W) (h.oth b hb hne)
end
theorem flat_at {sz : Nat} : ∀ (l : List (List Value)), (∀ e ∈ l, e.length = sz) → ∀ i j, j < sz → l.flatten[i * sz + j]? = (l[i]?).bind (·[j]?)
  | [], _, i, j, _ => by simp
  | e :: l, h, 0, j, hj => by
    have he := h e (by simp)
    rw [List.flatten_cons, Nat.zero_mul, Nat.zero_add, List.getElem?_append_left (by omega)]; rfl
  | e :: l, h, i + 1, j, hj => by
    have he := h e (by simp)
    have e1 : (i + 1) * sz + j = e.length + (i * sz + j) := by rw [he, Nat.succ_mul]; omega
    rw [List.flatten_cons, e1, List.getElem?_append_right (by omega), Nat.add_sub_cancel_left, flat_at l (fun x hx => h x (by simp [hx])) i j hj]; rfl
theorem oneW_size (w : World) : (oneW w).heap.size = w.heap.size + 7 := by simp [oneW]
theorem heap_new1 (w : World) (o : Obj) : (w.alloc o).heap[w.heap.size]? = some o := by show (w.heap.push o)[w.heap.size]? = _; simp
theorem heap_new2 {w : World} {o : Obj} {n : Nat} (h : w.heap.size = n) : (w.alloc o).heap[n]? = some o := by subst h; exact heap_new1 _ _

theorem oneW_h2 (w : World) : (oneW w).heap[w.heap.size + 1 + 1]? = some (.cells #[.int .i64 1, .slice (some ⟨w.heap.size + 1, 0, none⟩) 2 2] 31) := by
  unfold oneW; rw [Below.heap_alloc _ _ _ (by simp), Below.heap_alloc _ _ _ (by simp), Below.heap_alloc _ _ _ (by simp), Below.heap_alloc _ _ _ (by simp)]; exact heap_new2 (by simp)
theorem oneW_h4 (w : World) : (oneW w).heap[w.heap.size + 1 + 1 + 1 + 1]? = some (.cells #[.slice (some ⟨w.heap.size + 1 + 1 + 1, 0, none⟩) 1 1, .int .i64 2, .int .i64 (-1), .bool false] 41) := by
  unfold oneW; rw [Below.heap_alloc _ _ _ (by simp), Below.heap_alloc _ _ _ (by simp)]; exact heap_new2 (by simp)
theorem oneW_h6 (w : World) : (oneW w).heap[w.heap.size + 1 + 1 + 1 + 1 + 1 + 1]? = some (.cells #[.int .i64 0, .int .i64 0, .slice (some ⟨w.heap.size + 1 + 1 + 1 + 1 + 1, 0, none⟩) 1 1] 43) := by
  unfold oneW; exact heap_new2 (by simp)
theorem oneW_c1 (w : World) : (oneW w).cell? ⟨w.heap.size + 1, 0, none⟩ = some (.int .i64 7) ∧ (oneW w).cell? ⟨w.heap.size + 1, 0 + 1, none⟩ = some (.int .i64 0) ∧ (oneW w).cell? ⟨w.heap.size + 1, 0 + 2, none⟩ = some (.int .i64 6) ∧ (oneW w).cell? ⟨w.heap.size + 1, 0 + 2 + 1, none⟩ = some (.int .i64 0) := by
  refine ⟨?_, ?_, ?_, ?_⟩ <;> (simp [oneW, go_sem]; try rfl)
theorem oneW_c2 (w : World) : (oneW w).cell? ⟨w.heap.size + 1 + 1, 0, none⟩ = some (.int .i64 1) ∧ (oneW w).cell? ⟨w.heap.size + 1 + 1, 0 + 1, none⟩ = some (.slice (some ⟨w.heap.size + 1, 0, none⟩) 2 2) := by
  refine ⟨?_, ?_⟩ <;> (simp [oneW, go_sem]; try rfl)
theorem oneW_c3 (w : World) : (oneW w).cell? ⟨w.heap.size + 1 + 1 + 1, 0, none⟩ = some (.int .i64 3) := by simp [oneW, go_sem]; try rfl
theorem oneW_c4 (w : World) : (oneW w).cell? ⟨w.heap.size + 1 + 1 + 1 + 1, 0, none⟩ = some (.slice (some ⟨w.heap.size + 1 + 1 + 1, 0, none⟩) 1 1) ∧ (oneW w).cell? ⟨w.heap.size + 1 + 1 + 1 + 1, 0 + 1, none⟩ = some (.int .i64 2) ∧ (oneW w).cell? ⟨w.heap.size + 1 + 1 + 1 + 1, 0 + 2, none⟩ = some (.int .i64 (-1)) ∧ (oneW w).cell? ⟨w.heap.size + 1 + 1 + 1 + 1, 0 + 3, none⟩ = some (.bool false) := by
  refine ⟨?_, ?_, ?_, ?_⟩ <;> (simp [oneW, go_sem]; try rfl)
theorem oneW_c5 (w : World) : (oneW w).cell? ⟨w.heap.size + 1 + 1 + 1 + 1 + 1, 0, none⟩ = some (.int .i64 5) := by simp [oneW, go_sem]; try rfl
theorem oneW_c6 (w : World) : (oneW w).cell? ⟨w.heap.size + 1 + 1 + 1 + 1 + 1 + 1, 0, none⟩ = some (.int .i64 0) ∧ (oneW w).cell? ⟨w.heap.size + 1 + 1 + 1 + 1 + 1 + 1, 0 + 1, none⟩ = some (.int .i64 0) ∧ (oneW w).cell? ⟨w.heap.size + 1 + 1 + 1 + 1 + 1 + 1, 0 + 2, none⟩ = some (.slice (some ⟨w.heap.size + 1 + 1 + 1 + 1 + 1, 0, none⟩) 1 1) := by
  refine ⟨?_, ?_, ?_⟩ <;> (simp [oneW, go_sem]; try rfl)
theorem LR.mid {W wr w1 w' : World} {c E sz bo L : Nat} {box : Value → Array Value} {xs : List Value} {v : Value} (h : LR W c E sz bo box L xs v wr) (hbo : bo < W.heap.size) (hb1 : Below wr.heap.size wr w1) (hg : w1.grownBy w' v.ownBlock) : w'.heap[W.heap.size]? = some (.cells (box v) 26) := by
  have hlt := h.lt
  have hs1 := hb1.size
  rw [hg.block _ (by omega) ?_, hb1.block _ hlt]
  · exact h.bx
  · intro e
    rcases h.blk with hb | ⟨g', hb, hg'⟩
    · rw [hb] at e; have := Option.some.inj e; omega
    · rw [hb] at e; have := Option.some.inj e; omega
theorem LR.all {w wr : World} {E sz bo L : Nat} {box : Value → Array Value} {xs : List Value} {v : Value} (h : LR (oneW w) w.heap.size E sz bo box L xs v wr) : Below w.heap.size w wr := (oneW_below w).trans h.low
end Go.Proofs.YtlpeiiejkpkpjaaDoor
