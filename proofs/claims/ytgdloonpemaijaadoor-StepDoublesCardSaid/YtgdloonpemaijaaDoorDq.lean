/-
  The program of StepDoubles in memory: its messages are appended in a loop. No conditions.
-/
import Derived.Test.YtgdloonpemaijaaDoorDm
namespace Go.Proofs.YtgdloonpemaijaaDoor
open Go.RowKit
/-- Between two appends: W the world ahead; the code, the handlers, the registers, the actors, the program's box: five blocks. -/
structure TD (W : World) (m : Int) (k : Nat) (v : Value) (wr : World) : Prop where
  b0 : wr.heap[W.heap.size]? = some (.cells #[.int .i64 5, .int .i64 0, .int .i64 1, .int .i64 1, .int .i64 9, .int .i64 0, .int .i64 6, .int .i64 0] 78)
  b1 : wr.heap[W.heap.size + 1]? = some (.cells #[.int .i64 0, .slice (some ⟨W.heap.size, 0, none⟩) 4 4] 81)
  b2 : wr.heap[W.heap.size + 1 + 1]? = some (.cells #[.int .i64 0] 3)
  b3 : wr.heap[W.heap.size + 1 + 1 + 1]? = some (.cells #[.slice (some ⟨W.heap.size + 1 + 1, 0, none⟩) 1 1, .int .i64 m, .int .i64 (-1), .bool false] 83)
  b4 : wr.heap[W.heap.size + 1 + 1 + 1 + 1]? = some (.cells #[.slice (some ⟨W.heap.size + 1, 0, none⟩) 1 1, .slice (some ⟨W.heap.size + 1 + 1 + 1, 0, none⟩) 1 1, v, .int .i64 9] 26)
  nt : ∃ us, NR (fun b => W.heap.size + 1 + 1 + 1 + 1 + 1 ≤ b) (W.heap.size + 1 + 1 + 1 + 1 + 1) wr v (List.replicate k nte0) us
  low : Below W.heap.size W wr
theorem TD.start (W : World) (m : Int) : TD W m 0 (.slice none 0 0) (((((W.alloc (.cells #[.int .i64 5, .int .i64 0, .int .i64 1, .int .i64 1, .int .i64 9, .int .i64 0, .int .i64 6, .int .i64 0] 78)).alloc (.cells #[.int .i64 0, .slice (some ⟨W.heap.size, 0, none⟩) 4 4] 81)).alloc (.cells #[.int .i64 0] 3)).alloc (.cells #[.slice (some ⟨W.heap.size + 1 + 1, 0, none⟩) 1 1, .int .i64 m, .int .i64 (-1), .bool false] 83)).alloc (.cells #[.slice (some ⟨W.heap.size + 1, 0, none⟩) 1 1, .slice (some ⟨W.heap.size + 1 + 1 + 1, 0, none⟩) 1 1, .slice none 0 0, .int .i64 9] 26)) :=
  have h := new5 W (.cells #[.int .i64 5, .int .i64 0, .int .i64 1, .int .i64 1, .int .i64 9, .int .i64 0, .int .i64 6, .int .i64 0] 78) (.cells #[.int .i64 0, .slice (some ⟨W.heap.size, 0, none⟩) 4 4] 81) (.cells #[.int .i64 0] 3) (.cells #[.slice (some ⟨W.heap.size + 1 + 1, 0, none⟩) 1 1, .int .i64 m, .int .i64 (-1), .bool false] 83) (.cells #[.slice (some ⟨W.heap.size + 1, 0, none⟩) 1 1, .slice (some ⟨W.heap.size + 1 + 1 + 1, 0, none⟩) 1 1, .slice none 0 0, .int .i64 9] 26)
  ⟨h.1, h.2.1, h.2.2.1, h.2.2.2.1, h.2.2.2.2.1, ⟨[], NR.nil _ _ _⟩, h.2.2.2.2.2⟩
section
variable {W wr w6 : World} {m : Int} {k : Nat} {v : Value} {us : List Value}
theorem TD.top (h : TD W m k v wr) : W.heap.size + 1 + 1 + 1 + 1 + 1 ≤ wr.heap.size := (Array.getElem?_eq_some_iff.1 h.b4).1
theorem TD.nb (h : TD W m k v wr) : ∀ b, v.ownBlock = some b → W.heap.size + 1 + 1 + 1 + 1 + 1 ≤ b := fun b e => by obtain ⟨us, hu⟩ := h.nt; exact (own_lt hu.own e).1
theorem TD.next {gn cn : Nat} (h : TD W m k v wr) (hu : NR (fun b => W.heap.size + 1 + 1 + 1 + 1 + 1 ≤ b) (W.heap.size + 1 + 1 + 1 + 1 + 1) wr v (List.replicate k nte0) us)
    (ho : w6.ownsRow (W.heap.size + 1 + 1 + 1 + 1 + 1) 54 3 (.slice (some ⟨gn, 0, none⟩) (k + 1) cn) (k + 1) ((List.zipWith ntrow (List.replicate k nte0) us).flatten ++ ntrow nte0 (.slice none 0 0)))
    (hg : (wr.alloc (.cells #[.int .i64 0, .int .i64 0, .slice none 0 0] 54)).grownBy w6 v.ownBlock) (hat : v.ownBlock = some gn ∨ gn = wr.heap.size + 1) :
    TD W m (k + 1) (.slice (some ⟨gn, 0, none⟩) (k + 1) cn) (w6.setCell ⟨W.heap.size + 1 + 1 + 1 + 1, 2, none⟩ (.slice (some ⟨gn, 0, none⟩) (k + 1) cn)) := by
  have ht := h.top
  have hnb := h.nb
  have hB : Below wr.heap.size wr (wr.alloc (.cells #[.int .i64 0, .int .i64 0, .slice none 0 0] 54)) := bAlloc (bRefl _) _
  have hsz : (wr.alloc (.cells #[.int .i64 0, .int .i64 0, .slice none 0 0] 54)).heap.size = wr.heap.size + 1 := by simp
  have hgn : W.heap.size + 1 + 1 + 1 + 1 + 1 ≤ gn := by rcases hat with e | e; exact hnb gn e; omega
  have keep : ∀ (b : Nat) (X : Obj), b < W.heap.size + 1 + 1 + 1 + 1 + 1 → wr.heap[b]? = some X → w6.heap[b]? = some X := fun b X hb hX =>
    (hg.block b (by omega) (fun e => by have := hnb b e.symm; omega)).trans (boxAt hX hB)
  have hS : Same (fun d => d ≠ W.heap.size + 1 + 1 + 1 + 1) w6 (w6.setCell ⟨W.heap.size + 1 + 1 + 1 + 1, 2, none⟩ (.slice (some ⟨gn, 0, none⟩) (k + 1) cn)) := setCell_same fun _ h => h
  have keep2 : ∀ (b : Nat) (X : Obj), b < W.heap.size + 1 + 1 + 1 + 1 → wr.heap[b]? = some X → (w6.setCell ⟨W.heap.size + 1 + 1 + 1 + 1, 2, none⟩ (.slice (some ⟨gn, 0, none⟩) (k + 1) cn)).heap[b]? = some X := fun b X hb hX => by
    have h6 := keep b X (by omega) hX
    exact (hS.block b (by show b ≠ W.heap.size + 1 + 1 + 1 + 1; omega) (Array.getElem?_eq_some_iff.1 h6).1).trans h6
  have key := (hu.below hB).push (ms := [nte0]) (xs := [.slice none 0 0]) (m := 1) rfl rfl (by simpa using ho) hg (hat.imp id fun e => by rw [e, hsz]) (fun j n u' hn hu' => by
    cases j with
    | zero =>
      simp at hn hu'
      subst hn hu'
      exact ⟨_, _, rfl, by simp [nte0], by simp [nte0], Or.inl rfl⟩
    | succ j => simp at hn)
  refine ⟨keep2 _ _ (by omega) h.b0, keep2 _ _ (by omega) h.b1, keep2 _ _ (by omega) h.b2, keep2 _ _ (by omega) h.b3, (setCell_heap (keep _ _ (by omega) h.b4)).trans (by simp), ⟨us ++ [.slice none 0 0], ?_⟩, ?_⟩
  · rw [List.replicate_succ']
    rw [List.length_replicate] at key
    refine key.same hS.size fun b hlt hb => hS.block b ?_ hlt
    rcases hb with hb | hb
    · show b ≠ W.heap.size + 1 + 1 + 1 + 1; omega
    · have : b = gn := (Option.some.inj hb).symm; show b ≠ W.heap.size + 1 + 1 + 1 + 1; omega
  · have h1 : Below W.heap.size W (wr.alloc (.cells #[.int .i64 0, .int .i64 0, .slice none 0 0] 54)) := bTrans h.low hB
    exact (h1.grown hg (by have := h.low.size; omega) (fun j hj => by have := hnb j hj; omega)).setCell (p := ⟨W.heap.size + 1 + 1 + 1 + 1, 2, none⟩) (by show W.heap.size ≤ W.heap.size + 1 + 1 + 1 + 1; omega) _
theorem TD.cd (h : TD W m k v wr) : Code anyB wr (.slice (some ⟨W.heap.size, 0, none⟩) 4 4) (tcode false) := by
  have t := h.top
  refine ⟨_, 4, rfl, by simp [tcode], by simp [tcode], Or.inr ⟨W.heap.size, 0, rfl, trivial, by omega, fun j y hy => ?_⟩⟩
  match j, hy with
  | 0, hy => cases hy; exact ⟨by rw [cell_of_row _ _ _ _ _ _ h.b0]; rfl, by rw [cell_of_row _ _ _ _ _ _ h.b0]; rfl⟩
  | 1, hy => cases hy; exact ⟨by rw [cell_of_row _ _ _ _ _ _ h.b0]; rfl, by rw [cell_of_row _ _ _ _ _ _ h.b0]; rfl⟩
  | 2, hy => cases hy; exact ⟨by rw [cell_of_row _ _ _ _ _ _ h.b0]; rfl, by rw [cell_of_row _ _ _ _ _ _ h.b0]; rfl⟩
  | 3, hy => cases hy; exact ⟨by rw [cell_of_row _ _ _ _ _ _ h.b0]; rfl, by rw [cell_of_row _ _ _ _ _ _ h.b0]; rfl⟩
theorem TD.prg {n : Nat} {mo : Nat} (h : TD W (mo : Int) n v wr) (hn : n ≤ 16) : PrgV wr (.agg #[.slice (some ⟨W.heap.size + 1, 0, none⟩) 1 1, .slice (some ⟨W.heap.size + 1 + 1 + 1, 0, none⟩) 1 1, v, .int .i64 9]) (dblP n mo) := by
  have t := h.top
  refine ⟨_, _, _, rfl, ?_, ?_, ?_⟩
  · obtain ⟨c0, c1⟩ := blk2 h.b1
    refine ⟨_, 1, rfl, by simp [dblP], by simp [dblP], Or.inr ⟨W.heap.size + 1, 0, rfl, trivial, by omega, fun j y hy => ?_⟩⟩
    match j, hy with
    | 0, hy => cases hy; exact ⟨c0, _, c1, h.cd⟩
  · obtain ⟨c0, c1, c2, c3⟩ := blk4 h.b3
    refine ⟨_, 1, rfl, by simp [dblP], by simp [dblP], Or.inr ⟨W.heap.size + 1 + 1 + 1, 0, rfl, trivial, by omega, fun j y hy => ?_⟩⟩
    match j, hy with
    | 0, hy => cases hy; exact ⟨⟨_, c0, ints_lit h.b2⟩, c1, c2, c3⟩
  · obtain ⟨us, hu⟩ := h.nt
    have hh := hu.ntes (by rw [List.length_replicate]; omega)
    exact hh.imp (fun _ _ => trivial) (Nat.le_refl _) fun _ _ _ _ _ ⟨h1, h2, c, h3, h4⟩ => ⟨h1, h2, c, h3, h4.weak fun _ _ => trivial⟩
end
end Go.Proofs.YtgdloonpemaijaaDoor
