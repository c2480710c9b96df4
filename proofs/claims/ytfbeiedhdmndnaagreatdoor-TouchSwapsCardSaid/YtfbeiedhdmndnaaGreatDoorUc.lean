/-
 The programs of chapter 12's laws, in memory: what net answers. Condition: so many notes.
-/
import Derived.Test.YtfbeiedhdmndnaaGreatDoorUb
import Derived.Test.YtfbeiedhdmndnaaGreatDoorTf
import Derived.Deep.RegionLaw
import Derived.Deep.AppendLies
namespace Go.Proofs.YtfbeiedhdmndnaaGreatDoor
open Go.RowKit
attribute [local go_sem ↓] Go.wp_at_zero Go.wp_at_succ
theorem infoAc : (Tryz.prog.info? 75).map (fun i => (i.zero, i.size, i.bytes)) = some (some (.agg #[.slice none 0 0, .int .i64 0, .int .i64 0, .bool false]), 4, 48) := by kernel_rfl
theorem infoNo : (Tryz.prog.info? 79).map (fun i => (i.zero, i.size, i.bytes)) = some (some (.agg #[.int .i64 0, .int .i64 0, .slice none 0 0]), 3, 40) := by kernel_rfl
def arow : List Value := [.slice none 0 0, .int .i64 4, .int .i64 (-1), .bool false]
/-- The program on its way: k actors, notes l. -/
structure NP (W : World) (k : Nat) (l : List PNte) (vA vB : Value) (us : List Value) (wr : World) : Prop where
 low : Below W.heap.size W wr
 res : wr.heap[W.heap.size]? = some (.cells #[.slice none 0 0, .slice none 0 0, .slice none 0 0, .int .i64 0] 26)
 cd : wr.heap[W.heap.size + 1]? = some (.cells #[.int .i64 7, .int .i64 0, .int .i64 1, .int .i64 0, .int .i64 16, .int .i64 0, .int .i64 21, .int .i64 5, .int .i64 25, .int .i64 0, .int .i64 1, .int .i64 (-1), .int .i64 7, .int .i64 0, .int .i64 22, .int .i64 0] 70)
 hd : wr.heap[W.heap.size + 1 + 1]? = some (.cells #[.int .i64 1, .slice (some ⟨W.heap.size + 1, 0, none⟩) 8 8] 73)
 box : wr.heap[W.heap.size + 1 + 1 + 1]? = some (.cells #[.slice (some ⟨W.heap.size + 1 + 1, 0, none⟩) 1 1, vA, vB, .int .i64 20] 26)
 ac : wr.ownsRow (W.heap.size + 1 + 1 + 1 + 1) 75 4 vA k ((List.replicate k arow).flatten)
 nt : NR (fun b => W.heap.size + 1 + 1 + 1 + 1 ≤ b ∧ vA.ownBlock ≠ some b) (W.heap.size + 1 + 1 + 1 + 1) wr vB l us
 ap : ∀ g, vA.ownBlock = some g → vB.ownBlock ≠ some g
section
variable {W wr w6 : World} {k : Nat} {l : List PNte} {vA vB : Value} {us : List Value}
theorem NP.top (h : NP W k l vA vB us wr) : W.heap.size + 1 + 1 + 1 < wr.heap.size := (Array.getElem?_eq_some_iff.1 h.box).1
theorem NP.formA (h : NP W k l vA vB us wr) : ∃ A c, vA = .slice A k c := by
 rcases h.ac.2 with ⟨rfl, h2⟩ | ⟨g, cap, cur, rfl, _⟩
 ·exact ⟨none, 0, by rw [h2]⟩
 ·exact ⟨_, cap, rfl⟩
theorem own_acts {w' : World} {base : Nat} (h : w'.ownsRow base 75 4 vA 4 ((List.replicate 4 arow).flatten)) : Acts anyB anyB w' vA [nact, nact, nact, nact] := by
 obtain ⟨h1, h2⟩ := h
 rcases h2 with ⟨rfl, h2⟩ | ⟨g, cap, cur, rfl, hb, hh, h3, h4, h5, h6⟩
 ·exact absurd h2 (by decide)
 ·have hcell : ∀ j, j < 16 → w'.cell? ⟨g, j, none⟩ = ((List.replicate 4 arow).flatten)[j]? := fun j hj => by
   rw [cell_of_row _ _ _ _ _ _ hh, ← h6, List.getElem?_take, if_pos (by omega)]; simp
  have h0 : ∀ w : World, Ints anyB w (.slice none 0 0) [] := fun w => ⟨_, _, rfl, by simp, by simp, Or.inl rfl⟩
  refine ⟨_, cap, rfl, by simp, h3, Or.inr ⟨g, 0, rfl, trivial, (Array.getElem?_eq_some_iff.1 hh).1, fun j y hy => ?_⟩⟩
  match j, hy with
  | 0, hy => cases hy; exact ⟨⟨_, hcell 0 (by decide), h0 _⟩, hcell 1 (by decide), hcell 2 (by decide), hcell 3 (by decide)⟩
  | 1, hy => cases hy; exact ⟨⟨_, hcell 4 (by decide), h0 _⟩, hcell 5 (by decide), hcell 6 (by decide), hcell 7 (by decide)⟩
  | 2, hy => cases hy; exact ⟨⟨_, hcell 8 (by decide), h0 _⟩, hcell 9 (by decide), hcell 10 (by decide), hcell 11 (by decide)⟩
  | 3, hy => cases hy; exact ⟨⟨_, hcell 12 (by decide), h0 _⟩, hcell 13 (by decide), hcell 14 (by decide), hcell 15 (by decide)⟩
theorem NP.cod {w' : World} (h : w'.heap[W.heap.size + 1]? = some (.cells #[.int .i64 7, .int .i64 0, .int .i64 1, .int .i64 0, .int .i64 16, .int .i64 0, .int .i64 21, .int .i64 5, .int .i64 25, .int .i64 0, .int .i64 1, .int .i64 (-1), .int .i64 7, .int .i64 0, .int .i64 22, .int .i64 0] 70)) : Code anyB w' (.slice (some ⟨W.heap.size + 1, 0, none⟩) 8 8) ncode := by
 have hl := (Array.getElem?_eq_some_iff.1 h).1
 refine ⟨_, 8, rfl, by simp [ncode], by simp [ncode], Or.inr ⟨W.heap.size + 1, 0, rfl, trivial, hl, fun j y hy => ?_⟩⟩
 match j, hy with
 | 0, hy => cases hy; exact ⟨by rw [cell_of_row _ _ _ _ _ _ h]; rfl, by rw [cell_of_row _ _ _ _ _ _ h]; rfl⟩
 | 1, hy => cases hy; exact ⟨by rw [cell_of_row _ _ _ _ _ _ h]; rfl, by rw [cell_of_row _ _ _ _ _ _ h]; rfl⟩
 | 2, hy => cases hy; exact ⟨by rw [cell_of_row _ _ _ _ _ _ h]; rfl, by rw [cell_of_row _ _ _ _ _ _ h]; rfl⟩
 | 3, hy => cases hy; exact ⟨by rw [cell_of_row _ _ _ _ _ _ h]; rfl, by rw [cell_of_row _ _ _ _ _ _ h]; rfl⟩
 | 4, hy => cases hy; exact ⟨by rw [cell_of_row _ _ _ _ _ _ h]; rfl, by rw [cell_of_row _ _ _ _ _ _ h]; rfl⟩
 | 5, hy => cases hy; exact ⟨by rw [cell_of_row _ _ _ _ _ _ h]; rfl, by rw [cell_of_row _ _ _ _ _ _ h]; rfl⟩
 | 6, hy => cases hy; exact ⟨by rw [cell_of_row _ _ _ _ _ _ h]; rfl, by rw [cell_of_row _ _ _ _ _ _ h]; rfl⟩
 | 7, hy => cases hy; exact ⟨by rw [cell_of_row _ _ _ _ _ _ h]; rfl, by rw [cell_of_row _ _ _ _ _ _ h]; rfl⟩
theorem NP.prg {w' : World} {bs : List PNte} (h : NP W 4 bs vA vB us wr) (hn : bs.length ≤ 8) (hS : Same (fun d => d ≠ W.heap.size) wr w') :
  PrgV w' (.agg #[.slice (some ⟨W.heap.size + 1 + 1, 0, none⟩) 1 1, vA, vB, .int .i64 20]) ⟨[⟨1, ncode⟩], [nact, nact, nact, nact], bs, 20⟩ := by
 have t := h.top
 have tz := hS.size
 have b1 := (hS.block _ (by show W.heap.size + 1 ≠ W.heap.size; omega) (by omega)).trans h.cd
 have b2 := (hS.block _ (by show W.heap.size + 1 + 1 ≠ W.heap.size; omega) (by omega)).trans h.hd
 refine ⟨_, _, _, rfl, ?_, ?_, ?_⟩
 ·obtain ⟨c0, c1⟩ : w'.cell? ⟨W.heap.size + 1 + 1, 0, none⟩ = some (.int .i64 1) ∧ w'.cell? ⟨W.heap.size + 1 + 1, 1, none⟩ = some (.slice (some ⟨W.heap.size + 1, 0, none⟩) 8 8) := ⟨by rw [cell_of_row _ _ _ _ _ _ b2]; rfl, by rw [cell_of_row _ _ _ _ _ _ b2]; rfl⟩
  refine ⟨_, 1, rfl, by simp, by simp, Or.inr ⟨W.heap.size + 1 + 1, 0, rfl, trivial, by omega, fun j y hy => ?_⟩⟩
  match j, hy with
  | 0, hy => cases hy; exact ⟨c0, _, c1, NP.cod b1⟩
 ·exact own_acts (own_block h.ac fun g hg hlt => hS.block g (by show g ≠ W.heap.size; have := (own_lt h.ac hg).1; omega) hlt)
 ·have hh := (h.nt.same tz fun b hlt hb => hS.block b (by show b ≠ W.heap.size; rcases hb with hb | hb; (have := hb.1; omega); (have := (own_lt h.nt.own hb).1; omega)) hlt).ntes (by omega)
  exact hh.imp (fun _ _ => trivial) (Nat.le_refl _) fun _ _ _ _ _ ⟨h1, h2, c, h3, h4⟩ => ⟨h1, h2, c, h3, h4.weak fun _ _ => trivial⟩
theorem NP.start (W : World) : NP W 0 [] (.slice none 0 0) (.slice none 0 0) [] ((((W.alloc (.cells #[.slice none 0 0, .slice none 0 0, .slice none 0 0, .int .i64 0] 26)).alloc (.cells #[.int .i64 7, .int .i64 0, .int .i64 1, .int .i64 0, .int .i64 16, .int .i64 0, .int .i64 21, .int .i64 5, .int .i64 25, .int .i64 0, .int .i64 1, .int .i64 (-1), .int .i64 7, .int .i64 0, .int .i64 22, .int .i64 0] 70)).alloc (.cells #[.int .i64 1, .slice (some ⟨W.heap.size + 1, 0, none⟩) 8 8] 73)).alloc (.cells #[.slice (some ⟨W.heap.size + 1 + 1, 0, none⟩) 1 1, .slice none 0 0, .slice none 0 0, .int .i64 20] 26)) :=
 have hA := new4 W (.cells #[.slice none 0 0, .slice none 0 0, .slice none 0 0, .int .i64 0] 26) (.cells #[.int .i64 7, .int .i64 0, .int .i64 1, .int .i64 0, .int .i64 16, .int .i64 0, .int .i64 21, .int .i64 5, .int .i64 25, .int .i64 0, .int .i64 1, .int .i64 (-1), .int .i64 7, .int .i64 0, .int .i64 22, .int .i64 0] 70) (.cells #[.int .i64 1, .slice (some ⟨W.heap.size + 1, 0, none⟩) 8 8] 73) (.cells #[.slice (some ⟨W.heap.size + 1 + 1, 0, none⟩) 1 1, .slice none 0 0, .slice none 0 0, .int .i64 20] 26)
 ⟨hA.2.2.2.2, hA.1, hA.2.1, hA.2.2.1, hA.2.2.2.1, ⟨rfl, Or.inl ⟨rfl, rfl⟩⟩, NR.nil _ _ _, fun _ e => by cases e⟩
theorem NP.act {gn cn : Nat} (h : NP W k [] vA (.slice none 0 0) [] wr) (ho : w6.ownsRow (W.heap.size + 1 + 1 + 1 + 1) 75 4 (.slice (some ⟨gn, 0, none⟩) (k + 1) cn) (k + 1) ((List.replicate k arow).flatten ++ arow))
  (hg : (wr.alloc (.cells #[.slice none 0 0, .int .i64 4, .int .i64 (-1), .bool false] 75)).grownBy w6 vA.ownBlock) : NP W (k + 1) [] (.slice (some ⟨gn, 0, none⟩) (k + 1) cn) (.slice none 0 0) [] (w6.setCell ⟨W.heap.size + 1 + 1 + 1, 1, none⟩ (.slice (some ⟨gn, 0, none⟩) (k + 1) cn)) := by
 have ht := h.top
 have hB : Below wr.heap.size wr (wr.alloc (.cells #[.slice none 0 0, .int .i64 4, .int .i64 (-1), .bool false] 75)) := bAlloc (bRefl _) _
 have hlo : ∀ b, vA.ownBlock = some b → W.heap.size + 1 + 1 + 1 + 1 ≤ b := fun b e => (own_lt h.ac e).1
 have hgn : W.heap.size + 1 + 1 + 1 + 1 ≤ gn := by
  rcases ho.2 with ⟨e, _⟩ | ⟨g, _, _, e, hb, _⟩
  ·cases e
  ·cases e; exact hb
 have keep : ∀ (b : Nat) (X : Obj), b < W.heap.size + 1 + 1 + 1 + 1 → wr.heap[b]? = some X → w6.heap[b]? = some X := fun b X hb hX =>
  (hg.block b (Nat.lt_of_lt_of_le (by omega : b < wr.heap.size) hB.size) (fun e => by have := hlo b e.symm; omega)).trans (boxAt hX hB)
 have hS : Same (fun d => d ≠ W.heap.size + 1 + 1 + 1) w6 (w6.setCell ⟨W.heap.size + 1 + 1 + 1, 1, none⟩ (.slice (some ⟨gn, 0, none⟩) (k + 1) cn)) := setCell_same fun _ h => h
 have keep2 : ∀ (b : Nat) (X : Obj), b < W.heap.size + 1 + 1 + 1 → wr.heap[b]? = some X → (w6.setCell ⟨W.heap.size + 1 + 1 + 1, 1, none⟩ (.slice (some ⟨gn, 0, none⟩) (k + 1) cn)).heap[b]? = some X := fun b X hb hX => by
  have h6 := keep b X (by omega) hX
  exact (hS.block b (by show b ≠ W.heap.size + 1 + 1 + 1; omega) (Array.getElem?_eq_some_iff.1 h6).1).trans h6
 refine ⟨(((bTrans h.low hB).grown hg (by have := h.low.size; have := hB.size; omega) fun j hj => by have := hlo j hj; omega)).setCell (p := ⟨W.heap.size + 1 + 1 + 1, 1, none⟩) (by show W.heap.size ≤ W.heap.size + 1 + 1 + 1; omega) _, keep2 _ _ (by omega) h.res, keep2 _ _ (by omega) h.cd, keep2 _ _ (by omega) h.hd, ?_, ?_, NR.nil _ _ _, fun g _ e => by cases e⟩
 ·exact (setCell_heap (keep _ _ (by omega) h.box)).trans (by simp)
 ·rw [List.replicate_succ', List.flatten_append]
  refine own_block (by simpa using ho) fun g hg _ => hS.block g ?_ ?_
  ·have : gn = g := Option.some.inj hg
   show g ≠ W.heap.size + 1 + 1 + 1; omega
  ·exact (own_lt ho hg).2
theorem NP.note {gn cn : Nat} {x : PNte} {y : Int} (h : NP W k l vA vB us wr) (hx : x.args = [y])
  (ho : w6.ownsRow (W.heap.size + 1 + 1 + 1 + 1) 79 3 (.slice (some ⟨gn, 0, none⟩) (l.length + 1) cn) (l.length + 1) ((List.zipWith ntrow l us).flatten ++ ntrow x (.slice (some ⟨wr.heap.size, 0, none⟩) 1 1)))
  (hg : ((wr.alloc (.cells #[.int .i64 y] 3)).alloc (.cells #[.int .i64 x.to, .int .i64 x.hd, .slice (some ⟨wr.heap.size, 0, none⟩) 1 1] 79)).grownBy w6 vB.ownBlock) (hat : vB.ownBlock = some gn ∨ gn = wr.heap.size + 1 + 1) :
  NP W k (l ++ [x]) vA (.slice (some ⟨gn, 0, none⟩) (l.length + 1) cn) (us ++ [.slice (some ⟨wr.heap.size, 0, none⟩) 1 1]) (w6.setCell ⟨W.heap.size + 1 + 1 + 1, 2, none⟩ (.slice (some ⟨gn, 0, none⟩) (l.length + 1) cn)) := by
 have ht := h.top
 have hB : Below wr.heap.size wr ((wr.alloc (.cells #[.int .i64 y] 3)).alloc (.cells #[.int .i64 x.to, .int .i64 x.hd, .slice (some ⟨wr.heap.size, 0, none⟩) 1 1] 79)) := bAlloc (bAlloc (bRefl _) _) _
 have hsz : ((wr.alloc (.cells #[.int .i64 y] 3)).alloc (.cells #[.int .i64 x.to, .int .i64 x.hd, .slice (some ⟨wr.heap.size, 0, none⟩) 1 1] 79)).heap.size = wr.heap.size + 2 := by simp
 have hblk : ((wr.alloc (.cells #[.int .i64 y] 3)).alloc (.cells #[.int .i64 x.to, .int .i64 x.hd, .slice (some ⟨wr.heap.size, 0, none⟩) 1 1] 79)).heap[wr.heap.size]? = some (.cells #[.int .i64 y] 3) := by
  rw [Below.heap_alloc _ _ _ (by simp)]; exact heap_new _ _
 have hlo : ∀ b, vB.ownBlock = some b → W.heap.size + 1 + 1 + 1 + 1 ≤ b := fun b e => (own_lt h.nt.own e).1
 have hloA : ∀ b, vA.ownBlock = some b → W.heap.size + 1 + 1 + 1 + 1 ≤ b ∧ b < wr.heap.size := fun b e => own_lt h.ac e
 have hgn : W.heap.size + 1 + 1 + 1 + 1 ≤ gn := by
  rcases ho.2 with ⟨e, _⟩ | ⟨g, _, _, e, hb, _⟩
  ·cases e
  ·cases e; exact hb
 have hgA : ∀ g, vA.ownBlock = some g → gn ≠ g := fun g hg e => by
  rcases hat with h1 | h1
  ·exact h.ap g hg (by rw [h1, e])
  ·have := (hloA g hg).2; omega
 have hS : Same (fun d => d ≠ W.heap.size + 1 + 1 + 1) w6 (w6.setCell ⟨W.heap.size + 1 + 1 + 1, 2, none⟩ (.slice (some ⟨gn, 0, none⟩) (l.length + 1) cn)) := setCell_same fun _ h => h
 have keep : ∀ (b : Nat) (X : Obj), b < wr.heap.size → vB.ownBlock ≠ some b → wr.heap[b]? = some X → w6.heap[b]? = some X := fun b X hb hn hX =>
  (hg.block b (by omega) (fun e => hn e.symm)).trans (boxAt hX hB)
 have keep2 : ∀ (b : Nat) (X : Obj), b < W.heap.size + 1 + 1 + 1 → wr.heap[b]? = some X → (w6.setCell ⟨W.heap.size + 1 + 1 + 1, 2, none⟩ (.slice (some ⟨gn, 0, none⟩) (l.length + 1) cn)).heap[b]? = some X := fun b X hb hX => by
  have h6 := keep b X (by omega) (fun e => by have := hlo b e; omega) hX
  exact (hS.block b (by show b ≠ W.heap.size + 1 + 1 + 1; omega) (Array.getElem?_eq_some_iff.1 h6).1).trans h6
 have hnt := (h.nt.below hB).push (ms := [x]) (xs := [.slice (some ⟨wr.heap.size, 0, none⟩) 1 1]) (m := 1) rfl rfl (by simpa using ho) hg (hat.imp id fun e => by rw [e, hsz]) (fun j n u' hn hu' => by
  cases j with
  | zero =>
   simp at hn hu'
   subst hn hu'
   rw [hx]
   refine ⟨_, 1, rfl, by simp, by simp, Or.inr ⟨wr.heap.size, 0, rfl, ⟨⟨by omega, fun e => by have := (hloA _ e).2; omega⟩, fun e => by have := (own_lt h.nt.own e).2; omega⟩, by omega, fun j y hy => ?_⟩⟩
   cases j with
   | zero => simp at hy; subst hy; show World.cell? _ ⟨wr.heap.size, 0, none⟩ = _; rw [cell_of_row _ _ _ _ _ _ hblk]; rfl
   | succ j => simp at hy
  | succ j => simp at hn)
 refine ⟨(((bTrans h.low hB).grown hg (by have := h.low.size; have := hB.size; omega) fun j hj => by have := hlo j hj; omega)).setCell (p := ⟨W.heap.size + 1 + 1 + 1, 2, none⟩) (by show W.heap.size ≤ W.heap.size + 1 + 1 + 1; omega) _, keep2 _ _ (by omega) h.res, keep2 _ _ (by omega) h.cd, keep2 _ _ (by omega) h.hd, ?_, ?_, ?_, fun g hgA' e => hgA g hgA' (Option.some.inj e)⟩
 ·exact (setCell_heap (keep _ _ (by omega) (fun e => by have := hlo _ e; omega) h.box)).trans (by simp)
 ·refine own_block (own_block h.ac fun g hg' hlt => ?_) fun g hg' hlt => hS.block g (by show g ≠ W.heap.size + 1 + 1 + 1; have := (hloA g hg').1; omega) hlt
  exact (hg.block g (by omega) (fun e => h.ap g hg' e.symm)).trans (hB.block g hlt)
 ·refine hnt.same (by simp) fun b hlt hb => hS.block b ?_ hlt
  show b ≠ W.heap.size + 1 + 1 + 1
  rcases hb with hb | hb
  ·have := hb.1; omega
  ·have : gn = b := Option.some.inj hb
   omega
end
theorem ungrow {W w : World} {r : Option Nat} (h : W.drew.grownBy w r) : W.grownBy w r := World.grownBy.trans (⟨rfl, rfl, rfl, Nat.le_refl _, fun _ _ _ => rfl⟩ : W.grownBy W.drew r) h
theorem rem4 (k : Nat) : (k : Int).tmod 4 = ((k % 4 : Nat) : Int) := by rw [Int.tmod_eq_emod_of_nonneg (by omega)]; omega
theorem nNts_succ (l : List Int) (k : Nat) : nNts l (k + 1) = nNts l k ++ [nNte l k] := by unfold nNts; rw [List.range_succ, List.map_append]; rfl
theorem nNts_len (l : List Int) (k : Nat) : (nNts l k).length = k := by simp [nNts]
end Go.Proofs.YtfbeiedhdmndnaaGreatDoor
