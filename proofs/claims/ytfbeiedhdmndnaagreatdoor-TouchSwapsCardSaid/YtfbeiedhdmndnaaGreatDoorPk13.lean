/-
  The program of two actors that the laws make.
-/
import Derived.Test.YtfbeiedhdmndnaaGreatDoorPk12
import Derived.Test.YtfbeiedhdmndnaaGreatDoorPk5
import Derived.Test.YtfbeiedhdmndnaaGreatDoorPk11
import Derived.Laws.StructEq
namespace Go.Proofs.YtfbeiedhdmndnaaGreatDoor
open Go.RowKit
def ntrow (m : PNte) (u : Value) : List Value := [.int .i64 m.to, .int .i64 m.hd, u]
structure NR (P : Nat → Prop) (base : Nat) (w : World) (v : Value) (l : List PNte) (us : List Value) : Prop where
 own : w.ownsRow base 79 3 v l.length ((List.zipWith ntrow l us).flatten)
 len : us.length = l.length
 rd : ∀ (k : Nat) (n : PNte) (u : Value), l[k]? = some n → us[k]? = some u → Ints (fun b => P b ∧ v.ownBlock ≠ some b) w u n.args
section
variable {P : Nat → Prop} {base : Nat} {w w1 w' : World} {v : Value} {l : List PNte} {us : List Value}
theorem NR.same (h : NR P base w v l us) (hz : w.heap.size ≤ w'.heap.size) (hs : ∀ b, b < w.heap.size → P b ∨ v.ownBlock = some b → w'.heap[b]? = w.heap[b]?) : NR P base w' v l us :=
 ⟨own_block h.own fun g hg hlt => hs g hlt (Or.inr hg), h.len, fun k n u hn hu => (h.rd k n u hn hu).same ⟨hz, fun b hb hlt => hs b hlt (Or.inl hb.1)⟩⟩
theorem NR.below (h : NR P base w v l us) (hb : Below w.heap.size w w') : NR P base w' v l us := h.same hb.size fun b hlt _ => hb.block b hlt
theorem NR.form (h : NR P base w v l us) : ∃ A c, v = .slice A l.length c := by
 obtain ⟨h1, h2⟩ := h.own
 rcases h2 with ⟨rfl, h2⟩ | ⟨g, cap, cur, rfl, _⟩
 ·exact ⟨none, 0, by rw [h2]⟩
 ·exact ⟨_, cap, rfl⟩
theorem NR.nil (P : Nat → Prop) (base : Nat) (w : World) : NR P base w (.slice none 0 0) [] [] :=
 ⟨⟨rfl, Or.inl ⟨rfl, rfl⟩⟩, rfl, fun k n u hn => by simp at hn⟩
theorem zip_lenN : ∀ (l : List PNte) (us : List Value), ∀ e ∈ List.zipWith ntrow l us, e.length = 3
 | [], _, e, he => by simp at he
 | _ :: _, [], e, he => by simp at he
 | n :: l, u :: us, e, he => by
  rw [List.zipWith_cons_cons, List.mem_cons] at he
  rcases he with rfl | he
  ·rfl
  ·exact zip_lenN l us e he
theorem NR.push {g cap m : Nat} {ms : List PNte} {xs : List Value} (h : NR P base w v l us) (hm : ms.length = m) (hx : xs.length = ms.length)
  (ho : w'.ownsRow base 79 3 (.slice (some ⟨g, 0, none⟩) (l.length + m) cap) (l.length + m) ((List.zipWith ntrow l us).flatten ++ (List.zipWith ntrow ms xs).flatten))
  (hg : w.grownBy w' v.ownBlock) (hat : v.ownBlock = some g ∨ g = w.heap.size) (hu : ∀ (k : Nat) (n : PNte) (u : Value), ms[k]? = some n → xs[k]? = some u → Ints (fun b => P b ∧ v.ownBlock ≠ some b) w u n.args) :
  NR P base w' (.slice (some ⟨g, 0, none⟩) (l.length + m) cap) (l ++ ms) (us ++ xs) := by
 have hge : ∀ b, (Value.slice (some ⟨g, 0, none⟩) (l.length + m) cap).ownBlock = some b → b = g := fun b hb => (Option.some.inj hb).symm
 have key : ∀ (n : PNte) (u : Value), Ints (fun b => P b ∧ v.ownBlock ≠ some b) w u n.args → Ints (fun b => P b ∧ (Value.slice (some ⟨g, 0, none⟩) (l.length + m) cap).ownBlock ≠ some b) w' u n.args := fun n u h1 =>
  h1.lt.imp (fun b hb => ⟨hb.1.1, fun e => by
   have := hge b e
   subst this
   rcases hat with hat | hat
   ·exact hb.1.2 hat
   ·have := hb.2; omega⟩) hg.size fun b o x hb hlt hr => (World.cell?_of_block (w := w) (hg.block b hlt (fun e => hb.1.2 e.symm))).trans hr
 refine ⟨?_, by simp [h.len, hx], fun k n' u' hn hu' => ?_⟩
 ·rw [List.length_append, hm, List.zipWith_append (by rw [h.len]), List.flatten_append]
  exact ho
 ·by_cases hk : k < l.length
  ·rw [List.getElem?_append_left hk] at hn
   rw [List.getElem?_append_left (by rw [h.len]; exact hk)] at hu'
   exact key _ _ (h.rd k n' u' hn hu')
  ·rw [List.getElem?_append_right (by omega)] at hn
   rw [List.getElem?_append_right (by rw [h.len]; omega), h.len] at hu'
   exact key _ _ (hu _ n' u' hn hu')
theorem NR.ntes (h : NR P base w v l us) (hl : l.length ≤ 1000000) : Ntes (fun b => base ≤ b ∧ v.ownBlock = some b) P w v l := by
 obtain ⟨h1, h2⟩ := h.own
 rcases h2 with ⟨rfl, h2⟩ | ⟨g, cap, cur, rfl, hb, hh, h3, h4, h5, h6⟩
 ·have : l = [] := by cases l with | nil => rfl | cons _ _ => simp at h2
  subst this; exact ⟨_, _, rfl, by simp, by simp, Or.inl rfl⟩
 ·refine ⟨_, cap, rfl, by omega, h3, Or.inr ⟨g, 0, rfl, ⟨hb, rfl⟩, (Array.getElem?_eq_some_iff.1 hh).1, fun k n hn => ?_⟩⟩
  have hk := (List.getElem?_eq_some_iff.1 hn).1
  obtain ⟨u, hu⟩ := at_lt (l := us) (k := k) (by rw [h.len]; exact hk)
  have hz : (List.zipWith ntrow l us)[k]? = some (ntrow n u) := by rw [List.getElem?_zipWith, hn, hu]
  have hcell : ∀ j, j < l.length * 3 → w.cell? ⟨g, j, none⟩ = ((List.zipWith ntrow l us).flatten)[j]? := fun j hj => by
   rw [cell_of_row _ _ _ _ _ _ hh, ← h6, List.getElem?_take, if_pos hj]; simp
  have hc : ∀ j, j < 3 → w.cell? ⟨g, 0 + k * 3 + j, none⟩ = (ntrow n u)[j]? := fun j hj => by
   rw [Nat.zero_add, hcell _ (by omega), flat_at _ (zip_lenN l us) k j hj, hz]; rfl
  exact ⟨hc 0 (by omega), hc 1 (by omega), u, hc 2 (by omega), (h.rd k n u hn hu).weak fun b hb => hb.1⟩
end
def note1 (i : Nat) : PNte := ⟨((i % 2 : Nat) : Int), 0, [(i : Int)]⟩
def boots (n : Nat) : List PNte := (List.range n).map note1
def twoP (n : Nat) (most : Int) : PPrg := ⟨[⟨1, []⟩], [⟨[4], most, -1, false⟩, ⟨[], most, -1, false⟩], boots n, 5⟩
theorem boots_len (n : Nat) : (boots n).length = n := by simp [boots]
abbrev zP : Obj := .cells #[.slice none 0 0, .slice none 0 0, .slice none 0 0, .int .i64 0] 26
structure TW (W : World) (most : Int) (l : List PNte) (v : Value) (wr : World) : Prop where
 b0 : wr.heap[W.heap.size]? = some zP
 b1 : wr.heap[W.heap.size + 1]? = some (.cells #[.int .i64 1, .slice none 0 0] 73)
 b2 : wr.heap[W.heap.size + 1 + 1]? = some (.cells #[.int .i64 4] 3)
 b3 : wr.heap[W.heap.size + 1 + 1 + 1]? = some (.cells #[.slice (some ⟨W.heap.size + 1 + 1, 0, none⟩) 1 1, .int .i64 most, .int .i64 (-1), .bool false, .slice none 0 0, .int .i64 most, .int .i64 (-1), .bool false] 75)
 b4 : wr.heap[W.heap.size + 1 + 1 + 1 + 1]? = some (.cells #[.slice (some ⟨W.heap.size + 1, 0, none⟩) 1 1, .slice (some ⟨W.heap.size + 1 + 1 + 1, 0, none⟩) 2 2, v, .int .i64 5] 26)
 nt : ∃ us, NR (fun b => W.heap.size + 1 + 1 + 1 + 1 + 1 ≤ b) (W.heap.size + 1 + 1 + 1 + 1 + 1) wr v l us
 low : Below W.heap.size W wr
theorem blk8 {b : Nat} {v0 v1 v2 v3 v4 v5 v6 v7 : Value} {t : TypeId} {w : World} (h : w.heap[b]? = some (.cells #[v0, v1, v2, v3, v4, v5, v6, v7] t)) : w.cell? ⟨b, 0, none⟩ = some v0 ∧ w.cell? ⟨b, 1, none⟩ = some v1 ∧ w.cell? ⟨b, 2, none⟩ = some v2 ∧ w.cell? ⟨b, 3, none⟩ = some v3 ∧ w.cell? ⟨b, 4, none⟩ = some v4 ∧ w.cell? ⟨b, 5, none⟩ = some v5 ∧ w.cell? ⟨b, 6, none⟩ = some v6 ∧ w.cell? ⟨b, 7, none⟩ = some v7 :=
 ⟨by rw [cell_of_row _ _ _ _ _ _ h]; rfl, by rw [cell_of_row _ _ _ _ _ _ h]; rfl, by rw [cell_of_row _ _ _ _ _ _ h]; rfl, by rw [cell_of_row _ _ _ _ _ _ h]; rfl, by rw [cell_of_row _ _ _ _ _ _ h]; rfl, by rw [cell_of_row _ _ _ _ _ _ h]; rfl, by rw [cell_of_row _ _ _ _ _ _ h]; rfl, by rw [cell_of_row _ _ _ _ _ _ h]; rfl⟩
theorem TW.start (W : World) (most : Int) : TW W most [] (.slice none 0 0) (((((W.alloc zP).alloc (.cells #[.int .i64 1, .slice none 0 0] 73)).alloc (.cells #[.int .i64 4] 3)).alloc (.cells #[.slice (some ⟨W.heap.size + 1 + 1, 0, none⟩) 1 1, .int .i64 most, .int .i64 (-1), .bool false, .slice none 0 0, .int .i64 most, .int .i64 (-1), .bool false] 75)).alloc (.cells #[.slice (some ⟨W.heap.size + 1, 0, none⟩) 1 1, .slice (some ⟨W.heap.size + 1 + 1 + 1, 0, none⟩) 2 2, .slice none 0 0, .int .i64 5] 26)) := by
 refine ⟨?_, ?_, ?_, ?_, ?_, ⟨[], ⟨⟨rfl, Or.inl ⟨rfl, rfl⟩⟩, rfl, fun k n u hn => by simp at hn⟩⟩, bAlloc (bAlloc (bAlloc (bAlloc (bAlloc (bRefl _) _) _) _) _) _⟩
 ·rw [Below.heap_alloc _ _ _ (by simp <;> omega), Below.heap_alloc _ _ _ (by simp <;> omega), Below.heap_alloc _ _ _ (by simp <;> omega), Below.heap_alloc _ _ _ (by simp)]; exact heap_new _ _
 ·rw [Below.heap_alloc _ _ _ (by simp <;> omega), Below.heap_alloc _ _ _ (by simp <;> omega), Below.heap_alloc _ _ _ (by simp)]; exact heap_new2 (by simp)
 ·rw [Below.heap_alloc _ _ _ (by simp <;> omega), Below.heap_alloc _ _ _ (by simp)]; exact heap_new2 (by simp)
 ·rw [Below.heap_alloc _ _ _ (by simp)]; exact heap_new2 (by simp)
 ·exact heap_new2 (by simp)
abbrev put4 (w : World) (b : Nat) (a0 a1 a2 a3 : Value) : World := (((w.setCell ⟨b, 0, none⟩ a0).setCell ⟨b, 1, none⟩ a1).setCell ⟨b, 2, none⟩ a2).setCell ⟨b, 3, none⟩ a3
theorem put4_same {w : World} {b : Nat} {a0 a1 a2 a3 : Value} : Same (fun d => d ≠ b) w (put4 w b a0 a1 a2 a3) :=
 (((setCell_same fun _ h => h).trans (setCell_same fun _ h => h)).trans (setCell_same fun _ h => h)).trans (setCell_same fun _ h => h)
theorem put4_below {B : Nat} {a w : World} {b : Nat} {a0 a1 a2 a3 : Value} (h : Below B a w) (hb : B ≤ b) : Below B a (put4 w b a0 a1 a2 a3) :=
 (((h.setCell (p := ⟨b, 0, none⟩) hb _).setCell (p := ⟨b, 1, none⟩) hb _).setCell (p := ⟨b, 2, none⟩) hb _).setCell (p := ⟨b, 3, none⟩) hb _
section
variable {W wr w6 : World} {most : Int} {l : List PNte} {v : Value} {us : List Value} {k : Nat}
theorem TW.top (h : TW W most l v wr) : W.heap.size + 1 + 1 + 1 + 1 + 1 ≤ wr.heap.size := (Array.getElem?_eq_some_iff.1 h.b4).1
theorem TW.nb (h : TW W most l v wr) : ∀ b, v.ownBlock = some b → W.heap.size + 1 + 1 + 1 + 1 + 1 ≤ b := fun b e => by obtain ⟨us, hu⟩ := h.nt; exact (own_lt hu.own e).1
theorem TW.next {x : PNte} {gn cn : Nat} (h : TW W most l v wr) (hu : NR (fun b => W.heap.size + 1 + 1 + 1 + 1 + 1 ≤ b) (W.heap.size + 1 + 1 + 1 + 1 + 1) wr v l us) (hx : x.args = [(k : Int)])
  (ho : w6.ownsRow (W.heap.size + 1 + 1 + 1 + 1 + 1) 79 3 (.slice (some ⟨gn, 0, none⟩) (l.length + 1) cn) (l.length + 1) ((List.zipWith ntrow l us).flatten ++ ntrow x (.slice (some ⟨wr.heap.size, 0, none⟩) 1 1)))
  (hg : ((wr.alloc (.cells #[.int .i64 (k : Int)] 3)).alloc (.cells #[.int .i64 x.to, .int .i64 x.hd, .slice (some ⟨wr.heap.size, 0, none⟩) 1 1] 79)).grownBy w6 v.ownBlock) (hat : v.ownBlock = some gn ∨ gn = wr.heap.size + 1 + 1) :
  TW W most (l ++ [x]) (.slice (some ⟨gn, 0, none⟩) (l.length + 1) cn) (w6.setCell ⟨W.heap.size + 1 + 1 + 1 + 1, 2, none⟩ (.slice (some ⟨gn, 0, none⟩) (l.length + 1) cn)) := by
 have ht := h.top
 have hnb := h.nb
 have hB : Below wr.heap.size wr ((wr.alloc (.cells #[.int .i64 (k : Int)] 3)).alloc (.cells #[.int .i64 x.to, .int .i64 x.hd, .slice (some ⟨wr.heap.size, 0, none⟩) 1 1] 79)) := bAlloc (bAlloc (bRefl _) _) _
 have hsz : ((wr.alloc (.cells #[.int .i64 (k : Int)] 3)).alloc (.cells #[.int .i64 x.to, .int .i64 x.hd, .slice (some ⟨wr.heap.size, 0, none⟩) 1 1] 79)).heap.size = wr.heap.size + 2 := by simp
 have hgn : W.heap.size + 1 + 1 + 1 + 1 + 1 ≤ gn := by rcases hat with e | e; exact hnb gn e; omega
 have keep : ∀ (b : Nat) (X : Obj), b < W.heap.size + 1 + 1 + 1 + 1 + 1 → wr.heap[b]? = some X → w6.heap[b]? = some X := fun b X hb hX =>
  (hg.block b (by omega) (fun e => by have := hnb b e.symm; omega)).trans (boxAt hX hB)
 have hS : Same (fun d => d ≠ W.heap.size + 1 + 1 + 1 + 1) w6 (w6.setCell ⟨W.heap.size + 1 + 1 + 1 + 1, 2, none⟩ (.slice (some ⟨gn, 0, none⟩) (l.length + 1) cn)) := setCell_same fun _ h => h
 have keep2 : ∀ (b : Nat) (X : Obj), b < W.heap.size + 1 + 1 + 1 + 1 → wr.heap[b]? = some X → (w6.setCell ⟨W.heap.size + 1 + 1 + 1 + 1, 2, none⟩ (.slice (some ⟨gn, 0, none⟩) (l.length + 1) cn)).heap[b]? = some X := fun b X hb hX => by
  have h6 := keep b X (by omega) hX
  exact (hS.block b (by show b ≠ W.heap.size + 1 + 1 + 1 + 1; omega) (Array.getElem?_eq_some_iff.1 h6).1).trans h6
 have hblk : ((wr.alloc (.cells #[.int .i64 (k : Int)] 3)).alloc (.cells #[.int .i64 x.to, .int .i64 x.hd, .slice (some ⟨wr.heap.size, 0, none⟩) 1 1] 79)).heap[wr.heap.size]? = some (.cells #[.int .i64 (k : Int)] 3) := by
  rw [Below.heap_alloc _ _ _ (by simp)]; exact heap_new _ _
 have key := (hu.below hB).push (ms := [x]) (xs := [.slice (some ⟨wr.heap.size, 0, none⟩) 1 1]) (m := 1) rfl rfl (by simpa using ho) hg (hat.imp id fun e => by rw [e, hsz]) (fun j n u' hn hu' => by
  cases j with
  | zero =>
   simp at hn hu'
   subst hn hu'
   rw [hx]
   refine ⟨_, 1, rfl, by simp, by simp, Or.inr ⟨wr.heap.size, 0, rfl, ⟨by omega, fun e => by have := (own_lt hu.own e).2; omega⟩, by omega, fun j y hy => ?_⟩⟩
   cases j with
   | zero => simp at hy; subst hy; show World.cell? _ ⟨wr.heap.size, 0, none⟩ = _; rw [cell_of_row _ _ _ _ _ _ hblk]; rfl
   | succ j => simp at hy
  | succ j => simp at hn)
 refine ⟨keep2 _ _ (by omega) h.b0, keep2 _ _ (by omega) h.b1, keep2 _ _ (by omega) h.b2, keep2 _ _ (by omega) h.b3, (setCell_heap (keep _ _ (by omega) h.b4)).trans (by simp), ⟨us ++ [_], key.same hS.size fun b hlt hb => hS.block b ?_ hlt⟩, ?_⟩
 ·rcases hb with hb | hb
  ·show b ≠ W.heap.size + 1 + 1 + 1 + 1; omega
  ·have : b = gn := (Option.some.inj hb).symm; show b ≠ W.heap.size + 1 + 1 + 1 + 1; omega
 ·have h1 : Below W.heap.size W ((wr.alloc (.cells #[.int .i64 (k : Int)] 3)).alloc (.cells #[.int .i64 x.to, .int .i64 x.hd, .slice (some ⟨wr.heap.size, 0, none⟩) 1 1] 79)) := bTrans h.low hB
  exact (h1.grown hg (by have := h.low.size; omega) (fun j hj => by have := hnb j hj; omega)).setCell (p := ⟨W.heap.size + 1 + 1 + 1 + 1, 2, none⟩) (by show W.heap.size ≤ W.heap.size + 1 + 1 + 1 + 1; omega) _
theorem TW.prg {n : Nat} (h : TW W most (boots n) v wr) (hn : n ≤ 16) {w' : World} (hS : Same (fun d => d ≠ W.heap.size) wr w') : PrgV w' (.agg #[.slice (some ⟨W.heap.size + 1, 0, none⟩) 1 1, .slice (some ⟨W.heap.size + 1 + 1 + 1, 0, none⟩) 2 2, v, .int .i64 5]) (twoP n most) := by
 have t := h.top
 have tz := hS.size
 have b1 := (hS.block _ (by show W.heap.size + 1 ≠ W.heap.size; omega) (by omega)).trans h.b1
 have b2 := (hS.block _ (by show W.heap.size + 1 + 1 ≠ W.heap.size; omega) (by omega)).trans h.b2
 have b3 := (hS.block _ (by show W.heap.size + 1 + 1 + 1 ≠ W.heap.size; omega) (by omega)).trans h.b3
 refine ⟨_, _, _, rfl, ?_, ?_, ?_⟩
 ·obtain ⟨c0, c1⟩ : w'.cell? ⟨W.heap.size + 1, 0, none⟩ = some (.int .i64 1) ∧ w'.cell? ⟨W.heap.size + 1, 1, none⟩ = some (.slice none 0 0) := ⟨by rw [cell_of_row _ _ _ _ _ _ b1]; rfl, by rw [cell_of_row _ _ _ _ _ _ b1]; rfl⟩
  refine ⟨_, 1, rfl, by simp [twoP], by simp [twoP], Or.inr ⟨W.heap.size + 1, 0, rfl, trivial, by omega, fun j y hy => ?_⟩⟩
  match j, hy with
  | 0, hy => cases hy; exact ⟨c0, _, c1, ⟨_, _, rfl, by simp, by simp, Or.inl rfl⟩⟩
 ·obtain ⟨c0, c1, c2, c3, c4, c5, c6, c7⟩ := blk8 b3
  have r0 : w'.cell? ⟨W.heap.size + 1 + 1, 0, none⟩ = some (.int .i64 4) := by rw [cell_of_row _ _ _ _ _ _ b2]; rfl
  refine ⟨_, 2, rfl, by simp [twoP], by simp [twoP], Or.inr ⟨W.heap.size + 1 + 1 + 1, 0, rfl, trivial, by omega, fun j y hy => ?_⟩⟩
  match j, hy with
  | 0, hy =>
   cases hy
   refine ⟨⟨_, c0, ⟨_, 1, rfl, by simp, by simp, Or.inr ⟨W.heap.size + 1 + 1, 0, rfl, trivial, by omega, fun j y hy => ?_⟩⟩⟩, c1, c2, c3⟩
   match j, hy with
   | 0, hy => cases hy; exact r0
  | 1, hy => cases hy; exact ⟨⟨_, c4, ⟨_, _, rfl, by simp, by simp, Or.inl rfl⟩⟩, c5, c6, c7⟩
 ·obtain ⟨us, hu⟩ := h.nt
  have hh := (hu.same tz fun b hlt hb => hS.block b (by show b ≠ W.heap.size; rcases hb with hb | hb; (omega); (have := (own_lt hu.own hb).1; omega)) hlt).ntes (by rw [boots_len]; omega)
  exact hh.imp (fun _ _ => trivial) (Nat.le_refl _) fun _ _ _ _ _ ⟨h1, h2, c, h3, h4⟩ => ⟨h1, h2, c, h3, h4.weak fun _ _ => trivial⟩
end
end Go.Proofs.YtfbeiedhdmndnaaGreatDoor
namespace Go.Proofs.YtfbeiedhdmndnaaGreatDoor
open Go.RowKit
theorem eqB_loc (a b : PLoc) : eqB a b = ((a.armed == b.armed) && ((a.down == b.down) && ((a.sent == b.sent) && ((a.over == b.over) && eqB a.regs b.regs)))) := by
 obtain ⟨r, p, q, s, t⟩ := a
 obtain ⟨r', p', q', s', t'⟩ := b
 unfold eqB
 rw [Bool.eq_iff_iff]; simp
 constructor
 ·rintro ⟨h1, h2, h3, h4, h5⟩; exact ⟨h2, h3, h4, h5, h1⟩
 ·rintro ⟨h2, h3, h4, h5, h1⟩; exact ⟨h1, h2, h3, h4, h5⟩
set_option maxHeartbeats 2000000 in
set_option maxRecDepth 100000 in
theorem sameLoc_any (w : World) (v1 v2 : Value) (a b : PLoc) (h1 : LocV anyB w v1 a) (h2 : LocV anyB w v2 b) :
  Calls Tryz.prog 66 #[v1, v2] w fun e w' => e = .returned (.bool (eqB a b)) ∧ Below w.heap.size w w' := by
 obtain ⟨c1, rfl, h1⟩ := h1
 obtain ⟨c2, rfl, h2⟩ := h2
 obtain ⟨A1, d1, rfl, _⟩ := h1.form
 obtain ⟨A2, d2, rfl, _⟩ := h2.form
 have HE := hid_mk (eqB_loc a b)
 have HB : ∀ (x y : Obj), Below w.heap.size w ((w.alloc x).alloc y) := fun x y => bAlloc (bAlloc (bRefl w) x) y
 cases e1 : (a.armed == b.armed) with
 | false =>
  have HR : Hid (false = eqB a b) := by show _ = _; rw [HE.out, e1]; rfl
  go_enter Tryz.func66, Tryz.ntmps66
  go_wp2
  go_ret
  exact ⟨ret_b HR.out, HB _ _⟩
 | true =>
  cases e2 : (a.down == b.down) with
  | false =>
   have HR : Hid (false = eqB a b) := by show _ = _; rw [HE.out, e1, e2]; rfl
   go_enter Tryz.func66, Tryz.ntmps66
   go_wp2
   go_ret
   exact ⟨ret_b HR.out, HB _ _⟩
  | true =>
   cases e3 : (a.sent == b.sent) with
   | false =>
    have HR : Hid (false = eqB a b) := by show _ = _; rw [HE.out, e1, e2, e3]; rfl
    go_enter Tryz.func66, Tryz.ntmps66
    go_wp2
    go_ret
    exact ⟨ret_b HR.out, HB _ _⟩
   | true =>
    cases e4 : (a.over == b.over) with
    | false =>
     have HR : Hid (false = eqB a b) := by show _ = _; rw [HE.out, e1, e2, e3, e4]; rfl
     go_enter Tryz.func66, Tryz.ntmps66
     go_wp2
     go_ret
     exact ⟨ret_b HR.out, HB _ _⟩
    | true =>
     have HR : Hid (eqB a.regs b.regs = eqB a b) := by show _ = _; rw [HE.out, e1, e2, e3, e4]; simp
     go_enter Tryz.func66, Tryz.ntmps66
     go_wp2_with (go_at_call 96; refine (eqI anyB anyB _ _ _ a.regs b.regs (h1.below (by exact HB _ _)) (h2.below (by exact HB _ _))).mono ?_; rintro e w2 ⟨rfl, hb2⟩)
     go_ret
     exact ⟨ret_b HR.out, bTrans (HB _ _) (quiet_below hb2)⟩
set_option maxHeartbeats 4000000 in
theorem equalL_any (w : World) (v1 v2 : Value) (a b : List PLoc) (h1 : Locs anyB anyB w v1 a) (h2 : Locs anyB anyB w v2 b) :
  Calls Tryz.prog 65 #[v1, v2, .func (.func 66) #[] #[]] w fun e w' => e = .returned (.bool (eqB a b)) ∧ Below w.heap.size w w' := by
 obtain ⟨A1, c1, rfl, hl1⟩ := h1.form
 obtain ⟨A2, c2, rfl, hl2⟩ := h2.form
 by_cases hlen : a.length = b.length
 ·have HL : Hid (a.length = b.length) := hlen
  have e1 := lt_eq hlen
  clear hlen
  go_enter Tryz.func65, Tryz.ntmps65
  go_wp2
  go_loopg [7, 8, 9, 17] a.length (fun g i7 i8 i9 i17 wr => ∃ k : Nat, g = a.length - k ∧ k ≤ a.length ∧ i17 = .int .i64 k ∧ Hid (a.take k = b.take k) ∧ Below w.heap.size w wr)
  case atStart => exact ⟨0, rfl, by omega, rfl, rfl, bRefl w⟩
  case round =>
   obtain ⟨k, rfl, hk, rfl, ht, hb⟩ := hrel
   by_cases hlt : k < a.length
   ·obtain ⟨b1, o1, x, v1, rfl, hx, hz1, q1, q2, q3, q4, q5, hv1⟩ := h1.cell hb hlt
    obtain ⟨b2, o2, y, v2, rfl, hy, hz2, s1, s2, s3, s4, s5, hv2⟩ := h2.cell hb (k := k) (by have := HL.out; omega)
    obtain ⟨V1, n1, rfl, _⟩ := hv1.form
    obtain ⟨V2, n2, rfl, _⟩ := hv2.form
    have hlt2 : (k : Int) < b.length := by have := HL.out; omega
    have HX : Hid (a[k]? = some x) := hx
    have HY : Hid (b[k]? = some y) := hy
    have HB : Hid (Below w.heap.size w wr) := hb
    clear hx hy hb
    by_cases hxy : x = y
    ·have e2 := eqB_yes hxy
     have HE : Hid (x = y) := hxy
     clear hxy
     go_wp2_with (go_at_call 66; refine (sameLoc_any _ _ _ x y ⟨_, rfl, hv1.below (by exact bAlloc (bAlloc (bRefl _) _) _)⟩ ⟨_, rfl, hv2.below (by exact bAlloc (bAlloc (bRefl _) _) _)⟩).mono ?_; rintro e w' ⟨rfl, hb1⟩)
     go_roundg (a.length - (k + 1))
     case measure => omega
     case rel => exact ⟨k + 1, rfl, by omega, by go_num, take_eq ht.out HX.out HY.out HE.out, bTrans HB.out (bTrans (bAlloc (bAlloc (bRefl _) _) _) hb1)⟩
    ·have e2 := eqB_no hxy
     have HE : Hid (x ≠ y) := hxy
     clear hxy
     go_wp2_with (go_at_call 66; refine (sameLoc_any _ _ _ x y ⟨_, rfl, hv1.below (by exact bAlloc (bAlloc (bRefl _) _) _)⟩ ⟨_, rfl, hv2.below (by exact bAlloc (bAlloc (bRefl _) _) _)⟩).mono ?_; rintro e w' ⟨rfl, hb1⟩)
     go_ret
     exact ⟨ret_b (eqB_no (take_ne HX.out HY.out HE.out)).symm, bTrans HB.out (bTrans (bAlloc (bAlloc (bRefl _) _) _) hb1)⟩
   ·go_wp2
    go_ret
    exact ⟨ret_b (eqB_yes (take_all HL.out hlt ht.out)).symm, hb⟩
 ·have e1 := lt_ne hlen
  go_enter Tryz.func65, Tryz.ntmps65
  go_wp2
  go_ret
  exact ⟨ret_b (eqB_no (len_ne hlen)).symm, bRefl _⟩
theorem gU : Tryz.prog.eqGuardType Tryz.prog.depth 28 = false := by kernel_rfl
theorem eqU (a b : PBud) (w : World) : (Op.equalIn 10000 28 (uVal a) (uVal b)).run Tryz.prog w = .ok (eqB a b) w := by
 have u3 := Tryz.underlying3
 have a3 := Tryz.isAgg3
 have z3 := Tryz.sizeOf3
 have hS : Tryz.prog.underlying 28 = some (.struct (Tryz.prog.fieldsOf 28)) := by kernel_rfl
 have hp : Tryz.prog.stoodInHeld 28 = false := by kernel_rfl
 obtain ⟨f, n, c, d⟩ := a
 obtain ⟨f', n', c', d'⟩ := b
 unfold eqB
 rw [show (10000 : Nat) = 9999 + 1 from rfl, run_equalIn_agg w 9999 28 _ _ hS hp]
 simp only [Program.fieldsOf, Tryz.underlying28]
 go_simp
 by_cases h1 : f = f' <;> by_cases h2 : n = n' <;> by_cases h3 : c = c' <;> by_cases h4 : d = d' <;> simp [h1, h2, h3, h4]
theorem eq8 (f n c d f' n' c' d' : Int) (w : World) : (Op.equalIn 10000 28 (.agg #[.int .i64 f, .int .i64 n, .int .i64 c, .int .i64 d]) (.agg #[.int .i64 f', .int .i64 n', .int .i64 c', .int .i64 d'])).run Tryz.prog w = .ok (eqB (⟨f, n, c, d⟩ : PBud) ⟨f', n', c', d'⟩) w := eqU ⟨f, n, c, d⟩ ⟨f', n', c', d'⟩ w
attribute [local go_sem ↓] eq8
theorem eqB_wld (a b : PWld) : eqB a b = (eqB a.acts b.acts && (eqB a.mail b.mail && eqB (⟨a.used.drop, a.used.dup, a.used.time, a.used.crash⟩ : PBud) ⟨b.used.drop, b.used.dup, b.used.time, b.used.crash⟩)) := by
 obtain ⟨r, p, ⟨q0, q1, q2, q3⟩⟩ := a
 obtain ⟨r', p', ⟨s0, s1, s2, s3⟩⟩ := b
 unfold eqB
 rw [Bool.eq_iff_iff]; simp
set_option maxHeartbeats 2000000 in
set_option maxRecDepth 100000 in
theorem sameW_any (w : World) (v1 v2 : Value) (a b : PWld) (h1 : WldV w v1 a) (h2 : WldV w v2 b) :
  Calls Tryz.prog 26 #[v1, v2] w fun e w' => e = .returned (.bool (eqB a b)) ∧ Below w.heap.size w w' := by
 obtain ⟨va, vm, rfl, h1, h3⟩ := h1
 obtain ⟨vb, vn, rfl, h2, h4⟩ := h2
 obtain ⟨A1, d1, rfl, _⟩ := h1.form
 obtain ⟨A2, d2, rfl, _⟩ := h2.form
 obtain ⟨A3, d3, rfl, _⟩ := h3.form
 obtain ⟨A4, d4, rfl, _⟩ := h4.form
 have HE := hid_mk (eqB_wld a b)
 have hgU := gU
 have HB : ∀ (x y : Obj), Below w.heap.size w ((w.alloc x).alloc y) := fun x y => bAlloc (bAlloc (bRefl w) x) y
 have H1 := hid_mk h1
 have H2 := hid_mk h2
 have H3 := hid_mk h3
 have H4 := hid_mk h4
 clear h1 h2 h3 h4
 cases e1 : eqB a.acts b.acts with
 | false =>
  have HR : Hid (false = eqB a b) := by show _ = _; rw [HE.out, e1]; rfl
  go_enter Tryz.func26, Tryz.ntmps26
  go_wp2_with (first
   | (go_at_call 65; refine (equalL_any _ _ _ a.acts b.acts (H1.out.below (by exact HB _ _)) (H2.out.below (by exact HB _ _))).mono ?_; rintro e w2 ⟨rfl, hb2⟩))
  go_ret
  exact ⟨ret_b HR.out, bTrans (HB _ _) hb2⟩
 | true =>
  cases e2 : eqB a.mail b.mail with
  | false =>
   have HR : Hid (false = eqB a b) := by show _ = _; rw [HE.out, e1, e2]; rfl
   go_enter Tryz.func26, Tryz.ntmps26
   go_wp2_with (first
    | (go_at_call 65; refine (equalL_any _ _ _ a.acts b.acts (H1.out.below (by exact HB _ _)) (H2.out.below (by exact HB _ _))).mono ?_; rintro e w2 ⟨rfl, hb2⟩; have hc2 := bcell hb2; have HB2 := hid_mk (bTrans (HB _ _) hb2); clear hb2)
    | (go_at_call 67; refine (same_any _ _ _ a.mail b.mail (H3.out.below HB2.out) (H4.out.below HB2.out)).mono ?_; rintro e w3 ⟨rfl, hb3⟩))
   go_ret
   exact ⟨ret_b HR.out, bTrans HB2.out hb3⟩
  | true =>
   have HR : Hid (eqB (⟨a.used.drop, a.used.dup, a.used.time, a.used.crash⟩ : PBud) ⟨b.used.drop, b.used.dup, b.used.time, b.used.crash⟩ = eqB a b) := by show _ = _; rw [HE.out, e1, e2]; simp
   go_enter Tryz.func26, Tryz.ntmps26
   go_wp2_with (first
    | (go_at_call 65; refine (equalL_any _ _ _ a.acts b.acts (H1.out.below (by exact HB _ _)) (H2.out.below (by exact HB _ _))).mono ?_; rintro e w2 ⟨rfl, hb2⟩; have hc2 := bcell hb2; have hz2 := hb2.size; have hz3 : w.heap.size + 1 < w2.heap.size := (by simp at hz2; omega); have hz4 : w.heap.size < w2.heap.size := (by omega); have HB2 := hid_mk (bTrans (HB _ _) hb2); clear hb2 hz2)
    | (go_at_call 67; refine (same_any _ _ _ a.mail b.mail (H3.out.below HB2.out) (H4.out.below HB2.out)).mono ?_; rintro e w3 ⟨rfl, hb3⟩; have hc3 := bcell hb3))
   go_ret
   exact ⟨ret_b HR.out, bTrans HB2.out hb3⟩
end Go.Proofs.YtfbeiedhdmndnaaGreatDoor
namespace Go.Proofs.YtfbeiedhdmndnaaGreatDoor
open Go.RowKit
end Go.Proofs.YtfbeiedhdmndnaaGreatDoor
namespace Go.Proofs.YtfbeiedhdmndnaaGreatDoor
theorem less_trans {a b c : PID} (h1 : lessD a b = true) (h2 : lessD b c = true) : lessD a c = true := by rw [lessD_iff] at *; omega
theorem less_irr (a : PID) : lessD a a = false := by
 cases h : lessD a a with
 | false => rfl
 | true => rw [lessD_iff] at h; omega
theorem less_ne {a b : PID} (h : lessD a b = true) : a ≠ b := by rintro rfl; rw [less_irr] at h; cases h
theorem less_total {a b : PID} (h : a ≠ b) (h1 : lessD a b = false) : lessD b a = true := by
 have h2 : ¬ lessD a b = true := by rw [h1]; decide
 rw [lessD_iff] at *
 have h3 : ¬ (a.f = b.f ∧ a.n = b.n ∧ a.c = b.c) := fun ⟨e1, e2, e3⟩ => h (by obtain ⟨f, n, c⟩ := a; obtain ⟨f', n', c'⟩ := b; dsimp only at e1 e2 e3; rw [e1, e2, e3])
 omega
theorem srt_pw : ∀ (l : List PMsg), srt l = true ↔ l.Pairwise (fun x y => lessD x.id y.id = true)
 | [] => by simp [srt]
 | [a] => by simp [srt]
 | a :: b :: r => by
  rw [srt, Bool.and_eq_true, srt_pw (b :: r)]
  rw [List.pairwise_cons (a := a)]
  constructor
  ·rintro ⟨h1, h2⟩
   refine ⟨fun y hy => ?_, h2⟩
   rcases List.mem_cons.1 hy with rfl | hy
   ·exact h1
   ·exact less_trans h1 ((List.pairwise_cons.1 h2).1 y hy)
  ·rintro ⟨h1, h2⟩
   exact ⟨h1 b (by simp), h2⟩
theorem fnd_iff {l : List PMsg} {d : PID} : fnd l d = -1 ↔ ∀ x ∈ l, x.id ≠ d := by
 rcases fnd_cases l d with ⟨h, h1⟩ | ⟨k, x, h, h1, h2, _⟩
 ·refine ⟨fun _ x hx => ?_, fun _ => h⟩
  obtain ⟨j, hj⟩ := List.mem_iff_getElem?.1 hx
  exact h1 j x hj
 ·refine ⟨fun e => by omega, fun hh => absurd h2 (hh x (List.mem_of_getElem? h1))⟩
theorem fnd_some {l : List PMsg} {d : PID} (h : fnd l d ≠ -1) : ∃ (k : Nat) (x : PMsg), fnd l d = k ∧ l[k]? = some x ∧ x.id = d := by
 rcases fnd_cases l d with ⟨e, _⟩ | ⟨k, x, h, h1, h2, _⟩
 ·exact absurd e h
 ·exact ⟨k, x, h, h1, h2⟩
theorem put_srt {l : List PMsg} {m : PMsg} (h : srt l = true) (hf : fnd l m.id = -1) : srt (putP l m) = true := by
 rw [srt_pw] at *
 rw [fnd_iff] at hf
 have h1 : ∀ x ∈ l.take (plc l m.id), lessD x.id m.id = true := fun x hx => by
  obtain ⟨j, hj⟩ := List.mem_iff_getElem?.1 hx
  rw [List.getElem?_take] at hj
  split at hj
  ·rename_i hlt
   obtain ⟨hjl, rfl⟩ := List.getElem?_eq_some_iff.1 hj
   have := List.not_of_lt_findIdx (p := fun m' : PMsg => !lessD m'.id m.id) hlt
   simpa using this
  ·cases hj
 have h2 : ∀ y ∈ l.drop (plc l m.id), lessD m.id y.id = true := fun y hy => by
  by_cases hp : plc l m.id < l.length
  ·have e0 : lessD (l[plc l m.id]).id m.id = false := by
    have := List.findIdx_getElem (p := fun m' : PMsg => !lessD m'.id m.id) (w := hp)
    unfold plc; simpa using this
   have e1 := less_total (hf _ (List.getElem_mem hp)) e0
   rw [List.drop_eq_getElem_cons hp] at hy
   rcases List.mem_cons.1 hy with rfl | hy
   ·exact e1
   ·have h3 : (l.drop (plc l m.id)).Pairwise (fun x y => lessD x.id y.id = true) := h.drop
    rw [List.drop_eq_getElem_cons hp, List.pairwise_cons] at h3
    exact less_trans e1 (h3.1 y hy)
  ·rw [List.drop_eq_nil_of_le (by omega)] at hy; cases hy
 unfold putP
 rw [List.pairwise_append, List.pairwise_cons]
 refine ⟨h.take, ⟨h2, h.drop⟩, fun x hx y hy => ?_⟩
 rcases List.mem_cons.1 hy with rfl | hy
 ·exact h1 x hx
 ·exact less_trans (h1 x hx) (h2 y hy)
theorem cut_srt {l : List PMsg} {k : Nat} (h : srt l = true) : srt (cutP l k) = true := by
 rw [srt_pw] at *
 refine h.sublist ?_
 unfold cutP
 conv => rhs; rw [← List.take_append_drop k l]
 exact List.Sublist.append (List.Sublist.refl _) (by rw [← List.drop_drop]; exact List.drop_sublist _ _)
def Once (l : List PMsg) : Prop := l.Pairwise (fun x y => x.id ≠ y.id)
theorem Once.eq {l : List PMsg} (h : Once l) {x y : PMsg} (hx : x ∈ l) (hy : y ∈ l) (e : x.id = y.id) : x = y := by
 induction l with
 | nil => cases hx
 | cons a r ih =>
  obtain ⟨h1, h2⟩ := List.pairwise_cons.1 h
  rcases List.mem_cons.1 hx with rfl | hx
  ·rcases List.mem_cons.1 hy with rfl | hy
   ·rfl
   ·exact absurd e (h1 y hy)
  ·rcases List.mem_cons.1 hy with hy | hy
   ·subst hy; exact absurd e.symm (h1 x ‹_›)
   ·exact ih h2 ‹_› hy
end Go.Proofs.YtfbeiedhdmndnaaGreatDoor
namespace Go.Proofs.YtfbeiedhdmndnaaGreatDoor
open Go.RowKit
theorem scan_all {α : Type} {f : α → Int} {l : List α} (h : scan f l = 0) : ∀ x ∈ l, f x = 0 := scan_zero h
structure ChkP (p : PPrg) : Prop where
 na : p.acs.length ≤ 8
 n0 : 0 < p.acs.length
 nb : p.bs.length ≤ 16
 acs : ∀ a ∈ p.acs, a.regs.length ≤ 8 ∧ (a.timer = -1 → a.armed = false)
 bs : ∀ n ∈ p.bs, chkNt p n = true
theorem chk_parts {p : PPrg} (h : chk p = 0) : ChkP p := by
 unfold chk at h
 by_cases h0 : chkC p = 0
 ·rw [if_pos h0] at h
  by_cases h1 : scan (chkH p.hs.length) p.hs = 0
  ·rw [if_pos h1] at h
   by_cases h2 : scan (chkA p.hs) p.acs = 0
   ·rw [if_pos h2] at h
    have hc : (p.hs.length ≤ 16 ∧ p.acs.length ≤ 8 ∧ p.bs.length ≤ 16) ∧ (p.acs.length ≠ 0 ∧ (1 ≤ p.fuel ∧ p.fuel ≤ 256)) := by
     unfold chkC at h0
     by_cases e : p.hs.length ≤ 16 ∧ p.acs.length ≤ 8 ∧ p.bs.length ≤ 16
     ·rw [if_pos e] at h0
      by_cases e2 : p.acs.length ≠ 0 ∧ (1 ≤ p.fuel ∧ p.fuel ≤ 256)
      ·exact ⟨e, e2⟩
      ·rw [if_neg e2] at h0; cases h0
     ·rw [if_neg e] at h0; cases h0
    refine ⟨hc.1.2.1, by omega, hc.1.2.2, fun a ha => ?_, fun n hn => ?_⟩
    ·have := scan_all h2 a ha
     unfold chkA at this
     by_cases e : a.regs.length ≤ 8
     ·refine ⟨e, fun et => ?_⟩
      rw [if_pos e] at this
      by_cases e2 : 0 ≤ a.cap ∧ a.cap ≤ 16
      ·rw [if_pos e2, if_pos et] at this
       cases ha : a.armed with
       | false => rfl
       | true => rw [ha] at this; cases this
      ·rw [if_neg e2] at this; cases this
     ·rw [if_neg e] at this; cases this
    ·have := scan_all h n hn
     unfold chkN at this
     by_cases e : (0 ≤ n.to ∧ n.to < (p.acs.length : Int)) ∧ (0 ≤ n.hd ∧ n.hd < (p.hs.length : Int))
     ·rw [if_pos e] at this
      by_cases e2 : (n.args.length : Int) = argsOf p.hs n.hd
      ·unfold chkNt
       rw [in_yes (by omega), in_yes (by omega)]
       simp [e2]
      ·rw [if_neg e2] at this; cases this
     ·rw [if_neg e] at this; cases this
   ·rw [if_neg h2] at h; exact absurd h h2
  ·rw [if_neg h1] at h; exact absurd h h1
 ·rw [if_neg h0] at h; exact absurd h h0
theorem fc_chk {p : PPrg} (h : fc p = 0) : chk p = 0 := by
 apply Classical.byContradiction
 intro e
 unfold fc at h
 rw [if_neg e] at h
 exact e h
def sumO (l : List PLoc) : Int := (l.map (·.over)).sum
theorem sumO_set {l : List PLoc} {k : Nat} {y : PLoc} (h : l[k]? = some y) (n : Int) : sumO (l.set k { y with over := n }) = sumO l - y.over + n := by
 induction l generalizing k with
 | nil => cases h
 | cons x r ih =>
  cases k with
  | zero => simp at h; subst h; simp [sumO]; omega
  | succ k =>
   simp at h
   have := ih h
   simp only [sumO, List.set_cons_succ, List.map_cons, List.sum_cons] at *
   omega
structure INV (p : PPrg) (k : Nat) (x : PWld) : Prop where
 len : x.acts.length = p.acs.length
 loc : ∀ (j : Nat) (y : PLoc) (a : PAct), x.acts[j]? = some y → p.acs[j]? = some a → y.regs = a.regs ∧ y.armed = a.armed ∧ y.down = 0 ∧ y.sent = 0 ∧ 0 ≤ y.over ∧ y.over ≤ k
 mail : ∀ m ∈ x.mail, m.nt ∈ p.bs ∧ m.id.f = -1 ∧ 0 ≤ m.id.n ∧ m.id.n < k ∧ m.id.c = 0
 srt : srt x.mail = true
 sum : (x.mail.length : Int) + sumO x.acts = k
 used : x.used = ⟨0, 0, 0, 0⟩
theorem sum_zero (l : List PAct) : sumO (l.map loc0) = 0 := by
 induction l with
 | nil => rfl
 | cons a r ih => simp only [sumO, List.map_cons, List.sum_cons] at *; rw [ih]; rfl
theorem inv0 (p : PPrg) : INV p 0 (startW p) := by
 refine ⟨startL_len p, fun j y a hy ha => ?_, fun m hm => (by cases hm), rfl, by show (0 : Int) + sumO (startL p) = 0; rw [startL, sum_zero]; rfl, rfl⟩
 have : (startL p)[j]? = some (loc0 a) := by unfold startL; rw [List.getElem?_map, ha]; rfl
 have e : y = loc0 a := Option.some.inj (hy.symm.trans this)
 subst e
 exact ⟨rfl, rfl, rfl, rfl, by show (0 : Int) ≤ 0; omega, by show (0 : Int) ≤ _; omega⟩
theorem wrapS {n : Int} (h0 : 0 ≤ n) (h : n ≤ 1000) : wrap64 n = n := IntWalk.wrap64_in _ ⟨by omega, by omega⟩
theorem inv_step {p : PPrg} (hp : ChkP p) {k : Nat} {x : PWld} (h : INV p k x) {n : PNte} (hn : p.bs[k]? = some n) : INV p (k + 1) (stepN p 0 (-1) p.acs.length x k n) := by
 have hk : k < p.bs.length := (List.getElem?_eq_some_iff.1 hn).1
 have hnb := hp.nb
 have hmem := List.mem_of_getElem? hn
 have hc := hp.bs n hmem
 unfold chkNt at hc
 simp only [Bool.and_eq_true] at hc
 have ht := inB_iff.1 hc.1
 obtain ⟨j, hj⟩ : ∃ j : Nat, n.to = (j : Int) := Int.eq_ofNat_of_zero_le ht.1
 have hjl : j < p.acs.length := by omega
 rw [step_yes hc.1 (by omega), hj, Int.toNat_natCast]
 obtain ⟨y, hy⟩ := at_lt (l := x.acts) (k := j) (by rw [h.len]; exact hjl)
 obtain ⟨a, ha⟩ := at_lt hjl
 have hw : wrap64 (0 + (k : Int)) = k := by rw [Int.zero_add]; exact wrapS (by omega) (by omega)
 unfold postP
 by_cases hr : roomB p x ⟨⟨-1, wrap64 (0 + (k : Int)), 0⟩, n⟩ j = true
 ·rw [if_pos hr]
  unfold roomB at hr
  simp only [Bool.and_eq_true, decide_eq_true_eq] at hr
  refine ⟨h.len, fun i y a hy ha => let ⟨h1, h2, h3, h4, h5, h6⟩ := h.loc i y a hy ha; ⟨h1, h2, h3, h4, h5, by omega⟩, fun m hm => ?_, put_srt h.srt hr.2, ?_, h.used⟩
  ·rcases putP_mem hm with rfl | hm
   ·exact ⟨hmem, rfl, by show 0 ≤ wrap64 _; rw [hw]; omega, by show wrap64 _ < _; rw [hw]; omega, rfl⟩
   ·obtain ⟨h1, h2, h3, h4, h5⟩ := h.mail m hm
    exact ⟨h1, h2, h3, by omega, h5⟩
  ·show ((putP x.mail _).length : Int) + sumO x.acts = _
   rw [putP_len]; have := h.sum; push_cast; omega
 ·rw [if_neg hr, getD_at hy]
  obtain ⟨r1, r2, r3, r4, r5, r6⟩ := h.loc j y a hy ha
  have hw2 : wrap64 (y.over + 1) = y.over + 1 := wrapS (by omega) (by omega)
  rw [hw2]
  refine ⟨by show (x.acts.set _ _).length = _; rw [List.length_set]; exact h.len, fun i z b hz hb => ?_, fun m hm => let ⟨h1, h2, h3, h4, h5⟩ := h.mail m hm; ⟨h1, h2, h3, by omega, h5⟩, h.srt, ?_, h.used⟩
  ·have hz' : (x.acts.set j { y with over := y.over + 1 })[i]? = some z := hz
   by_cases e : j = i
   ·subst e
    rw [List.getElem?_set_self (by rw [h.len]; exact hjl)] at hz'
    cases hz'
    obtain rfl := Option.some.inj (ha.symm.trans hb)
    exact ⟨r1, r2, r3, r4, by show 0 ≤ y.over + 1; omega, by show y.over + 1 ≤ _; omega⟩
   ·rw [List.getElem?_set_ne e] at hz'
    obtain ⟨h1, h2, h3, h4, h5, h6⟩ := h.loc i z b hz' hb
    exact ⟨h1, h2, h3, h4, h5, by omega⟩
  ·show (x.mail.length : Int) + sumO (x.acts.set j { y with over := y.over + 1 }) = _
   rw [sumO_set hy]; have := h.sum; push_cast; omega
theorem start_inv {p : PPrg} (hp : ChkP p) : INV p p.bs.length (startP p) := by
 have e : inB (-1) (-1) (((startW p).acts.length : Int) - 1) = true := in_yes ⟨by omega, by show (-1 : Int) ≤ ((startL p).length : Int) - 1; omega⟩
 unfold startP
 rw [send_yes e]
 have hf : firstP (startW p) (-1) p.bs.length = 0 := rfl
 have hl : (startW p).acts.length = p.acs.length := startL_len p
 rw [hf, hl]
 have key : ∀ k, k ≤ p.bs.length → INV p k (sendT p 0 (-1) p.acs.length (startW p) p.bs k) := by
  intro k
  induction k with
  | zero => exact fun _ => inv0 p
  | succ k ih =>
   intro hk
   obtain ⟨n, hn⟩ := at_lt (l := p.bs) (k := k) (by omega)
   rw [step_at hn]
   exact inv_step hp (ih (by omega)) hn
 exact key _ (Nat.le_refl _)
end Go.Proofs.YtfbeiedhdmndnaaGreatDoor
namespace Go.Proofs.YtfbeiedhdmndnaaGreatDoor
open Go.RowKit
def erow (e : PEv) : List Value := [.int .i64 e.kind, .int .i64 e.id.f, .int .i64 e.id.n, .int .i64 e.id.c, .int .i64 e.who]
structure EN (W wr : World) (v : Value) (l : List PEv) : Prop where
 own : wr.ownsRow W.heap.size 36 5 v l.length ((l.map erow).flatten)
 low : Below W.heap.size W wr
def rEv (w : World) (b o : Nat) (e : PEv) : Prop := w.cell? ⟨b, o, none⟩ = some (.int .i64 e.kind) ∧ w.cell? ⟨b, o + 1, none⟩ = some (.int .i64 e.id.f) ∧ w.cell? ⟨b, o + 2, none⟩ = some (.int .i64 e.id.n) ∧ w.cell? ⟨b, o + 3, none⟩ = some (.int .i64 e.id.c) ∧ w.cell? ⟨b, o + 4, none⟩ = some (.int .i64 e.who)
abbrev Evs (ok : Nat → Prop) := Sl 5 rEv ok
section
variable {W wr w' : World} {v : Value} {l : List PEv}
theorem Evs.same {ok : Nat → Prop} (h : Evs ok wr v l) (s : Same ok wr w') : Evs ok w' v l :=
 h.imp (fun _ h => h) s.size fun _ _ _ hk hb ⟨h1, h2, h3, h4, h5⟩ => ⟨(s.cell hk hb).trans h1, (s.cell hk hb).trans h2, (s.cell hk hb).trans h3, (s.cell hk hb).trans h4, (s.cell hk hb).trans h5⟩
theorem Evs.below {ok : Nat → Prop} (h : Evs ok wr v l) (hb : Below wr.heap.size wr w') : Evs ok w' v l := h.same (Same.all hb)
theorem EN.below (h : EN W wr v l) (hb : Below wr.heap.size wr w') : EN W w' v l := ⟨own_block h.own fun g _ hlt => hb.block g hlt, bTrans h.low hb⟩
theorem EN.form (h : EN W wr v l) : ∃ A c, v = .slice A l.length c := by
 obtain ⟨h1, h2⟩ := h.own
 rcases h2 with ⟨rfl, h2⟩ | ⟨g, cap, cur, rfl, _⟩
 ·exact ⟨none, 0, by rw [h2]⟩
 ·exact ⟨_, cap, rfl⟩
theorem EN.nil (W : World) : EN W W (.slice none 0 0) [] := ⟨⟨rfl, Or.inl ⟨rfl, rfl⟩⟩, bRefl _⟩
theorem EN.push {g cap : Nat} {e : PEv} {w2 : World} (h : EN W wr v l) (hb : Below wr.heap.size wr w2) (ho : w'.ownsRow W.heap.size 36 5 (.slice (some ⟨g, 0, none⟩) (l.length + 1) cap) (l.length + 1) ((l.map erow).flatten ++ erow e)) (hg : w2.grownBy w' v.ownBlock) : EN W w' (.slice (some ⟨g, 0, none⟩) (l.length + 1) cap) (l ++ [e]) := by
 refine ⟨?_, (bTrans h.low hb).grown hg (by have := h.low.size; have := hb.size; omega) fun j hj => (own_lt h.own hj).1⟩
 rw [List.length_append, List.map_append, List.flatten_append]
 simpa using ho
end
def gM (l : PBud) (x : PWld) (k i : Nat) : List PEv := ((x.mail.take i).filter (fun m => ofM l x k m)).map (fun m => (⟨(k : Int), m.id, 0⟩ : PEv))
def gA (l : PBud) (x : PWld) (k i : Nat) : List PEv := ((List.range i).filter (fun j => ofA l k (x.acts.getD j default))).map (fun j : Nat => (⟨(k : Int), ⟨0, 0, 0⟩, (j : Int)⟩ : PEv))
def enP (l : PBud) (x : PWld) : Nat → List PEv
 | 0 => []
 | k + 1 => enP l x k ++ gM l x (k + 1) x.mail.length
def enQ (l : PBud) (x : PWld) : Nat → List PEv
 | 0 => enP l x 3
 | k + 1 => enQ l x k ++ gA l x (k + 4) x.acts.length
theorem EN.mono {W0 W wr : World} {v : Value} {l : List PEv} (h : EN W wr v l) (hb : Below W0.heap.size W0 W) : EN W0 wr v l := by
 obtain ⟨⟨h1, h2⟩, h3⟩ := h
 exact ⟨⟨h1, h2.imp id fun ⟨g, cap, cur, e, hg, r⟩ => ⟨g, cap, cur, e, Nat.le_trans hb.size hg, r⟩⟩, bTrans hb h3⟩
section
end
def sameE (x y : PEv) : Bool := decide (x = y)
theorem eqD9 (a b : PID) (w : World) (d : Nat) : (Op.equalIn (d + 1 + 1) 34 (.agg #[.int .i64 a.f, .int .i64 a.n, .int .i64 a.c]) (.agg #[.int .i64 b.f, .int .i64 b.n, .int .i64 b.c])).run Tryz.prog w = .ok (sameD a b) w := by
 have u3 := Tryz.underlying3
 have a3 := Tryz.isAgg3
 have z3 := Tryz.sizeOf3
 have hS : Tryz.prog.underlying 34 = some (.struct (Tryz.prog.fieldsOf 34)) := by kernel_rfl
 have hp : Tryz.prog.stoodInHeld 34 = false := by kernel_rfl
 obtain ⟨f, n, c⟩ := a
 obtain ⟨f', n', c'⟩ := b
 unfold sameD
 rw [run_equalIn_agg w (d + 1) 34 _ _ hS hp]
 simp only [Program.fieldsOf, Tryz.underlying34]
 go_simp
 by_cases h1 : f = f' <;> by_cases h2 : n = n' <;> by_cases h3 : c = c' <;> simp [h1, h2, h3]
theorem eqE (x y : PEv) (w : World) : (Op.equalIn 10000 36 (eVal x) (eVal y)).run Tryz.prog w = .ok (sameE x y) w := by
 have u3 := Tryz.underlying3
 have a3 := Tryz.isAgg3
 have z3 := Tryz.sizeOf3
 have aD := Tryz.isAgg34
 have zD := Tryz.sizeOf34
 have hS : Tryz.prog.underlying 36 = some (.struct (Tryz.prog.fieldsOf 36)) := by kernel_rfl
 have hp : Tryz.prog.stoodInHeld 36 = false := by kernel_rfl
 obtain ⟨k, ⟨f, n, c⟩, who⟩ := x
 obtain ⟨k', ⟨f', n', c'⟩, who'⟩ := y
 have hd := fun w => eqD9 ⟨f, n, c⟩ ⟨f', n', c'⟩ w 9997
 unfold sameE
 rw [show (10000 : Nat) = 9999 + 1 from rfl, run_equalIn_agg w 9999 36 _ _ hS hp]
 simp only [Program.fieldsOf, Tryz.underlying36]
 go_simp
 by_cases h1 : k = k' <;> by_cases h2 : (⟨f, n, c⟩ : PID) = ⟨f', n', c'⟩ <;> by_cases h3 : who = who' <;> simp_all [sameD]
theorem eq10 (k f n c u k' f' n' c' u' : Int) (w : World) : (Op.equalIn 10000 36 (.agg #[.int .i64 k, .int .i64 f, .int .i64 n, .int .i64 c, .int .i64 u]) (.agg #[.int .i64 k', .int .i64 f', .int .i64 n', .int .i64 c', .int .i64 u'])).run Tryz.prog w = .ok (sameE ⟨k, ⟨f, n, c⟩, u⟩ ⟨k', ⟨f', n', c'⟩, u'⟩) w := eqE ⟨k, ⟨f, n, c⟩, u⟩ ⟨k', ⟨f', n', c'⟩, u'⟩ w
theorem sameE_yes {a b : PEv} (h : a = b) : sameE a b = true := decide_eq_true h
theorem sameE_no {a b : PEv} (h : a ≠ b) : sameE a b = false := decide_eq_false h
/-! ### The program -/
def note0 (i : Nat) : PNte := ⟨((i % 2 : Nat) : Int), 0, []⟩
def moreN (n : Nat) : List PNte := (List.range n).map note0
def bootN (n : Nat) : List PNte := [⟨0, 0, []⟩, ⟨1, 0, []⟩] ++ moreN n
def oneP (n : Nat) : PPrg := ⟨[⟨0, []⟩], [⟨[], 4, 0, true⟩, ⟨[], 4, -1, false⟩], bootN n, 5⟩
abbrev oneV (N : Nat) : Value := .agg #[.slice (some ⟨N + 1, 0, none⟩) 1 1, .slice (some ⟨N + 1 + 1, 0, none⟩) 2 2, .slice (some ⟨N + 1 + 1 + 1, 0, none⟩) 2 2, .int .i64 5]
structure OneB (N : Nat) (w : World) : Prop where
 b1 : w.heap[N + 1]? = some (.cells #[.int .i64 0, .slice none 0 0] 73)
 b2 : w.heap[N + 1 + 1]? = some (.cells #[.slice none 0 0, .int .i64 4, .int .i64 0, .bool true, .slice none 0 0, .int .i64 4, .int .i64 (-1), .bool false] 75)
 b3 : w.heap[N + 1 + 1 + 1]? = some (.cells #[.int .i64 0, .int .i64 0, .slice none 0 0, .int .i64 1, .int .i64 0, .slice none 0 0] 79)
section
variable {N : Nat} {w w' : World}
theorem OneB.below (h : OneB N w) (hb : Below w.heap.size w w') : OneB N w' := ⟨boxAt h.b1 hb, boxAt h.b2 hb, boxAt h.b3 hb⟩
theorem OneB.top (h : OneB N w) : N + 1 + 1 + 1 < w.heap.size := (Array.getElem?_eq_some_iff.1 h.b3).1
theorem OneB.hs (h : OneB N w) : Hnds anyB anyB w (.slice (some ⟨N + 1, 0, none⟩) 1 1) [⟨0, []⟩] := by
 have t := h.top
 obtain ⟨c0, c1⟩ : w.cell? ⟨N + 1, 0, none⟩ = some (.int .i64 0) ∧ w.cell? ⟨N + 1, 1, none⟩ = some (.slice none 0 0) := ⟨by rw [cell_of_row _ _ _ _ _ _ h.b1]; rfl, by rw [cell_of_row _ _ _ _ _ _ h.b1]; rfl⟩
 refine ⟨_, 1, rfl, by simp, by simp, Or.inr ⟨N + 1, 0, rfl, trivial, by omega, fun j y hy => ?_⟩⟩
 match j, hy with
 | 0, hy => cases hy; exact ⟨c0, _, c1, ⟨_, _, rfl, by simp, by simp, Or.inl rfl⟩⟩
theorem OneB.acs (h : OneB N w) : Acts anyB anyB w (.slice (some ⟨N + 1 + 1, 0, none⟩) 2 2) [⟨[], 4, 0, true⟩, ⟨[], 4, -1, false⟩] := by
 have t := h.top
 obtain ⟨c0, c1, c2, c3, c4, c5, c6, c7⟩ := blk8 h.b2
 refine ⟨_, 2, rfl, by simp, by simp, Or.inr ⟨N + 1 + 1, 0, rfl, trivial, by omega, fun j y hy => ?_⟩⟩
 match j, hy with
 | 0, hy => cases hy; exact ⟨⟨_, c0, ⟨_, _, rfl, by simp, by simp, Or.inl rfl⟩⟩, c1, c2, c3⟩
 | 1, hy => cases hy; exact ⟨⟨_, c4, ⟨_, _, rfl, by simp, by simp, Or.inl rfl⟩⟩, c5, c6, c7⟩
theorem OneB.bs (h : OneB N w) : Ntes anyB anyB w (.slice (some ⟨N + 1 + 1 + 1, 0, none⟩) 2 2) (bootN 0) := by
 have t := h.top
 obtain ⟨c0, c1, c2, c3, c4, c5⟩ := blk6 h.b3
 refine ⟨_, 2, rfl, by simp [bootN, moreN], by simp [bootN, moreN], Or.inr ⟨N + 1 + 1 + 1, 0, rfl, trivial, by omega, fun j y hy => ?_⟩⟩
 match j, hy with
 | 0, hy => cases hy; exact ⟨c0, c1, _, c2, ⟨_, _, rfl, by simp, by simp, Or.inl rfl⟩⟩
 | 1, hy => cases hy; exact ⟨c3, c4, _, c5, ⟨_, _, rfl, by simp, by simp, Or.inl rfl⟩⟩
theorem OneB.prg (h : OneB N w) : PrgV w (oneV N) (oneP 0) := ⟨_, _, _, rfl, h.hs, h.acs, h.bs⟩
end
/-! ### Plainly -/
def e0 : PEv := ⟨1, ⟨-1, 0, 0⟩, 0⟩
def e1 : PEv := ⟨1, ⟨-1, 1, 0⟩, 0⟩
def e2 : PEv := ⟨4, ⟨0, 0, 0⟩, 0⟩
def e3 : PEv := ⟨5, ⟨0, 0, 0⟩, 0⟩
def e4 : PEv := ⟨5, ⟨0, 0, 0⟩, 1⟩
end Go.Proofs.YtfbeiedhdmndnaaGreatDoor
