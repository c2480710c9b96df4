/-
  The program of two actors that the laws make. Condition: notes are few.
-/
import Derived.Test.YtflpkdhmkgidiaaDoorWc
import Derived.Test.YtflpkdhmkgidiaaDoorCrit
namespace Go.Proofs.YtflpkdhmkgidiaaDoor
open Go.RowKit
/-- A note's cells. -/
def ntrow (m : PNte) (u : Value) : List Value := [.int .i64 m.to, .int .i64 m.hd, u]
/-- Notes in a row of the call's own; each one's arguments elsewhere, in blocks of which P says yes. -/
structure NR (P : Nat → Prop) (base : Nat) (w : World) (v : Value) (l : List PNte) (us : List Value) : Prop where
  own : w.ownsRow base 42 3 v l.length ((List.zipWith ntrow l us).flatten)
  len : us.length = l.length
  rd : ∀ (k : Nat) (n : PNte) (u : Value), l[k]? = some n → us[k]? = some u → Ints (fun b => P b ∧ v.ownBlock ≠ some b) w u n.args
section
variable {P : Nat → Prop} {base : Nat} {w w1 w' : World} {v : Value} {l : List PNte} {us : List Value}
theorem NR.same (h : NR P base w v l us) (hz : w.heap.size ≤ w'.heap.size) (hs : ∀ b, b < w.heap.size → P b ∨ v.ownBlock = some b → w'.heap[b]? = w.heap[b]?) : NR P base w' v l us :=
  ⟨own_block h.own fun g hg hlt => hs g hlt (Or.inr hg), h.len, fun k n u hn hu => (h.rd k n u hn hu).same ⟨hz, fun b hb hlt => hs b hlt (Or.inl hb.1)⟩⟩
theorem NR.below (h : NR P base w v l us) (hb : Below w.heap.size w w') : NR P base w' v l us := h.same hb.size fun b hlt _ => hb.block b hlt
theorem NR.form (h : NR P base w v l us) : ∃ A c, v = .slice A l.length c := by
  obtain ⟨h1, h2⟩ := h.own
  rcases h2 with ⟨rfl, h2⟩ | ⟨g, cap, cur, rfl, _⟩
  · exact ⟨none, 0, by rw [h2]⟩
  · exact ⟨_, cap, rfl⟩
theorem NR.nil (P : Nat → Prop) (base : Nat) (w : World) : NR P base w (.slice none 0 0) [] [] :=
  ⟨⟨rfl, Or.inl ⟨rfl, rfl⟩⟩, rfl, fun k n u hn => by simp at hn⟩
theorem zip_lenN : ∀ (l : List PNte) (us : List Value), ∀ e ∈ List.zipWith ntrow l us, e.length = 3
  | [], _, e, he => by simp at he
  | _ :: _, [], e, he => by simp at he
  | n :: l, u :: us, e, he => by
    rw [List.zipWith_cons_cons, List.mem_cons] at he
    rcases he with rfl | he
    · rfl
    · exact zip_lenN l us e he
/-- Notes ms (their arguments at xs) are appended. -/
theorem NR.push {g cap m : Nat} {ms : List PNte} {xs : List Value} (h : NR P base w v l us) (hm : ms.length = m) (hx : xs.length = ms.length)
    (ho : w'.ownsRow base 42 3 (.slice (some ⟨g, 0, none⟩) (l.length + m) cap) (l.length + m) ((List.zipWith ntrow l us).flatten ++ (List.zipWith ntrow ms xs).flatten))
    (hg : w.grownBy w' v.ownBlock) (hat : v.ownBlock = some g ∨ g = w.heap.size) (hu : ∀ (k : Nat) (n : PNte) (u : Value), ms[k]? = some n → xs[k]? = some u → Ints (fun b => P b ∧ v.ownBlock ≠ some b) w u n.args) :
    NR P base w' (.slice (some ⟨g, 0, none⟩) (l.length + m) cap) (l ++ ms) (us ++ xs) := by
  have hge : ∀ b, (Value.slice (some ⟨g, 0, none⟩) (l.length + m) cap).ownBlock = some b → b = g := fun b hb => (Option.some.inj hb).symm
  have key : ∀ (n : PNte) (u : Value), Ints (fun b => P b ∧ v.ownBlock ≠ some b) w u n.args → Ints (fun b => P b ∧ (Value.slice (some ⟨g, 0, none⟩) (l.length + m) cap).ownBlock ≠ some b) w' u n.args := fun n u h1 =>
    h1.lt.imp (fun b hb => ⟨hb.1.1, fun e => by
      have := hge b e
      subst this
      rcases hat with hat | hat
      · exact hb.1.2 hat
      · have := hb.2; omega⟩) hg.size fun b o x hb hlt hr => (World.cell?_of_block (w := w) (hg.block b hlt (fun e => hb.1.2 e.symm))).trans hr
  refine ⟨?_, by simp [h.len, hx], fun k n' u' hn hu' => ?_⟩
  · rw [List.length_append, hm, List.zipWith_append (by rw [h.len]), List.flatten_append]
    exact ho
  · by_cases hk : k < l.length
    · rw [List.getElem?_append_left hk] at hn
      rw [List.getElem?_append_left (by rw [h.len]; exact hk)] at hu'
      exact key _ _ (h.rd k n' u' hn hu')
    · rw [List.getElem?_append_right (by omega)] at hn
      rw [List.getElem?_append_right (by rw [h.len]; omega), h.len] at hu'
      exact key _ _ (hu _ n' u' hn hu')
theorem NR.ntes (h : NR P base w v l us) (hl : l.length ≤ 1000000) : Ntes (fun b => base ≤ b ∧ v.ownBlock = some b) P w v l := by
  obtain ⟨h1, h2⟩ := h.own
  rcases h2 with ⟨rfl, h2⟩ | ⟨g, cap, cur, rfl, hb, hh, h3, h4, h5, h6⟩
  · have : l = [] := by cases l with | nil => rfl | cons _ _ => simp at h2
    subst this; exact ⟨_, _, rfl, by simp, by simp, Or.inl rfl⟩
  · refine ⟨_, cap, rfl, by omega, h3, Or.inr ⟨g, 0, rfl, ⟨hb, rfl⟩, (Array.getElem?_eq_some_iff.1 hh).1, fun k n hn => ?_⟩⟩
    have hk := (List.getElem?_eq_some_iff.1 hn).1
    obtain ⟨u, hu⟩ := at_lt (l := us) (k := k) (by rw [h.len]; exact hk)
    have hz : (List.zipWith ntrow l us)[k]? = some (ntrow n u) := by rw [List.getElem?_zipWith, hn, hu]
    have hcell : ∀ j, j < l.length * 3 → w.cell? ⟨g, j, none⟩ = ((List.zipWith ntrow l us).flatten)[j]? := fun j hj => by
      rw [cell_of_row _ _ _ _ _ _ hh, ← h6, List.getElem?_take, if_pos hj]; simp
    have hc : ∀ j, j < 3 → w.cell? ⟨g, 0 + k * 3 + j, none⟩ = (ntrow n u)[j]? := fun j hj => by
      rw [Nat.zero_add, hcell _ (by omega), flat_at _ (zip_lenN l us) k j hj, hz]; rfl
    exact ⟨hc 0 (by omega), hc 1 (by omega), u, hc 2 (by omega), (h.rd k n u hn hu).weak fun b hb => hb.1⟩
end
def note1 (i : Nat) : PNte := ⟨((i % 2 : Nat) : Int), 0, [(i : Int)]⟩
def boots (n : Nat) : List PNte := (List.range n).map note1
def twoP (n : Nat) (most : Int) : PPrg := ⟨[⟨1, []⟩], [⟨[4], most, -1, false⟩, ⟨[], most, -1, false⟩], boots n, 5⟩
theorem boots_len (n : Nat) : (boots n).length = n := by simp [boots]
theorem boots_succ (n : Nat) : boots (n + 1) = boots n ++ [note1 n] := by unfold boots; rw [List.range_succ, List.map_append]; rfl
theorem infoN : (Tryd.prog.info? 42).map (fun i => (i.zero, i.size, i.bytes)) = some (some (.agg #[.int .i64 0, .int .i64 0, .slice none 0 0]), 3, 40) := by kernel_rfl
abbrev zP : Obj := .cells #[.slice none 0 0, .slice none 0 0, .slice none 0 0, .int .i64 0] 27
/-- Between two rounds of two: W the world that it began in; the result's box, the handlers' row, the first actor's registers, the actors' row, the program's box: five blocks. -/
structure TW (W : World) (most : Int) (l : List PNte) (v : Value) (wr : World) : Prop where
  b0 : wr.heap[W.heap.size]? = some zP
  b1 : wr.heap[W.heap.size + 1]? = some (.cells #[.int .i64 1, .slice none 0 0] 71)
  b2 : wr.heap[W.heap.size + 1 + 1]? = some (.cells #[.int .i64 4] 3)
  b3 : wr.heap[W.heap.size + 1 + 1 + 1]? = some (.cells #[.slice (some ⟨W.heap.size + 1 + 1, 0, none⟩) 1 1, .int .i64 most, .int .i64 (-1), .bool false, .slice none 0 0, .int .i64 most, .int .i64 (-1), .bool false] 73)
  b4 : wr.heap[W.heap.size + 1 + 1 + 1 + 1]? = some (.cells #[.slice (some ⟨W.heap.size + 1, 0, none⟩) 1 1, .slice (some ⟨W.heap.size + 1 + 1 + 1, 0, none⟩) 2 2, v, .int .i64 5] 27)
  nt : ∃ us, NR (fun b => W.heap.size + 1 + 1 + 1 + 1 + 1 ≤ b) (W.heap.size + 1 + 1 + 1 + 1 + 1) wr v l us
  low : Below W.heap.size W wr
theorem blk8 {b : Nat} {v0 v1 v2 v3 v4 v5 v6 v7 : Value} {t : TypeId} {w : World} (h : w.heap[b]? = some (.cells #[v0, v1, v2, v3, v4, v5, v6, v7] t)) : w.cell? ⟨b, 0, none⟩ = some v0 ∧ w.cell? ⟨b, 1, none⟩ = some v1 ∧ w.cell? ⟨b, 2, none⟩ = some v2 ∧ w.cell? ⟨b, 3, none⟩ = some v3 ∧ w.cell? ⟨b, 4, none⟩ = some v4 ∧ w.cell? ⟨b, 5, none⟩ = some v5 ∧ w.cell? ⟨b, 6, none⟩ = some v6 ∧ w.cell? ⟨b, 7, none⟩ = some v7 :=
  ⟨by rw [cell_of_row _ _ _ _ _ _ h]; rfl, by rw [cell_of_row _ _ _ _ _ _ h]; rfl, by rw [cell_of_row _ _ _ _ _ _ h]; rfl, by rw [cell_of_row _ _ _ _ _ _ h]; rfl, by rw [cell_of_row _ _ _ _ _ _ h]; rfl, by rw [cell_of_row _ _ _ _ _ _ h]; rfl, by rw [cell_of_row _ _ _ _ _ _ h]; rfl, by rw [cell_of_row _ _ _ _ _ _ h]; rfl⟩
theorem TW.start (W : World) (most : Int) : TW W most [] (.slice none 0 0) (((((W.alloc zP).alloc (.cells #[.int .i64 1, .slice none 0 0] 71)).alloc (.cells #[.int .i64 4] 3)).alloc (.cells #[.slice (some ⟨W.heap.size + 1 + 1, 0, none⟩) 1 1, .int .i64 most, .int .i64 (-1), .bool false, .slice none 0 0, .int .i64 most, .int .i64 (-1), .bool false] 73)).alloc (.cells #[.slice (some ⟨W.heap.size + 1, 0, none⟩) 1 1, .slice (some ⟨W.heap.size + 1 + 1 + 1, 0, none⟩) 2 2, .slice none 0 0, .int .i64 5] 27)) := by
  refine ⟨?_, ?_, ?_, ?_, ?_, ⟨[], ⟨⟨rfl, Or.inl ⟨rfl, rfl⟩⟩, rfl, fun k n u hn => by simp at hn⟩⟩, bAlloc (bAlloc (bAlloc (bAlloc (bAlloc (bRefl _) _) _) _) _) _⟩
  · rw [Below.heap_alloc _ _ _ (by simp <;> omega), Below.heap_alloc _ _ _ (by simp <;> omega), Below.heap_alloc _ _ _ (by simp <;> omega), Below.heap_alloc _ _ _ (by simp)]; exact heap_new _ _
  · rw [Below.heap_alloc _ _ _ (by simp <;> omega), Below.heap_alloc _ _ _ (by simp <;> omega), Below.heap_alloc _ _ _ (by simp)]; exact heap_new2 (by simp)
  · rw [Below.heap_alloc _ _ _ (by simp <;> omega), Below.heap_alloc _ _ _ (by simp)]; exact heap_new2 (by simp)
  · rw [Below.heap_alloc _ _ _ (by simp)]; exact heap_new2 (by simp)
  · exact heap_new2 (by simp)
/-- A struct of four cells, stored. -/
abbrev put4 (w : World) (b : Nat) (a0 a1 a2 a3 : Value) : World := (((w.setCell ⟨b, 0, none⟩ a0).setCell ⟨b, 1, none⟩ a1).setCell ⟨b, 2, none⟩ a2).setCell ⟨b, 3, none⟩ a3
theorem put4_same {w : World} {b : Nat} {a0 a1 a2 a3 : Value} : Same (fun d => d ≠ b) w (put4 w b a0 a1 a2 a3) :=
  (((setCell_same fun _ h => h).trans (setCell_same fun _ h => h)).trans (setCell_same fun _ h => h)).trans (setCell_same fun _ h => h)
theorem put4_below {B : Nat} {a w : World} {b : Nat} {a0 a1 a2 a3 : Value} (h : Below B a w) (hb : B ≤ b) : Below B a (put4 w b a0 a1 a2 a3) :=
  (((h.setCell (p := ⟨b, 0, none⟩) hb _).setCell (p := ⟨b, 1, none⟩) hb _).setCell (p := ⟨b, 2, none⟩) hb _).setCell (p := ⟨b, 3, none⟩) hb _
section
variable {W wr w6 : World} {most : Int} {l : List PNte} {v : Value} {us : List Value} {k : Nat}
theorem TW.top (h : TW W most l v wr) : W.heap.size + 1 + 1 + 1 + 1 + 1 ≤ wr.heap.size := (Array.getElem?_eq_some_iff.1 h.b4).1
theorem TW.nb (h : TW W most l v wr) : ∀ b, v.ownBlock = some b → W.heap.size + 1 + 1 + 1 + 1 + 1 ≤ b := fun b e => by obtain ⟨us, hu⟩ := h.nt; exact (own_lt hu.own e).1
theorem TW.next {x : PNte} {gn cn : Nat} (h : TW W most l v wr) (hu : NR (fun b => W.heap.size + 1 + 1 + 1 + 1 + 1 ≤ b) (W.heap.size + 1 + 1 + 1 + 1 + 1) wr v l us) (hx : x.args = [(k : Int)])
    (ho : w6.ownsRow (W.heap.size + 1 + 1 + 1 + 1 + 1) 42 3 (.slice (some ⟨gn, 0, none⟩) (l.length + 1) cn) (l.length + 1) ((List.zipWith ntrow l us).flatten ++ ntrow x (.slice (some ⟨wr.heap.size, 0, none⟩) 1 1)))
    (hg : ((wr.alloc (.cells #[.int .i64 (k : Int)] 3)).alloc (.cells #[.int .i64 x.to, .int .i64 x.hd, .slice (some ⟨wr.heap.size, 0, none⟩) 1 1] 42)).grownBy w6 v.ownBlock) (hat : v.ownBlock = some gn ∨ gn = wr.heap.size + 1 + 1) :
    TW W most (l ++ [x]) (.slice (some ⟨gn, 0, none⟩) (l.length + 1) cn) (w6.setCell ⟨W.heap.size + 1 + 1 + 1 + 1, 2, none⟩ (.slice (some ⟨gn, 0, none⟩) (l.length + 1) cn)) := by
  have ht := h.top
  have hnb := h.nb
  have hB : Below wr.heap.size wr ((wr.alloc (.cells #[.int .i64 (k : Int)] 3)).alloc (.cells #[.int .i64 x.to, .int .i64 x.hd, .slice (some ⟨wr.heap.size, 0, none⟩) 1 1] 42)) := bAlloc (bAlloc (bRefl _) _) _
  have hsz : ((wr.alloc (.cells #[.int .i64 (k : Int)] 3)).alloc (.cells #[.int .i64 x.to, .int .i64 x.hd, .slice (some ⟨wr.heap.size, 0, none⟩) 1 1] 42)).heap.size = wr.heap.size + 2 := by simp
  have hgn : W.heap.size + 1 + 1 + 1 + 1 + 1 ≤ gn := by rcases hat with e | e; exact hnb gn e; omega
  have keep : ∀ (b : Nat) (X : Obj), b < W.heap.size + 1 + 1 + 1 + 1 + 1 → wr.heap[b]? = some X → w6.heap[b]? = some X := fun b X hb hX =>
    (hg.block b (by omega) (fun e => by have := hnb b e.symm; omega)).trans (boxAt hX hB)
  have hS : Same (fun d => d ≠ W.heap.size + 1 + 1 + 1 + 1) w6 (w6.setCell ⟨W.heap.size + 1 + 1 + 1 + 1, 2, none⟩ (.slice (some ⟨gn, 0, none⟩) (l.length + 1) cn)) := setCell_same fun _ h => h
  have keep2 : ∀ (b : Nat) (X : Obj), b < W.heap.size + 1 + 1 + 1 + 1 → wr.heap[b]? = some X → (w6.setCell ⟨W.heap.size + 1 + 1 + 1 + 1, 2, none⟩ (.slice (some ⟨gn, 0, none⟩) (l.length + 1) cn)).heap[b]? = some X := fun b X hb hX => by
    have h6 := keep b X (by omega) hX
    exact (hS.block b (by show b ≠ W.heap.size + 1 + 1 + 1 + 1; omega) (Array.getElem?_eq_some_iff.1 h6).1).trans h6
  have hblk : ((wr.alloc (.cells #[.int .i64 (k : Int)] 3)).alloc (.cells #[.int .i64 x.to, .int .i64 x.hd, .slice (some ⟨wr.heap.size, 0, none⟩) 1 1] 42)).heap[wr.heap.size]? = some (.cells #[.int .i64 (k : Int)] 3) := by
    rw [Below.heap_alloc _ _ _ (by simp)]; exact heap_new _ _
  have key := (hu.below hB).push (ms := [x]) (xs := [.slice (some ⟨wr.heap.size, 0, none⟩) 1 1]) (m := 1) rfl rfl (by simpa using ho) hg (hat.imp id fun e => by rw [e, hsz]) (fun j n u' hn hu' => by
    cases j with
    | zero =>
      simp at hn hu'
      subst hn hu'
      rw [hx]
      refine ⟨_, 1, rfl, by simp, by simp, Or.inr ⟨wr.heap.size, 0, rfl, ⟨by omega, fun e => by have := (own_lt hu.own e).2; omega⟩, by omega, fun j y hy => ?_⟩⟩
      cases j with
      | zero => simp at hy; subst hy; show World.cell? _ ⟨wr.heap.size, 0, none⟩ = _; rw [cell_of_row _ _ _ _ _ _ hblk]; rfl
      | succ j => simp at hy
    | succ j => simp at hn)
  refine ⟨keep2 _ _ (by omega) h.b0, keep2 _ _ (by omega) h.b1, keep2 _ _ (by omega) h.b2, keep2 _ _ (by omega) h.b3, (setCell_heap (keep _ _ (by omega) h.b4)).trans (by simp), ⟨us ++ [_], key.same hS.size fun b hlt hb => hS.block b ?_ hlt⟩, ?_⟩
  · rcases hb with hb | hb
    · show b ≠ W.heap.size + 1 + 1 + 1 + 1; omega
    · have : b = gn := (Option.some.inj hb).symm; show b ≠ W.heap.size + 1 + 1 + 1 + 1; omega
  · have h1 : Below W.heap.size W ((wr.alloc (.cells #[.int .i64 (k : Int)] 3)).alloc (.cells #[.int .i64 x.to, .int .i64 x.hd, .slice (some ⟨wr.heap.size, 0, none⟩) 1 1] 42)) := bTrans h.low hB
    exact (h1.grown hg (by have := h.low.size; omega) (fun j hj => by have := hnb j hj; omega)).setCell (p := ⟨W.heap.size + 1 + 1 + 1 + 1, 2, none⟩) (by show W.heap.size ≤ W.heap.size + 1 + 1 + 1 + 1; omega) _
theorem TW.prg {n : Nat} (h : TW W most (boots n) v wr) (hn : n ≤ 16) {w' : World} (hS : Same (fun d => d ≠ W.heap.size) wr w') : PrgV w' (.agg #[.slice (some ⟨W.heap.size + 1, 0, none⟩) 1 1, .slice (some ⟨W.heap.size + 1 + 1 + 1, 0, none⟩) 2 2, v, .int .i64 5]) (twoP n most) := by
  have t := h.top
  have tz := hS.size
  have b1 := (hS.block _ (by show W.heap.size + 1 ≠ W.heap.size; omega) (by omega)).trans h.b1
  have b2 := (hS.block _ (by show W.heap.size + 1 + 1 ≠ W.heap.size; omega) (by omega)).trans h.b2
  have b3 := (hS.block _ (by show W.heap.size + 1 + 1 + 1 ≠ W.heap.size; omega) (by omega)).trans h.b3
  refine ⟨_, _, _, rfl, ?_, ?_, ?_⟩
  · obtain ⟨c0, c1⟩ : w'.cell? ⟨W.heap.size + 1, 0, none⟩ = some (.int .i64 1) ∧ w'.cell? ⟨W.heap.size + 1, 1, none⟩ = some (.slice none 0 0) := ⟨by rw [cell_of_row _ _ _ _ _ _ b1]; rfl, by rw [cell_of_row _ _ _ _ _ _ b1]; rfl⟩
    refine ⟨_, 1, rfl, by simp [twoP], by simp [twoP], Or.inr ⟨W.heap.size + 1, 0, rfl, trivial, by omega, fun j y hy => ?_⟩⟩
    match j, hy with
    | 0, hy => cases hy; exact ⟨c0, _, c1, ⟨_, _, rfl, by simp, by simp, Or.inl rfl⟩⟩
  · obtain ⟨c0, c1, c2, c3, c4, c5, c6, c7⟩ := blk8 b3
    have r0 : w'.cell? ⟨W.heap.size + 1 + 1, 0, none⟩ = some (.int .i64 4) := by rw [cell_of_row _ _ _ _ _ _ b2]; rfl
    refine ⟨_, 2, rfl, by simp [twoP], by simp [twoP], Or.inr ⟨W.heap.size + 1 + 1 + 1, 0, rfl, trivial, by omega, fun j y hy => ?_⟩⟩
    match j, hy with
    | 0, hy =>
      cases hy
      refine ⟨⟨_, c0, ⟨_, 1, rfl, by simp, by simp, Or.inr ⟨W.heap.size + 1 + 1, 0, rfl, trivial, by omega, fun j y hy => ?_⟩⟩⟩, c1, c2, c3⟩
      match j, hy with
      | 0, hy => cases hy; exact r0
    | 1, hy => cases hy; exact ⟨⟨_, c4, ⟨_, _, rfl, by simp, by simp, Or.inl rfl⟩⟩, c5, c6, c7⟩
  · obtain ⟨us, hu⟩ := h.nt
    have hh := (hu.same tz fun b hlt hb => hS.block b (by show b ≠ W.heap.size; rcases hb with hb | hb; (omega); (have := (own_lt hu.own hb).1; omega)) hlt).ntes (by rw [boots_len]; omega)
    exact hh.imp (fun _ _ => trivial) (Nat.le_refl _) fun _ _ _ _ _ ⟨h1, h2, c, h3, h4⟩ => ⟨h1, h2, c, h3, h4.weak fun _ _ => trivial⟩
end
theorem modC (k : Nat) : Int.tmod (k : Int) 2 = ((k % 2 : Nat) : Int) := by rw [Int.tmod_eq_emod_of_nonneg (by omega)]; rfl
set_option maxHeartbeats 2000000 in
set_option maxRecDepth 100000 in
theorem two_any (W : World) (n : Nat) (most : Int) (hn : n ≤ 16) :
    Calls Tryd.prog 12 #[.int .i64 (n : Int), .int .i64 most] W fun e w' => ∃ v1 v2 v3, e = .returned (.agg #[v1, v2, v3, .int .i64 5]) ∧ PrgV w' (.agg #[v1, v2, v3, .int .i64 5]) (twoP n most) ∧ Below W.heap.size W w' := by
  obtain ⟨i0, hi0, hz0, hz1, hz2⟩ := info_parts infoN
  have HT0 := hid_mk (TW.start W most)
  go_enter Tryd.func12, Tryd.ntmps12
  go_wp2
  go_loopg [6] n (fun g i6 wr => ∃ k : Nat, g = n - k ∧ k ≤ n ∧ i6 = .int .i64 (k : Int) ∧ ∃ v, TW W most (boots k) v wr)
  case atStart => exact ⟨0, rfl, by omega, rfl, _, HT0.out⟩
  case round =>
    obtain ⟨k, rfl, hk, rfl, v, tw⟩ := hrel
    by_cases hlt : k < n
    · have HBS := hid_mk (boots_succ k)
      have hln := boots_len k
      generalize boots k = l at tw HBS hln
      obtain ⟨us, hu⟩ := tw.nt
      obtain ⟨A9, c9, rfl⟩ := hu.form
      obtain ⟨p0, p1, p2, p3⟩ := blk4 tw.b4
      have ht := tw.top
      have hnb := tw.nb
      have hmd := modC k
      have HTW := hid_mk tw
      have HU := hid_mk hu
      have HLn : Hid (l.length = k) := hln
      have z4 : W.heap.size + 1 + 1 + 1 + 1 < wr.heap.size := by omega
      have HNEWS : Hid (∀ j u, (ntrow (note1 k) (.slice (some ⟨wr.heap.size, 0, none⟩) 1 1))[j]? = some u → ((wr.alloc (.cells #[.int .i64 (k : Int)] 3)).alloc (.cells #[.int .i64 ((k % 2 : Nat) : Int), .int .i64 0, .slice (some ⟨wr.heap.size, 0, none⟩) 1 1] 42)).cell? ((⟨wr.heap.size + 1, 0, none⟩ : Addr).add j) = some u) := World.news_of_block (heap_new2 (by simp))
      have HONE : Hid (∀ u ∈ ntrow (note1 k) (.slice (some ⟨wr.heap.size, 0, none⟩) 1 1), u.oneCell' = true) := fun u hu => by
        simp [ntrow] at hu; rcases hu with rfl | rfl | rfl <;> rfl
      have HM1 : Hid (l.length + 1 ≤ maxLen) := by show _ ≤ _; unfold maxLen; omega
      have HM2 : Hid ((l.length + 1) * 40 ≤ 140737488355328) := by show _ ≤ _; omega
      have HB9 : ∀ X Y : Obj, Below wr.heap.size wr ((wr.alloc X).alloc Y) := fun X Y => bAlloc (bAlloc (bRefl _) _) _
      clear tw hu hln
      go_wp2_with (first
        | (at_builtin; refine wpList_append_lies _ rfl _ _ 25 rfl (W.heap.size + 1 + 1 + 1 + 1 + 1) 42 i0 _ 3 40 Tryd.underlying25 hi0 hz0 hz1 hz2 rfl (by decide) (.slice A9 l.length c9) l.length _ rfl (own_block HU.out.own fun g hg hl => (HB9 _ _).block g hl) ⟨wr.heap.size + 1, 0, none⟩ 1 1 (ntrow (note1 k) (.slice (some ⟨wr.heap.size, 0, none⟩) 1 1)) rfl rfl HNEWS.out HONE.out (by decide) HM1.out HM2.out (by simp; omega) (wr.heap.size + 1 + 1) (by simp) ?_; intro gn cn w6 ho6 hg6 hat6 hgl6; have hk6 := (hg6.block (W.heap.size + 1 + 1 + 1 + 1) (by simp; omega) (fun e => by have := hnb (W.heap.size + 1 + 1 + 1 + 1) e.symm; omega)).trans (boxAt HTW.out.b4 (HB9 _ _)); obtain ⟨f0, f1, f2, f3⟩ := blk4 hk6; have ff : ∀ o, w6.frozen? ⟨W.heap.size + 1 + 1 + 1 + 1, o, none⟩ = false := (fun o => heap_frozen hk6); have HO6 := hid_mk ho6; have HG6 := hid_mk hg6; have HAT6 := hid_mk hat6; clear ho6 hg6 hat6 hgl6 hk6))
      go_roundg (n - (k + 1))
      case measure => omega
      case rel => exact ⟨k + 1, rfl, by omega, by go_num, _, by rw [HBS.out]; exact HTW.out.next (x := note1 k) HU.out rfl HO6.out HG6.out HAT6.out⟩
    · obtain rfl : k = n := by omega
      obtain ⟨us, hu⟩ := tw.nt
      obtain ⟨A9, c9, rfl⟩ := hu.form
      obtain ⟨p0, p1, p2, p3⟩ := blk4 tw.b4
      obtain ⟨r0, r1, r2, r3⟩ := blk4 tw.b0
      have ff : ∀ o, wr.frozen? ⟨W.heap.size, o, none⟩ = false := fun o => heap_frozen tw.b0
      have HTW := hid_mk tw
      have HPR := hid_mk (tw.prg hn (put4_same (b := W.heap.size) (a0 := .slice (some ⟨W.heap.size + 1, 0, none⟩) 1 1) (a1 := .slice (some ⟨W.heap.size + 1 + 1 + 1, 0, none⟩) 2 2) (a2 := .slice A9 (boots k).length c9) (a3 := .int .i64 5)))
      have ht := tw.top
      clear tw hu
      go_wp2
      exact bodyPost_ret (v := .agg #[.slice (some ⟨W.heap.size + 1, 0, none⟩) 1 1, .slice (some ⟨W.heap.size + 1 + 1 + 1, 0, none⟩) 2 2, .slice A9 (boots k).length c9, .int .i64 5]) (by simp [results, Tryd.results12, go_sem, r0, r1, r2, r3]) rfl ⟨_, _, _, rfl, HPR.out, put4_below HTW.out.low (Nat.le_refl _)⟩
end Go.Proofs.YtflpkdhmkgidiaaDoor
