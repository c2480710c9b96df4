/-
  The program of two actors that the laws make. Condition: notes are few. world.Same. No conditions. What the fixed examples of chapter 9 come to, plainly. No conditions. Messages put in and taken out, as plain lists: they stay in order; what is there. No conditions. A program's start, plainly: it may be, each note is on its way or counted, and one more counted makes another text. Condition: the program may be. All that may happen (event.Enabled), in a row of its own. Conditions: the table of the instructions is in the world; messages and actors are at most a thousand. All that may happen, for every program, budget and world. Conditions: the table of the instructions is in the world; messages and actors are at most a thousand. The program of two actors that chapter 10's laws make, with notes besides; what it starts with; '==' of events. Conditions: notes are few.
-/
import Derived.Test.YtgdloonpemaijaaDoorPk12
import Derived.Test.YtgdloonpemaijaaDoorPk5
import Derived.Test.YtgdloonpemaijaaDoorPk11
import Derived.Laws.StructEq
namespace Go.Proofs.YtgdloonpemaijaaDoor
open Go.RowKit
/-- A note's cells. -/
def ntrow (m : PNte) (u : Value) : List Value := [.int .i64 m.to, .int .i64 m.hd, u]
/-- Notes in a row of the call's own; each one's arguments elsewhere, in blocks of which P says yes. -/
structure NR (P : Nat → Prop) (base : Nat) (w : World) (v : Value) (l : List PNte) (us : List Value) : Prop where
  own : w.ownsRow base 54 3 v l.length ((List.zipWith ntrow l us).flatten)
  len : us.length = l.length
  rd : ∀ (k : Nat) (n : PNte) (u : Value), l[k]? = some n → us[k]? = some u → Ints (fun b => P b ∧ v.ownBlock ≠ some b) w u n.args
section
variable {P : Nat → Prop} {base : Nat} {w w1 w' : World} {v : Value} {l : List PNte} {us : List Value}
theorem NR.same (h : NR P base w v l us) (hz : w.heap.size ≤ w'.heap.size) (hs : ∀ b, b < w.heap.size → P b ∨ v.ownBlock = some b → w'.heap[b]? = w.heap[b]?) : NR P base w' v l us :=
  ⟨own_block h.own fun g hg hlt => hs g hlt (Or.inr hg), h.len, fun k n u hn hu => (h.rd k n u hn hu).same ⟨hz, fun b hb hlt => hs b hlt (Or.inl hb.1)⟩⟩
theorem NR.below (h : NR P base w v l us) (hb : Below w.heap.size w w') : NR P base w' v l us := h.same hb.size fun b hlt _ => hb.block b hlt
theorem NR.form (h : NR P base w v l us) : ∃ A c, v = .slice A l.length c := by
  obtain ⟨h1, h2⟩ := h.own
  rcases h2 with ⟨rfl, h2⟩ | ⟨g, cap, cur, rfl, _⟩
  · exact ⟨none, 0, by rw [h2]⟩
  · exact ⟨_, cap, rfl⟩
theorem NR.nil (P : Nat → Prop) (base : Nat) (w : World) : NR P base w (.slice none 0 0) [] [] :=
  ⟨⟨rfl, Or.inl ⟨rfl, rfl⟩⟩, rfl, fun k n u hn => by simp at hn⟩
theorem zip_lenN : ∀ (l : List PNte) (us : List Value), ∀ e ∈ List.zipWith ntrow l us, e.length = 3
  | [], _, e, he => by simp at he
  | _ :: _, [], e, he => by simp at he
  | n :: l, u :: us, e, he => by
    rw [List.zipWith_cons_cons, List.mem_cons] at he
    rcases he with rfl | he
    · rfl
    · exact zip_lenN l us e he
/-- Notes ms (their arguments at xs) are appended. -/
theorem NR.push {g cap m : Nat} {ms : List PNte} {xs : List Value} (h : NR P base w v l us) (hm : ms.length = m) (hx : xs.length = ms.length)
    (ho : w'.ownsRow base 54 3 (.slice (some ⟨g, 0, none⟩) (l.length + m) cap) (l.length + m) ((List.zipWith ntrow l us).flatten ++ (List.zipWith ntrow ms xs).flatten))
    (hg : w.grownBy w' v.ownBlock) (hat : v.ownBlock = some g ∨ g = w.heap.size) (hu : ∀ (k : Nat) (n : PNte) (u : Value), ms[k]? = some n → xs[k]? = some u → Ints (fun b => P b ∧ v.ownBlock ≠ some b) w u n.args) :
    NR P base w' (.slice (some ⟨g, 0, none⟩) (l.length + m) cap) (l ++ ms) (us ++ xs) := by
  have hge : ∀ b, (Value.slice (some ⟨g, 0, none⟩) (l.length + m) cap).ownBlock = some b → b = g := fun b hb => (Option.some.inj hb).symm
  have key : ∀ (n : PNte) (u : Value), Ints (fun b => P b ∧ v.ownBlock ≠ some b) w u n.args → Ints (fun b => P b ∧ (Value.slice (some ⟨g, 0, none⟩) (l.length + m) cap).ownBlock ≠ some b) w' u n.args := fun n u h1 =>
    h1.lt.imp (fun b hb => ⟨hb.1.1, fun e => by
      have := hge b e
      subst this
      rcases hat with hat | hat
      · exact hb.1.2 hat
      · have := hb.2; omega⟩) hg.size fun b o x hb hlt hr => (World.cell?_of_block (w := w) (hg.block b hlt (fun e => hb.1.2 e.symm))).trans hr
  refine ⟨?_, by simp [h.len, hx], fun k n' u' hn hu' => ?_⟩
  · rw [List.length_append, hm, List.zipWith_append (by rw [h.len]), List.flatten_append]
    exact ho
  · by_cases hk : k < l.length
    · rw [List.getElem?_append_left hk] at hn
      rw [List.getElem?_append_left (by rw [h.len]; exact hk)] at hu'
      exact key _ _ (h.rd k n' u' hn hu')
    · rw [List.getElem?_append_right (by omega)] at hn
      rw [List.getElem?_append_right (by rw [h.len]; omega), h.len] at hu'
      exact key _ _ (hu _ n' u' hn hu')
theorem NR.ntes (h : NR P base w v l us) (hl : l.length ≤ 1000000) : Ntes (fun b => base ≤ b ∧ v.ownBlock = some b) P w v l := by
  obtain ⟨h1, h2⟩ := h.own
  rcases h2 with ⟨rfl, h2⟩ | ⟨g, cap, cur, rfl, hb, hh, h3, h4, h5, h6⟩
  · have : l = [] := by cases l with | nil => rfl | cons _ _ => simp at h2
    subst this; exact ⟨_, _, rfl, by simp, by simp, Or.inl rfl⟩
  · refine ⟨_, cap, rfl, by omega, h3, Or.inr ⟨g, 0, rfl, ⟨hb, rfl⟩, (Array.getElem?_eq_some_iff.1 hh).1, fun k n hn => ?_⟩⟩
    have hk := (List.getElem?_eq_some_iff.1 hn).1
    obtain ⟨u, hu⟩ := at_lt (l := us) (k := k) (by rw [h.len]; exact hk)
    have hz : (List.zipWith ntrow l us)[k]? = some (ntrow n u) := by rw [List.getElem?_zipWith, hn, hu]
    have hcell : ∀ j, j < l.length * 3 → w.cell? ⟨g, j, none⟩ = ((List.zipWith ntrow l us).flatten)[j]? := fun j hj => by
      rw [cell_of_row _ _ _ _ _ _ hh, ← h6, List.getElem?_take, if_pos hj]; simp
    have hc : ∀ j, j < 3 → w.cell? ⟨g, 0 + k * 3 + j, none⟩ = (ntrow n u)[j]? := fun j hj => by
      rw [Nat.zero_add, hcell _ (by omega), flat_at _ (zip_lenN l us) k j hj, hz]; rfl
    exact ⟨hc 0 (by omega), hc 1 (by omega), u, hc 2 (by omega), (h.rd k n u hn hu).weak fun b hb => hb.1⟩
end
def note1 (i : Nat) : PNte := ⟨((i % 2 : Nat) : Int), 0, [(i : Int)]⟩
def boots (n : Nat) : List PNte := (List.range n).map note1
def twoP (n : Nat) (most : Int) : PPrg := ⟨[⟨1, []⟩], [⟨[4], most, -1, false⟩, ⟨[], most, -1, false⟩], boots n, 5⟩
theorem boots_len (n : Nat) : (boots n).length = n := by simp [boots]
theorem boots_succ (n : Nat) : boots (n + 1) = boots n ++ [note1 n] := by unfold boots; rw [List.range_succ, List.map_append]; rfl
theorem infoN : (Tryd.prog.info? 54).map (fun i => (i.zero, i.size, i.bytes)) = some (some (.agg #[.int .i64 0, .int .i64 0, .slice none 0 0]), 3, 40) := by kernel_rfl
abbrev zP : Obj := .cells #[.slice none 0 0, .slice none 0 0, .slice none 0 0, .int .i64 0] 26
/-- Between two rounds of two: W the world that it began in; the result's box, the handlers' row, the first actor's registers, the actors' row, the program's box: five blocks. -/
structure TW (W : World) (most : Int) (l : List PNte) (v : Value) (wr : World) : Prop where
  b0 : wr.heap[W.heap.size]? = some zP
  b1 : wr.heap[W.heap.size + 1]? = some (.cells #[.int .i64 1, .slice none 0 0] 81)
  b2 : wr.heap[W.heap.size + 1 + 1]? = some (.cells #[.int .i64 4] 3)
  b3 : wr.heap[W.heap.size + 1 + 1 + 1]? = some (.cells #[.slice (some ⟨W.heap.size + 1 + 1, 0, none⟩) 1 1, .int .i64 most, .int .i64 (-1), .bool false, .slice none 0 0, .int .i64 most, .int .i64 (-1), .bool false] 83)
  b4 : wr.heap[W.heap.size + 1 + 1 + 1 + 1]? = some (.cells #[.slice (some ⟨W.heap.size + 1, 0, none⟩) 1 1, .slice (some ⟨W.heap.size + 1 + 1 + 1, 0, none⟩) 2 2, v, .int .i64 5] 26)
  nt : ∃ us, NR (fun b => W.heap.size + 1 + 1 + 1 + 1 + 1 ≤ b) (W.heap.size + 1 + 1 + 1 + 1 + 1) wr v l us
  low : Below W.heap.size W wr
theorem blk8 {b : Nat} {v0 v1 v2 v3 v4 v5 v6 v7 : Value} {t : TypeId} {w : World} (h : w.heap[b]? = some (.cells #[v0, v1, v2, v3, v4, v5, v6, v7] t)) : w.cell? ⟨b, 0, none⟩ = some v0 ∧ w.cell? ⟨b, 1, none⟩ = some v1 ∧ w.cell? ⟨b, 2, none⟩ = some v2 ∧ w.cell? ⟨b, 3, none⟩ = some v3 ∧ w.cell? ⟨b, 4, none⟩ = some v4 ∧ w.cell? ⟨b, 5, none⟩ = some v5 ∧ w.cell? ⟨b, 6, none⟩ = some v6 ∧ w.cell? ⟨b, 7, none⟩ = some v7 :=
  ⟨by rw [cell_of_row _ _ _ _ _ _ h]; rfl, by rw [cell_of_row _ _ _ _ _ _ h]; rfl, by rw [cell_of_row _ _ _ _ _ _ h]; rfl, by rw [cell_of_row _ _ _ _ _ _ h]; rfl, by rw [cell_of_row _ _ _ _ _ _ h]; rfl, by rw [cell_of_row _ _ _ _ _ _ h]; rfl, by rw [cell_of_row _ _ _ _ _ _ h]; rfl, by rw [cell_of_row _ _ _ _ _ _ h]; rfl⟩
theorem TW.start (W : World) (most : Int) : TW W most [] (.slice none 0 0) (((((W.alloc zP).alloc (.cells #[.int .i64 1, .slice none 0 0] 81)).alloc (.cells #[.int .i64 4] 3)).alloc (.cells #[.slice (some ⟨W.heap.size + 1 + 1, 0, none⟩) 1 1, .int .i64 most, .int .i64 (-1), .bool false, .slice none 0 0, .int .i64 most, .int .i64 (-1), .bool false] 83)).alloc (.cells #[.slice (some ⟨W.heap.size + 1, 0, none⟩) 1 1, .slice (some ⟨W.heap.size + 1 + 1 + 1, 0, none⟩) 2 2, .slice none 0 0, .int .i64 5] 26)) := by
  refine ⟨?_, ?_, ?_, ?_, ?_, ⟨[], ⟨⟨rfl, Or.inl ⟨rfl, rfl⟩⟩, rfl, fun k n u hn => by simp at hn⟩⟩, bAlloc (bAlloc (bAlloc (bAlloc (bAlloc (bRefl _) _) _) _) _) _⟩
  · rw [Below.heap_alloc _ _ _ (by simp <;> omega), Below.heap_alloc _ _ _ (by simp <;> omega), Below.heap_alloc _ _ _ (by simp <;> omega), Below.heap_alloc _ _ _ (by simp)]; exact heap_new _ _
  · rw [Below.heap_alloc _ _ _ (by simp <;> omega), Below.heap_alloc _ _ _ (by simp <;> omega), Below.heap_alloc _ _ _ (by simp)]; exact heap_new2 (by simp)
  · rw [Below.heap_alloc _ _ _ (by simp <;> omega), Below.heap_alloc _ _ _ (by simp)]; exact heap_new2 (by simp)
  · rw [Below.heap_alloc _ _ _ (by simp)]; exact heap_new2 (by simp)
  · exact heap_new2 (by simp)
/-- A struct of four cells, stored. -/
abbrev put4 (w : World) (b : Nat) (a0 a1 a2 a3 : Value) : World := (((w.setCell ⟨b, 0, none⟩ a0).setCell ⟨b, 1, none⟩ a1).setCell ⟨b, 2, none⟩ a2).setCell ⟨b, 3, none⟩ a3
theorem put4_same {w : World} {b : Nat} {a0 a1 a2 a3 : Value} : Same (fun d => d ≠ b) w (put4 w b a0 a1 a2 a3) :=
  (((setCell_same fun _ h => h).trans (setCell_same fun _ h => h)).trans (setCell_same fun _ h => h)).trans (setCell_same fun _ h => h)
theorem put4_below {B : Nat} {a w : World} {b : Nat} {a0 a1 a2 a3 : Value} (h : Below B a w) (hb : B ≤ b) : Below B a (put4 w b a0 a1 a2 a3) :=
  (((h.setCell (p := ⟨b, 0, none⟩) hb _).setCell (p := ⟨b, 1, none⟩) hb _).setCell (p := ⟨b, 2, none⟩) hb _).setCell (p := ⟨b, 3, none⟩) hb _
section
variable {W wr w6 : World} {most : Int} {l : List PNte} {v : Value} {us : List Value} {k : Nat}
theorem TW.top (h : TW W most l v wr) : W.heap.size + 1 + 1 + 1 + 1 + 1 ≤ wr.heap.size := (Array.getElem?_eq_some_iff.1 h.b4).1
theorem TW.nb (h : TW W most l v wr) : ∀ b, v.ownBlock = some b → W.heap.size + 1 + 1 + 1 + 1 + 1 ≤ b := fun b e => by obtain ⟨us, hu⟩ := h.nt; exact (own_lt hu.own e).1
theorem TW.next {x : PNte} {gn cn : Nat} (h : TW W most l v wr) (hu : NR (fun b => W.heap.size + 1 + 1 + 1 + 1 + 1 ≤ b) (W.heap.size + 1 + 1 + 1 + 1 + 1) wr v l us) (hx : x.args = [(k : Int)])
    (ho : w6.ownsRow (W.heap.size + 1 + 1 + 1 + 1 + 1) 54 3 (.slice (some ⟨gn, 0, none⟩) (l.length + 1) cn) (l.length + 1) ((List.zipWith ntrow l us).flatten ++ ntrow x (.slice (some ⟨wr.heap.size, 0, none⟩) 1 1)))
    (hg : ((wr.alloc (.cells #[.int .i64 (k : Int)] 3)).alloc (.cells #[.int .i64 x.to, .int .i64 x.hd, .slice (some ⟨wr.heap.size, 0, none⟩) 1 1] 54)).grownBy w6 v.ownBlock) (hat : v.ownBlock = some gn ∨ gn = wr.heap.size + 1 + 1) :
    TW W most (l ++ [x]) (.slice (some ⟨gn, 0, none⟩) (l.length + 1) cn) (w6.setCell ⟨W.heap.size + 1 + 1 + 1 + 1, 2, none⟩ (.slice (some ⟨gn, 0, none⟩) (l.length + 1) cn)) := by
  have ht := h.top
  have hnb := h.nb
  have hB : Below wr.heap.size wr ((wr.alloc (.cells #[.int .i64 (k : Int)] 3)).alloc (.cells #[.int .i64 x.to, .int .i64 x.hd, .slice (some ⟨wr.heap.size, 0, none⟩) 1 1] 54)) := bAlloc (bAlloc (bRefl _) _) _
  have hsz : ((wr.alloc (.cells #[.int .i64 (k : Int)] 3)).alloc (.cells #[.int .i64 x.to, .int .i64 x.hd, .slice (some ⟨wr.heap.size, 0, none⟩) 1 1] 54)).heap.size = wr.heap.size + 2 := by simp
  have hgn : W.heap.size + 1 + 1 + 1 + 1 + 1 ≤ gn := by rcases hat with e | e; exact hnb gn e; omega
  have keep : ∀ (b : Nat) (X : Obj), b < W.heap.size + 1 + 1 + 1 + 1 + 1 → wr.heap[b]? = some X → w6.heap[b]? = some X := fun b X hb hX =>
    (hg.block b (by omega) (fun e => by have := hnb b e.symm; omega)).trans (boxAt hX hB)
  have hS : Same (fun d => d ≠ W.heap.size + 1 + 1 + 1 + 1) w6 (w6.setCell ⟨W.heap.size + 1 + 1 + 1 + 1, 2, none⟩ (.slice (some ⟨gn, 0, none⟩) (l.length + 1) cn)) := setCell_same fun _ h => h
  have keep2 : ∀ (b : Nat) (X : Obj), b < W.heap.size + 1 + 1 + 1 + 1 → wr.heap[b]? = some X → (w6.setCell ⟨W.heap.size + 1 + 1 + 1 + 1, 2, none⟩ (.slice (some ⟨gn, 0, none⟩) (l.length + 1) cn)).heap[b]? = some X := fun b X hb hX => by
    have h6 := keep b X (by omega) hX
    exact (hS.block b (by show b ≠ W.heap.size + 1 + 1 + 1 + 1; omega) (Array.getElem?_eq_some_iff.1 h6).1).trans h6
  have hblk : ((wr.alloc (.cells #[.int .i64 (k : Int)] 3)).alloc (.cells #[.int .i64 x.to, .int .i64 x.hd, .slice (some ⟨wr.heap.size, 0, none⟩) 1 1] 54)).heap[wr.heap.size]? = some (.cells #[.int .i64 (k : Int)] 3) := by
    rw [Below.heap_alloc _ _ _ (by simp)]; exact heap_new _ _
  have key := (hu.below hB).push (ms := [x]) (xs := [.slice (some ⟨wr.heap.size, 0, none⟩) 1 1]) (m := 1) rfl rfl (by simpa using ho) hg (hat.imp id fun e => by rw [e, hsz]) (fun j n u' hn hu' => by
    cases j with
    | zero =>
      simp at hn hu'
      subst hn hu'
      rw [hx]
      refine ⟨_, 1, rfl, by simp, by simp, Or.inr ⟨wr.heap.size, 0, rfl, ⟨by omega, fun e => by have := (own_lt hu.own e).2; omega⟩, by omega, fun j y hy => ?_⟩⟩
      cases j with
      | zero => simp at hy; subst hy; show World.cell? _ ⟨wr.heap.size, 0, none⟩ = _; rw [cell_of_row _ _ _ _ _ _ hblk]; rfl
      | succ j => simp at hy
    | succ j => simp at hn)
  refine ⟨keep2 _ _ (by omega) h.b0, keep2 _ _ (by omega) h.b1, keep2 _ _ (by omega) h.b2, keep2 _ _ (by omega) h.b3, (setCell_heap (keep _ _ (by omega) h.b4)).trans (by simp), ⟨us ++ [_], key.same hS.size fun b hlt hb => hS.block b ?_ hlt⟩, ?_⟩
  · rcases hb with hb | hb
    · show b ≠ W.heap.size + 1 + 1 + 1 + 1; omega
    · have : b = gn := (Option.some.inj hb).symm; show b ≠ W.heap.size + 1 + 1 + 1 + 1; omega
  · have h1 : Below W.heap.size W ((wr.alloc (.cells #[.int .i64 (k : Int)] 3)).alloc (.cells #[.int .i64 x.to, .int .i64 x.hd, .slice (some ⟨wr.heap.size, 0, none⟩) 1 1] 54)) := bTrans h.low hB
    exact (h1.grown hg (by have := h.low.size; omega) (fun j hj => by have := hnb j hj; omega)).setCell (p := ⟨W.heap.size + 1 + 1 + 1 + 1, 2, none⟩) (by show W.heap.size ≤ W.heap.size + 1 + 1 + 1 + 1; omega) _
theorem TW.prg {n : Nat} (h : TW W most (boots n) v wr) (hn : n ≤ 16) {w' : World} (hS : Same (fun d => d ≠ W.heap.size) wr w') : PrgV w' (.agg #[.slice (some ⟨W.heap.size + 1, 0, none⟩) 1 1, .slice (some ⟨W.heap.size + 1 + 1 + 1, 0, none⟩) 2 2, v, .int .i64 5]) (twoP n most) := by
  have t := h.top
  have tz := hS.size
  have b1 := (hS.block _ (by show W.heap.size + 1 ≠ W.heap.size; omega) (by omega)).trans h.b1
  have b2 := (hS.block _ (by show W.heap.size + 1 + 1 ≠ W.heap.size; omega) (by omega)).trans h.b2
  have b3 := (hS.block _ (by show W.heap.size + 1 + 1 + 1 ≠ W.heap.size; omega) (by omega)).trans h.b3
  refine ⟨_, _, _, rfl, ?_, ?_, ?_⟩
  · obtain ⟨c0, c1⟩ : w'.cell? ⟨W.heap.size + 1, 0, none⟩ = some (.int .i64 1) ∧ w'.cell? ⟨W.heap.size + 1, 1, none⟩ = some (.slice none 0 0) := ⟨by rw [cell_of_row _ _ _ _ _ _ b1]; rfl, by rw [cell_of_row _ _ _ _ _ _ b1]; rfl⟩
    refine ⟨_, 1, rfl, by simp [twoP], by simp [twoP], Or.inr ⟨W.heap.size + 1, 0, rfl, trivial, by omega, fun j y hy => ?_⟩⟩
    match j, hy with
    | 0, hy => cases hy; exact ⟨c0, _, c1, ⟨_, _, rfl, by simp, by simp, Or.inl rfl⟩⟩
  · obtain ⟨c0, c1, c2, c3, c4, c5, c6, c7⟩ := blk8 b3
    have r0 : w'.cell? ⟨W.heap.size + 1 + 1, 0, none⟩ = some (.int .i64 4) := by rw [cell_of_row _ _ _ _ _ _ b2]; rfl
    refine ⟨_, 2, rfl, by simp [twoP], by simp [twoP], Or.inr ⟨W.heap.size + 1 + 1 + 1, 0, rfl, trivial, by omega, fun j y hy => ?_⟩⟩
    match j, hy with
    | 0, hy =>
      cases hy
      refine ⟨⟨_, c0, ⟨_, 1, rfl, by simp, by simp, Or.inr ⟨W.heap.size + 1 + 1, 0, rfl, trivial, by omega, fun j y hy => ?_⟩⟩⟩, c1, c2, c3⟩
      match j, hy with
      | 0, hy => cases hy; exact r0
    | 1, hy => cases hy; exact ⟨⟨_, c4, ⟨_, _, rfl, by simp, by simp, Or.inl rfl⟩⟩, c5, c6, c7⟩
  · obtain ⟨us, hu⟩ := h.nt
    have hh := (hu.same tz fun b hlt hb => hS.block b (by show b ≠ W.heap.size; rcases hb with hb | hb; (omega); (have := (own_lt hu.own hb).1; omega)) hlt).ntes (by rw [boots_len]; omega)
    exact hh.imp (fun _ _ => trivial) (Nat.le_refl _) fun _ _ _ _ _ ⟨h1, h2, c, h3, h4⟩ => ⟨h1, h2, c, h3, h4.weak fun _ _ => trivial⟩
end
theorem modC (k : Nat) : Int.tmod (k : Int) 2 = ((k % 2 : Nat) : Int) := by rw [Int.tmod_eq_emod_of_nonneg (by omega)]; rfl
set_option maxHeartbeats 2000000 in
set_option maxRecDepth 100000 in
theorem twoL_any (W : World) (n : Nat) (most : Int) (hn : n ≤ 16) :
    Calls Tryd.prog 26 #[.int .i64 (n : Int), .int .i64 most] W fun e w' => ∃ v1 v2 v3, e = .returned (.agg #[v1, v2, v3, .int .i64 5]) ∧ PrgV w' (.agg #[v1, v2, v3, .int .i64 5]) (twoP n most) ∧ Below W.heap.size W w' := by
  obtain ⟨i0, hi0, hz0, hz1, hz2⟩ := info_parts infoN
  have HT0 := hid_mk (TW.start W most)
  go_enter Tryd.func26, Tryd.ntmps26
  go_wp2
  go_loopg [6] n (fun g i6 wr => ∃ k : Nat, g = n - k ∧ k ≤ n ∧ i6 = .int .i64 (k : Int) ∧ ∃ v, TW W most (boots k) v wr)
  case atStart => exact ⟨0, rfl, by omega, rfl, _, HT0.out⟩
  case round =>
    obtain ⟨k, rfl, hk, rfl, v, tw⟩ := hrel
    by_cases hlt : k < n
    · have HBS := hid_mk (boots_succ k)
      have hln := boots_len k
      generalize boots k = l at tw HBS hln
      obtain ⟨us, hu⟩ := tw.nt
      obtain ⟨A9, c9, rfl⟩ := hu.form
      obtain ⟨p0, p1, p2, p3⟩ := blk4 tw.b4
      have ht := tw.top
      have hnb := tw.nb
      have hmd := modC k
      have HTW := hid_mk tw
      have HU := hid_mk hu
      have HLn : Hid (l.length = k) := hln
      have z4 : W.heap.size + 1 + 1 + 1 + 1 < wr.heap.size := by omega
      have HNEWS : Hid (∀ j u, (ntrow (note1 k) (.slice (some ⟨wr.heap.size, 0, none⟩) 1 1))[j]? = some u → ((wr.alloc (.cells #[.int .i64 (k : Int)] 3)).alloc (.cells #[.int .i64 ((k % 2 : Nat) : Int), .int .i64 0, .slice (some ⟨wr.heap.size, 0, none⟩) 1 1] 54)).cell? ((⟨wr.heap.size + 1, 0, none⟩ : Addr).add j) = some u) := World.news_of_block (heap_new2 (by simp))
      have HONE : Hid (∀ u ∈ ntrow (note1 k) (.slice (some ⟨wr.heap.size, 0, none⟩) 1 1), u.oneCell' = true) := fun u hu => by
        simp [ntrow] at hu; rcases hu with rfl | rfl | rfl <;> rfl
      have HM1 : Hid (l.length + 1 ≤ maxLen) := by show _ ≤ _; unfold maxLen; omega
      have HM2 : Hid ((l.length + 1) * 40 ≤ 140737488355328) := by show _ ≤ _; omega
      have HB9 : ∀ X Y : Obj, Below wr.heap.size wr ((wr.alloc X).alloc Y) := fun X Y => bAlloc (bAlloc (bRefl _) _) _
      clear tw hu hln
      go_wp2_with (first
        | (at_builtin; refine wpList_append_lies _ rfl _ _ 24 rfl (W.heap.size + 1 + 1 + 1 + 1 + 1) 54 i0 _ 3 40 Tryd.underlying24 hi0 hz0 hz1 hz2 rfl (by decide) (.slice A9 l.length c9) l.length _ rfl (own_block HU.out.own fun g hg hl => (HB9 _ _).block g hl) ⟨wr.heap.size + 1, 0, none⟩ 1 1 (ntrow (note1 k) (.slice (some ⟨wr.heap.size, 0, none⟩) 1 1)) rfl rfl HNEWS.out HONE.out (by decide) HM1.out HM2.out (by simp; omega) (wr.heap.size + 1 + 1) (by simp) ?_; intro gn cn w6 ho6 hg6 hat6 hgl6; have hk6 := (hg6.block (W.heap.size + 1 + 1 + 1 + 1) (by simp; omega) (fun e => by have := hnb (W.heap.size + 1 + 1 + 1 + 1) e.symm; omega)).trans (boxAt HTW.out.b4 (HB9 _ _)); obtain ⟨f0, f1, f2, f3⟩ := blk4 hk6; have ff : ∀ o, w6.frozen? ⟨W.heap.size + 1 + 1 + 1 + 1, o, none⟩ = false := (fun o => heap_frozen hk6); have HO6 := hid_mk ho6; have HG6 := hid_mk hg6; have HAT6 := hid_mk hat6; clear ho6 hg6 hat6 hgl6 hk6))
      go_roundg (n - (k + 1))
      case measure => omega
      case rel => exact ⟨k + 1, rfl, by omega, by go_num, _, by rw [HBS.out]; exact HTW.out.next (x := note1 k) HU.out rfl HO6.out HG6.out HAT6.out⟩
    · obtain rfl : k = n := by omega
      obtain ⟨us, hu⟩ := tw.nt
      obtain ⟨A9, c9, rfl⟩ := hu.form
      obtain ⟨p0, p1, p2, p3⟩ := blk4 tw.b4
      obtain ⟨r0, r1, r2, r3⟩ := blk4 tw.b0
      have ff : ∀ o, wr.frozen? ⟨W.heap.size, o, none⟩ = false := fun o => heap_frozen tw.b0
      have HTW := hid_mk tw
      have HPR := hid_mk (tw.prg hn (put4_same (b := W.heap.size) (a0 := .slice (some ⟨W.heap.size + 1, 0, none⟩) 1 1) (a1 := .slice (some ⟨W.heap.size + 1 + 1 + 1, 0, none⟩) 2 2) (a2 := .slice A9 (boots k).length c9) (a3 := .int .i64 5)))
      have ht := tw.top
      clear tw hu
      go_wp2
      exact bodyPost_ret (v := .agg #[.slice (some ⟨W.heap.size + 1, 0, none⟩) 1 1, .slice (some ⟨W.heap.size + 1 + 1 + 1, 0, none⟩) 2 2, .slice A9 (boots k).length c9, .int .i64 5]) (by simp [results, Tryd.results26, go_sem, r0, r1, r2, r3]) rfl ⟨_, _, _, rfl, HPR.out, put4_below HTW.out.low (Nat.le_refl _)⟩
end Go.Proofs.YtgdloonpemaijaaDoor
namespace Go.Proofs.YtgdloonpemaijaaDoor
open Go.RowKit
theorem eqB_loc (a b : PLoc) : eqB a b = ((a.armed == b.armed) && ((a.down == b.down) && ((a.sent == b.sent) && ((a.over == b.over) && eqB a.regs b.regs)))) := by
  obtain ⟨r, p, q, s, t⟩ := a
  obtain ⟨r', p', q', s', t'⟩ := b
  unfold eqB
  rw [Bool.eq_iff_iff]; simp
  constructor
  · rintro ⟨h1, h2, h3, h4, h5⟩; exact ⟨h2, h3, h4, h5, h1⟩
  · rintro ⟨h2, h3, h4, h5, h1⟩; exact ⟨h1, h2, h3, h4, h5⟩
set_option maxHeartbeats 2000000 in
set_option maxRecDepth 100000 in
theorem sameLoc_any (w : World) (v1 v2 : Value) (a b : PLoc) (h1 : LocV anyB w v1 a) (h2 : LocV anyB w v2 b) :
    Calls Tryd.prog 62 #[v1, v2] w fun e w' => e = .returned (.bool (eqB a b)) ∧ Below w.heap.size w w' := by
  obtain ⟨c1, rfl, h1⟩ := h1
  obtain ⟨c2, rfl, h2⟩ := h2
  obtain ⟨A1, d1, rfl, _⟩ := h1.form
  obtain ⟨A2, d2, rfl, _⟩ := h2.form
  have HE := hid_mk (eqB_loc a b)
  have HB : ∀ (x y : Obj), Below w.heap.size w ((w.alloc x).alloc y) := fun x y => bAlloc (bAlloc (bRefl w) x) y
  cases e1 : (a.armed == b.armed) with
  | false =>
    have HR : Hid (false = eqB a b) := by show _ = _; rw [HE.out, e1]; rfl
    go_enter Tryd.func62, Tryd.ntmps62
    go_wp2
    go_ret
    exact ⟨ret_b HR.out, HB _ _⟩
  | true =>
    cases e2 : (a.down == b.down) with
    | false =>
      have HR : Hid (false = eqB a b) := by show _ = _; rw [HE.out, e1, e2]; rfl
      go_enter Tryd.func62, Tryd.ntmps62
      go_wp2
      go_ret
      exact ⟨ret_b HR.out, HB _ _⟩
    | true =>
      cases e3 : (a.sent == b.sent) with
      | false =>
        have HR : Hid (false = eqB a b) := by show _ = _; rw [HE.out, e1, e2, e3]; rfl
        go_enter Tryd.func62, Tryd.ntmps62
        go_wp2
        go_ret
        exact ⟨ret_b HR.out, HB _ _⟩
      | true =>
        cases e4 : (a.over == b.over) with
        | false =>
          have HR : Hid (false = eqB a b) := by show _ = _; rw [HE.out, e1, e2, e3, e4]; rfl
          go_enter Tryd.func62, Tryd.ntmps62
          go_wp2
          go_ret
          exact ⟨ret_b HR.out, HB _ _⟩
        | true =>
          have HR : Hid (eqB a.regs b.regs = eqB a b) := by show _ = _; rw [HE.out, e1, e2, e3, e4]; simp
          go_enter Tryd.func62, Tryd.ntmps62
          go_wp2_with (go_at_call 102; refine (eqI anyB anyB _ _ _ a.regs b.regs (h1.below (by exact HB _ _)) (h2.below (by exact HB _ _))).mono ?_; rintro e w2 ⟨rfl, hb2⟩)
          go_ret
          exact ⟨ret_b HR.out, bTrans (HB _ _) (quiet_below hb2)⟩
set_option maxHeartbeats 4000000 in
theorem equalL_any (w : World) (v1 v2 : Value) (a b : List PLoc) (h1 : Locs anyB anyB w v1 a) (h2 : Locs anyB anyB w v2 b) :
    Calls Tryd.prog 61 #[v1, v2, .func (.func 62) #[] #[]] w fun e w' => e = .returned (.bool (eqB a b)) ∧ Below w.heap.size w w' := by
  obtain ⟨A1, c1, rfl, hl1⟩ := h1.form
  obtain ⟨A2, c2, rfl, hl2⟩ := h2.form
  by_cases hlen : a.length = b.length
  · have HL : Hid (a.length = b.length) := hlen
    have e1 := lt_eq hlen
    clear hlen
    go_enter Tryd.func61, Tryd.ntmps61
    go_wp2
    go_loopg [7, 8, 9, 17] a.length (fun g i7 i8 i9 i17 wr => ∃ k : Nat, g = a.length - k ∧ k ≤ a.length ∧ i17 = .int .i64 k ∧ Hid (a.take k = b.take k) ∧ Below w.heap.size w wr)
    case atStart => exact ⟨0, rfl, by omega, rfl, rfl, bRefl w⟩
    case round =>
      obtain ⟨k, rfl, hk, rfl, ht, hb⟩ := hrel
      by_cases hlt : k < a.length
      · obtain ⟨b1, o1, x, v1, rfl, hx, hz1, q1, q2, q3, q4, q5, hv1⟩ := h1.cell hb hlt
        obtain ⟨b2, o2, y, v2, rfl, hy, hz2, s1, s2, s3, s4, s5, hv2⟩ := h2.cell hb (k := k) (by have := HL.out; omega)
        obtain ⟨V1, n1, rfl, _⟩ := hv1.form
        obtain ⟨V2, n2, rfl, _⟩ := hv2.form
        have hlt2 : (k : Int) < b.length := by have := HL.out; omega
        have HX : Hid (a[k]? = some x) := hx
        have HY : Hid (b[k]? = some y) := hy
        have HB : Hid (Below w.heap.size w wr) := hb
        clear hx hy hb
        by_cases hxy : x = y
        · have e2 := eqB_yes hxy
          have HE : Hid (x = y) := hxy
          clear hxy
          go_wp2_with (go_at_call 62; refine (sameLoc_any _ _ _ x y ⟨_, rfl, hv1.below (by exact bAlloc (bAlloc (bRefl _) _) _)⟩ ⟨_, rfl, hv2.below (by exact bAlloc (bAlloc (bRefl _) _) _)⟩).mono ?_; rintro e w' ⟨rfl, hb1⟩)
          go_roundg (a.length - (k + 1))
          case measure => omega
          case rel => exact ⟨k + 1, rfl, by omega, by go_num, take_eq ht.out HX.out HY.out HE.out, bTrans HB.out (bTrans (bAlloc (bAlloc (bRefl _) _) _) hb1)⟩
        · have e2 := eqB_no hxy
          have HE : Hid (x ≠ y) := hxy
          clear hxy
          go_wp2_with (go_at_call 62; refine (sameLoc_any _ _ _ x y ⟨_, rfl, hv1.below (by exact bAlloc (bAlloc (bRefl _) _) _)⟩ ⟨_, rfl, hv2.below (by exact bAlloc (bAlloc (bRefl _) _) _)⟩).mono ?_; rintro e w' ⟨rfl, hb1⟩)
          go_ret
          exact ⟨ret_b (eqB_no (take_ne HX.out HY.out HE.out)).symm, bTrans HB.out (bTrans (bAlloc (bAlloc (bRefl _) _) _) hb1)⟩
      · go_wp2
        go_ret
        exact ⟨ret_b (eqB_yes (take_all HL.out hlt ht.out)).symm, hb⟩
  · have e1 := lt_ne hlen
    go_enter Tryd.func61, Tryd.ntmps61
    go_wp2
    go_ret
    exact ⟨ret_b (eqB_no (len_ne hlen)).symm, bRefl _⟩
theorem gU : Tryd.prog.eqGuardType Tryd.prog.depth 42 = false := by kernel_rfl
theorem eqU (a b : PBud) (w : World) : (Op.equalIn 10000 42 (uVal a) (uVal b)).run Tryd.prog w = .ok (eqB a b) w := by
  have u3 := Tryd.underlying3
  have a3 := Tryd.isAgg3
  have z3 := Tryd.sizeOf3
  have hS : Tryd.prog.underlying 42 = some (.struct (Tryd.prog.fieldsOf 42)) := by kernel_rfl
  have hp : Tryd.prog.stoodInHeld 42 = false := by kernel_rfl
  obtain ⟨f, n, c, d⟩ := a
  obtain ⟨f', n', c', d'⟩ := b
  unfold eqB
  rw [show (10000 : Nat) = 9999 + 1 from rfl, run_equalIn_agg w 9999 42 _ _ hS hp]
  simp only [Program.fieldsOf, Tryd.underlying42]
  go_simp
  by_cases h1 : f = f' <;> by_cases h2 : n = n' <;> by_cases h3 : c = c' <;> by_cases h4 : d = d' <;> simp [h1, h2, h3, h4]
theorem eq8 (f n c d f' n' c' d' : Int) (w : World) : (Op.equalIn 10000 42 (.agg #[.int .i64 f, .int .i64 n, .int .i64 c, .int .i64 d]) (.agg #[.int .i64 f', .int .i64 n', .int .i64 c', .int .i64 d'])).run Tryd.prog w = .ok (eqB (⟨f, n, c, d⟩ : PBud) ⟨f', n', c', d'⟩) w := eqU ⟨f, n, c, d⟩ ⟨f', n', c', d'⟩ w
attribute [local go_sem ↓] eq8
theorem eqB_wld (a b : PWld) : eqB a b = (eqB a.acts b.acts && (eqB a.mail b.mail && eqB (⟨a.used.drop, a.used.dup, a.used.time, a.used.crash⟩ : PBud) ⟨b.used.drop, b.used.dup, b.used.time, b.used.crash⟩)) := by
  obtain ⟨r, p, ⟨q0, q1, q2, q3⟩⟩ := a
  obtain ⟨r', p', ⟨s0, s1, s2, s3⟩⟩ := b
  unfold eqB
  rw [Bool.eq_iff_iff]; simp
set_option maxHeartbeats 2000000 in
set_option maxRecDepth 100000 in
theorem sameW_any (w : World) (v1 v2 : Value) (a b : PWld) (h1 : WldV w v1 a) (h2 : WldV w v2 b) :
    Calls Tryd.prog 24 #[v1, v2] w fun e w' => e = .returned (.bool (eqB a b)) ∧ Below w.heap.size w w' := by
  obtain ⟨va, vm, rfl, h1, h3⟩ := h1
  obtain ⟨vb, vn, rfl, h2, h4⟩ := h2
  obtain ⟨A1, d1, rfl, _⟩ := h1.form
  obtain ⟨A2, d2, rfl, _⟩ := h2.form
  obtain ⟨A3, d3, rfl, _⟩ := h3.form
  obtain ⟨A4, d4, rfl, _⟩ := h4.form
  have HE := hid_mk (eqB_wld a b)
  have hgU := gU
  have HB : ∀ (x y : Obj), Below w.heap.size w ((w.alloc x).alloc y) := fun x y => bAlloc (bAlloc (bRefl w) x) y
  have H1 := hid_mk h1
  have H2 := hid_mk h2
  have H3 := hid_mk h3
  have H4 := hid_mk h4
  clear h1 h2 h3 h4
  cases e1 : eqB a.acts b.acts with
  | false =>
    have HR : Hid (false = eqB a b) := by show _ = _; rw [HE.out, e1]; rfl
    go_enter Tryd.func24, Tryd.ntmps24
    go_wp2_with (first
      | (go_at_call 61; refine (equalL_any _ _ _ a.acts b.acts (H1.out.below (by exact HB _ _)) (H2.out.below (by exact HB _ _))).mono ?_; rintro e w2 ⟨rfl, hb2⟩))
    go_ret
    exact ⟨ret_b HR.out, bTrans (HB _ _) hb2⟩
  | true =>
    cases e2 : eqB a.mail b.mail with
    | false =>
      have HR : Hid (false = eqB a b) := by show _ = _; rw [HE.out, e1, e2]; rfl
      go_enter Tryd.func24, Tryd.ntmps24
      go_wp2_with (first
        | (go_at_call 61; refine (equalL_any _ _ _ a.acts b.acts (H1.out.below (by exact HB _ _)) (H2.out.below (by exact HB _ _))).mono ?_; rintro e w2 ⟨rfl, hb2⟩; have hc2 := bcell hb2; have HB2 := hid_mk (bTrans (HB _ _) hb2); clear hb2)
        | (go_at_call 63; refine (same_any _ _ _ a.mail b.mail (H3.out.below HB2.out) (H4.out.below HB2.out)).mono ?_; rintro e w3 ⟨rfl, hb3⟩))
      go_ret
      exact ⟨ret_b HR.out, bTrans HB2.out hb3⟩
    | true =>
      have HR : Hid (eqB (⟨a.used.drop, a.used.dup, a.used.time, a.used.crash⟩ : PBud) ⟨b.used.drop, b.used.dup, b.used.time, b.used.crash⟩ = eqB a b) := by show _ = _; rw [HE.out, e1, e2]; simp
      go_enter Tryd.func24, Tryd.ntmps24
      go_wp2_with (first
        | (go_at_call 61; refine (equalL_any _ _ _ a.acts b.acts (H1.out.below (by exact HB _ _)) (H2.out.below (by exact HB _ _))).mono ?_; rintro e w2 ⟨rfl, hb2⟩; have hc2 := bcell hb2; have hz2 := hb2.size; have hz3 : w.heap.size + 1 < w2.heap.size := (by simp at hz2; omega); have hz4 : w.heap.size < w2.heap.size := (by omega); have HB2 := hid_mk (bTrans (HB _ _) hb2); clear hb2 hz2)
        | (go_at_call 63; refine (same_any _ _ _ a.mail b.mail (H3.out.below HB2.out) (H4.out.below HB2.out)).mono ?_; rintro e w3 ⟨rfl, hb3⟩; have hc3 := bcell hb3))
      go_ret
      exact ⟨ret_b HR.out, bTrans HB2.out hb3⟩
end Go.Proofs.YtgdloonpemaijaaDoor
namespace Go.Proofs.YtgdloonpemaijaaDoor
open Go.RowKit
theorem de_nil (hs : List PHnd) : de hs [] = 0 := (goodB_good (hs := hs) (code := []) (l := [0]) (pr := fun _ => 0) (by rfl)).de
theorem fc_of {p : PPrg} (h : chk p = 0) (hc : ∀ x ∈ p.hs, x.code = []) : fc p = 0 := by
  unfold fc
  rw [if_pos h]
  have : ∀ l : List PHnd, (∀ x ∈ l, x.code = []) → scan (fun h => de p.hs h.code) l = 0 := by
    intro l hl
    induction l with
    | nil => rfl
    | cons x r ih =>
      unfold scan
      rw [hl x (List.mem_cons_self ..), de_nil, if_pos rfl]
      exact ih fun y hy => hl y (List.mem_cons_of_mem _ hy)
  exact this _ hc
theorem fc_two {n : Nat} {most : Int} (h : chk (twoP n most) = 0) : fc (twoP n most) = 0 := fc_of h fun x hx => by
  have : x ∈ [(⟨1, []⟩ : PHnd)] := hx
  simp at this; subst this; rfl
def p31 : PPrg := twoP 3 1
theorem p31_fc : fc p31 = 0 := fc_two (by decide +kernel)
theorem p31_small : Small p31 := by decide +kernel
def x31 : PWld := ⟨[⟨[4], false, 0, 0, 1⟩, ⟨[], false, 0, 0, 0⟩], [⟨⟨-1, 0, 0⟩, ⟨0, 0, [0]⟩⟩, ⟨⟨-1, 1, 0⟩, ⟨1, 0, [1]⟩⟩], ⟨0, 0, 0, 0⟩⟩
theorem x31_start : startP p31 = x31 := by decide +kernel
def p00 : PPrg := ⟨[], [], [], 0⟩
def x00 : PWld := ⟨[], [], ⟨0, 0, 0, 0⟩⟩
theorem p00_fc : fc p00 = 1 := by
  unfold fc
  rw [if_neg (by decide +kernel)]
  decide +kernel
theorem x31_chk : chkW p31 x31 = true := by
  unfold chkW
  rw [p31_fc]
  decide +kernel
theorem x00_chk : chkW p31 x00 = false := by
  unfold chkW
  rw [p31_fc]
  decide +kernel
theorem x31_sm : SmW x31 := ⟨by decide +kernel, by decide +kernel, by decide +kernel, by decide +kernel⟩
end Go.Proofs.YtgdloonpemaijaaDoor
namespace Go.Proofs.YtgdloonpemaijaaDoor
theorem less_trans {a b c : PID} (h1 : lessD a b = true) (h2 : lessD b c = true) : lessD a c = true := by rw [lessD_iff] at *; omega
theorem less_irr (a : PID) : lessD a a = false := by
  cases h : lessD a a with
  | false => rfl
  | true => rw [lessD_iff] at h; omega
theorem less_ne {a b : PID} (h : lessD a b = true) : a ≠ b := by rintro rfl; rw [less_irr] at h; cases h
theorem less_total {a b : PID} (h : a ≠ b) (h1 : lessD a b = false) : lessD b a = true := by
  have h2 : ¬ lessD a b = true := by rw [h1]; decide
  rw [lessD_iff] at *
  have h3 : ¬ (a.f = b.f ∧ a.n = b.n ∧ a.c = b.c) := fun ⟨e1, e2, e3⟩ => h (by obtain ⟨f, n, c⟩ := a; obtain ⟨f', n', c'⟩ := b; dsimp only at e1 e2 e3; rw [e1, e2, e3])
  omega
theorem srt_pw : ∀ (l : List PMsg), srt l = true ↔ l.Pairwise (fun x y => lessD x.id y.id = true)
  | [] => by simp [srt]
  | [a] => by simp [srt]
  | a :: b :: r => by
    rw [srt, Bool.and_eq_true, srt_pw (b :: r)]
    rw [List.pairwise_cons (a := a)]
    constructor
    · rintro ⟨h1, h2⟩
      refine ⟨fun y hy => ?_, h2⟩
      rcases List.mem_cons.1 hy with rfl | hy
      · exact h1
      · exact less_trans h1 ((List.pairwise_cons.1 h2).1 y hy)
    · rintro ⟨h1, h2⟩
      exact ⟨h1 b (by simp), h2⟩
theorem fnd_iff {l : List PMsg} {d : PID} : fnd l d = -1 ↔ ∀ x ∈ l, x.id ≠ d := by
  rcases fnd_cases l d with ⟨h, h1⟩ | ⟨k, x, h, h1, h2, _⟩
  · refine ⟨fun _ x hx => ?_, fun _ => h⟩
    obtain ⟨j, hj⟩ := List.mem_iff_getElem?.1 hx
    exact h1 j x hj
  · refine ⟨fun e => by omega, fun hh => absurd h2 (hh x (List.mem_of_getElem? h1))⟩
theorem fnd_some {l : List PMsg} {d : PID} (h : fnd l d ≠ -1) : ∃ (k : Nat) (x : PMsg), fnd l d = k ∧ l[k]? = some x ∧ x.id = d := by
  rcases fnd_cases l d with ⟨e, _⟩ | ⟨k, x, h, h1, h2, _⟩
  · exact absurd e h
  · exact ⟨k, x, h, h1, h2⟩
theorem fnd_mem {l : List PMsg} {x : PMsg} (h : x ∈ l) : ∃ (k : Nat) (y : PMsg), fnd l x.id = k ∧ l[k]? = some y ∧ y.id = x.id :=
  fnd_some fun e => fnd_iff.1 e x h rfl
theorem put_perm (l : List PMsg) (m : PMsg) : (putP l m).Perm (m :: l) := by
  unfold putP
  exact (List.perm_middle).trans (by rw [List.take_append_drop])
theorem put_len (l : List PMsg) (m : PMsg) : (putP l m).length = l.length + 1 := (put_perm l m).length_eq
theorem put_mem {l : List PMsg} {m x : PMsg} : x ∈ putP l m ↔ x = m ∨ x ∈ l := by rw [(put_perm l m).mem_iff, List.mem_cons]
theorem put_srt {l : List PMsg} {m : PMsg} (h : srt l = true) (hf : fnd l m.id = -1) : srt (putP l m) = true := by
  rw [srt_pw] at *
  rw [fnd_iff] at hf
  have h1 : ∀ x ∈ l.take (plc l m.id), lessD x.id m.id = true := fun x hx => by
    obtain ⟨j, hj⟩ := List.mem_iff_getElem?.1 hx
    rw [List.getElem?_take] at hj
    split at hj
    · rename_i hlt
      obtain ⟨hjl, rfl⟩ := List.getElem?_eq_some_iff.1 hj
      have := List.not_of_lt_findIdx (p := fun m' : PMsg => !lessD m'.id m.id) hlt
      simpa using this
    · cases hj
  have h2 : ∀ y ∈ l.drop (plc l m.id), lessD m.id y.id = true := fun y hy => by
    by_cases hp : plc l m.id < l.length
    · have e0 : lessD (l[plc l m.id]).id m.id = false := by
        have := List.findIdx_getElem (p := fun m' : PMsg => !lessD m'.id m.id) (w := hp)
        unfold plc; simpa using this
      have e1 := less_total (hf _ (List.getElem_mem hp)) e0
      rw [List.drop_eq_getElem_cons hp] at hy
      rcases List.mem_cons.1 hy with rfl | hy
      · exact e1
      · have h3 : (l.drop (plc l m.id)).Pairwise (fun x y => lessD x.id y.id = true) := h.drop
        rw [List.drop_eq_getElem_cons hp, List.pairwise_cons] at h3
        exact less_trans e1 (h3.1 y hy)
    · rw [List.drop_eq_nil_of_le (by omega)] at hy; cases hy
  unfold putP
  rw [List.pairwise_append, List.pairwise_cons]
  refine ⟨h.take, ⟨h2, h.drop⟩, fun x hx y hy => ?_⟩
  rcases List.mem_cons.1 hy with rfl | hy
  · exact h1 x hx
  · exact less_trans (h1 x hx) (h2 y hy)
theorem cut_perm {l : List PMsg} {k : Nat} {x : PMsg} (h : l[k]? = some x) : l.Perm (x :: cutP l k) := by
  obtain ⟨hk, rfl⟩ := List.getElem?_eq_some_iff.1 h
  have e : l = l.take k ++ l[k] :: l.drop (k + 1) := by rw [← List.drop_eq_getElem_cons hk, List.take_append_drop]
  conv => lhs; rw [e]
  exact List.perm_middle
theorem cut_len {l : List PMsg} {k : Nat} {x : PMsg} (h : l[k]? = some x) : (cutP l k).length + 1 = l.length := by have := (cut_perm h).length_eq; simpa using this.symm
theorem cut_srt {l : List PMsg} {k : Nat} (h : srt l = true) : srt (cutP l k) = true := by
  rw [srt_pw] at *
  refine h.sublist ?_
  unfold cutP
  conv => rhs; rw [← List.take_append_drop k l]
  exact List.Sublist.append (List.Sublist.refl _) (by rw [← List.drop_drop]; exact List.drop_sublist _ _)
/-- Names that stand once. -/
def Once (l : List PMsg) : Prop := l.Pairwise (fun x y => x.id ≠ y.id)
theorem Once.of_srt {l : List PMsg} (h : srt l = true) : Once l := ((srt_pw l).1 h).imp fun h => less_ne h
theorem Once.eq {l : List PMsg} (h : Once l) {x y : PMsg} (hx : x ∈ l) (hy : y ∈ l) (e : x.id = y.id) : x = y := by
  induction l with
  | nil => cases hx
  | cons a r ih =>
    obtain ⟨h1, h2⟩ := List.pairwise_cons.1 h
    rcases List.mem_cons.1 hx with rfl | hx
    · rcases List.mem_cons.1 hy with rfl | hy
      · rfl
      · exact absurd e (h1 y hy)
    · rcases List.mem_cons.1 hy with hy | hy
      · subst hy; exact absurd e.symm (h1 x ‹_›)
      · exact ih h2 ‹_› hy
theorem Once.perm {l l' : List PMsg} (h : Once l) (p : l.Perm l') : Once l' := (p.pairwise_iff (fun h => h.symm)).1 h
theorem cut_mem {l : List PMsg} {k : Nat} {x y : PMsg} (h : l[k]? = some x) (ho : Once l) : y ∈ cutP l k ↔ y ∈ l ∧ y.id ≠ x.id := by
  have p := cut_perm h
  have ho2 := ho.perm p
  obtain ⟨h1, _⟩ := List.pairwise_cons.1 ho2
  rw [p.mem_iff, List.mem_cons]
  constructor
  · intro hy; exact ⟨Or.inr hy, fun e => h1 y hy e.symm⟩
  · rintro ⟨rfl | hy, hne⟩
    · exact absurd rfl hne
    · exact hy
end Go.Proofs.YtgdloonpemaijaaDoor
namespace Go.Proofs.YtgdloonpemaijaaDoor
open Go.RowKit
theorem scan_all {α : Type} {f : α → Int} {l : List α} (h : scan f l = 0) : ∀ x ∈ l, f x = 0 := scan_zero h
structure ChkP (p : PPrg) : Prop where
  na : p.acs.length ≤ 8
  n0 : 0 < p.acs.length
  nb : p.bs.length ≤ 16
  acs : ∀ a ∈ p.acs, a.regs.length ≤ 8 ∧ (a.timer = -1 → a.armed = false)
  bs : ∀ n ∈ p.bs, chkNt p n = true
theorem chk_parts {p : PPrg} (h : chk p = 0) : ChkP p := by
  unfold chk at h
  by_cases h0 : chkC p = 0
  · rw [if_pos h0] at h
    by_cases h1 : scan (chkH p.hs.length) p.hs = 0
    · rw [if_pos h1] at h
      by_cases h2 : scan (chkA p.hs) p.acs = 0
      · rw [if_pos h2] at h
        have hc : (p.hs.length ≤ 16 ∧ p.acs.length ≤ 8 ∧ p.bs.length ≤ 16) ∧ (p.acs.length ≠ 0 ∧ (1 ≤ p.fuel ∧ p.fuel ≤ 256)) := by
          unfold chkC at h0
          by_cases e : p.hs.length ≤ 16 ∧ p.acs.length ≤ 8 ∧ p.bs.length ≤ 16
          · rw [if_pos e] at h0
            by_cases e2 : p.acs.length ≠ 0 ∧ (1 ≤ p.fuel ∧ p.fuel ≤ 256)
            · exact ⟨e, e2⟩
            · rw [if_neg e2] at h0; cases h0
          · rw [if_neg e] at h0; cases h0
        refine ⟨hc.1.2.1, by omega, hc.1.2.2, fun a ha => ?_, fun n hn => ?_⟩
        · have := scan_all h2 a ha
          unfold chkA at this
          by_cases e : a.regs.length ≤ 8
          · refine ⟨e, fun et => ?_⟩
            rw [if_pos e] at this
            by_cases e2 : 0 ≤ a.cap ∧ a.cap ≤ 16
            · rw [if_pos e2, if_pos et] at this
              cases ha : a.armed with
              | false => rfl
              | true => rw [ha] at this; cases this
            · rw [if_neg e2] at this; cases this
          · rw [if_neg e] at this; cases this
        · have := scan_all h n hn
          unfold chkN at this
          by_cases e : (0 ≤ n.to ∧ n.to < (p.acs.length : Int)) ∧ (0 ≤ n.hd ∧ n.hd < (p.hs.length : Int))
          · rw [if_pos e] at this
            by_cases e2 : (n.args.length : Int) = argsOf p.hs n.hd
            · unfold chkNt
              rw [in_yes (by omega), in_yes (by omega)]
              simp [e2]
            · rw [if_neg e2] at this; cases this
          · rw [if_neg e] at this; cases this
      · rw [if_neg h2] at h; exact absurd h h2
    · rw [if_neg h1] at h; exact absurd h h1
  · rw [if_neg h0] at h; exact absurd h h0
theorem fc_chk {p : PPrg} (h : fc p = 0) : chk p = 0 := by
  apply Classical.byContradiction
  intro e
  unfold fc at h
  rw [if_neg e] at h
  exact e h
def sumO (l : List PLoc) : Int := (l.map (·.over)).sum
theorem sumO_set {l : List PLoc} {k : Nat} {y : PLoc} (h : l[k]? = some y) (n : Int) : sumO (l.set k { y with over := n }) = sumO l - y.over + n := by
  induction l generalizing k with
  | nil => cases h
  | cons x r ih =>
    cases k with
    | zero => simp at h; subst h; simp [sumO]; omega
    | succ k =>
      simp at h
      have := ih h
      simp only [sumO, List.set_cons_succ, List.map_cons, List.sum_cons] at *
      omega
theorem sumO_take {l : List PLoc} {k : Nat} {y : PLoc} (h : l[k]? = some y) : sumO (l.take (k + 1)) = sumO (l.take k) + y.over := by
  unfold sumO; rw [List.take_add_one, h]; simp
/-- Behind k notes of Boot. -/
structure INV (p : PPrg) (k : Nat) (x : PWld) : Prop where
  len : x.acts.length = p.acs.length
  loc : ∀ (j : Nat) (y : PLoc) (a : PAct), x.acts[j]? = some y → p.acs[j]? = some a → y.regs = a.regs ∧ y.armed = a.armed ∧ y.down = 0 ∧ y.sent = 0 ∧ 0 ≤ y.over ∧ y.over ≤ k
  mail : ∀ m ∈ x.mail, m.nt ∈ p.bs ∧ m.id.f = -1 ∧ 0 ≤ m.id.n ∧ m.id.n < k ∧ m.id.c = 0
  srt : srt x.mail = true
  sum : (x.mail.length : Int) + sumO x.acts = k
  used : x.used = ⟨0, 0, 0, 0⟩
theorem sum_zero (l : List PAct) : sumO (l.map loc0) = 0 := by
  induction l with
  | nil => rfl
  | cons a r ih => simp only [sumO, List.map_cons, List.sum_cons] at *; rw [ih]; rfl
theorem inv0 (p : PPrg) : INV p 0 (startW p) := by
  refine ⟨startL_len p, fun j y a hy ha => ?_, fun m hm => (by cases hm), rfl, by show (0 : Int) + sumO (startL p) = 0; rw [startL, sum_zero]; rfl, rfl⟩
  have : (startL p)[j]? = some (loc0 a) := by unfold startL; rw [List.getElem?_map, ha]; rfl
  have e : y = loc0 a := Option.some.inj (hy.symm.trans this)
  subst e
  exact ⟨rfl, rfl, rfl, rfl, by show (0 : Int) ≤ 0; omega, by show (0 : Int) ≤ _; omega⟩
theorem wrapS {n : Int} (h0 : 0 ≤ n) (h : n ≤ 1000) : wrap64 n = n := IntWalk.wrap64_in _ ⟨by omega, by omega⟩
theorem inv_step {p : PPrg} (hp : ChkP p) {k : Nat} {x : PWld} (h : INV p k x) {n : PNte} (hn : p.bs[k]? = some n) : INV p (k + 1) (stepN p 0 (-1) p.acs.length x k n) := by
  have hk : k < p.bs.length := (List.getElem?_eq_some_iff.1 hn).1
  have hnb := hp.nb
  have hmem := List.mem_of_getElem? hn
  have hc := hp.bs n hmem
  unfold chkNt at hc
  simp only [Bool.and_eq_true] at hc
  have ht := inB_iff.1 hc.1
  obtain ⟨j, hj⟩ : ∃ j : Nat, n.to = (j : Int) := Int.eq_ofNat_of_zero_le ht.1
  have hjl : j < p.acs.length := by omega
  rw [step_yes hc.1 (by omega), hj, Int.toNat_natCast]
  obtain ⟨y, hy⟩ := at_lt (l := x.acts) (k := j) (by rw [h.len]; exact hjl)
  obtain ⟨a, ha⟩ := at_lt hjl
  have hw : wrap64 (0 + (k : Int)) = k := by rw [Int.zero_add]; exact wrapS (by omega) (by omega)
  unfold postP
  by_cases hr : roomB p x ⟨⟨-1, wrap64 (0 + (k : Int)), 0⟩, n⟩ j = true
  · rw [if_pos hr]
    unfold roomB at hr
    simp only [Bool.and_eq_true, decide_eq_true_eq] at hr
    refine ⟨h.len, fun i y a hy ha => let ⟨h1, h2, h3, h4, h5, h6⟩ := h.loc i y a hy ha; ⟨h1, h2, h3, h4, h5, by omega⟩, fun m hm => ?_, put_srt h.srt hr.2, ?_, h.used⟩
    · rcases putP_mem hm with rfl | hm
      · exact ⟨hmem, rfl, by show 0 ≤ wrap64 _; rw [hw]; omega, by show wrap64 _ < _; rw [hw]; omega, rfl⟩
      · obtain ⟨h1, h2, h3, h4, h5⟩ := h.mail m hm
        exact ⟨h1, h2, h3, by omega, h5⟩
    · show ((putP x.mail _).length : Int) + sumO x.acts = _
      rw [putP_len]; have := h.sum; push_cast; omega
  · rw [if_neg hr, getD_at hy]
    obtain ⟨r1, r2, r3, r4, r5, r6⟩ := h.loc j y a hy ha
    have hw2 : wrap64 (y.over + 1) = y.over + 1 := wrapS (by omega) (by omega)
    rw [hw2]
    refine ⟨by show (x.acts.set _ _).length = _; rw [List.length_set]; exact h.len, fun i z b hz hb => ?_, fun m hm => let ⟨h1, h2, h3, h4, h5⟩ := h.mail m hm; ⟨h1, h2, h3, by omega, h5⟩, h.srt, ?_, h.used⟩
    · have hz' : (x.acts.set j { y with over := y.over + 1 })[i]? = some z := hz
      by_cases e : j = i
      · subst e
        rw [List.getElem?_set_self (by rw [h.len]; exact hjl)] at hz'
        cases hz'
        obtain rfl := Option.some.inj (ha.symm.trans hb)
        exact ⟨r1, r2, r3, r4, by show 0 ≤ y.over + 1; omega, by show y.over + 1 ≤ _; omega⟩
      · rw [List.getElem?_set_ne e] at hz'
        obtain ⟨h1, h2, h3, h4, h5, h6⟩ := h.loc i z b hz' hb
        exact ⟨h1, h2, h3, h4, h5, by omega⟩
    · show (x.mail.length : Int) + sumO (x.acts.set j { y with over := y.over + 1 }) = _
      rw [sumO_set hy]; have := h.sum; push_cast; omega
theorem start_inv {p : PPrg} (hp : ChkP p) : INV p p.bs.length (startP p) := by
  have e : inB (-1) (-1) (((startW p).acts.length : Int) - 1) = true := in_yes ⟨by omega, by show (-1 : Int) ≤ ((startL p).length : Int) - 1; omega⟩
  unfold startP
  rw [send_yes e]
  have hf : firstP (startW p) (-1) p.bs.length = 0 := rfl
  have hl : (startW p).acts.length = p.acs.length := startL_len p
  rw [hf, hl]
  have key : ∀ k, k ≤ p.bs.length → INV p k (sendT p 0 (-1) p.acs.length (startW p) p.bs k) := by
    intro k
    induction k with
    | zero => exact fun _ => inv0 p
    | succ k ih =>
      intro hk
      obtain ⟨n, hn⟩ := at_lt (l := p.bs) (k := k) (by omega)
      rw [step_at hn]
      exact inv_step hp (ih (by omega)) hn
  exact key _ (Nat.le_refl _)
theorem start_chk {p : PPrg} (hf : fc p = 0) : chkW p (startP p) = true := by
  have hp := chk_parts (fc_chk hf)
  have h := start_inv hp
  have hnb := hp.nb
  have h1 : chkAs p (startP p).acts = true := by
    unfold chkAs
    refine decide_eq_true ⟨h.len, fun i hi => ?_⟩
    obtain ⟨y, hy⟩ := at_lt hi
    obtain ⟨a, ha⟩ := at_lt (l := p.acs) (k := i) (by rw [← h.len]; exact hi)
    rw [getD_at hy, getD_at ha]
    obtain ⟨r1, r2, r3, r4, r5, r6⟩ := h.loc i y a hy ha
    have ht := (hp.acs a (List.mem_of_getElem? ha)).2
    unfold chkLoc
    rw [r1, r2, r3, r4, in_yes (by omega), in_yes (by omega), in_yes ⟨r5, by omega⟩]
    simp
    by_cases e : a.timer = -1
    · exact Or.inl (ht e)
    · exact Or.inr e
  have h2 : chkM p (startP p) = true := by
    unfold chkM
    rw [h.srt, Bool.and_true, List.all_eq_true]
    intro m hm
    obtain ⟨m1, m2, m3, m4, m5⟩ := h.mail m hm
    rw [hp.bs m.nt m1, Bool.true_and]
    unfold chkD
    have hs : sentP (startP p) m.id.f = 16 := by unfold sentP; rw [m2, if_pos rfl]
    rw [hs, m2, m5, h.used, show wrap64 (16 - 1) = 15 from wrapS (by omega) (by omega), in_yes (by omega), in_yes (by omega), in_yes (by show (0 : Int) ≤ 0 ∧ (0 : Int) ≤ 0; omega)]
    rfl
  unfold chkW
  rw [h1, h2, h.used, hf]
  decide
theorem start_sm {p : PPrg} (hf : fc p = 0) (hs : Small p) : SmW (startP p) := by
  have hp := chk_parts (fc_chk hf)
  have h := start_inv hp
  have hnb := hp.nb
  have hna := hp.na
  have hml : (startP p).mail.length ≤ 16 := by
    have h1 := h.sum
    have : 0 ≤ sumO (startP p).acts := by
      have key : ∀ l : List PLoc, (∀ y ∈ l, 0 ≤ y.over) → 0 ≤ sumO l := by
        intro l hl
        induction l with
        | nil => exact Int.le_refl _
        | cons y r ih =>
          have h1 := hl y (List.mem_cons_self ..)
          have h2 := ih fun z hz => hl z (List.mem_cons_of_mem _ hz)
          simp only [sumO, List.map_cons, List.sum_cons] at *
          omega
      refine key _ fun y hy => ?_
      obtain ⟨i, hi⟩ := List.getElem?_of_mem hy
      obtain ⟨a, ha⟩ := at_lt (l := p.acs) (k := i) (by rw [← h.len]; exact (List.getElem?_eq_some_iff.1 hi).1)
      exact (h.loc i y a hi ha).2.2.2.2.1
    omega
  have hl : ∀ y ∈ (startP p).acts, ∃ a ∈ p.acs, y.regs = a.regs ∧ y.down = 0 ∧ y.sent = 0 ∧ 0 ≤ y.over ∧ y.over ≤ 16 := fun y hy => by
    obtain ⟨i, hi⟩ := List.getElem?_of_mem hy
    obtain ⟨a, ha⟩ := at_lt (l := p.acs) (k := i) (by rw [← h.len]; exact (List.getElem?_eq_some_iff.1 hi).1)
    obtain ⟨r1, r2, r3, r4, r5, r6⟩ := h.loc i y a hi ha
    exact ⟨a, List.mem_of_getElem? ha, r1, r3, r4, r5, by omega⟩
  have hm : ∀ m ∈ (startP p).mail, m.nt.args.length ≤ 1000 := fun m hm => by
    obtain ⟨m1, m2, m3, m4, m5⟩ := h.mail m hm
    have h6 := hs.2.2.2.2.2 m.nt m1
    omega
  refine ⟨by rw [h.len]; omega, fun y hy => ?_, by omega, hm⟩
  · obtain ⟨a, ha, r1, _⟩ := hl y hy
    have hal := (hp.acs a ha).1
    rw [r1]; omega
end Go.Proofs.YtgdloonpemaijaaDoor
namespace Go.Proofs.YtgdloonpemaijaaDoor
open Go.RowKit
def erow (e : PEv) : List Value := [.int .i64 e.kind, .int .i64 e.id.f, .int .i64 e.id.n, .int .i64 e.id.c, .int .i64 e.who]
/-- Events in a row of the call's own. -/
structure EN (W wr : World) (v : Value) (l : List PEv) : Prop where
  own : wr.ownsRow W.heap.size 62 5 v l.length ((l.map erow).flatten)
  low : Below W.heap.size W wr
def rEv (w : World) (b o : Nat) (e : PEv) : Prop := w.cell? ⟨b, o, none⟩ = some (.int .i64 e.kind) ∧ w.cell? ⟨b, o + 1, none⟩ = some (.int .i64 e.id.f) ∧ w.cell? ⟨b, o + 2, none⟩ = some (.int .i64 e.id.n) ∧ w.cell? ⟨b, o + 3, none⟩ = some (.int .i64 e.id.c) ∧ w.cell? ⟨b, o + 4, none⟩ = some (.int .i64 e.who)
abbrev Evs (ok : Nat → Prop) := Sl 5 rEv ok
section
variable {W wr w' : World} {v : Value} {l : List PEv}
theorem Evs.same {ok : Nat → Prop} (h : Evs ok wr v l) (s : Same ok wr w') : Evs ok w' v l :=
  h.imp (fun _ h => h) s.size fun _ _ _ hk hb ⟨h1, h2, h3, h4, h5⟩ => ⟨(s.cell hk hb).trans h1, (s.cell hk hb).trans h2, (s.cell hk hb).trans h3, (s.cell hk hb).trans h4, (s.cell hk hb).trans h5⟩
theorem Evs.below {ok : Nat → Prop} (h : Evs ok wr v l) (hb : Below wr.heap.size wr w') : Evs ok w' v l := h.same (Same.all hb)
theorem EN.below (h : EN W wr v l) (hb : Below wr.heap.size wr w') : EN W w' v l := ⟨own_block h.own fun g _ hlt => hb.block g hlt, bTrans h.low hb⟩
theorem EN.form (h : EN W wr v l) : ∃ A c, v = .slice A l.length c := by
  obtain ⟨h1, h2⟩ := h.own
  rcases h2 with ⟨rfl, h2⟩ | ⟨g, cap, cur, rfl, _⟩
  · exact ⟨none, 0, by rw [h2]⟩
  · exact ⟨_, cap, rfl⟩
theorem EN.nil (W : World) : EN W W (.slice none 0 0) [] := ⟨⟨rfl, Or.inl ⟨rfl, rfl⟩⟩, bRefl _⟩
theorem EN.push {g cap : Nat} {e : PEv} {w2 : World} (h : EN W wr v l) (hb : Below wr.heap.size wr w2) (ho : w'.ownsRow W.heap.size 62 5 (.slice (some ⟨g, 0, none⟩) (l.length + 1) cap) (l.length + 1) ((l.map erow).flatten ++ erow e)) (hg : w2.grownBy w' v.ownBlock) : EN W w' (.slice (some ⟨g, 0, none⟩) (l.length + 1) cap) (l ++ [e]) := by
  refine ⟨?_, (bTrans h.low hb).grown hg (by have := h.low.size; have := hb.size; omega) fun j hj => (own_lt h.own hj).1⟩
  rw [List.length_append, List.map_append, List.flatten_append]
  simpa using ho
theorem erow_len (l : List PEv) : ∀ e ∈ l.map erow, e.length = 5 := by
  intro e he
  rw [List.mem_map] at he
  obtain ⟨x, _, rfl⟩ := he
  rfl
theorem EN.evs (h : EN W wr v l) (hl : l.length ≤ 1000000) : Evs (fun b => W.heap.size ≤ b) wr v l := by
  obtain ⟨h1, h2⟩ := h.own
  rcases h2 with ⟨rfl, h2⟩ | ⟨g, cap, cur, rfl, hb, hh, h3, h4, h5, h6⟩
  · have : l = [] := by cases l with | nil => rfl | cons _ _ => simp at h2
    subst this; exact ⟨_, _, rfl, by simp, by simp, Or.inl rfl⟩
  · refine ⟨_, cap, rfl, by omega, h3, Or.inr ⟨g, 0, rfl, hb, (Array.getElem?_eq_some_iff.1 hh).1, fun k n hn => ?_⟩⟩
    have hk := (List.getElem?_eq_some_iff.1 hn).1
    have hz : (l.map erow)[k]? = some (erow n) := by rw [List.getElem?_map, hn]; rfl
    have hcell : ∀ j, j < l.length * 5 → wr.cell? ⟨g, j, none⟩ = ((l.map erow).flatten)[j]? := fun j hj => by
      rw [cell_of_row _ _ _ _ _ _ hh, ← h6, List.getElem?_take, if_pos hj]; simp
    have hc : ∀ j, j < 5 → wr.cell? ⟨g, 0 + k * 5 + j, none⟩ = (erow n)[j]? := fun j hj => by
      rw [Nat.zero_add, hcell _ (by omega), flat_at _ (erow_len l) k j hj, hz]; rfl
    exact ⟨hc 0 (by omega), hc 1 (by omega), hc 2 (by omega), hc 3 (by omega), hc 4 (by omega)⟩
end
def gM (l : PBud) (x : PWld) (k i : Nat) : List PEv := ((x.mail.take i).filter (fun m => ofM l x k m)).map (fun m => (⟨(k : Int), m.id, 0⟩ : PEv))
def gA (l : PBud) (x : PWld) (k i : Nat) : List PEv := ((List.range i).filter (fun j => ofA l k (x.acts.getD j default))).map (fun j : Nat => (⟨(k : Int), ⟨0, 0, 0⟩, (j : Int)⟩ : PEv))
def enP (l : PBud) (x : PWld) : Nat → List PEv
  | 0 => []
  | k + 1 => enP l x k ++ gM l x (k + 1) x.mail.length
def enQ (l : PBud) (x : PWld) : Nat → List PEv
  | 0 => enP l x 3
  | k + 1 => enQ l x k ++ gA l x (k + 4) x.acts.length
noncomputable def enabP (p : PPrg) (b : PBud) (x : PWld) : List PEv := if fitsP p b x then enQ (leftB b x.used) x 2 else []
theorem gM_len (l : PBud) (x : PWld) (k i : Nat) : (gM l x k i).length ≤ x.mail.length := by
  unfold gM; rw [List.length_map]; exact Nat.le_trans (List.length_filter_le _ _) (by rw [List.length_take]; omega)
theorem gA_len (l : PBud) (x : PWld) (k i : Nat) : (gA l x k i).length ≤ i := by
  unfold gA; rw [List.length_map]; exact Nat.le_trans (List.length_filter_le _ _) (by rw [List.length_range]; exact Nat.le_refl _)
theorem enP_len (l : PBud) (x : PWld) : ∀ k, (enP l x k).length ≤ k * x.mail.length
  | 0 => by simp [enP]
  | k + 1 => by rw [enP, List.length_append, Nat.succ_mul]; have := enP_len l x k; have := gM_len l x (k + 1) x.mail.length; omega
theorem enQ_len (l : PBud) (x : PWld) : ∀ k, (enQ l x k).length ≤ 3 * x.mail.length + k * x.acts.length
  | 0 => by rw [enQ]; have := enP_len l x 3; omega
  | k + 1 => by rw [enQ, List.length_append, Nat.succ_mul k]; have := enQ_len l x k; have := gA_len l x (k + 4) x.acts.length; omega
theorem gM_0 (l : PBud) (x : PWld) (k : Nat) : gM l x k 0 = [] := by simp [gM]
theorem gA_0 (l : PBud) (x : PWld) (k : Nat) : gA l x k 0 = [] := by simp [gA]
theorem gM_yes {l : PBud} {x : PWld} {k i : Nat} {m : PMsg} (hm : x.mail[i]? = some m) (h : ofM l x k m = true) : gM l x k (i + 1) = gM l x k i ++ [⟨k, m.id, 0⟩] := by
  unfold gM; rw [List.take_add_one, hm]; simp [h]
theorem gM_no {l : PBud} {x : PWld} {k i : Nat} {m : PMsg} (hm : x.mail[i]? = some m) (h : ofM l x k m = false) : gM l x k (i + 1) = gM l x k i := by
  unfold gM; rw [List.take_add_one, hm]; simp [h]
theorem gA_yes {l : PBud} {x : PWld} {k i : Nat} {a : PLoc} (hm : x.acts[i]? = some a) (h : ofA l k a = true) : gA l x k (i + 1) = gA l x k i ++ [⟨k, ⟨0, 0, 0⟩, i⟩] := by
  unfold gA; rw [List.range_succ, List.filter_append]; simp [List.getD_eq_getElem?_getD, hm, h]
theorem gA_no {l : PBud} {x : PWld} {k i : Nat} {a : PLoc} (hm : x.acts[i]? = some a) (h : ofA l k a = false) : gA l x k (i + 1) = gA l x k i := by
  unfold gA; rw [List.range_succ, List.filter_append]; simp [List.getD_eq_getElem?_getD, hm, h]
theorem enabP_no {p : PPrg} {b : PBud} {x : PWld} (h : fitsP p b x = false) : enabP p b x = [] := by unfold enabP; rw [h]; rfl
theorem enabP_yes {p : PPrg} {b : PBud} {x : PWld} (h : fitsP p b x = true) : enabP p b x = enQ (leftB b x.used) x 2 := by unfold enabP; rw [h]; rfl
theorem infoE : (Tryd.prog.info? 62).map (fun i => (i.zero, i.size, i.bytes)) = some (some (.agg #[.int .i64 0, .int .i64 0, .int .i64 0, .int .i64 0, .int .i64 0]), 5, 40) := by kernel_rfl
theorem EN.mono {W0 W wr : World} {v : Value} {l : List PEv} (h : EN W wr v l) (hb : Below W0.heap.size W0 W) : EN W0 wr v l := by
  obtain ⟨⟨h1, h2⟩, h3⟩ := h
  exact ⟨⟨h1, h2.imp id fun ⟨g, cap, cur, e, hg, r⟩ => ⟨g, cap, cur, e, Nat.le_trans hb.size hg, r⟩⟩, bTrans hb h3⟩
theorem appE {ops : Array Oper} {rest : List Oper} {o : Oper} {a : Act} {Q : Exit → Act → World → Prop} {W w : World} {A : Option Addr} {c b : Nat} {l : List PEv} {e : PEv} (hgd : o.guard = none) (s x : Operand)
    (ho : o.op = .call { callee := .builtin .append, args := #[s, x], argTypes := #[66, 66] }) (hs : a.eval s = .slice A l.length c) (hx : a.eval x = .slice (some ⟨b, 0, none⟩) 1 1)
    (hen : EN W w (.slice A l.length c) l) (hb : w.heap[b]? = some (.cells #[.int .i64 e.kind, .int .i64 e.id.f, .int .i64 e.id.n, .int .i64 e.id.c, .int .i64 e.who] 62)) (hl : l.length ≤ 100000)
    (h : ∀ g cap w', EN W w' (.slice (some ⟨g, 0, none⟩) (l.length + 1) cap) (l ++ [e]) → wpList Tryd.prog ops Q rest (a.put o.dst (.slice (some ⟨g, 0, none⟩) (l.length + 1) cap)) w') :
    wpList Tryd.prog ops Q (o :: rest) a w := by
  obtain ⟨i0, hi0, hz0, hz1, hz2⟩ := info_parts infoE
  refine wpList_append_lies w hgd s x 66 ho W.heap.size 62 i0 _ 5 40 Tryd.underlying66 hi0 hz0 hz1 hz2 rfl (by decide) (.slice A l.length c) l.length _ hs hen.own ⟨b, 0, none⟩ 1 1 (erow e) hx rfl (World.news_of_block hb) (fun u hu => by simp [erow] at hu; rcases hu with rfl | rfl | rfl | rfl | rfl <;> rfl) (by decide) (by unfold maxLen; omega) (by omega) hen.low.size _ rfl ?_
  intro g cap w' ho' hg' _ _
  exact h g cap w' (hen.push (bRefl _) ho' hg')
theorem enP_step (l : PBud) (x : PWld) {k : Nat} (hk : 1 ≤ k) : enP l x (k + 1 - 1) = enP l x (k - 1) ++ gM l x k x.mail.length := by
  obtain ⟨j, rfl⟩ : ∃ j, k = j + 1 := ⟨k - 1, by omega⟩
  rfl
theorem enQ_step (l : PBud) (x : PWld) {k : Nat} (hk : 4 ≤ k) : enQ l x (k + 1 - 4) = enQ l x (k - 4) ++ gA l x k x.acts.length := by
  obtain ⟨j, rfl⟩ : ∃ j, k = j + 4 := ⟨k - 4, by omega⟩
  show enQ l x (j + 4 + 1 - 4) = enQ l x (j + 4 - 4) ++ _
  rw [show j + 4 + 1 - 4 = j + 1 by omega, show j + 4 - 4 = j by omega, enQ]
theorem enP_le (l : PBud) (x : PWld) {k : Nat} (hk : k ≤ 3) (hm : x.mail.length ≤ 1000) (i : Nat) : (enP l x (k - 1) ++ gM l x k i).length ≤ 4000 := by
  have h1 := enP_len l x (k - 1)
  have h2 := gM_len l x k i
  have h3 : (k - 1) * x.mail.length ≤ 2 * 1000 := Nat.mul_le_mul (by omega) hm
  rw [List.length_append]; omega
theorem enQ_le (l : PBud) (x : PWld) {k : Nat} (hk : k ≤ 5) (hm : x.mail.length ≤ 1000) (ha : x.acts.length ≤ 1000) {i : Nat} (hi : i ≤ 1000) : (enQ l x (k - 4) ++ gA l x k i).length ≤ 6000 := by
  have h1 := enQ_len l x (k - 4)
  have h2 := gA_len l x k i
  have h3 : (k - 4) * x.acts.length ≤ 1 * 1000 := Nat.mul_le_mul (by omega) ha
  rw [List.length_append]; omega
section
set_option maxHeartbeats 2000000 in
theorem enab_no (w : World) (vp vw : Value) (p : PPrg) (b : PBud) (x : PWld) (ht : Tab w) (hp : PrgV w vp p) (hx : WldV w vw x) (hf : fitsP p b x = false) :
    Calls Tryd.prog 33 #[vp, uVal b, vw] w fun e w' => ∃ v, e = .returned v ∧ EN w w' v (enabP p b x) := by
  have HP := hid_mk hp
  have HX := hid_mk hx
  have HT := hid_mk ht
  have HR := hid_mk (enabP_no hf)
  obtain ⟨vh, vb, vc, rfl, h1, h2, h3⟩ := hp
  obtain ⟨A1, c1, rfl, _⟩ := h1.form
  obtain ⟨A2, c2, rfl, _⟩ := h2.form
  obtain ⟨A3, c3, rfl, _⟩ := h3.form
  obtain ⟨va, vm, rfl, g1, g2⟩ := hx
  obtain ⟨B1, d1, rfl, _⟩ := g1.form
  obtain ⟨B2, d2, rfl, _⟩ := g2.form
  clear h1 h2 h3 g1 g2 ht
  have HB3 : Hid (∀ X Y Z : Obj, Below w.heap.size w (((w.alloc X).alloc Y).alloc Z)) := fun X Y Z => bAlloc (bAlloc (bAlloc (bRefl _) _) _) _
  go_enter Tryd.func33, Tryd.ntmps33
  go_wp2_with (first
    | (go_at_call 71; refine (fits_any _ _ _ p b x (HT.out.below (by exact HB3.out _ _ _)) (HP.out.below (by exact HB3.out _ _ _)) (HX.out.below (by exact HB3.out _ _ _))).mono ?_; rintro e w2 ⟨rfl, hb2⟩; have HB2 := hid_mk (bTrans (HB3.out _ _ _) hb2); clear hb2))
  go_ret
  exact ⟨_, rfl, by rw [HR.out]; exact (EN.nil w).below HB2.out⟩
set_option maxHeartbeats 16000000 in
set_option maxRecDepth 100000 in
theorem enab_yes (w : World) (vp vw : Value) (p : PPrg) (b : PBud) (x : PWld) (ht : Tab w) (hp : PrgV w vp p) (hx : WldV w vw x) (hf : fitsP p b x = true) (hm : x.mail.length ≤ 1000) (ha : x.acts.length ≤ 1000) :
    Calls Tryd.prog 33 #[vp, uVal b, vw] w fun e w' => ∃ v, e = .returned v ∧ EN w w' v (enabP p b x) := by
  have HP := hid_mk hp
  have HX := hid_mk hx
  have HT := hid_mk ht
  have HR := hid_mk (enabP_yes hf)
  have HTO : Hid (∀ m ∈ x.mail, 0 ≤ m.nt.to ∧ m.nt.to < x.acts.length) := fun m hmm => chkW_to (by unfold fitsP at hf; rw [Bool.and_eq_true] at hf; exact hf.2) hmm
  obtain ⟨vh, vb, vc, rfl, h1, h2, h3⟩ := hp
  obtain ⟨A1, c1, rfl, _⟩ := h1.form
  obtain ⟨A2, c2, rfl, _⟩ := h2.form
  obtain ⟨A3, c3, rfl, _⟩ := h3.form
  obtain ⟨va, vm, rfl, g1, g2⟩ := hx
  obtain ⟨B1, d1, rfl, _⟩ := g1.form
  obtain ⟨B2, d2, rfl, _⟩ := g2.form
  have HG1 := hid_mk g1
  have HG2 := hid_mk g2
  clear h1 h2 h3 g1 g2 ht
  go_enter Tryd.func33, Tryd.ntmps33
  go_wp2_with fail
  obtain ⟨k0, k1, k2, k3⟩ := three_nw w (.cells #[.slice A1 p.hs.length c1, .slice A2 p.acs.length c2, .slice A3 p.bs.length c3, .int .i64 p.fuel] 26) (.cells #[.int .i64 b.drop, .int .i64 b.dup, .int .i64 b.time, .int .i64 b.crash] 42) (.cells #[.slice B1 x.acts.length d1, .slice B2 x.mail.length d2, .int .i64 x.used.drop, .int .i64 x.used.dup, .int .i64 x.used.time, .int .i64 x.used.crash] 44)
  have HL : Hid (Below w.heap.size w (((w.alloc (.cells #[.slice A1 p.hs.length c1, .slice A2 p.acs.length c2, .slice A3 p.bs.length c3, .int .i64 p.fuel] 26)).alloc (.cells #[.int .i64 b.drop, .int .i64 b.dup, .int .i64 b.time, .int .i64 b.crash] 42)).alloc (.cells #[.slice B1 x.acts.length d1, .slice B2 x.mail.length d2, .int .i64 x.used.drop, .int .i64 x.used.dup, .int .i64 x.used.time, .int .i64 x.used.crash] 44))) := bAlloc (bAlloc (bAlloc (bRefl _) _) _) _
  generalize (((w.alloc (.cells #[.slice A1 p.hs.length c1, .slice A2 p.acs.length c2, .slice A3 p.bs.length c3, .int .i64 p.fuel] 26)).alloc (.cells #[.int .i64 b.drop, .int .i64 b.dup, .int .i64 b.time, .int .i64 b.crash] 42)).alloc (.cells #[.slice B1 x.acts.length d1, .slice B2 x.mail.length d2, .int .i64 x.used.drop, .int .i64 x.used.dup, .int .i64 x.used.time, .int .i64 x.used.crash] 44)) = w1 at k0 k1 k2 k3 HL ⊢
  refine (fits_any _ _ _ p b x (HT.out.below HL.out) (HP.out.below HL.out) (HX.out.below HL.out)).mono ?_
  rintro e w2 ⟨rfl, hb2⟩
  replace k1 := boxAt k1 hb2
  replace k2 := boxAt k2 hb2
  have HL2 := hid_mk (bTrans HL.out hb2)
  obtain ⟨b0, b1, b2, b3⟩ := blk4 k1
  obtain ⟨x0, x1, x2, x3, x4, x5⟩ := blk6 k2
  clear k0 k3 HL hb2
  go_wp2_with fail
  refine (left_any _ b x.used _ _ _ _ _ _).mono ?_
  rintro e w3 ⟨rfl, hb3⟩
  have hbx : Below w2.heap.size w2 (w3.alloc (.cells #[.int .i64 (leftB b x.used).drop, .int .i64 (leftB b x.used).dup, .int .i64 (leftB b x.used).time, .int .i64 (leftB b x.used).crash] 42)) := bAlloc hb3 _
  have hK := heap_new w3 (.cells #[.int .i64 (leftB b x.used).drop, .int .i64 (leftB b x.used).dup, .int .i64 (leftB b x.used).time, .int .i64 (leftB b x.used).crash] 42)
  replace k2 := boxAt k2 hbx
  have HL4 := hid_mk (bTrans HL2.out hbx)
  clear k1 b0 b1 b2 b3 x0 x1 x2 x3 x4 x5 HL2 hb3 hbx hf
  go_wp2_with fail
  generalize w3.alloc (.cells #[.int .i64 (leftB b x.used).drop, .int .i64 (leftB b x.used).dup, .int .i64 (leftB b x.used).time, .int .i64 (leftB b x.used).crash] 42) = w4 at k2 hK HL4 ⊢
  go_loopg [8, 9] 3 (fun g i8 i9 wr => ∃ k : Nat, g = 4 - k ∧ 1 ≤ k ∧ k ≤ 4 ∧ i9 = .int .i64 (k : Int) ∧ Hid (EN w4 wr i8 (enP (leftB b x.used) x (k - 1))))
  case atStart => exact ⟨1, rfl, by omega, by omega, rfl, EN.nil w4⟩
  case round =>
    obtain ⟨k, rfl, hk1, hk4, rfl, hen⟩ := hrel
    obtain ⟨wo, hwo⟩ : ∃ wo, wo = wr := ⟨wr, rfl⟩
    subst hwo
    have y2 := boxAt k2 hen.out.low
    obtain ⟨x0, x1, x2, x3, x4, x5⟩ := blk6 y2
    by_cases hlt : k ≤ 3
    · have hkI : (k : Int) ≤ 3 := by omega
      go_wp2
      go_loopg [8, 30] x.mail.length (fun g i8 i30 wr => ∃ i : Nat, g = x.mail.length - i ∧ i ≤ x.mail.length ∧ i30 = .int .i64 (i : Int) ∧ Hid (EN w4 wr i8 (enP (leftB b x.used) x (k - 1) ++ gM (leftB b x.used) x k i)))
      case atStart => exact ⟨0, rfl, by omega, rfl, by rw [gM_0, List.append_nil]; exact hen⟩
      case round =>
        obtain ⟨i, rfl, hi, rfl, hen2⟩ := hrel
        clear x0 x1 x2 x3 x4 x5 y2 hen
        by_cases hlt2 : i < x.mail.length
        · obtain ⟨bm, om, m, vm, rfl, hm0, hz, c0, c1, c2, c3, c4, c5, hvi⟩ := HG2.out.cell (bTrans HL4.out hen2.out.low) hlt2
          obtain ⟨A6, c6, rfl, _⟩ := hvi.form
          have y2 := boxAt k2 hen2.out.low
          have yK := boxAt hK hen2.out.low
          have HLr := hid_mk (bTrans HL4.out hen2.out.low)
          obtain ⟨x0, x1, x2, x3, x4, x5⟩ := blk6 y2
          obtain ⟨l0, l1, l2, l3⟩ := blk4 yK
          have z2 := (Array.getElem?_eq_some_iff.1 y2).1
          have zK := (Array.getElem?_eq_some_iff.1 yK).1
          have hlt2I : (i : Int) < x.mail.length := by omega
          have HTM := hid_mk (HTO.out m (List.mem_of_getElem? hm0))
          have HLEN := hid_mk (enP_le (leftB b x.used) x hlt hm i)
          cases hof : ofM (leftB b x.used) x k m with
          | true =>
            have HGN := hid_mk (gM_yes hm0 hof)
            generalize gM (leftB b x.used) x k i = G at hen2 HGN HLEN
            generalize hLL : enP (leftB b x.used) x (k - 1) ++ G = LL at hen2 HLEN
            have HLL := hid_mk hLL
            obtain ⟨A9, c9, rfl⟩ := hen2.out.form
            clear hvi hm0 hi y2 yK hLL
            go_wp2_with (first
              | (go_at_call 73; refine (ofMsg_any _ (leftB b x.used) x k m _ _ _ B1 d1 _ _ _ (HG1.out.below (by exact bAlloc HLr.out _)) HTM.out.1 HTM.out.2).mono ?_; rintro e w7 ⟨rfl, hb7⟩; obtain ⟨m0, m1, m2, m3, m4, m5⟩ := blk6 (boxAt (heap_new wr _) hb7); have HEN7 := hid_mk (hen2.out.below (bTrans (bAlloc (bRefl wr) _) hb7)); clear hb7)
              | (at_builtin; refine appE (e := ⟨(k : Int), m.id, 0⟩) rfl _ _ rfl rfl rfl (HEN7.out.below (by exact bAlloc (bRefl _) _)) (heap_new _ _) (by have := HLEN.out; omega) ?_; intro g6 cap6 w8 hen8; have HEN8 := hid_mk hen8; clear hen8))
            go_roundg (x.mail.length - (i + 1))
            case measure => omega
            case rel => exact ⟨i + 1, rfl, by omega, by go_num, by rw [HGN.out, ← List.append_assoc, HLL.out]; exact HEN8⟩
          | false =>
            have HGN := hid_mk (gM_no hm0 hof)
            clear hvi hm0 hi y2 yK
            go_wp2_with (first
              | (go_at_call 73; refine (ofMsg_any _ (leftB b x.used) x k m _ _ _ B1 d1 _ _ _ (HG1.out.below (by exact bAlloc HLr.out _)) HTM.out.1 HTM.out.2).mono ?_; rintro e w7 ⟨rfl, hb7⟩; have HEN7 := hid_mk (hen2.out.below (bTrans (bAlloc (bRefl wr) _) hb7)); clear hb7))
            go_roundg (x.mail.length - (i + 1))
            case measure => omega
            case rel => exact ⟨i + 1, rfl, by omega, by go_num, by rw [HGN.out]; exact HEN7⟩
        · obtain rfl : i = x.mail.length := by omega
          go_wp2
          go_roundg (4 - (k + 1))
          case measure => omega
          case rel => exact ⟨k + 1, rfl, by omega, by omega, by go_num, by rw [enP_step _ _ hk1]; exact hen2⟩
    · obtain rfl : k = 4 := by omega
      have hen' : Hid (EN w4 wo _ (enQ (leftB b x.used) x (4 - 4))) := hen
      clear hen x0 x1 x2 x3 x4 x5 y2
      go_wp2
      go_loopg [8, 12] 2 (fun g i8 i12 wr => ∃ k : Nat, g = 6 - k ∧ 4 ≤ k ∧ k ≤ 6 ∧ i12 = .int .i64 (k : Int) ∧ Hid (EN w4 wr i8 (enQ (leftB b x.used) x (k - 4))))
      case atStart => exact ⟨4, rfl, by omega, by omega, rfl, hen'⟩
      case round =>
        clear hen'
        obtain ⟨k, rfl, hk1, hk4, rfl, hen⟩ := hrel
        obtain ⟨wp, hwp⟩ : ∃ wp, wp = wr := ⟨wr, rfl⟩
        subst hwp
        have y2 := boxAt k2 hen.out.low
        obtain ⟨x0, x1, x2, x3, x4, x5⟩ := blk6 y2
        by_cases hlt : k ≤ 5
        · have hkI : (k : Int) ≤ 5 := by omega
          go_wp2
          go_loopg [8, 54] x.acts.length (fun g i8 i54 wr => ∃ i : Nat, g = x.acts.length - i ∧ i ≤ x.acts.length ∧ i54 = .int .i64 (i : Int) ∧ Hid (EN w4 wr i8 (enQ (leftB b x.used) x (k - 4) ++ gA (leftB b x.used) x k i)))
          case atStart => exact ⟨0, rfl, by omega, rfl, by rw [gA_0, List.append_nil]; exact hen⟩
          case round =>
            obtain ⟨i, rfl, hi, rfl, hen2⟩ := hrel
            clear x0 x1 x2 x3 x4 x5 y2 hen
            by_cases hlt2 : i < x.acts.length
            · obtain ⟨ba, oa, a, va, rfl, ha0, hz, c0, c1, c2, c3, c4, hvi⟩ := HG1.out.cell (bTrans HL4.out hen2.out.low) hlt2
              obtain ⟨A6, c6, rfl, _⟩ := hvi.form
              have y2 := boxAt k2 hen2.out.low
              have yK := boxAt hK hen2.out.low
              obtain ⟨x0, x1, x2, x3, x4, x5⟩ := blk6 y2
              obtain ⟨l0, l1, l2, l3⟩ := blk4 yK
              have z2 := (Array.getElem?_eq_some_iff.1 y2).1
              have zK := (Array.getElem?_eq_some_iff.1 yK).1
              have hlt2I : (i : Int) < x.acts.length := by omega
              have HLEN := hid_mk (enQ_le (leftB b x.used) x hlt hm ha (i := i) (by omega))
              cases hof : ofA (leftB b x.used) k a with
              | true =>
                have HGN := hid_mk (gA_yes ha0 hof)
                generalize gA (leftB b x.used) x k i = G at hen2 HGN HLEN
                generalize hLL : enQ (leftB b x.used) x (k - 4) ++ G = LL at hen2 HLEN
                have HLL := hid_mk hLL
                obtain ⟨A9, c9, rfl⟩ := hen2.out.form
                clear hvi ha0 hi y2 yK hLL
                go_wp2_with (first
                  | (go_at_call 74; refine (ofAct_any _ (leftB b x.used) k a _ _ _).mono ?_; rintro e w7 ⟨rfl, hb7⟩; have HEN7 := hid_mk (hen2.out.below (bTrans (bAlloc (bRefl wr) _) hb7)); clear hb7)
                  | (at_builtin; refine appE (e := ⟨(k : Int), ⟨0, 0, 0⟩, (i : Int)⟩) rfl _ _ rfl rfl rfl (HEN7.out.below (by exact bAlloc (bRefl _) _)) (heap_new _ _) (by have := HLEN.out; omega) ?_; intro g6 cap6 w8 hen8; have HEN8 := hid_mk hen8; clear hen8))
                go_roundg (x.acts.length - (i + 1))
                case measure => omega
                case rel => exact ⟨i + 1, rfl, by omega, by go_num, by rw [HGN.out, ← List.append_assoc, HLL.out]; exact HEN8⟩
              | false =>
                have HGN := hid_mk (gA_no ha0 hof)
                clear hvi ha0 hi y2 yK
                go_wp2_with (first
                  | (go_at_call 74; refine (ofAct_any _ (leftB b x.used) k a _ _ _).mono ?_; rintro e w7 ⟨rfl, hb7⟩; have HEN7 := hid_mk (hen2.out.below (bTrans (bAlloc (bRefl wr) _) hb7)); clear hb7))
                go_roundg (x.acts.length - (i + 1))
                case measure => omega
                case rel => exact ⟨i + 1, rfl, by omega, by go_num, by rw [HGN.out]; exact HEN7⟩
            · obtain rfl : i = x.acts.length := by omega
              go_wp2
              go_roundg (6 - (k + 1))
              case measure => omega
              case rel => exact ⟨k + 1, rfl, by omega, by omega, by go_num, by rw [enQ_step _ _ hk1]; exact hen2⟩
        · obtain rfl : k = 6 := by omega
          clear x0 x1 x2 x3 x4 x5 y2
          go_wp2
          go_ret
          exact ⟨_, rfl, by rw [HR.out]; exact hen.out.mono HL4.out⟩
end
theorem enab_any (w : World) (vp vw : Value) (p : PPrg) (b : PBud) (x : PWld) (ht : Tab w) (hp : PrgV w vp p) (hx : WldV w vw x) (hm : x.mail.length ≤ 1000) (ha : x.acts.length ≤ 1000) :
    Calls Tryd.prog 33 #[vp, uVal b, vw] w fun e w' => ∃ v, e = .returned v ∧ EN w w' v (enabP p b x) := by
  cases hf : fitsP p b x with
  | false => exact enab_no w vp vw p b x ht hp hx hf
  | true => exact enab_yes w vp vw p b x ht hp hx hf hm ha
def sameE (x y : PEv) : Bool := decide (x = y)
theorem gE : Tryd.prog.eqGuardType Tryd.prog.depth 62 = false := by kernel_rfl
theorem eqD9 (a b : PID) (w : World) (d : Nat) : (Op.equalIn (d + 1 + 1) 56 (.agg #[.int .i64 a.f, .int .i64 a.n, .int .i64 a.c]) (.agg #[.int .i64 b.f, .int .i64 b.n, .int .i64 b.c])).run Tryd.prog w = .ok (sameD a b) w := by
  have u3 := Tryd.underlying3
  have a3 := Tryd.isAgg3
  have z3 := Tryd.sizeOf3
  have hS : Tryd.prog.underlying 56 = some (.struct (Tryd.prog.fieldsOf 56)) := by kernel_rfl
  have hp : Tryd.prog.stoodInHeld 56 = false := by kernel_rfl
  obtain ⟨f, n, c⟩ := a
  obtain ⟨f', n', c'⟩ := b
  unfold sameD
  rw [run_equalIn_agg w (d + 1) 56 _ _ hS hp]
  simp only [Program.fieldsOf, Tryd.underlying56]
  go_simp
  by_cases h1 : f = f' <;> by_cases h2 : n = n' <;> by_cases h3 : c = c' <;> simp [h1, h2, h3]
theorem eqE (x y : PEv) (w : World) : (Op.equalIn 10000 62 (eVal x) (eVal y)).run Tryd.prog w = .ok (sameE x y) w := by
  have u3 := Tryd.underlying3
  have a3 := Tryd.isAgg3
  have z3 := Tryd.sizeOf3
  have aD := Tryd.isAgg56
  have zD := Tryd.sizeOf56
  have hS : Tryd.prog.underlying 62 = some (.struct (Tryd.prog.fieldsOf 62)) := by kernel_rfl
  have hp : Tryd.prog.stoodInHeld 62 = false := by kernel_rfl
  obtain ⟨k, ⟨f, n, c⟩, who⟩ := x
  obtain ⟨k', ⟨f', n', c'⟩, who'⟩ := y
  have hd := fun w => eqD9 ⟨f, n, c⟩ ⟨f', n', c'⟩ w 9997
  unfold sameE
  rw [show (10000 : Nat) = 9999 + 1 from rfl, run_equalIn_agg w 9999 62 _ _ hS hp]
  simp only [Program.fieldsOf, Tryd.underlying62]
  go_simp
  by_cases h1 : k = k' <;> by_cases h2 : (⟨f, n, c⟩ : PID) = ⟨f', n', c'⟩ <;> by_cases h3 : who = who' <;> simp_all [sameD]
theorem eq10 (k f n c u k' f' n' c' u' : Int) (w : World) : (Op.equalIn 10000 62 (.agg #[.int .i64 k, .int .i64 f, .int .i64 n, .int .i64 c, .int .i64 u]) (.agg #[.int .i64 k', .int .i64 f', .int .i64 n', .int .i64 c', .int .i64 u'])).run Tryd.prog w = .ok (sameE ⟨k, ⟨f, n, c⟩, u⟩ ⟨k', ⟨f', n', c'⟩, u'⟩) w := eqE ⟨k, ⟨f, n, c⟩, u⟩ ⟨k', ⟨f', n', c'⟩, u'⟩ w
theorem sameE_yes {a b : PEv} (h : a = b) : sameE a b = true := decide_eq_true h
theorem sameE_no {a b : PEv} (h : a ≠ b) : sameE a b = false := decide_eq_false h
/-! ### The program -/
def note0 (i : Nat) : PNte := ⟨((i % 2 : Nat) : Int), 0, []⟩
def moreN (n : Nat) : List PNte := (List.range n).map note0
def bootN (n : Nat) : List PNte := [⟨0, 0, []⟩, ⟨1, 0, []⟩] ++ moreN n
def oneP (n : Nat) : PPrg := ⟨[⟨0, []⟩], [⟨[], 4, 0, true⟩, ⟨[], 4, -1, false⟩], bootN n, 5⟩
theorem bootN_len (n : Nat) : (bootN n).length = n + 2 := by simp [bootN, moreN]
theorem bootN_succ (n : Nat) : bootN (n + 1) = bootN n ++ [note0 n] := by unfold bootN moreN; rw [List.range_succ, List.map_append, List.append_assoc]; rfl
abbrev oneV (N : Nat) : Value := .agg #[.slice (some ⟨N + 1, 0, none⟩) 1 1, .slice (some ⟨N + 1 + 1, 0, none⟩) 2 2, .slice (some ⟨N + 1 + 1 + 1, 0, none⟩) 2 2, .int .i64 5]
/-- What one makes: the handlers' row, the actors', the notes'. -/
structure OneB (N : Nat) (w : World) : Prop where
  b1 : w.heap[N + 1]? = some (.cells #[.int .i64 0, .slice none 0 0] 81)
  b2 : w.heap[N + 1 + 1]? = some (.cells #[.slice none 0 0, .int .i64 4, .int .i64 0, .bool true, .slice none 0 0, .int .i64 4, .int .i64 (-1), .bool false] 83)
  b3 : w.heap[N + 1 + 1 + 1]? = some (.cells #[.int .i64 0, .int .i64 0, .slice none 0 0, .int .i64 1, .int .i64 0, .slice none 0 0] 54)
section
variable {N : Nat} {w w' : World}
theorem OneB.below (h : OneB N w) (hb : Below w.heap.size w w') : OneB N w' := ⟨boxAt h.b1 hb, boxAt h.b2 hb, boxAt h.b3 hb⟩
theorem OneB.top (h : OneB N w) : N + 1 + 1 + 1 < w.heap.size := (Array.getElem?_eq_some_iff.1 h.b3).1
theorem OneB.hs (h : OneB N w) : Hnds anyB anyB w (.slice (some ⟨N + 1, 0, none⟩) 1 1) [⟨0, []⟩] := by
  have t := h.top
  obtain ⟨c0, c1⟩ : w.cell? ⟨N + 1, 0, none⟩ = some (.int .i64 0) ∧ w.cell? ⟨N + 1, 1, none⟩ = some (.slice none 0 0) := ⟨by rw [cell_of_row _ _ _ _ _ _ h.b1]; rfl, by rw [cell_of_row _ _ _ _ _ _ h.b1]; rfl⟩
  refine ⟨_, 1, rfl, by simp, by simp, Or.inr ⟨N + 1, 0, rfl, trivial, by omega, fun j y hy => ?_⟩⟩
  match j, hy with
  | 0, hy => cases hy; exact ⟨c0, _, c1, ⟨_, _, rfl, by simp, by simp, Or.inl rfl⟩⟩
theorem OneB.acs (h : OneB N w) : Acts anyB anyB w (.slice (some ⟨N + 1 + 1, 0, none⟩) 2 2) [⟨[], 4, 0, true⟩, ⟨[], 4, -1, false⟩] := by
  have t := h.top
  obtain ⟨c0, c1, c2, c3, c4, c5, c6, c7⟩ := blk8 h.b2
  refine ⟨_, 2, rfl, by simp, by simp, Or.inr ⟨N + 1 + 1, 0, rfl, trivial, by omega, fun j y hy => ?_⟩⟩
  match j, hy with
  | 0, hy => cases hy; exact ⟨⟨_, c0, ⟨_, _, rfl, by simp, by simp, Or.inl rfl⟩⟩, c1, c2, c3⟩
  | 1, hy => cases hy; exact ⟨⟨_, c4, ⟨_, _, rfl, by simp, by simp, Or.inl rfl⟩⟩, c5, c6, c7⟩
theorem OneB.bs (h : OneB N w) : Ntes anyB anyB w (.slice (some ⟨N + 1 + 1 + 1, 0, none⟩) 2 2) (bootN 0) := by
  have t := h.top
  obtain ⟨c0, c1, c2, c3, c4, c5⟩ := blk6 h.b3
  refine ⟨_, 2, rfl, by simp [bootN, moreN], by simp [bootN, moreN], Or.inr ⟨N + 1 + 1 + 1, 0, rfl, trivial, by omega, fun j y hy => ?_⟩⟩
  match j, hy with
  | 0, hy => cases hy; exact ⟨c0, c1, _, c2, ⟨_, _, rfl, by simp, by simp, Or.inl rfl⟩⟩
  | 1, hy => cases hy; exact ⟨c3, c4, _, c5, ⟨_, _, rfl, by simp, by simp, Or.inl rfl⟩⟩
theorem OneB.prg (h : OneB N w) : PrgV w (oneV N) (oneP 0) := ⟨_, _, _, rfl, h.hs, h.acs, h.bs⟩
end
theorem one_four (W : World) (X1 X2 X3 X4 : Obj) : ((((W.alloc X1).alloc X2).alloc X3).alloc X4).heap[W.heap.size]? = some X1 ∧ ((((W.alloc X1).alloc X2).alloc X3).alloc X4).heap[W.heap.size + 1]? = some X2 ∧ ((((W.alloc X1).alloc X2).alloc X3).alloc X4).heap[W.heap.size + 1 + 1]? = some X3 ∧ ((((W.alloc X1).alloc X2).alloc X3).alloc X4).heap[W.heap.size + 1 + 1 + 1]? = some X4 :=
  let ⟨h1, h2, h3, h4, _⟩ := four_new W X1 X2 X3 X4
  ⟨h1, h2, h3, h4⟩
theorem one_mem (W : World) (X : Obj) : OneB W.heap.size ((((W.alloc X).alloc (.cells #[.int .i64 0, .slice none 0 0] 81)).alloc (.cells #[.slice none 0 0, .int .i64 4, .int .i64 0, .bool true, .slice none 0 0, .int .i64 4, .int .i64 (-1), .bool false] 83)).alloc (.cells #[.int .i64 0, .int .i64 0, .slice none 0 0, .int .i64 1, .int .i64 0, .slice none 0 0] 54)) := by
  obtain ⟨h0, h1, h2, h3⟩ := one_four W X (.cells #[.int .i64 0, .slice none 0 0] 81) (.cells #[.slice none 0 0, .int .i64 4, .int .i64 0, .bool true, .slice none 0 0, .int .i64 4, .int .i64 (-1), .bool false] 83) (.cells #[.int .i64 0, .int .i64 0, .slice none 0 0, .int .i64 1, .int .i64 0, .slice none 0 0] 54)
  exact ⟨h1, h2, h3⟩
set_option maxHeartbeats 2000000 in
theorem oneL_any (W : World) : Calls Tryd.prog 70 #[] W fun e w' => e = .returned (oneV W.heap.size) ∧ OneB W.heap.size w' ∧ Below W.heap.size W w' := by
  go_enter Tryd.func70, Tryd.ntmps70
  go_wp2
  have hM := one_mem W (.cells #[.slice (some ⟨W.heap.size + 1, 0, none⟩) 1 1, .slice (some ⟨W.heap.size + 1 + 1, 0, none⟩) 2 2, .slice (some ⟨W.heap.size + 1 + 1 + 1, 0, none⟩) 2 2, .int .i64 5] 26)
  obtain ⟨r0, r1, r2, r3⟩ := blk4 (one_four W (.cells #[.slice (some ⟨W.heap.size + 1, 0, none⟩) 1 1, .slice (some ⟨W.heap.size + 1 + 1, 0, none⟩) 2 2, .slice (some ⟨W.heap.size + 1 + 1 + 1, 0, none⟩) 2 2, .int .i64 5] 26) (.cells #[.int .i64 0, .slice none 0 0] 81) (.cells #[.slice none 0 0, .int .i64 4, .int .i64 0, .bool true, .slice none 0 0, .int .i64 4, .int .i64 (-1), .bool false] 83) (.cells #[.int .i64 0, .int .i64 0, .slice none 0 0, .int .i64 1, .int .i64 0, .slice none 0 0] 54)).1
  exact bodyPost_ret (v := oneV W.heap.size) (by simp [results, Tryd.results70, go_sem, r0, r1, r2, r3]) rfl ⟨rfl, hM, bAlloc (bAlloc (bAlloc (bAlloc (bRefl _) _) _) _) _⟩
/-! ### Plainly -/
theorem fc_one {n : Nat} (h : chk (oneP n) = 0) : fc (oneP n) = 0 := fc_of h fun x hx => by
  have : x ∈ [(⟨0, []⟩ : PHnd)] := hx
  simp at this; subst this; rfl
theorem le4 {P : Nat → Prop} {n : Nat} (hn : n ≤ 4) (h0 : P 0) (h1 : P 1) (h2 : P 2) (h3 : P 3) (h4 : P 4) : P n := by
  match n, hn with
  | 0, _ => exact h0
  | 1, _ => exact h1
  | 2, _ => exact h2
  | 3, _ => exact h3
  | 4, _ => exact h4
theorem one_chk {n : Nat} (hn : n ≤ 4) : chk (oneP n) = 0 := le4 (P := fun n => chk (oneP n) = 0) hn (by decide +kernel) (by decide +kernel) (by decide +kernel) (by decide +kernel) (by decide +kernel)
theorem one_fc {n : Nat} (hn : n ≤ 4) : fc (oneP n) = 0 := fc_one (one_chk hn)
theorem one_small {n : Nat} (hn : n ≤ 4) : Small (oneP n) := le4 (P := fun n => Small (oneP n)) hn (by decide +kernel) (by decide +kernel) (by decide +kernel) (by decide +kernel) (by decide +kernel)
def xn (n : Nat) : PWld := startP (oneP n)
theorem xn_acts {n : Nat} (hn : n ≤ 4) : (xn n).acts = [⟨[], true, 0, 0, 0⟩, ⟨[], false, 0, 0, 0⟩] := le4 (P := fun n => (xn n).acts = _) hn (by decide +kernel) (by decide +kernel) (by decide +kernel) (by decide +kernel) (by decide +kernel)
theorem xn_mail {n : Nat} (hn : n ≤ 4) : (xn n).mail.length = n + 2 := le4 (P := fun n => (xn n).mail.length = n + 2) hn (by decide +kernel) (by decide +kernel) (by decide +kernel) (by decide +kernel) (by decide +kernel)
theorem xn_used {n : Nat} (hn : n ≤ 4) : (xn n).used = ⟨0, 0, 0, 0⟩ := le4 (P := fun n => (xn n).used = ⟨0, 0, 0, 0⟩) hn (by decide +kernel) (by decide +kernel) (by decide +kernel) (by decide +kernel) (by decide +kernel)
theorem xn_sm {n : Nat} (hn : n ≤ 4) : SmW (xn n) := le4 (P := fun n => SmW (xn n)) hn ⟨by decide +kernel, by decide +kernel, by decide +kernel, by decide +kernel⟩ ⟨by decide +kernel, by decide +kernel, by decide +kernel, by decide +kernel⟩ ⟨by decide +kernel, by decide +kernel, by decide +kernel, by decide +kernel⟩ ⟨by decide +kernel, by decide +kernel, by decide +kernel, by decide +kernel⟩ ⟨by decide +kernel, by decide +kernel, by decide +kernel, by decide +kernel⟩
theorem xn_chk {n : Nat} (hn : n ≤ 4) : chkW (oneP n) (xn n) = true := start_chk (one_fc hn)
theorem xn_fits {n : Nat} (hn : n ≤ 4) {b : PBud} (hb : mayB b = true) : fitsP (oneP n) b (xn n) = true := by unfold fitsP; rw [hb, xn_chk hn]; rfl
def e0 : PEv := ⟨1, ⟨-1, 0, 0⟩, 0⟩
def e1 : PEv := ⟨1, ⟨-1, 1, 0⟩, 0⟩
def e2 : PEv := ⟨4, ⟨0, 0, 0⟩, 0⟩
def e3 : PEv := ⟨5, ⟨0, 0, 0⟩, 0⟩
def e4 : PEv := ⟨5, ⟨0, 0, 0⟩, 1⟩
theorem aw_l : enabP (oneP 0) ⟨0, 0, 1, 1⟩ (xn 0) = [e0, e1, e2, e3, e4] := by rw [enabP_yes (xn_fits (by decide) (by decide))]; decide +kernel
theorem aw_0 : (enabP (oneP 0) ⟨0, 0, 0, 0⟩ (xn 0)).length = 2 := by rw [enabP_yes (xn_fits (by decide) (by decide))]; decide +kernel
theorem isP_eq {p : PPrg} {b : PBud} {x : PWld} {e : PEv} (hf : fitsP p b x = true) : isP p b x e = isL (leftB b x.used) x e := by unfold isP; rw [hf]; rfl
theorem aw_1 : isP (oneP 0) ⟨0, 0, 0, 0⟩ (xn 0) ⟨1, ⟨-1, 0, 0⟩, 0⟩ = true := by rw [isP_eq (xn_fits (by decide) (by decide))]; decide +kernel
theorem aw_2 : isP (oneP 0) ⟨0, 0, 0, 0⟩ (xn 0) ⟨4, ⟨0, 0, 0⟩, 0⟩ = false := by rw [isP_eq (xn_fits (by decide) (by decide))]; decide +kernel
theorem aw_3 : leftB ⟨3, 1, 0, 0⟩ ⟨1, 2, 0, 0⟩ = ⟨2, 0, 0, 0⟩ := by decide +kernel
theorem aw_4 : mayB ⟨0, 0, 0, 0⟩ = true := by decide
theorem aw_5 : mayB ⟨0, 1001, 0, 0⟩ = false := by decide
end Go.Proofs.YtgdloonpemaijaaDoor
