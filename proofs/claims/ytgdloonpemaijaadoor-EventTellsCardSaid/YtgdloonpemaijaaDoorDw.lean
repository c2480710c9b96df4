/-
  The memory of a walk: the row of depths, and the list of what is to be done, both of the call's own; what each step does to them. No conditions.
-/
import Derived.Test.YtgdloonpemaijaaDoorLv
import Derived.Deep.OwnRows
import Derived.Deep.AppendLies
import Derived.OwnWalk
namespace Go.Proofs.YtgdloonpemaijaaDoor
open Go.RowKit

theorem own_block {w w' : World} {base e size : Nat} {v : Value} {n : Nat} {xs : List Value} (h : w.ownsRow base e size v n xs) (hb : ∀ g, v.ownBlock = some g → g < w.heap.size → w'.heap[g]? = w.heap[g]?) : w'.ownsRow base e size v n xs := by
  obtain ⟨h1, h2⟩ := h
  refine ⟨h1, ?_⟩
  rcases h2 with h2 | ⟨g, cap, cur, rfl, hg, hh, h3⟩
  · exact Or.inl h2
  · exact Or.inr ⟨g, cap, cur, rfl, hg, (hb g rfl (Array.getElem?_eq_some_iff.1 hh).1).trans hh, h3⟩
theorem own_lt {w : World} {base e size : Nat} {v : Value} {n g : Nat} {xs : List Value} (h : w.ownsRow base e size v n xs) (hv : v.ownBlock = some g) : base ≤ g ∧ g < w.heap.size := by
  obtain ⟨h1, h2⟩ := h
  rcases h2 with ⟨rfl, _⟩ | ⟨g', cap, cur, rfl, hg, hh, h3⟩
  · cases hv
  · cases hv; exact ⟨hg, (Array.getElem?_eq_some_iff.1 hh).1⟩

/-- Numbers as values. -/
def vs (t : List Nat) : List Value := t.map fun (k : Nat) => .int .i64 (k : Int)
theorem vs_len (t : List Nat) : (vs t).length = t.length := by simp [vs]

/-- w: the world ahead of the call. Row D holds l; the list v holds t. -/
structure DW (w : World) (D : Nat) (l : List Int) (v : Value) (t : List Nat) (wr : World) : Prop where
  low : Below w.heap.size w wr
  row : wr.rowIs D 3 l.length (fun j => .int .i64 (l.getD j 0))
  base : w.heap.size ≤ D
  own : wr.ownsRow w.heap.size 3 1 v t.length (vs t)
  ne : v.ownBlock ≠ some D
section
variable {w wr w1 w' : World} {D : Nat} {l : List Int} {v : Value} {t : List Nat}
theorem DW.lt (h : DW w D l v t wr) : D < wr.heap.size := h.row.lt
theorem DW.cell (h : DW w D l v t wr) {j : Nat} {x : Int} (hj : l[j]? = some x) : wr.cell? ⟨D, j, none⟩ = some (.int .i64 x) := by
  have hl := (List.getElem?_eq_some_iff.1 hj).1
  rw [h.row.cell hl, List.getD_eq_getElem?_getD, hj]; rfl
theorem DW.below (h : DW w D l v t wr) (hb : Below wr.heap.size wr w1) : DW w D l v t w1 :=
  ⟨bTrans h.low hb, h.row.of_block (hb.block D h.lt), h.base, own_block h.own fun g _ hg => hb.block g hg, h.ne⟩
theorem DW.set (h : DW w D l v t wr) (j : Nat) (x : Int) : DW w D (l.set j x) v t (wr.setCell ⟨D, j, none⟩ (.int .i64 x)) := by
  refine ⟨h.low.setCell h.base _, ?_, h.base, own_block h.own fun g hg _ => Below.heap_setCell _ _ _ _ (fun e => h.ne (by have e' : g = D := e; rw [hg, e'])), h.ne⟩
  rw [List.length_set]
  refine (h.row.set j _).congr fun m hm => ?_
  by_cases e : m = j
  · subst e
    rw [if_pos rfl, List.getD_eq_getElem?_getD, List.getElem?_set_self hm]; rfl
  · rw [if_neg e, List.getD_eq_getElem?_getD, List.getD_eq_getElem?_getD, List.getElem?_set_ne (Ne.symm e)]
/-- The last one is taken off. -/
theorem DW.form {k : Nat} (h : DW w D l v (t ++ [k]) wr) : ∃ g cap, v = .slice (some ⟨g, 0, none⟩) (t.length + 1) cap ∧ t.length + 1 ≤ cap ∧ g < wr.heap.size ∧ cap ≤ maxLen ∧ wr.cell? ⟨g, t.length, none⟩ = some (.int .i64 (k : Int)) ∧ DW w D l (.slice (some ⟨g, 0, none⟩) t.length cap) t wr := by
  obtain ⟨h1, h2⟩ := h.own
  rcases h2 with ⟨_, h2⟩ | ⟨g, cap, cur, rfl, hb, hh, h3, h4, h5, h6⟩
  · simp at h2
  · have hl : (t ++ [k]).length = t.length + 1 := by simp
    have hx : ∀ m, m < t.length + 1 → cur[m]? = (vs (t ++ [k]))[m]? := fun m hm => by
      rw [← h6, List.getElem?_take, if_pos (by rw [hl]; omega)]; simp
    refine ⟨g, cap, by rw [hl], by rw [hl] at h3; exact h3, (Array.getElem?_eq_some_iff.1 hh).1, h4, ?_, h.low, h.row, h.base, ⟨by simp [vs_len], Or.inr ⟨g, cap, cur, rfl, hb, hh, by rw [hl] at h3; omega, h4, h5, ?_⟩⟩, h.ne⟩
    · rw [cell_of_row _ _ _ _ _ _ hh, hx _ (by omega)]
      simp [vs]
    · refine List.ext_getElem? fun m => ?_
      by_cases hm : m < t.length
      · rw [List.getElem?_take, if_pos (by omega), Array.getElem?_toList, hx m (by omega)]
        unfold vs
        rw [List.map_append, List.getElem?_append_left (by simpa using hm)]
      · rw [List.getElem?_eq_none (by simp; omega), List.getElem?_eq_none (by simp [vs]; omega)]
/-- A number is put behind: the world w1 has the number's own block more, w' is behind the append. -/
theorem DW.push {j g cap : Nat} (h : DW w D l v t wr) (hb1 : Below wr.heap.size wr w1)
    (ho : w'.ownsRow w.heap.size 3 1 (.slice (some ⟨g, 0, none⟩) (t.length + 1) cap) (t.length + 1) (vs t ++ [.int .i64 (j : Int)])) (hg : w1.grownBy w' v.ownBlock) (hat : v.ownBlock = some g ∨ g = w1.heap.size) :
    DW w D l (.slice (some ⟨g, 0, none⟩) (t.length + 1) cap) (t ++ [j]) w' := by
  have hs := hb1.size
  have hw := h.low.size
  have hDs := h.lt
  have hD : w'.heap[D]? = wr.heap[D]? := by rw [hg.block D (by omega) (Ne.symm h.ne), hb1.block D h.lt]
  refine ⟨⟨hg.os.trans (hb1.os.trans h.low.os), hg.tape.trans (hb1.tape.trans h.low.tape), hg.output.trans (hb1.output.trans h.low.output), Nat.le_trans hw (Nat.le_trans hs hg.size), fun b hb => ?_⟩, h.row.of_block hD, h.base, ?_, ?_⟩
  · rw [hg.block b (by omega) (fun e => ?_), hb1.block b (by omega)]
    · exact h.low.block b hb
    · have := (own_lt h.own e.symm).1; omega
  · have e1 : (t ++ [j]).length = t.length + 1 := by simp
    have e2 : vs (t ++ [j]) = vs t ++ [.int .i64 (j : Int)] := by simp [vs]
    rw [e1, e2]; exact ho
  · intro e
    have e' : g = D := Option.some.inj e
    rcases hat with hat | hat
    · exact h.ne (by rw [hat, e'])
    · omega
/-- A block that is neither the row nor the list's is as it was. -/
theorem DW.far_set (_h : DW w D l v t wr) {b j : Nat} {x : Value} (hb : b ≠ D) (o : Nat) : (wr.setCell ⟨D, j, none⟩ x).cell? ⟨b, o, none⟩ = wr.cell? ⟨b, o, none⟩ :=
  World.cell?_of_block (w := wr) (Below.heap_setCell _ _ _ _ (fun e => hb (by have e' : b = D := e; exact e')))
end

/-- The list of ways, beside the walk's memory. -/
structure FW (D : Nat) (vt : Value) (u : Value) (ways : List Nat) (wr : World) : Prop where
  ex : ∃ A c, u = .slice A ways.length c ∧ ways.length ≤ 2 ∧ (ways = [] ∨ ∃ b, A = some ⟨b, 0, none⟩ ∧ b ≠ D ∧ vt.ownBlock ≠ some b ∧ b < wr.heap.size ∧ ∀ (m j : Nat), ways[m]? = some j → wr.cell? ⟨b, m, none⟩ = some (.int .i64 (j : Int)))
section
variable {w wr w1 w' : World} {D : Nat} {l : List Int} {v u : Value} {t ways : List Nat}
theorem FW.start (h : DW w D l v t wr) (hf : Fol wr.heap.size w1 u ways) : FW D v u ways w1 := by
  obtain ⟨A, c, rfl, hl, hx⟩ := hf
  refine ⟨A, c, rfl, hl, ?_⟩
  rcases hx with hx | ⟨b, hA, hb, hlt, hc⟩
  · exact Or.inl hx
  · refine Or.inr ⟨b, hA, ?_, fun e => ?_, hlt, hc⟩
    · have := h.lt; omega
    · have := (own_lt h.own e).2; omega
theorem FW.set (h : FW D v u ways wr) (j : Nat) (x : Value) : FW D v u ways (wr.setCell ⟨D, j, none⟩ x) := by
  obtain ⟨A, c, rfl, hl, hx⟩ := h
  refine ⟨A, c, rfl, hl, ?_⟩
  rcases hx with hx | ⟨b, hA, hb, hne, hlt, hc⟩
  · exact Or.inl hx
  · exact Or.inr ⟨b, hA, hb, hne, by simpa using hlt, fun m y hy => (World.cell?_of_block (w := wr) (Below.heap_setCell _ _ _ _ (fun e => hb (by have e' : b = D := e; exact e')))).trans (hc m y hy)⟩
theorem FW.push {g cap n : Nat} (h : FW D v u ways wr) (hb1 : Below wr.heap.size wr w1) (hg : w1.grownBy w' v.ownBlock) (hat : v.ownBlock = some g ∨ g = w1.heap.size) : FW D (.slice (some ⟨g, 0, none⟩) n cap) u ways w' := by
  obtain ⟨A, c, rfl, hl, hx⟩ := h
  refine ⟨A, c, rfl, hl, ?_⟩
  rcases hx with hx | ⟨b, hA, hb, hne, hlt, hc⟩
  · exact Or.inl hx
  · have hs := hb1.size
    refine Or.inr ⟨b, hA, hb, fun e => ?_, Nat.lt_of_lt_of_le hlt (Nat.le_trans hs hg.size), fun m y hy => ?_⟩
    · have e' : g = b := Option.some.inj e
      rcases hat with hat | hat
      · exact hne (by rw [hat, e'])
      · omega
    · exact (World.cell?_of_block (w := w1) (hg.block b (by omega) (Ne.symm hne))).trans ((World.cell?_of_block (w := wr) (hb1.block b hlt)).trans (hc m y hy))
theorem FW.cell (h : FW D v u ways wr) {m j : Nat} (hj : ways[m]? = some j) : ∃ b c, u = .slice (some ⟨b, 0, none⟩) ways.length c ∧ b ≠ D ∧ b < wr.heap.size ∧ wr.cell? ⟨b, m, none⟩ = some (.int .i64 (j : Int)) := by
  obtain ⟨A, c, rfl, hl, hx⟩ := h
  rcases hx with rfl | ⟨b, rfl, hb, _, hlt, hc⟩
  · simp at hj
  · exact ⟨b, c, rfl, hb, hlt, hc m j hj⟩
theorem FW.form (h : FW D v u ways wr) : ∃ A c, u = .slice A ways.length c ∧ ways.length ≤ 2 := let ⟨A, c, h1, h2, _⟩ := h.ex; ⟨A, c, h1, h2⟩
end
end Go.Proofs.YtgdloonpemaijaaDoor
