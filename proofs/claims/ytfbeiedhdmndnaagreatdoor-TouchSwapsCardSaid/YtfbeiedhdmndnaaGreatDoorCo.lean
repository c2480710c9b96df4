/-
 The memory of code that is made by appending: what each append does. No conditions.
-/
import Derived.Test.YtfbeiedhdmndnaaGreatDoorPk14
import Derived.Deep.OwnRows
import Derived.Deep.AppendLies
import Derived.OwnWalk
namespace Go.Proofs.YtfbeiedhdmndnaaGreatDoor
open Go.RowKit
def cv (l : List PIns) : List Value := (l.map fun i => [Value.int .i64 i.op, Value.int .i64 i.a]).flatten
theorem cv_at {l : List PIns} {k : Nat} {x : PIns} (h : l[k]? = some x) : (cv l)[k * 2]? = some (.int .i64 x.op) ∧ (cv l)[k * 2 + 1]? = some (.int .i64 x.a) := by
 induction l generalizing k with
 | nil => simp at h
 | cons y r ih =>
  match k, h with
  | 0, h => simp at h; subst h; exact ⟨rfl, rfl⟩
  | k + 1, h =>
   have := ih (k := k) (by simpa using h)
   have e1 : (k + 1) * 2 = 2 + k * 2 := by omega
   simp only [cv, List.map_cons, List.flatten_cons] at *
   rw [e1, List.getElem?_append_right (by simp), show 2 + k * 2 + 1 = 2 + (k * 2 + 1) by omega, List.getElem?_append_right (by simp)]
   simpa using this
theorem cv_len (l : List PIns) : (cv l).length = l.length * 2 := by
 induction l with
 | nil => rfl
 | cons x r ih => simp only [cv, List.map_cons, List.flatten_cons, List.length_append, List.length_cons, List.length_nil] at *; omega
theorem cv_append (a b : List PIns) : cv (a ++ b) = cv a ++ cv b := by simp [cv]
/-- w: the world ahead of the call. The list v holds code, in a row of its own. -/
structure CO (w : World) (v : Value) (code : List PIns) (wr : World) : Prop where
 low : Below w.heap.size w wr
 oc : wr.ownsRow w.heap.size 70 2 v code.length (cv code)
section
variable {w wr w1 w' : World} {v : Value} {code : List PIns}
theorem CO.nil (w : World) : CO w (.slice none 0 0) [] w := ⟨bRefl w, rfl, Or.inl ⟨rfl, rfl⟩⟩
theorem CO.below (h : CO w v code wr) (hb : Below wr.heap.size wr w1) : CO w v code w1 :=
 ⟨bTrans h.low hb, own_block h.oc fun g _ hg => hb.block g hg⟩
theorem CO.push {g cap : Nat} {cs : List PIns} (h : CO w v code wr) (ho : w'.ownsRow w.heap.size 70 2 (.slice (some ⟨g, 0, none⟩) (code.length + cs.length) cap) (code.length + cs.length) (cv code ++ cv cs))
  (hg : wr.grownBy w' v.ownBlock) : CO w (.slice (some ⟨g, 0, none⟩) (code.length + cs.length) cap) (code ++ cs) w' :=
 ⟨grown_low h.low hg fun k hk => (own_lt h.oc hk).1, by rw [List.length_append, cv_append]; exact ho⟩
theorem CO.cd (h : CO w v code wr) (hl : code.length ≤ 1000000) : Code anyB wr v code := by
 obtain ⟨h1, h2⟩ := h.oc
 rcases h2 with ⟨rfl, h2⟩ | ⟨g, cap, cur, rfl, hb, hh, h3, h4, h5, h6⟩
 ·have : code = [] := by cases code with | nil => rfl | cons _ _ => simp at h2
  subst this; exact sl0
 ·refine ⟨_, cap, rfl, by omega, by omega, Or.inr ⟨g, 0, rfl, trivial, (Array.getElem?_eq_some_iff.1 hh).1, fun k x hx => ?_⟩⟩
  have hk := (List.getElem?_eq_some_iff.1 hx).1
  have hc := cv_at hx
  have hcell : ∀ j, j < code.length * 2 → wr.cell? ⟨g, j, none⟩ = (cv code)[j]? := fun j hj => by
   rw [cell_of_row _ _ _ _ _ _ hh, ← h6, List.getElem?_take, if_pos hj]; simp
  rw [Nat.zero_add]
  exact ⟨(hcell _ (by omega)).trans hc.1, (hcell _ (by omega)).trans hc.2⟩
theorem CO.form (h : CO w v code wr) : ∃ A c, v = .slice A code.length c := by
 obtain ⟨h1, h2⟩ := h.oc
 rcases h2 with ⟨rfl, h2⟩ | ⟨g, cap, cur, rfl, _⟩
 ·exact ⟨none, 0, by rw [h2]⟩
 ·exact ⟨_, cap, rfl⟩
end
section
variable {w W : World} {v : Value} {code : List PIns} {ops : Array Oper} {rest : List Oper} {o : Oper} {a : Act} {Q : Exit → Act → World → Prop}
end
theorem CO.lit (W : World) (c : List PIns) (hl : c.length ≤ 1000000) : CO W (.slice (some ⟨W.heap.size, 0, none⟩) c.length c.length) c (W.alloc (.cells (cv c).toArray 70)) :=
 ⟨bAlloc (bRefl W) _, cv_len c, Or.inr ⟨W.heap.size, c.length, (cv c).toArray, rfl, Nat.le_refl _, heap_new _ _, Nat.le_refl _, by unfold maxLen; omega, by simp [cv_len], by rw [List.take_of_length_le (by simp [cv_len])]⟩⟩
end Go.Proofs.YtfbeiedhdmndnaaGreatDoor
