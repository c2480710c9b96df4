/-
  The reference's reading of a name: ParseID. Condition: the text is short.
-/
import Derived.Test.YtdgialhigibnlaaDoorRp
import Derived.Deep.OwnRows
import Derived.Deep.AppendLies
import Derived.OwnWalk
namespace Go.Proofs.YtdgialhigibnlaaDoor
open Go.RowKit
attribute [local go_sem ↓] Go.wp_at_zero Go.wp_at_succ
theorem own_block {w w' : World} {base e size : Nat} {v : Value} {n : Nat} {xs : List Value} (h : w.ownsRow base e size v n xs) (hb : ∀ g, v.ownBlock = some g → g < w.heap.size → w'.heap[g]? = w.heap[g]?) : w'.ownsRow base e size v n xs := by
  obtain ⟨h1, h2⟩ := h
  refine ⟨h1, ?_⟩
  rcases h2 with h2 | ⟨g, cap, cur, rfl, hg, hh, h3⟩
  · exact Or.inl h2
  · exact Or.inr ⟨g, cap, cur, rfl, hg, (hb g rfl (Array.getElem?_eq_some_iff.1 hh).1).trans hh, h3⟩
theorem own_lt {w : World} {base e size : Nat} {v : Value} {n g : Nat} {xs : List Value} (h : w.ownsRow base e size v n xs) (hv : v.ownBlock = some g) : base ≤ g ∧ g < w.heap.size := by
  obtain ⟨h1, h2⟩ := h
  rcases h2 with ⟨rfl, _⟩ | ⟨g', cap, cur, rfl, hg, hh, h3⟩
  · cases hv
  · cases hv; exact ⟨hg, (Array.getElem?_eq_some_iff.1 hh).1⟩
theorem grown_low {w wr w' : World} {row : Option Nat} (h : Below w.heap.size w wr) (hg : wr.grownBy w' row) (hr : ∀ g, row = some g → w.heap.size ≤ g) : Below w.heap.size w w' :=
  ⟨hg.os.trans h.os, hg.tape.trans h.tape, hg.output.trans h.output, Nat.le_trans h.size hg.size, fun b hb => by
    rw [hg.block b (Nat.lt_of_lt_of_le hb h.size) (fun e => by have := hr b e.symm; omega)]; exact h.block b hb⟩
def iv (l : List Int) : List Value := l.map fun x => Value.int .i64 x
theorem iv_append (a b : List Int) : iv (a ++ b) = iv a ++ iv b := by simp [iv]
theorem iv_len (l : List Int) : (iv l).length = l.length := by simp [iv]
theorem iv_one (l : List Int) : ∀ u ∈ iv l, u.oneCell' = true := by
  intro u hu
  simp only [iv, List.mem_map] at hu
  obtain ⟨x, _, rfl⟩ := hu
  rfl
theorem infoInt : (Tryd.prog.info? 3).map (fun i => (i.zero, i.size, i.bytes)) = some (some (.int .i64 0), 1, 8) := by kernel_rfl
/-- Numbers in a row of the call's own. -/
structure NO (w : World) (v : Value) (l : List Int) (wr : World) : Prop where
  low : Below w.heap.size w wr
  oa : wr.ownsRow w.heap.size 3 1 v l.length (iv l)
section
variable {w wr w1 w' : World} {v : Value} {l : List Int}
theorem NO.nil (w : World) : NO w (.slice none 0 0) [] w := ⟨bRefl w, ⟨rfl, Or.inl ⟨rfl, rfl⟩⟩⟩
theorem NO.below (h : NO w v l wr) (hb : Below wr.heap.size wr w1) : NO w v l w1 := ⟨bTrans h.low hb, own_block h.oa fun g _ hg => hb.block g hg⟩
theorem NO.push {g cap : Nat} {xs : List Int} (h : NO w v l wr) (ho : w'.ownsRow w.heap.size 3 1 (.slice (some ⟨g, 0, none⟩) (l.length + xs.length) cap) (l.length + xs.length) (iv l ++ iv xs))
    (hg : wr.grownBy w' v.ownBlock) : NO w (.slice (some ⟨g, 0, none⟩) (l.length + xs.length) cap) (l ++ xs) w' :=
  ⟨grown_low h.low hg fun k hk => (own_lt h.oa hk).1, by rw [List.length_append, iv_append]; exact ho⟩
theorem NO.formN (h : NO w v l wr) (n : Nat) (e : l.length = n) : ∃ A c, v = .slice A n c := by
  subst e
  obtain ⟨h1, h2⟩ := h.oa
  rcases h2 with ⟨rfl, h2⟩ | ⟨g, cap, cur, rfl, _⟩
  · exact ⟨none, 0, by rw [h2]⟩
  · exact ⟨_, cap, rfl⟩
theorem NO.three {A : Option Addr} {c : Nat} {x y z : Int} (h : NO w (.slice A 3 c) [x, y, z] wr) : ∃ g, A = some ⟨g, 0, none⟩ ∧ w.heap.size ≤ g ∧ g < wr.heap.size ∧ wr.cell? ⟨g, 0, none⟩ = some (.int .i64 x) ∧ wr.cell? ⟨g, 1, none⟩ = some (.int .i64 y) ∧ wr.cell? ⟨g, 2, none⟩ = some (.int .i64 z) := by
  obtain ⟨h1, h2⟩ := h.oa
  rcases h2 with ⟨e, h2⟩ | ⟨g, cap, cur, e, hb, hh, h3, h4, h5, h6⟩
  · cases h2
  · cases e
    have hc : ∀ j, j < 3 → wr.cell? ⟨g, j, none⟩ = (iv [x, y, z])[j]? := fun j hj => by
      rw [Lib.cell_of_heap hh]
      have e2 : cur[j]? = (iv [x, y, z])[j]? := by rw [← h6, List.getElem?_take, if_pos (by show j < 3 * 1; omega)]; simp
      exact e2
    exact ⟨g, rfl, hb, (Array.getElem?_eq_some_iff.1 hh).1, hc 0 (by omega), hc 1 (by omega), hc 2 (by omega)⟩
end
section
variable {w W : World} {v : Value} {l : List Int} {ops : Array Oper} {rest : List Oper} {o : Oper} {a : Act} {Q : Exit → Act → World → Prop}
/-- Numbers are appended. -/
theorem appO (hgd : o.guard = none) (s x : Operand) (ho : o.op = .call { callee := .builtin .append, args := #[s, x], argTypes := #[48, 48] }) (xs : List Int) (B n m : Nat)
    (h : NO w v l W) (hs : a.eval s = v) (hx : a.eval x = .slice (some ⟨B, 0, none⟩) m m) (hm : xs.length = m) (hn : l.length + m = n) (h0 : 0 < m) (hB : W.heap[B]? = some (.cells (iv xs).toArray 3)) (hl : l.length + m ≤ 1000)
    (hK : ∀ g cap w', NO w (.slice (some ⟨g, 0, none⟩) n cap) (l ++ xs) w' → W.grownBy w' v.ownBlock → wpList Tryd.prog ops Q rest (a.put o.dst (.slice (some ⟨g, 0, none⟩) n cap)) w') : wpList Tryd.prog ops Q (o :: rest) a W := by
  obtain ⟨i0, hi0, hz0, hz1, hz2⟩ := info_parts infoInt
  subst hm hn
  refine wpList_append_lies W hgd s x 48 ho w.heap.size 3 i0 _ 1 8 Tryd.underlying48 hi0 hz0 hz1 hz2 rfl (by decide) v l.length (iv l) hs h.oa ⟨B, 0, none⟩ xs.length xs.length (iv xs) hx (by rw [iv_len, Nat.mul_one]) (fun j u hu => World.news_of_block hB j u (by simpa using hu)) (iv_one xs) h0 (by unfold maxLen; omega) (by omega) h.low.size W.heap.size rfl ?_
  intro g cap w' hown hgr hat _
  exact hK g cap w' (h.push hown hgr) hgr
end
theorem ext_part {s : List UInt8} {f i : Nat} : (bs s).extract f i = bs (part s f i) := by
  apply ByteArray.ext
  rw [ByteArray.data_extract]
  unfold bs part
  apply Array.ext'
  simp
def pdB (s : List UInt8) : Bool := (prsD s).isSome
end Go.Proofs.YtdgialhigibnlaaDoor
