/-
  What FlowFirst answers of any three numbers: true; and nothing old has turned. Condition: the table of the instructions is in the world.
-/
import Derived.Test.YtfkaalgcgbmlpaaDoorCw
namespace Go.Proofs.YtfkaalgcgbmlpaaDoor
open Go.RowKit

/-- Handler i of the law's program: at place o it pops. -/
def fH (o i : Nat) : PHnd := ⟨0, if i = o then [⟨2, 0⟩] else []⟩
def fHs (n o : Nat) : List PHnd := (List.range n).map (fH o)
def fP (n o : Nat) (fuel : Int) : PPrg := ⟨fHs n o, [⟨[], 0, -1, false⟩], [], fuel⟩
theorem fHs_len (n o : Nat) : (fHs n o).length = n := by simp [fHs]
theorem fHs_at {n o i : Nat} (h : i < n) : (fHs n o)[i]? = some (fH o i) := by simp [fHs, h]
theorem scan_nil {α : Type} {f : α → Int} : ∀ {l : List α}, (∀ x ∈ l, f x = 0) → scan f l = 0
  | [], _ => rfl
  | y :: r, h => by unfold scan; rw [if_pos (h y (by simp))]; exact scan_nil fun x hx => h x (by simp [hx])
theorem scan_five {α : Type} {f : α → Int} : ∀ {l : List α}, (∀ x ∈ l, f x = 0 ∨ f x = 5) → (∃ x ∈ l, f x = 5) → scan f l = 5
  | [], _, ⟨x, hx, _⟩ => by cases hx
  | y :: r, h, ⟨x, hx, h5⟩ => by
    unfold scan
    rcases h y (by simp) with e | e
    · rw [if_pos e]
      rcases List.mem_cons.1 hx with rfl | hx
      · rw [e] at h5; cases h5
      · exact scan_five (fun z hz => h z (by simp [hz])) ⟨x, hx, h5⟩
    · rw [if_neg (by rw [e]; decide)]; exact e
theorem de_nil (hs : List PHnd) : de hs [] = 0 := by
  have : Good hs [] [0] := goodB_good (pr := fun k => k) rfl
  exact this.de
theorem tk_pop (hs : List PHnd) : tk hs ⟨2, 0⟩ = 1 := rfl
theorem de_pop (hs : List PHnd) : de hs [⟨2, 0⟩] = 5 :=
  Bad.de (Or.inl ⟨0, 0, ⟨2, 0⟩, .start, rfl, fun h => by have := h.1; rw [tk_pop] at this; omega⟩)
theorem fH_chk (n : Int) (o i : Nat) : chkH n (fH o i) = 0 := by
  unfold fH
  split <;> rfl
theorem f_chk {n o : Nat} {fuel : Int} (hn : n ≤ 16) : chk (fP n o fuel) = if 1 ≤ fuel ∧ fuel ≤ 256 then 0 else 1 := by
  by_cases e : 1 ≤ fuel ∧ fuel ≤ 256
  · have h0 : chkC (fP n o fuel) = 0 := by
      unfold chkC fP
      rw [if_pos ⟨by rw [fHs_len]; exact hn, by simp, by simp⟩, if_pos ⟨by simp, e⟩]
    rw [if_pos e]
    unfold chk
    rw [if_pos h0, if_pos (scan_nil fun x hx => by
      obtain ⟨i, _, rfl⟩ := List.mem_map.1 hx
      exact fH_chk _ _ _), if_pos (scan_nil fun x hx => by
      have : x = ⟨[], 0, -1, false⟩ := by simpa [fP] using hx
      subst this
      unfold chkA; simp)]
    rfl
  · have h0 : chkC (fP n o fuel) = 1 := by
      unfold chkC fP
      rw [if_pos ⟨by rw [fHs_len]; exact hn, by simp, by simp⟩, if_neg (fun h => e h.2)]
    rw [if_neg e]
    unfold chk
    rw [h0]; rfl
theorem f_fc {n o : Nat} {fuel : Int} (hn : n ≤ 16) : fc (fP n o fuel) = if 1 ≤ fuel ∧ fuel ≤ 256 then (if o < n then 5 else 0) else 1 := by
  have hc := f_chk (n := n) (o := o) (fuel := fuel) hn
  unfold fc
  by_cases e : 1 ≤ fuel ∧ fuel ≤ 256
  · rw [if_pos e] at hc
    rw [if_pos hc, if_pos e]
    have hall : ∀ x ∈ (fP n o fuel).hs, x.code = [] ∨ x.code = [⟨2, 0⟩] := fun x hx => by
      obtain ⟨i, _, rfl⟩ := List.mem_map.1 hx
      unfold fH
      split
      · exact Or.inr rfl
      · exact Or.inl rfl
    by_cases h : o < n
    · rw [if_pos h]
      refine scan_five (fun x hx => ?_) ⟨fH o o, List.mem_map.2 ⟨o, List.mem_range.2 h, rfl⟩, ?_⟩
      · rcases hall x hx with e | e
        · rw [e]; exact Or.inl (de_nil _)
        · rw [e]; exact Or.inr (de_pop _)
      · show de _ (fH o o).code = 5
        unfold fH; rw [if_pos rfl]; exact de_pop _
    · rw [if_neg h]
      refine scan_nil fun x hx => ?_
      obtain ⟨i, hi, rfl⟩ := List.mem_map.1 hx
      have := List.mem_range.1 hi
      show de _ (fH o i).code = 0
      unfold fH; rw [if_neg (by omega)]; exact de_nil _
  · rw [if_neg e] at hc
    rw [if_neg (by rw [hc]; decide), if_neg e, hc]

/-- The cells of the handlers so far; cp: the code of the one that pops. -/
def fV (o : Nat) (cp : Value) (i : Nat) : List Value := [.int .i64 0, if i = o then cp else .slice none 0 0]
def fX (o : Nat) (cp : Value) (k : Nat) : List Value := ((List.range k).map (fV o cp)).flatten
theorem fX_len (o : Nat) (cp : Value) (k : Nat) : (fX o cp k).length = k * 2 := by
  induction k with
  | zero => rfl
  | succ k ih => unfold fX at *; rw [List.range_succ, List.map_append, List.flatten_append, List.length_append, ih]; simp [fV]; omega
theorem fX_step (o : Nat) (cp : Value) (k : Nat) : fX o cp (k + 1) = fX o cp k ++ fV o cp k := by unfold fX; rw [List.range_succ, List.map_append, List.flatten_append]; simp
theorem fX_other {o : Nat} (cp cp' : Value) {k : Nat} (h : k ≤ o) : fX o cp k = fX o cp' k := by
  induction k with
  | zero => rfl
  | succ k ih => rw [fX_step, fX_step, ih (by omega)]; unfold fV; rw [if_neg (by omega), if_neg (by omega)]
theorem fX_at (o : Nat) (cp : Value) {k i : Nat} (h : i < k) : (fX o cp k)[i * 2]? = some (.int .i64 0) ∧ (fX o cp k)[i * 2 + 1]? = some (if i = o then cp else .slice none 0 0) := by
  induction k with
  | zero => omega
  | succ k ih =>
    have hl := fX_len o cp k
    rw [fX_step]
    by_cases e : i < k
    · obtain ⟨h1, h2⟩ := ih e
      rw [List.getElem?_append_left (by omega), List.getElem?_append_left (by omega)]
      exact ⟨h1, h2⟩
    · obtain rfl : i = k := by omega
      rw [List.getElem?_append_right (by omega), List.getElem?_append_right (by omega), hl, Nat.sub_self, Nat.add_sub_cancel_left]
      exact ⟨rfl, rfl⟩

def fBox (w : World) (v : Value) (fuel : Int) : Array Value := #[v, .slice (some ⟨w.heap.size, 0, none⟩) 1 1, .slice none 0 0, .int .i64 fuel]
/-- w: the world ahead of the law. -/
structure FR (w : World) (o : Nat) (fuel : Int) (k : Nat) (v : Value) (wr : World) : Prop where
  low : Below w.heap.size w wr
  bx : wr.heap[w.heap.size + 1]? = some (.cells (fBox w v fuel) 26)
  ac : wr.heap[w.heap.size]? = some (.cells #[.slice none 0 0, .int .i64 0, .int .i64 (-1), .bool false] 51)
  hn : ∃ cp, wr.ownsRow (w.heap.size + 2) 49 2 v k (fX o cp k) ∧ (o < k → ∃ pb, cp = .slice (some ⟨pb, 0, none⟩) 1 1 ∧ w.heap.size + 2 ≤ pb ∧ v.ownBlock ≠ some pb ∧ wr.heap[pb]? = some (.cells #[.int .i64 2, .int .i64 0] 43))
section
variable {w wr w1 w' : World} {o : Nat} {fuel : Int} {k : Nat} {v : Value}
theorem FR.lt (h : FR w o fuel k v wr) : w.heap.size + 1 < wr.heap.size := (Array.getElem?_eq_some_iff.1 h.bx).1
theorem FR.bxc (h : FR w o fuel k v wr) (i : Nat) : wr.cell? ⟨w.heap.size + 1, i, none⟩ = (fBox w v fuel)[i]? := cell_of_row _ _ _ _ _ _ h.bx
theorem FR.form (h : FR w o fuel k v wr) : ∃ A c, v = .slice A k c := by
  obtain ⟨cp, ⟨h1, h2⟩, _⟩ := h.hn
  rcases h2 with ⟨rfl, h2⟩ | ⟨g, cap, cur, rfl, _⟩
  · exact ⟨none, 0, by rw [h2]⟩
  · exact ⟨_, cap, rfl⟩
theorem FR.far (h : FR w o fuel k v wr) {b : Nat} (hb : b < w.heap.size + 2) : v.ownBlock ≠ some b := fun e => by
  obtain ⟨cp, ho, _⟩ := h.hn
  have := (own_lt ho e).1
  omega
theorem setCell_heap {w : World} {b i : Nat} {v : Value} {c : Array Value} {T : TypeId} (h : w.heap[b]? = some (.cells c T)) : (w.setCell ⟨b, i, none⟩ v).heap[b]? = some (.cells (c.setIfInBounds i v) T) := by
  simp [World.setCell, Array.getElem?_modify, h]
/-- A round: w1 has new blocks, w' is behind the append, then the store. -/
theorem FR.step {g cap : Nat} {cp : Value} (h : FR w o fuel k v wr) (hb1 : Below wr.heap.size wr w1) (ho : w'.ownsRow (w.heap.size + 2) 49 2 (.slice (some ⟨g, 0, none⟩) (k + 1) cap) (k + 1) (fX o cp k ++ fV o cp k)) (hg : w1.grownBy w' v.ownBlock) (hat : v.ownBlock = some g ∨ g = w1.heap.size)
    (hp : o < k + 1 → ∃ pb, cp = .slice (some ⟨pb, 0, none⟩) 1 1 ∧ w.heap.size + 2 ≤ pb ∧ pb < w1.heap.size ∧ v.ownBlock ≠ some pb ∧ w1.heap[pb]? = some (.cells #[.int .i64 2, .int .i64 0] 43)) :
    FR w o fuel (k + 1) (.slice (some ⟨g, 0, none⟩) (k + 1) cap) (w'.setCell ⟨w.heap.size + 1, 0, none⟩ (.slice (some ⟨g, 0, none⟩) (k + 1) cap)) := by
  have hlt := h.lt
  have hs1 := hb1.size
  have hgk : w.heap.size + 2 ≤ g := by
    obtain ⟨cp', ho', _⟩ := h.hn
    rcases hat with hat | hat
    · exact (own_lt ho' hat).1
    · omega
  have old : ∀ b, b < w.heap.size + 2 → w'.heap[b]? = wr.heap[b]? := fun b hb => by
    rw [hg.block b (by omega) (Ne.symm (h.far hb)), hb1.block b (by omega)]
  have hset : ∀ b, b ≠ w.heap.size + 1 → (w'.setCell ⟨w.heap.size + 1, 0, none⟩ (.slice (some ⟨g, 0, none⟩) (k + 1) cap)).heap[b]? = w'.heap[b]? := fun b hb => Below.heap_setCell _ _ _ _ (fun e => hb (by have e' : b = w.heap.size + 1 := e; exact e'))
  refine ⟨⟨hg.os.trans (hb1.os.trans h.low.os), hg.tape.trans (hb1.tape.trans h.low.tape), hg.output.trans (hb1.output.trans h.low.output), ?_, fun b hb => ?_⟩, ?_, ?_, ⟨cp, ?_, fun ho2 => ?_⟩⟩
  · have := hg.size; simp; omega
  · rw [hset b (by omega), old b (by omega)]; exact h.low.block b hb
  · rw [setCell_heap ((old _ (by omega)).trans h.bx)]; rfl
  · rw [hset _ (by omega), old _ (by omega)]; exact h.ac
  · rw [fX_step]
    exact own_block ho fun b hb _ => hset b (fun e => by have e' : g = b := Option.some.inj hb; omega)
  · obtain ⟨pb, h1, h2, h3, h4, h5⟩ := hp ho2
    refine ⟨pb, h1, h2, fun e => ?_, ?_⟩
    · have e' : g = pb := Option.some.inj e
      subst e'
      rcases hat with hat | hat
      · exact h4 hat
      · omega
    · rw [hset pb (by omega), hg.block pb h3 (Ne.symm h4)]; exact h5
theorem FR.prg (h : FR w o fuel k v wr) (hk : k ≤ 1000) : PrgV wr (.agg (fBox w v fuel)) (fP k o fuel) := by
  obtain ⟨cp, ⟨h1, h2⟩, hp⟩ := h.hn
  have hac : ∀ i, wr.cell? ⟨w.heap.size, i, none⟩ = #[Value.slice none 0 0, .int .i64 0, .int .i64 (-1), .bool false][i]? := fun i => cell_of_row _ _ _ _ _ _ h.ac
  have hlt := h.lt
  refine ⟨_, _, _, rfl, ?_, sl1 trivial (by omega) ⟨⟨_, hac 0, sl0⟩, hac 1, hac 2, hac 3⟩, sl0⟩
  rcases h2 with ⟨rfl, h2⟩ | ⟨g, cap, cur, rfl, hb, hh, h3, h4, h5, h6⟩
  · subst h2; exact sl0
  · refine ⟨_, cap, by simp [fP, fHs_len], by simp [fP, fHs_len]; omega, Or.inr ⟨g, 0, rfl, trivial, (Array.getElem?_eq_some_iff.1 hh).1, fun i x hx => ?_⟩⟩
    have hi : i < k := by have := (List.getElem?_eq_some_iff.1 hx).1; simpa [fP, fHs_len] using this
    have hx' : fH o i = x := by have := fHs_at (n := k) (o := o) hi; exact Option.some.inj (this.symm.trans hx)
    subst hx'
    have hcell : ∀ j, j < k * 2 → wr.cell? ⟨g, j, none⟩ = (fX o cp k)[j]? := fun j hj => by
      rw [cell_of_row _ _ _ _ _ _ hh, ← h6, List.getElem?_take, if_pos hj]; simp
    obtain ⟨e1, e2⟩ := fX_at o cp hi
    rw [Nat.zero_add]
    refine ⟨(hcell _ (by omega)).trans e1, _, (hcell _ (by omega)).trans e2, ?_⟩
    unfold fH
    by_cases e : i = o
    · rw [if_pos e, if_pos e]
      obtain ⟨pb, rfl, _, _, hpb⟩ := hp (by omega)
      exact sl1 trivial (Array.getElem?_eq_some_iff.1 hpb).1 ⟨cell_of_row _ _ _ _ _ _ hpb, cell_of_row _ _ _ _ _ _ hpb⟩
    · rw [if_neg e, if_neg e]; exact sl0
end
theorem FR.start (w : World) (o : Nat) (fuel : Int) : FR w o fuel 0 (.slice none 0 0) ((w.alloc (.cells #[.slice none 0 0, .int .i64 0, .int .i64 (-1), .bool false] 51)).alloc (.cells (fBox w (.slice none 0 0) fuel) 26)) := by
  refine ⟨bAlloc (bAlloc (bRefl w) _) _, heap_new2 (by simp), ?_, ⟨.slice none 0 0, ⟨rfl, Or.inl ⟨rfl, rfl⟩⟩, fun h => by omega⟩⟩
  rw [Below.heap_alloc _ _ _ (by simp)]; exact heap_new _ _
end Go.Proofs.YtfkaalgcgbmlpaaDoor
