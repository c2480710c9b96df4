/-
  world.Start. Conditions: the table of the instructions is in the world; the program is not too great.
-/
import Derived.Test.YtjdnedmhffakjaaDoorWa
import Derived.Test.YtjdnedmhffakjaaDoorW3
import Derived.Deep.RegionLaw
namespace Go.Proofs.YtjdnedmhffakjaaDoor
open Go.RowKit
/-- A local's cells. -/
def lrow (m : PLoc) (u : Value) : List Value := [u, .bool m.armed, .int .i64 m.down, .int .i64 m.sent, .int .i64 m.over]
/-- Locals in a row of the call's own; each one's registers elsewhere, in blocks of which P says yes. -/
structure LT (P : Nat → Prop) (base : Nat) (w : World) (v : Value) (l : List PLoc) (us : List Value) : Prop where
  own : w.ownsRow base 41 5 v l.length ((List.zipWith lrow l us).flatten)
  len : us.length = l.length
  rd : ∀ (k : Nat) (n : PLoc) (u : Value), l[k]? = some n → us[k]? = some u → Ints (fun b => P b ∧ v.ownBlock ≠ some b) w u n.regs
section
variable {P : Nat → Prop} {base : Nat} {w w1 w' : World} {v : Value} {l : List PLoc} {us : List Value}
theorem LT.same (h : LT P base w v l us) (hz : w.heap.size ≤ w'.heap.size) (hs : ∀ b, b < w.heap.size → P b ∨ v.ownBlock = some b → w'.heap[b]? = w.heap[b]?) : LT P base w' v l us :=
  ⟨own_block h.own fun g hg hlt => hs g hlt (Or.inr hg), h.len, fun k n u hn hu => (h.rd k n u hn hu).same ⟨hz, fun b hb hlt => hs b hlt (Or.inl hb.1)⟩⟩
theorem LT.below (h : LT P base w v l us) (hb : Below w.heap.size w w') : LT P base w' v l us := h.same hb.size fun b hlt _ => hb.block b hlt
theorem LT.form (h : LT P base w v l us) : ∃ A c, v = .slice A l.length c := by
  obtain ⟨h1, h2⟩ := h.own
  rcases h2 with ⟨rfl, h2⟩ | ⟨g, cap, cur, rfl, _⟩
  · exact ⟨none, 0, by rw [h2]⟩
  · exact ⟨_, cap, rfl⟩
theorem LT.nil (P : Nat → Prop) (base : Nat) (w : World) : LT P base w (.slice none 0 0) [] [] :=
  ⟨⟨rfl, Or.inl ⟨rfl, rfl⟩⟩, rfl, fun k n u hn => by simp at hn⟩
theorem zip_lenL : ∀ (l : List PLoc) (us : List Value), ∀ e ∈ List.zipWith lrow l us, e.length = 5
  | [], _, e, he => by simp at he
  | _ :: _, [], e, he => by simp at he
  | n :: l, u :: us, e, he => by
    rw [List.zipWith_cons_cons, List.mem_cons] at he
    rcases he with rfl | he
    · rfl
    · exact zip_lenL l us e he
/-- Locals ms (their registers at xs) are appended. -/
theorem LT.push {g cap m : Nat} {ms : List PLoc} {xs : List Value} (h : LT P base w v l us) (hm : ms.length = m) (hx : xs.length = ms.length)
    (ho : w'.ownsRow base 41 5 (.slice (some ⟨g, 0, none⟩) (l.length + m) cap) (l.length + m) ((List.zipWith lrow l us).flatten ++ (List.zipWith lrow ms xs).flatten))
    (hg : w.grownBy w' v.ownBlock) (hat : v.ownBlock = some g ∨ g = w.heap.size) (hu : ∀ (k : Nat) (n : PLoc) (u : Value), ms[k]? = some n → xs[k]? = some u → Ints (fun b => P b ∧ v.ownBlock ≠ some b) w u n.regs) :
    LT P base w' (.slice (some ⟨g, 0, none⟩) (l.length + m) cap) (l ++ ms) (us ++ xs) := by
  have hge : ∀ b, (Value.slice (some ⟨g, 0, none⟩) (l.length + m) cap).ownBlock = some b → b = g := fun b hb => (Option.some.inj hb).symm
  have key : ∀ (n : PLoc) (u : Value), Ints (fun b => P b ∧ v.ownBlock ≠ some b) w u n.regs → Ints (fun b => P b ∧ (Value.slice (some ⟨g, 0, none⟩) (l.length + m) cap).ownBlock ≠ some b) w' u n.regs := fun n u h1 =>
    h1.lt.imp (fun b hb => ⟨hb.1.1, fun e => by
      have := hge b e
      subst this
      rcases hat with hat | hat
      · exact hb.1.2 hat
      · have := hb.2; omega⟩) hg.size fun b o x hb hlt hr => (World.cell?_of_block (w := w) (hg.block b hlt (fun e => hb.1.2 e.symm))).trans hr
  refine ⟨?_, by simp [h.len, hx], fun k n' u' hn hu' => ?_⟩
  · rw [List.length_append, hm, List.zipWith_append (by rw [h.len]), List.flatten_append]
    exact ho
  · by_cases hk : k < l.length
    · rw [List.getElem?_append_left hk] at hn
      rw [List.getElem?_append_left (by rw [h.len]; exact hk)] at hu'
      exact key _ _ (h.rd k n' u' hn hu')
    · rw [List.getElem?_append_right (by omega)] at hn
      rw [List.getElem?_append_right (by rw [h.len]; omega), h.len] at hu'
      exact key _ _ (hu _ n' u' hn hu')
theorem LT.locs (h : LT P base w v l us) (hl : l.length ≤ 1000000) : Locs (fun b => base ≤ b ∧ v.ownBlock = some b) P w v l := by
  obtain ⟨h1, h2⟩ := h.own
  rcases h2 with ⟨rfl, h2⟩ | ⟨g, cap, cur, rfl, hb, hh, h3, h4, h5, h6⟩
  · have : l = [] := by cases l with | nil => rfl | cons _ _ => simp at h2
    subst this; exact ⟨_, _, rfl, by simp, by simp, Or.inl rfl⟩
  · refine ⟨_, cap, rfl, by omega, h3, Or.inr ⟨g, 0, rfl, ⟨hb, rfl⟩, (Array.getElem?_eq_some_iff.1 hh).1, fun k n hn => ?_⟩⟩
    have hk := (List.getElem?_eq_some_iff.1 hn).1
    obtain ⟨u, hu⟩ := at_lt (l := us) (k := k) (by rw [h.len]; exact hk)
    have hz : (List.zipWith lrow l us)[k]? = some (lrow n u) := by rw [List.getElem?_zipWith, hn, hu]
    have hcell : ∀ j, j < l.length * 5 → w.cell? ⟨g, j, none⟩ = ((List.zipWith lrow l us).flatten)[j]? := fun j hj => by
      rw [cell_of_row _ _ _ _ _ _ hh, ← h6, List.getElem?_take, if_pos hj]; simp
    have hc : ∀ j, j < 5 → w.cell? ⟨g, 0 + k * 5 + j, none⟩ = (lrow n u)[j]? := fun j hj => by
      rw [Nat.zero_add, hcell _ (by omega), flat_at _ (zip_lenL l us) k j hj, hz]; rfl
    exact ⟨⟨u, hc 0 (by omega), (h.rd k n u hn hu).weak fun b hb => hb.1⟩, hc 1 (by omega), hc 2 (by omega), hc 3 (by omega), hc 4 (by omega)⟩
end
/-- Between two rounds of Start. -/
structure SS (N bw : Nat) (l : List PLoc) (v : Value) (wr : World) : Prop where
  box : wr.heap[bw]? = some (.cells #[v, .slice none 0 0, .int .i64 0, .int .i64 0, .int .i64 0, .int .i64 0] 34)
  lt : ∃ us, LT (fun b => N ≤ b ∧ b ≠ bw) N wr v l us
  nb : v.ownBlock ≠ some bw
  le : N ≤ bw
theorem SS.below {N bw : Nat} {l : List PLoc} {v : Value} {w w' : World} (h : SS N bw l v w) (hb : Below w.heap.size w w') : SS N bw l v w' := ⟨boxAt h.box hb, let ⟨us, hu⟩ := h.lt; ⟨us, hu.below hb⟩, h.nb, h.le⟩
theorem SS.next {N bw gn cn : Nat} {l : List PLoc} {us : List Value} {v u : Value} {x : PLoc} {wr w2 w3 : World} (h : SS N bw l v wr) (hl : LT (fun b => N ≤ b ∧ b ≠ bw) N wr v l us) (hN : N ≤ wr.heap.size) (hb : Below wr.heap.size wr w2) (hu : Ints (fun b => wr.heap.size ≤ b) w2 u x.regs)
    (ho : w3.ownsRow N 41 5 (.slice (some ⟨gn, 0, none⟩) (l.length + 1) cn) (l.length + 1) ((List.zipWith lrow l us).flatten ++ lrow x u)) (hg : (w2.alloc (.cells #[u, .bool x.armed, .int .i64 x.down, .int .i64 x.sent, .int .i64 x.over] 41)).grownBy w3 v.ownBlock) (hat : v.ownBlock = some gn ∨ gn = w2.heap.size + 1) :
    SS N bw (l ++ [x]) (.slice (some ⟨gn, 0, none⟩) (l.length + 1) cn) (w3.setCell ⟨bw, 0, none⟩ (.slice (some ⟨gn, 0, none⟩) (l.length + 1) cn)) := by
  have hbl : bw < wr.heap.size := (Array.getElem?_eq_some_iff.1 h.box).1
  have hz := hb.size
  have hB : Below wr.heap.size wr (w2.alloc (.cells #[u, .bool x.armed, .int .i64 x.down, .int .i64 x.sent, .int .i64 x.over] 41)) := bAlloc hb _
  have hvb : ∀ b, v.ownBlock = some b → b < wr.heap.size := fun b e => (own_lt hl.own e).2
  have hgb : gn ≠ bw := by
    rintro rfl
    rcases hat with e | e
    · exact h.nb e
    · omega
  have key := (hl.below hB).push (ms := [x]) (xs := [u]) (m := 1) rfl rfl (by simpa using ho) hg (hat.imp id fun e => by rw [e]; simp) (fun k n u' hn hu' => by
    cases k with
    | zero =>
      simp at hn hu'
      subst hn hu'
      exact (Ints.weak hu.lt fun b (hb : wr.heap.size ≤ b ∧ b < w2.heap.size) => ⟨⟨by omega, by omega⟩, fun e => by have := hvb b e; omega⟩).below (bAlloc (bRefl _) _)
    | succ k => simp at hn)
  have hS : Same (fun d => d ≠ bw) w3 (w3.setCell ⟨bw, 0, none⟩ (.slice (some ⟨gn, 0, none⟩) (l.length + 1) cn)) := setCell_same fun _ h => h
  have hbox3 : w3.heap[bw]? = some (.cells #[v, .slice none 0 0, .int .i64 0, .int .i64 0, .int .i64 0, .int .i64 0] 34) := by
    rw [hg.block bw (by simp; omega) (fun e => h.nb e.symm)]
    exact boxAt h.box hB
  refine ⟨(setCell_heap hbox3).trans (by simp), ⟨us ++ [u], key.same hS.size fun b hlt hb => hS.block b ?_ hlt⟩, fun e => hgb (Option.some.inj e), h.le⟩
  rcases hb with hb | hb
  · exact hb.2
  · intro e; exact hgb ((Option.some.inj hb).trans e)
theorem SS.low {N bw gn cn : Nat} {l : List PLoc} {us : List Value} {v u : Value} {x : PLoc} {w1 wr w2 w3 : World} (h : SS N bw l v wr) (hl : LT (fun b => N ≤ b ∧ b ≠ bw) N wr v l us) (hN : N ≤ w1.heap.size) (hw : Below N w1 wr) (hb : Below wr.heap.size wr w2)
    (hg : (w2.alloc (.cells #[u, .bool x.armed, .int .i64 x.down, .int .i64 x.sent, .int .i64 x.over] 41)).grownBy w3 v.ownBlock) : Below N w1 (w3.setCell ⟨bw, 0, none⟩ (.slice (some ⟨gn, 0, none⟩) (l.length + 1) cn)) := by
  have hz := hw.size
  have hB : Below wr.heap.size wr (w2.alloc (.cells #[u, .bool x.armed, .int .i64 x.down, .int .i64 x.sent, .int .i64 x.over] 41)) := bAlloc hb _
  have h1 : Below N w1 (w2.alloc (.cells #[u, .bool x.armed, .int .i64 x.down, .int .i64 x.sent, .int .i64 x.over] 41)) := hw.trans (hB.mono (by omega))
  exact (h1.grown hg (by have := h1.size; omega) (fun k hk => (own_lt hl.own hk).1)).setCell (p := ⟨bw, 0, none⟩) h.le _
end Go.Proofs.YtjdnedmhffakjaaDoor
