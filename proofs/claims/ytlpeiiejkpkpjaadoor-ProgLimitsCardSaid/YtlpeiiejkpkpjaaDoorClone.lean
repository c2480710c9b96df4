/-
  Readings of lists that were made anew, and of lists into which one part is stored; what is known of a copy while it is made. No conditions.
-/
import Derived.Test.YtlpeiiejkpkpjaaDoorFresh
import Derived.Test.YtlpeiiejkpkpjaaDoorSame
namespace Go.Proofs.YtlpeiiejkpkpjaaDoor
open Go.RowKit

/-- A reader of sz cells. -/
structure Rdr {α : Type} (sz : Nat) (R : World → Nat → Nat → α → Prop) : Prop where
  some : ∀ w b o x, R w b o x → ∀ j, j < sz → (w.cell? ⟨b, o + j, none⟩).isSome = true
  move : ∀ w w' b o b' o' x, R w b o x → Below w.heap.size w w' → (∀ j, j < sz → w'.cell? ⟨b', o' + j, none⟩ = w.cell? ⟨b, o + j, none⟩) → R w' b' o' x

theorem Rdr.int : Rdr 1 rInt where
  some w b o x h j hj := by obtain rfl : j = 0 := by omega
                            exact Option.isSome_iff_exists.2 ⟨_, h⟩
  move w w' b o b' o' x h _ hc := (hc 0 (by omega)).trans h
theorem Rdr.ins : Rdr 2 rIns where
  some w b o x h j hj := by
    rcases (by omega : j = 0 ∨ j = 1) with rfl | rfl
    · exact Option.isSome_iff_exists.2 ⟨_, h.1⟩
    · exact Option.isSome_iff_exists.2 ⟨_, h.2⟩
  move w w' b o b' o' x h _ hc := ⟨(hc 0 (by omega)).trans h.1, (hc 1 (by omega)).trans h.2⟩
theorem Rdr.hnd (inn : Nat → Prop) : Rdr 2 (rHnd inn) where
  some w b o x h j hj := by
    obtain ⟨h1, v, h2, _⟩ := h
    rcases (by omega : j = 0 ∨ j = 1) with rfl | rfl
    · exact Option.isSome_iff_exists.2 ⟨_, h1⟩
    · exact Option.isSome_iff_exists.2 ⟨_, h2⟩
  move w w' b o b' o' x h hb hc := by
    obtain ⟨h1, v, h2, h3⟩ := h
    exact ⟨(hc 0 (by omega)).trans h1, v, (hc 1 (by omega)).trans h2, h3.below hb⟩
theorem Rdr.act (inn : Nat → Prop) : Rdr 4 (rAct inn) where
  some w b o x h j hj := by
    obtain ⟨⟨v, h1, _⟩, h2, h3, h4⟩ := h
    rcases (by omega : j = 0 ∨ j = 1 ∨ j = 2 ∨ j = 3) with rfl | rfl | rfl | rfl
    · exact Option.isSome_iff_exists.2 ⟨_, h1⟩
    · exact Option.isSome_iff_exists.2 ⟨_, h2⟩
    · exact Option.isSome_iff_exists.2 ⟨_, h3⟩
    · exact Option.isSome_iff_exists.2 ⟨_, h4⟩
  move w w' b o b' o' x h hb hc := by
    obtain ⟨⟨v, h1, h5⟩, h2, h3, h4⟩ := h
    exact ⟨⟨v, (hc 0 (by omega)).trans h1, h5.below hb⟩, (hc 1 (by omega)).trans h2, (hc 2 (by omega)).trans h3, (hc 3 (by omega)).trans h4⟩
theorem Rdr.nte (inn : Nat → Prop) : Rdr 3 (rNte inn) where
  some w b o x h j hj := by
    obtain ⟨h1, h2, v, h3, _⟩ := h
    rcases (by omega : j = 0 ∨ j = 1 ∨ j = 2) with rfl | rfl | rfl
    · exact Option.isSome_iff_exists.2 ⟨_, h1⟩
    · exact Option.isSome_iff_exists.2 ⟨_, h2⟩
    · exact Option.isSome_iff_exists.2 ⟨_, h3⟩
  move w w' b o b' o' x h hb hc := by
    obtain ⟨h1, h2, v, h3, h4⟩ := h
    exact ⟨(hc 0 (by omega)).trans h1, (hc 1 (by omega)).trans h2, v, (hc 2 (by omega)).trans h3, h4.below hb⟩

/-- From one number to ahead of another. -/
def In (p q : Nat) : Nat → Prop := fun b => p ≤ b ∧ b < q

section
variable {α : Type} {sz : Nat} {R : World → Nat → Nat → α → Prop} {ok : Nat → Prop} {w w' : World} {l : List α} {A A' : Option Addr} {n c c' E : Nat}

theorem Sl.there (r : Rdr sz R) (h0 : 0 < sz) (h : Sl sz R ok w (.slice A n c) l) : There w A l.length sz := by
  by_cases hl : l = []
  · exact Or.inl (by rw [hl]; rfl)
  · obtain ⟨b, o, rfl, _, _, hc⟩ := h.at (List.length_pos_iff.2 hl)
    refine Or.inr ⟨b, o, rfl, fun j hj => ?_⟩
    have hk : j / sz < l.length := Nat.div_lt_of_lt_mul (by rwa [Nat.mul_comm])
    have := r.some w b _ _ (hc _ _ (List.getElem?_eq_getElem hk)) (j % sz) (Nat.mod_lt _ h0)
    rwa [Nat.add_assoc, Nat.mul_comm, Nat.div_add_mod] at this

theorem Cloned.below (h : Cloned w A n sz E w' A') : Below w.heap.size w w' := by
  rcases h with ⟨_, rfl, _⟩ | ⟨_, b, o, cs, _, _, rfl, _⟩
  · exact bRefl _
  · exact bAlloc (bRefl w).drew _
theorem Cloned.at0 (h : Cloned w A n sz E w' A') (h0 : n = 0) : w' = w := by
  rcases h with ⟨_, rfl, _⟩ | ⟨_, _⟩
  · rfl
  · omega

theorem Sl.cloned (r : Rdr sz R) (h : Sl sz R ok w (.slice A n c) l) (cl : Cloned w A l.length sz E w' A') : Sl sz R (In w.heap.size w'.heap.size) w' (.slice A' l.length c') l := by
  have hb := cl.below
  obtain ⟨_, _, he, hl⟩ := h.form
  refine ⟨A', c', rfl, hl, ?_⟩
  rcases cl with ⟨h0, _, _⟩ | ⟨h0, b, o, cs, hA, rfl, rfl, hcs⟩
  · exact Or.inl (List.length_eq_zero_iff.1 h0)
  · obtain ⟨b', o', hA', _, hlt, hc⟩ := h.at h0
    rw [hA] at hA'
    simp only [Option.some.injEq, Addr.mk.injEq, and_true] at hA'
    obtain ⟨rfl, rfl⟩ := hA'
    refine Or.inr ⟨w.heap.size, 0, rfl, ⟨Nat.le_refl _, by simp⟩, by simp, fun k x hx => ?_⟩
    refine r.move _ _ _ _ _ _ _ (hc k x hx) hb fun j hj => ?_
    have hk := (List.getElem?_eq_some_iff.1 hx).1
    have hm : k * sz + j < l.length * sz := by
      have : (k + 1) * sz ≤ l.length * sz := Nat.mul_le_mul_right _ hk
      rw [Nat.succ_mul] at this
      omega
    have := hcs (k * sz + j) hm
    rw [Nat.zero_add, Nat.add_assoc, ← this]
    exact World.cell?_alloc_new w.drew cs E (k * sz + j)
end

/-- Every block from B on is plain cells that may be written. -/
def Plain (B : Nat) (w : World) : Prop := ∀ b, B ≤ b → b < w.heap.size → ∃ cs T, w.heap[b]? = some (.cells cs T (0, 0))

section
variable {B : Nat} {w w' : World}
theorem Plain.start (w : World) : Plain w.heap.size w := fun b h1 h2 => by omega
theorem Plain.alloc (h : Plain B w) (cs : Array Value) (T : TypeId) : Plain B (w.alloc (.cells cs T)) := by
  intro b h1 h2
  simp at h2
  by_cases hb : b < w.heap.size
  · rw [Below.heap_alloc w _ b hb]; exact h b h1 hb
  · obtain rfl : b = w.heap.size := by omega
    exact ⟨cs, T, by show (w.heap.push _)[w.heap.size]? = _; simp⟩
theorem Plain.drew (h : Plain B w) : Plain B w.drew := h
theorem Plain.cloned {A A' : Option Addr} {n sz E : Nat} (h : Plain B w) (cl : Cloned w A n sz E w' A') : Plain B w' := by
  rcases cl with ⟨_, rfl, _⟩ | ⟨_, b, o, cs, _, _, rfl, _⟩
  · exact h
  · exact Plain.alloc (Plain.drew h) cs E
theorem Plain.setCell (h : Plain B w) (a : Addr) (v : Value) : Plain B (w.setCell a v) := by
  intro b h1 h2
  have h2' : b < w.heap.size := by simpa [World.setCell] using h2
  obtain ⟨cs, T, hc⟩ := h b h1 h2'
  by_cases hb : b = a.block
  · subst hb
    simp only [World.setCell, Array.getElem?_modify, if_true, hc, Option.map_some]
    exact ⟨_, _, rfl⟩
  · rw [Below.heap_setCell w a v b hb]; exact ⟨cs, T, hc⟩
theorem Plain.frozen (h : Plain B w) {b o : Nat} (h1 : B ≤ b) (h2 : b < w.heap.size) : w.frozen? ⟨b, o, none⟩ = false := by
  obtain ⟨cs, T, hc⟩ := h b h1 h2
  simp [World.frozen?, hc]
theorem Plain.mono {B' : Nat} (h : Plain B w) (hB : B ≤ B') : Plain B' w := fun b h1 h2 => h b (by omega) h2
end

theorem cell_other {w : World} {b o o' : Nat} {v : Value} (h : o ≠ o') : (w.setCell ⟨b, o, none⟩ v).cell? ⟨b, o', none⟩ = w.cell? ⟨b, o', none⟩ :=
  World.cell?_setCell_other _ _ _ _ (fun e => h (by injection e))
/-- The slice, if it has elements, lies from block C on. -/
def newer (C : Nat) (v : Value) : Prop := ∀ a n c, v = .slice (some a) n c → 0 < n → C ≤ a.block
/-- So do the first k slices of the elements. -/
def NewAt (C : Nat) (A : Option Addr) (sz off k : Nat) (w : World) : Prop := ∀ b o, A = some ⟨b, o, none⟩ → ∀ j, j < k → ∀ v, w.cell? ⟨b, o + j * sz + off, none⟩ = some v → newer C v

theorem newer_cloned {w w' : World} {A A' : Option Addr} {n sz E c' C : Nat} (cl : Cloned w A n sz E w' A') (hC : C ≤ w.heap.size) : newer C (.slice A' n c') := by
  intro a m c he h0
  simp only [Value.slice.injEq] at he
  rcases cl with ⟨_, _, rfl⟩ | ⟨_, b, o, cs, _, rfl, _, _⟩
  · simp at he
  · simp at he; rw [← he.1]; exact hC

theorem NewAt.same {α : Type} {sz : Nat} {R : World → Nat → Nat → α → Prop} {ok : Nat → Prop} {w w' : World} {l : List α} {A : Option Addr} {n c C off k : Nat} (hn : NewAt C A sz off k w) (h : Sl sz R ok w (.slice A n c) l) (hk : k ≤ l.length) (s : Same ok w w') : NewAt C A sz off k w' := by
  intro b o hA j hj v hv
  obtain ⟨b', o', hA', hok, hlt, _⟩ := h.at (by omega)
  rw [hA] at hA'
  simp only [Option.some.injEq, Addr.mk.injEq, and_true] at hA'
  obtain ⟨rfl, rfl⟩ := hA'
  exact hn b o hA j hj v ((s.cell hok hlt).symm.trans hv)
theorem NewAt.zero {C : Nat} {A : Option Addr} {sz off : Nat} {w : World} : NewAt C A sz off 0 w := fun _ _ _ j hj => by omega
/-- A store of the next one. -/
theorem NewAt.next {C b o sz off k : Nat} {w : World} {v : Value} (hn : NewAt C (some ⟨b, o, none⟩) sz off k w) (h0 : 0 < sz) (hv : newer C v) (hs : (w.cell? ⟨b, o + k * sz + off, none⟩).isSome = true) : NewAt C (some ⟨b, o, none⟩) sz off (k + 1) (w.setCell ⟨b, o + k * sz + off, none⟩ v) := by
  intro b' o' hA j hj u hu
  simp only [Option.some.injEq, Addr.mk.injEq, and_true] at hA
  obtain ⟨rfl, rfl⟩ := hA
  by_cases hjk : j = k
  · subst hjk
    obtain ⟨u0, hu0⟩ := Option.isSome_iff_exists.1 hs
    rw [World.cell?_setCell_same _ _ _ hu0] at hu
    obtain rfl := Option.some.inj hu
    exact hv
  · have hne : j * sz ≠ k * sz := fun e => hjk (Nat.eq_of_mul_eq_mul_right h0 e)
    rw [cell_other (by omega)] at hu
    exact hn b o rfl j (by omega) u hu

theorem setCell_same {w : World} {ok : Nat → Prop} {b o : Nat} {v : Value} (h : ∀ d, ok d → d ≠ b) : Same ok w (w.setCell ⟨b, o, none⟩ v) :=
  ⟨by simp [World.setCell], fun d hd _ => Below.heap_setCell _ _ _ _ (h d hd)⟩

theorem Hnds.store {ok inn : Nat → Prop} {w : World} {l : List PHnd} {b o n c k : Nat} {x : PHnd} {v' : Value} (h : Hnds ok inn w (.slice (some ⟨b, o, none⟩) n c) l) (hx : l[k]? = some x) (hne : ∀ d, inn d → d ≠ b) (hv : Code inn w v' x.code) :
    Hnds ok inn (w.setCell ⟨b, o + k * 2 + 1, none⟩ v') (.slice (some ⟨b, o, none⟩) n c) l := by
  have s : Same inn w (w.setCell ⟨b, o + k * 2 + 1, none⟩ v') := setCell_same hne
  obtain ⟨A, c1, he, hl, hh⟩ := h
  simp only [Value.slice.injEq] at he
  obtain ⟨rfl, rfl, rfl⟩ := he
  refine ⟨_, _, rfl, hl, ?_⟩
  rcases hh with hh | ⟨b', o', hA, hok, hlt, hc⟩
  · exact Or.inl hh
  · simp only [Option.some.injEq, Addr.mk.injEq, and_true] at hA
    obtain ⟨rfl, rfl⟩ := hA
    refine Or.inr ⟨b, o, rfl, hok, by simpa [World.setCell] using hlt, fun j y hy => ?_⟩
    obtain ⟨h1, u, h2, h3⟩ := hc j y hy
    by_cases hjk : j = k
    · subst hjk
      obtain rfl := Option.some.inj (hx.symm.trans hy)
      exact ⟨by rw [cell_other (by omega)]; exact h1, v', World.cell?_setCell_same _ _ _ h2, hv.same s⟩
    · exact ⟨by rw [cell_other (by omega)]; exact h1, u, by rw [cell_other (by omega)]; exact h2, h3.same s⟩
theorem Acts.store {ok inn : Nat → Prop} {w : World} {l : List PAct} {b o n c k : Nat} {x : PAct} {v' : Value} (h : Acts ok inn w (.slice (some ⟨b, o, none⟩) n c) l) (hx : l[k]? = some x) (hne : ∀ d, inn d → d ≠ b) (hv : Ints inn w v' x.regs) :
    Acts ok inn (w.setCell ⟨b, o + k * 4, none⟩ v') (.slice (some ⟨b, o, none⟩) n c) l := by
  have s : Same inn w (w.setCell ⟨b, o + k * 4, none⟩ v') := setCell_same hne
  obtain ⟨A, c1, he, hl, hh⟩ := h
  simp only [Value.slice.injEq] at he
  obtain ⟨rfl, rfl, rfl⟩ := he
  refine ⟨_, _, rfl, hl, ?_⟩
  rcases hh with hh | ⟨b', o', hA, hok, hlt, hc⟩
  · exact Or.inl hh
  · simp only [Option.some.injEq, Addr.mk.injEq, and_true] at hA
    obtain ⟨rfl, rfl⟩ := hA
    refine Or.inr ⟨b, o, rfl, hok, by simpa [World.setCell] using hlt, fun j y hy => ?_⟩
    obtain ⟨⟨u, h1, h2⟩, h3, h4, h5⟩ := hc j y hy
    by_cases hjk : j = k
    · subst hjk
      obtain rfl := Option.some.inj (hx.symm.trans hy)
      exact ⟨⟨v', World.cell?_setCell_same _ _ _ h1, hv.same s⟩, by rw [cell_other (by omega)]; exact h3, by rw [cell_other (by omega)]; exact h4, by rw [cell_other (by omega)]; exact h5⟩
    · exact ⟨⟨u, by rw [cell_other (by omega)]; exact h1, h2.same s⟩, by rw [cell_other (by omega)]; exact h3, by rw [cell_other (by omega)]; exact h4, by rw [cell_other (by omega)]; exact h5⟩
theorem Ntes.store {ok inn : Nat → Prop} {w : World} {l : List PNte} {b o n c k : Nat} {x : PNte} {v' : Value} (h : Ntes ok inn w (.slice (some ⟨b, o, none⟩) n c) l) (hx : l[k]? = some x) (hne : ∀ d, inn d → d ≠ b) (hv : Ints inn w v' x.args) :
    Ntes ok inn (w.setCell ⟨b, o + k * 3 + 2, none⟩ v') (.slice (some ⟨b, o, none⟩) n c) l := by
  have s : Same inn w (w.setCell ⟨b, o + k * 3 + 2, none⟩ v') := setCell_same hne
  obtain ⟨A, c1, he, hl, hh⟩ := h
  simp only [Value.slice.injEq] at he
  obtain ⟨rfl, rfl, rfl⟩ := he
  refine ⟨_, _, rfl, hl, ?_⟩
  rcases hh with hh | ⟨b', o', hA, hok, hlt, hc⟩
  · exact Or.inl hh
  · simp only [Option.some.injEq, Addr.mk.injEq, and_true] at hA
    obtain ⟨rfl, rfl⟩ := hA
    refine Or.inr ⟨b, o, rfl, hok, by simpa [World.setCell] using hlt, fun j y hy => ?_⟩
    obtain ⟨h1, h2, u, h3, h4⟩ := hc j y hy
    by_cases hjk : j = k
    · subst hjk
      obtain rfl := Option.some.inj (hx.symm.trans hy)
      exact ⟨by rw [cell_other (by omega)]; exact h1, by rw [cell_other (by omega)]; exact h2, v', World.cell?_setCell_same _ _ _ h3, hv.same s⟩
    · exact ⟨by rw [cell_other (by omega)]; exact h1, by rw [cell_other (by omega)]; exact h2, u, by rw [cell_other (by omega)]; exact h3, h4.same s⟩

/-- Slices that lie in C and on, told so. -/
theorem Sl.newer {α : Type} {sz : Nat} {R : World → Nat → Nat → α → Prop} {ok : Nat → Prop} {w : World} {v : Value} {l : List α} {C : Nat} (h : Sl sz R ok w v l) (hn : newer C v) : Sl sz R (fun b => C ≤ b) w v l := by
  obtain ⟨A, c, rfl, hl, h⟩ := h
  refine ⟨A, c, rfl, hl, ?_⟩
  rcases h with h | ⟨b, o, rfl, hb, hlt, hc⟩
  · exact Or.inl h
  · by_cases h0 : l = []
    · exact Or.inl h0
    · exact Or.inr ⟨b, o, rfl, hn _ _ _ rfl (List.length_pos_iff.2 h0), hlt, hc⟩
theorem Hnds.all {ok inn : Nat → Prop} {w : World} {l : List PHnd} {A : Option Addr} {c C : Nat} (h : Hnds ok inn w (.slice A l.length c) l) (hn : NewAt C A 2 1 l.length w) : Hnds ok (fun b => C ≤ b) w (.slice A l.length c) l := by
  obtain ⟨A', c', he, hl, hh⟩ := h
  simp only [Value.slice.injEq, true_and] at he
  obtain ⟨rfl, rfl⟩ := he
  refine ⟨_, _, rfl, hl, hh.imp id ?_⟩
  rintro ⟨b, o, rfl, hb, hlt, hc⟩
  refine ⟨b, o, rfl, hb, hlt, fun k x hx => ?_⟩
  obtain ⟨h1, v, h2, h3⟩ := hc k x hx
  exact ⟨h1, v, h2, h3.newer (hn b o rfl k (List.getElem?_eq_some_iff.1 hx).1 v h2)⟩
theorem Acts.all {ok inn : Nat → Prop} {w : World} {l : List PAct} {A : Option Addr} {c C : Nat} (h : Acts ok inn w (.slice A l.length c) l) (hn : NewAt C A 4 0 l.length w) : Acts ok (fun b => C ≤ b) w (.slice A l.length c) l := by
  obtain ⟨A', c', he, hl, hh⟩ := h
  simp only [Value.slice.injEq, true_and] at he
  obtain ⟨rfl, rfl⟩ := he
  refine ⟨_, _, rfl, hl, hh.imp id ?_⟩
  rintro ⟨b, o, rfl, hb, hlt, hc⟩
  refine ⟨b, o, rfl, hb, hlt, fun k x hx => ?_⟩
  obtain ⟨⟨v, h1, h2⟩, h3⟩ := hc k x hx
  exact ⟨⟨v, h1, h2.newer (hn b o rfl k (List.getElem?_eq_some_iff.1 hx).1 v h1)⟩, h3⟩
theorem Ntes.all {ok inn : Nat → Prop} {w : World} {l : List PNte} {A : Option Addr} {c C : Nat} (h : Ntes ok inn w (.slice A l.length c) l) (hn : NewAt C A 3 2 l.length w) : Ntes ok (fun b => C ≤ b) w (.slice A l.length c) l := by
  obtain ⟨A', c', he, hl, hh⟩ := h
  simp only [Value.slice.injEq, true_and] at he
  obtain ⟨rfl, rfl⟩ := he
  refine ⟨_, _, rfl, hl, hh.imp id ?_⟩
  rintro ⟨b, o, rfl, hb, hlt, hc⟩
  refine ⟨b, o, rfl, hb, hlt, fun k x hx => ?_⟩
  obtain ⟨h1, h2, v, h3, h4⟩ := hc k x hx
  exact ⟨h1, h2, v, h3, h4.newer (hn b o rfl k (List.getElem?_eq_some_iff.1 hx).1 v h3)⟩
end Go.Proofs.YtlpeiiejkpkpjaaDoor
