/-
  A number stored into a list of numbers, of instructions, or into a handler, an actor, a note: what the lists read as then. No conditions.
-/
import Derived.Test.YtlpeiiejkpkpjaaDoorMade
import Derived.Deep.Slices
namespace Go.Proofs.YtlpeiiejkpkpjaaDoor
open Go.RowKit

theorem poke_cell {w : World} {b i b' j : Nat} {a a0 y : Int} (h0 : w.cell? ⟨b, i, none⟩ = some (.int .i64 a0)) (h : w.cell? ⟨b', j, none⟩ = some (.int .i64 y)) :
    ∃ z, (w.setCell ⟨b, i, none⟩ (.int .i64 a)).cell? ⟨b', j, none⟩ = some (.int .i64 z) := by
  by_cases hh : b = b' ∧ i = j
  · obtain ⟨rfl, rfl⟩ := hh
    exact ⟨a, World.cell?_setCell_same _ _ _ h0⟩
  · exact ⟨y, (World.cell?_setCell_other _ _ _ _ (fun e => hh (by injection e with h1 h2; exact ⟨h1, h2⟩))).trans h⟩

theorem Sl.poke {α : Type} [Inhabited α] {sz : Nat} {R : World → Nat → Nat → α → Prop} {ok : Nat → Prop} {w w' : World} {v : Value} {l : List α} (h : Sl sz R ok w v l) (hs : w'.heap.size = w.heap.size)
    (hR : ∀ b o x, R w b o x → ∃ y, R w' b o y) : ∃ l', l'.length = l.length ∧ Sl sz R ok w' v l' := by
  obtain ⟨A, c, rfl, hl, h⟩ := h
  rcases h with rfl | ⟨b, o, rfl, hb, hlt, hc⟩
  · exact ⟨[], rfl, A, c, rfl, hl, Or.inl rfl⟩
  · obtain ⟨f, hf⟩ := Go.Deep.choose_lt (α := α) (n := l.length) (p := fun i x => R w' b (o + i * sz) x) (fun i hi => hR _ _ _ (hc i l[i] (List.getElem?_eq_getElem hi)))
    refine ⟨(List.range l.length).map f, by simp, some ⟨b, o, none⟩, c, by simp, by simpa using hl, Or.inr ⟨b, o, rfl, hb, by omega, fun k y hy => ?_⟩⟩
    have hk : k < l.length := by have := (List.getElem?_eq_some_iff.1 hy).1; simpa using this
    have : f k = y := by simpa [hk] using hy
    rw [← this]
    exact hf k hk

section
variable {w : World} {ok inn : Nat → Prop} {v : Value} {b i : Nat} {a a0 : Int}
theorem setCell_size (w : World) (a : Addr) (v : Value) : (w.setCell a v).heap.size = w.heap.size := by simp [World.setCell]

theorem Ints.poke {l : List Int} (h : Ints ok w v l) (h0 : w.cell? ⟨b, i, none⟩ = some (.int .i64 a0)) : ∃ l', l'.length = l.length ∧ Ints ok (w.setCell ⟨b, i, none⟩ (.int .i64 a)) v l' :=
  Sl.poke h (setCell_size _ _ _) fun _ _ _ hr => poke_cell h0 hr
theorem Code.poke {l : List PIns} (h : Code ok w v l) (h0 : w.cell? ⟨b, i, none⟩ = some (.int .i64 a0)) : ∃ l', l'.length = l.length ∧ Code ok (w.setCell ⟨b, i, none⟩ (.int .i64 a)) v l' :=
  Sl.poke h (setCell_size _ _ _) fun _ _ _ hr => by
    obtain ⟨y, hy⟩ := poke_cell (a := a) h0 hr.1
    obtain ⟨z, hz⟩ := poke_cell (a := a) h0 hr.2
    exact ⟨⟨y, z⟩, hy, hz⟩

/-- The lists' own elements, made one by one, keep a part of each. -/
theorem Sl.poke2 {α : Type} [Inhabited α] {sz : Nat} {R : World → Nat → Nat → α → Prop} {ok : Nat → Prop} {w w' : World} {v : Value} {l : List α} {K : α → α → Prop} (h : Sl sz R ok w v l) (hs : w'.heap.size = w.heap.size)
    (hR : ∀ b o x, ok b → b < w.heap.size → R w b o x → ∃ y, R w' b o y ∧ K x y) : ∃ l', Sl sz R ok w' v l' ∧ l'.length = l.length ∧ ∀ (j : Nat) x y, l[j]? = some x → l'[j]? = some y → K x y := by
  obtain ⟨A, c, rfl, hl, h⟩ := h
  rcases h with rfl | ⟨b, o, rfl, hb, hlt, hc⟩
  · exact ⟨[], ⟨A, c, rfl, hl, Or.inl rfl⟩, rfl, fun j x y hx => by simp at hx⟩
  · obtain ⟨f, hf⟩ := Go.Deep.choose_lt (α := α) (n := l.length) (p := fun i y => R w' b (o + i * sz) y ∧ ∀ x, l[i]? = some x → K x y) (fun i hi => by
      obtain ⟨y, hy, hk⟩ := hR _ _ _ hb hlt (hc i l[i] (List.getElem?_eq_getElem hi))
      exact ⟨y, hy, fun x hx => by rw [List.getElem?_eq_getElem hi] at hx; obtain rfl := Option.some.inj hx; exact hk⟩)
    refine ⟨(List.range l.length).map f, ⟨some ⟨b, o, none⟩, c, by simp, by simpa using hl, Or.inr ⟨b, o, rfl, hb, by omega, fun k y hy => ?_⟩⟩, by simp, fun j x y hx hy => ?_⟩
    · have hk : k < l.length := by have := (List.getElem?_eq_some_iff.1 hy).1; simpa using this
      have : f k = y := by simpa [hk] using hy
      rw [← this]
      exact (hf k hk).1
    · have hk := (List.getElem?_eq_some_iff.1 hx).1
      have : f j = y := by simpa [hk] using hy
      rw [← this]
      exact (hf j hk).2 x hx

def kH (x y : PHnd) : Prop := y.args = x.args
def kA (x y : PAct) : Prop := y.cap = x.cap
def kN (x y : PNte) : Prop := y.to = x.to

theorem far {b' o : Nat} {u : Value} (h : b' ≠ b) : (w.setCell ⟨b, i, none⟩ u).cell? ⟨b', o, none⟩ = w.cell? ⟨b', o, none⟩ :=
  World.cell?_setCell_other _ _ _ _ (fun e => h (by injection e with h1 _; exact h1.symm))

theorem Hnds.poke {l : List PHnd} (h : Hnds ok inn w v l) (hne : ∀ d, ok d → d ≠ b) (h0 : w.cell? ⟨b, i, none⟩ = some (.int .i64 a0)) :
    ∃ l', Hnds ok inn (w.setCell ⟨b, i, none⟩ (.int .i64 a)) v l' ∧ l'.length = l.length ∧ ∀ (j : Nat) x y, l[j]? = some x → l'[j]? = some y → kH x y :=
  Sl.poke2 h (setCell_size _ _ _) fun d o x hd _ hr => by
    obtain ⟨h1, u, h2, h3⟩ := hr
    obtain ⟨c, _, hc⟩ := h3.poke (a := a) h0
    exact ⟨⟨x.args, c⟩, ⟨(far (hne d hd)).trans h1, u, (far (hne d hd)).trans h2, hc⟩, rfl⟩
theorem Acts.poke {l : List PAct} (h : Acts ok inn w v l) (hne : ∀ d, ok d → d ≠ b) (h0 : w.cell? ⟨b, i, none⟩ = some (.int .i64 a0)) :
    ∃ l', Acts ok inn (w.setCell ⟨b, i, none⟩ (.int .i64 a)) v l' ∧ l'.length = l.length ∧ ∀ (j : Nat) x y, l[j]? = some x → l'[j]? = some y → kA x y :=
  Sl.poke2 h (setCell_size _ _ _) fun d o x hd _ hr => by
    obtain ⟨⟨u, h1, h2⟩, h3, h4, h5⟩ := hr
    obtain ⟨c, _, hc⟩ := h2.poke (a := a) h0
    exact ⟨⟨c, x.cap, x.timer, x.armed⟩, ⟨⟨u, (far (hne d hd)).trans h1, hc⟩, (far (hne d hd)).trans h3, (far (hne d hd)).trans h4, (far (hne d hd)).trans h5⟩, rfl⟩
theorem Ntes.poke {l : List PNte} (h : Ntes ok inn w v l) (hne : ∀ d, ok d → d ≠ b) (h0 : w.cell? ⟨b, i, none⟩ = some (.int .i64 a0)) :
    ∃ l', Ntes ok inn (w.setCell ⟨b, i, none⟩ (.int .i64 a)) v l' ∧ l'.length = l.length ∧ ∀ (j : Nat) x y, l[j]? = some x → l'[j]? = some y → kN x y :=
  Sl.poke2 h (setCell_size _ _ _) fun d o x hd _ hr => by
    obtain ⟨h1, h2, u, h3, h4⟩ := hr
    obtain ⟨c, _, hc⟩ := h4.poke (a := a) h0
    exact ⟨⟨x.to, x.hd, c⟩, ⟨(far (hne d hd)).trans h1, (far (hne d hd)).trans h2, u, (far (hne d hd)).trans h3, hc⟩, rfl⟩
end

/-- One element's own number is stored. -/
theorem Sl.set {α : Type} {sz : Nat} {R : World → Nat → Nat → α → Prop} {ok : Nat → Prop} {w w' : World} {l : List α} {b o n c k : Nat} {x' : α} (h : Sl sz R ok w (.slice (some ⟨b, o, none⟩) n c) l) (hk : k < l.length) (hs : w'.heap.size = w.heap.size)
    (hme : R w' b (o + k * sz) x') (hot : ∀ j y, j ≠ k → R w b (o + j * sz) y → R w' b (o + j * sz) y) : Sl sz R ok w' (.slice (some ⟨b, o, none⟩) n c) (l.set k x') := by
  obtain ⟨A, c', he, hl, h⟩ := h
  simp only [Value.slice.injEq] at he
  obtain ⟨rfl, rfl, rfl⟩ := he
  refine ⟨some ⟨b, o, none⟩, c, by simp, by simpa using hl, ?_⟩
  rcases h with rfl | ⟨b', o', hA, hb, hlt, hc⟩
  · simp at hk
  · simp only [Option.some.injEq, Addr.mk.injEq, and_true] at hA
    obtain ⟨rfl, rfl⟩ := hA
    refine Or.inr ⟨b, o, rfl, hb, by omega, fun j y hy => ?_⟩
    rw [List.getElem?_set] at hy
    by_cases hj : k = j
    · subst hj
      simp [hk] at hy
      subst hy
      exact hme
    · rw [if_neg hj] at hy
      exact hot j y (fun e => hj e.symm) (hc j y hy)

section
variable {w : World} {ok inn : Nat → Prop} {b o n c k : Nat} {a : Int}
theorem Hnds.args {l : List PHnd} {x : PHnd} (h : Hnds ok inn w (.slice (some ⟨b, o, none⟩) n c) l) (hx : l[k]? = some x) (hne : ∀ d, inn d → d ≠ b) :
    Hnds ok inn (w.setCell ⟨b, o + k * 2, none⟩ (.int .i64 a)) (.slice (some ⟨b, o, none⟩) n c) (l.set k ⟨a, x.code⟩) := by
  have s : Same inn w (w.setCell ⟨b, o + k * 2, none⟩ (.int .i64 a)) := setCell_same hne
  have hk := (List.getElem?_eq_some_iff.1 hx).1
  obtain ⟨b', o', hA, _, _, hc⟩ := h.at (by omega)
  simp only [Option.some.injEq, Addr.mk.injEq, and_true] at hA
  obtain ⟨rfl, rfl⟩ := hA
  obtain ⟨h1, u, h2, h3⟩ := hc k x hx
  refine Sl.set h hk (setCell_size _ _ _) ⟨World.cell?_setCell_same _ _ _ h1, u, (cell_other (by omega)).trans h2, h3.same s⟩ fun j y hj hr => ?_
  obtain ⟨h1, u, h2, h3⟩ := hr
  exact ⟨(cell_other (by omega)).trans h1, u, (cell_other (by omega)).trans h2, h3.same s⟩
theorem Acts.caps {l : List PAct} {x : PAct} (h : Acts ok inn w (.slice (some ⟨b, o, none⟩) n c) l) (hx : l[k]? = some x) (hne : ∀ d, inn d → d ≠ b) :
    Acts ok inn (w.setCell ⟨b, o + k * 4 + 1, none⟩ (.int .i64 a)) (.slice (some ⟨b, o, none⟩) n c) (l.set k ⟨x.regs, a, x.timer, x.armed⟩) := by
  have s : Same inn w (w.setCell ⟨b, o + k * 4 + 1, none⟩ (.int .i64 a)) := setCell_same hne
  have hk := (List.getElem?_eq_some_iff.1 hx).1
  obtain ⟨b', o', hA, _, _, hc⟩ := h.at (by omega)
  simp only [Option.some.injEq, Addr.mk.injEq, and_true] at hA
  obtain ⟨rfl, rfl⟩ := hA
  obtain ⟨⟨u, h1, h2⟩, h3, h4, h5⟩ := hc k x hx
  refine Sl.set h hk (setCell_size _ _ _) ⟨⟨u, (cell_other (by omega)).trans h1, h2.same s⟩, World.cell?_setCell_same _ _ _ h3, (cell_other (by omega)).trans h4, (cell_other (by omega)).trans h5⟩ fun j y hj hr => ?_
  obtain ⟨⟨u, h1, h2⟩, h3, h4, h5⟩ := hr
  exact ⟨⟨u, (cell_other (by omega)).trans h1, h2.same s⟩, (cell_other (by omega)).trans h3, (cell_other (by omega)).trans h4, (cell_other (by omega)).trans h5⟩
theorem Ntes.tos {l : List PNte} {x : PNte} (h : Ntes ok inn w (.slice (some ⟨b, o, none⟩) n c) l) (hx : l[k]? = some x) (hne : ∀ d, inn d → d ≠ b) :
    Ntes ok inn (w.setCell ⟨b, o + k * 3, none⟩ (.int .i64 a)) (.slice (some ⟨b, o, none⟩) n c) (l.set k ⟨a, x.hd, x.args⟩) := by
  have s : Same inn w (w.setCell ⟨b, o + k * 3, none⟩ (.int .i64 a)) := setCell_same hne
  have hk := (List.getElem?_eq_some_iff.1 hx).1
  obtain ⟨b', o', hA, _, _, hc⟩ := h.at (by omega)
  simp only [Option.some.injEq, Addr.mk.injEq, and_true] at hA
  obtain ⟨rfl, rfl⟩ := hA
  obtain ⟨h1, h2, u, h3, h4⟩ := hc k x hx
  refine Sl.set h hk (setCell_size _ _ _) ⟨World.cell?_setCell_same _ _ _ h1, (cell_other (by omega)).trans h2, u, (cell_other (by omega)).trans h3, h4.same s⟩ fun j y hj hr => ?_
  obtain ⟨h1, h2, u, h3, h4⟩ := hr
  exact ⟨(cell_other (by omega)).trans h1, (cell_other (by omega)).trans h2, u, (cell_other (by omega)).trans h3, h4.same s⟩
end
end Go.Proofs.YtlpeiiejkpkpjaaDoor
