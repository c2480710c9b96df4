/-
  Worlds that are made anew: which memory they lie in; lists made anew (fresh). Conditions: lists are short.
-/
import Derived.Test.YtjdnedmhffakjaaDoorW2
namespace Go.Proofs.YtjdnedmhffakjaaDoor
open Go.RowKit

theorem Same.trans {ok : Nat → Prop} {a b c : World} (h : Same ok a b) (k : Same ok b c) : Same ok a c :=
  ⟨Nat.le_trans h.size k.size, fun d hd hl => (k.block d hd (Nat.lt_of_lt_of_le hl h.size)).trans (h.block d hd hl)⟩
theorem setCell_heap {w : World} {b i : Nat} {v : Value} {c : Array Value} {T : TypeId} (h : w.heap[b]? = some (.cells c T)) : (w.setCell ⟨b, i, none⟩ v).heap[b]? = some (.cells (c.setIfInBounds i v) T) := by
  simp [World.setCell, Array.getElem?_modify, h]
theorem setCell_same {w : World} {ok : Nat → Prop} {b o : Nat} {v : Value} (h : ∀ d, ok d → d ≠ b) : Same ok w (w.setCell ⟨b, o, none⟩ v) :=
  ⟨by simp [World.setCell], fun d hd _ => Below.heap_setCell _ _ _ _ (h d hd)⟩
theorem olds {W w1 : World} (hb : Below W.heap.size W w1) : (∀ b o, b < W.heap.size → w1.cell? ⟨b, o, none⟩ = W.cell? ⟨b, o, none⟩) ∧ (∀ b o, b < W.heap.size → w1.frozen? ⟨b, o, none⟩ = W.frozen? ⟨b, o, none⟩) ∧ (∀ b, b < W.heap.size → b < w1.heap.size) :=
  ⟨fun b o h => hb.cell (p := ⟨b, o, none⟩) h, fun b o h => hb.frozen (p := ⟨b, o, none⟩) h, fun _ h => Nat.lt_of_lt_of_le h hb.size⟩
theorem heap_cell {w : World} {b i : Nat} {c : Array Value} {T : TypeId} {v : Value} (h : w.heap[b]? = some (.cells c T)) (hi : c[i]? = some v) : w.cell? ⟨b, i, none⟩ = some v := by
  simp [World.cell?, h, hi]
theorem heap_frozen {w : World} {b i : Nat} {c : Array Value} {T : TypeId} (h : w.heap[b]? = some (.cells c T)) : w.frozen? ⟨b, i, none⟩ = false := by
  simp [World.frozen?, h]

/-- Locals in the row g; the registers of the j-th in blocks of which P j says yes. -/
structure LR (g : Nat) (P : Nat → Nat → Prop) (w : World) (l : List PLoc) : Prop where
  row : ∃ cs, w.heap[g]? = some (.cells cs 41)
  rd : ∀ (j : Nat) (x : PLoc), l[j]? = some x → (∃ v, w.cell? ⟨g, j * 5, none⟩ = some v ∧ Ints (P j) w v x.regs) ∧ w.cell? ⟨g, j * 5 + 1, none⟩ = some (.bool x.armed) ∧ w.cell? ⟨g, j * 5 + 2, none⟩ = some (.int .i64 x.down) ∧
    w.cell? ⟨g, j * 5 + 3, none⟩ = some (.int .i64 x.sent) ∧ w.cell? ⟨g, j * 5 + 4, none⟩ = some (.int .i64 x.over)
section
variable {g : Nat} {P P' : Nat → Nat → Prop} {w w' : World} {l : List PLoc}
theorem LR.lt (h : LR g P w l) : g < w.heap.size := by obtain ⟨cs, h⟩ := h.row; exact (Array.getElem?_eq_some_iff.1 h).1
theorem LR.frozen (h : LR g P w l) (o : Nat) : w.frozen? ⟨g, o, none⟩ = false := by obtain ⟨cs, h⟩ := h.row; exact heap_frozen h
theorem LR.same (h : LR g P w l) (hz : w.heap.size ≤ w'.heap.size) (hg : w'.heap[g]? = w.heap[g]?) (hs : ∀ j b, P j b → b < w.heap.size → w'.heap[b]? = w.heap[b]?) : LR g P w' l := by
  refine ⟨by rw [hg]; exact h.row, fun j x hx => ?_⟩
  have e : ∀ o, w'.cell? ⟨g, o, none⟩ = w.cell? ⟨g, o, none⟩ := fun o => World.cell?_of_block (w := w) hg
  obtain ⟨⟨v, h1, h2⟩, h3, h4, h5, h6⟩ := h.rd j x hx
  rw [e, e, e, e, e]
  exact ⟨⟨v, h1, h2.same ⟨hz, fun b hb hl => hs j b hb hl⟩⟩, h3, h4, h5, h6⟩
theorem LR.below (h : LR g P w l) (hb : Below w.heap.size w w') : LR g P w' l := h.same hb.size (hb.block g h.lt) fun _ b _ hl => hb.block b hl
theorem LR.weak (h : LR g P w l) (k : ∀ j b, P j b → P' j b) : LR g P' w l := ⟨h.row, fun j x hx => let ⟨⟨v, h1, h2⟩, h3⟩ := h.rd j x hx; ⟨⟨v, h1, h2.weak (k j)⟩, h3⟩⟩
theorem LR.ltP (h : LR g P w l) : LR g (fun j b => P j b ∧ b < w.heap.size) w l := ⟨h.row, fun j x hx => let ⟨⟨v, h1, h2⟩, h3⟩ := h.rd j x hx; ⟨⟨v, h1, h2.lt⟩, h3⟩⟩
theorem LR.locs {inn : Nat → Prop} {c : Nat} (h : LR g P w l) (k : ∀ j b, P j b → inn b) (hc : l.length ≤ c) (hl : l.length ≤ 1000) : Locs (fun b => b = g) inn w (.slice (some ⟨g, 0, none⟩) l.length c) l :=
  ⟨_, c, rfl, by omega, hc, Or.inr ⟨g, 0, rfl, rfl, h.lt, fun j x hx => by
    obtain ⟨⟨v, h1, h2⟩, h3, h4, h5, h6⟩ := h.rd j x hx
    rw [Nat.zero_add]
    exact ⟨⟨v, h1, h2.weak (k j)⟩, h3, h4, h5, h6⟩⟩⟩
end
theorem cell_set_other {w : World} {b o o' : Nat} {v : Value} (h : o ≠ o') : (w.setCell ⟨b, o, none⟩ v).cell? ⟨b, o', none⟩ = w.cell? ⟨b, o', none⟩ :=
  World.cell?_setCell_other _ _ _ _ (fun e => h (by injection e))
theorem cell_set_here {w : World} {b o : Nat} {u v : Value} (h : w.cell? ⟨b, o, none⟩ = some u) : (w.setCell ⟨b, o, none⟩ v).cell? ⟨b, o, none⟩ = some v :=
  World.cell?_setCell_same _ _ _ h

theorem LR.put {g : Nat} {P P' : Nat → Nat → Prop} {w : World} {l : List PLoc} {j i off : Nat} {x x' : PLoc} {v : Value} (h : LR g P w l) (hx : l[j]? = some x) (ho : off = j * 5 + i) (hi : i < 5) (hP : ∀ k b, P k b → b ≠ g) (hQ : ∀ b, P' j b → b ≠ g) (hk : ∀ k, k ≠ j → ∀ b, P k b → P' k b)
    (h0 : (i = 0 ∧ Ints (P' j) w v x'.regs) ∨ (i ≠ 0 ∧ x'.regs = x.regs ∧ ∀ b, P j b → P' j b)) (h1 : (i = 1 ∧ v = .bool x'.armed) ∨ (i ≠ 1 ∧ x'.armed = x.armed)) (h2 : (i = 2 ∧ v = .int .i64 x'.down) ∨ (i ≠ 2 ∧ x'.down = x.down))
    (h3 : (i = 3 ∧ v = .int .i64 x'.sent) ∨ (i ≠ 3 ∧ x'.sent = x.sent)) (h4 : (i = 4 ∧ v = .int .i64 x'.over) ∨ (i ≠ 4 ∧ x'.over = x.over)) :
    LR g P' (w.setCell ⟨g, off, none⟩ v) (l.set j x') := by
  subst ho
  obtain ⟨cs, hr⟩ := h.row
  refine ⟨⟨_, setCell_heap hr⟩, fun k y hy => ?_⟩
  have hj := (List.getElem?_eq_some_iff.1 hx).1
  by_cases e : k = j
  · subst e
    rw [List.getElem?_set_self hj] at hy
    cases hy
    obtain ⟨⟨u, r0, r0'⟩, r1, r2, r3, r4⟩ := h.rd k x hx
    refine ⟨?_, ?_, ?_, ?_, ?_⟩
    · rcases h0 with ⟨rfl, h0⟩ | ⟨n0, e0, hp⟩
      · exact ⟨v, by rw [Nat.add_zero]; exact cell_set_here r0, h0.same (setCell_same hQ)⟩
      · refine ⟨u, by rw [cell_set_other (by omega)]; exact r0, ?_⟩
        rw [e0]
        exact (r0'.weak hp).same (setCell_same hQ)
    · rcases h1 with ⟨rfl, rfl⟩ | ⟨n0, e0⟩
      · exact cell_set_here r1
      · rw [cell_set_other (by omega), e0]; exact r1
    · rcases h2 with ⟨rfl, rfl⟩ | ⟨n0, e0⟩
      · exact cell_set_here r2
      · rw [cell_set_other (by omega), e0]; exact r2
    · rcases h3 with ⟨rfl, rfl⟩ | ⟨n0, e0⟩
      · exact cell_set_here r3
      · rw [cell_set_other (by omega), e0]; exact r3
    · rcases h4 with ⟨rfl, rfl⟩ | ⟨n0, e0⟩
      · exact cell_set_here r4
      · rw [cell_set_other (by omega), e0]; exact r4
  · rw [List.getElem?_set_ne (fun h => e h.symm)] at hy
    obtain ⟨⟨u, r0, r0'⟩, r1, r2, r3, r4⟩ := h.rd k y hy
    refine ⟨⟨u, ?_, (r0'.same (setCell_same (hP k))).weak (hk k e)⟩, ?_, ?_, ?_, ?_⟩ <;> rw [cell_set_other (by omega)] <;> assumption
theorem set_self {α : Type} {l : List α} {j : Nat} {x : α} (h : l[j]? = some x) : l.set j x = l := by
  apply List.ext_getElem?
  intro i
  by_cases e : j = i
  · subst e; rw [List.getElem?_set_self (List.getElem?_eq_some_iff.1 h).1, h]
  · rw [List.getElem?_set_ne e]

/-! ### Lists made anew -/
set_option maxHeartbeats 400000 in
theorem freshI_any (ok : Nat → Prop) (w : World) (v : Value) (l : List Int) (h : Ints ok w v l) (hl : l.length ≤ 1000) :
    Calls Tryd.prog 18 #[v] w fun e w' => ∃ A' c', e = .returned (.slice A' l.length c') ∧ Ints (fun b => w.heap.size ≤ b) w' (.slice A' l.length c') l ∧ Below w.heap.size w w' := by
  obtain ⟨A, c, rfl, _⟩ := h.form
  obtain ⟨A', c', w', hrun, hi, hb⟩ := fresh_ints ok w A c l h hl
  have HR := hid_mk hrun
  clear hrun
  go_enter Tryd.func18, Tryd.ntmps18
  go_wp2_with (at_builtin; refine wpList_append_run rfl _ _ 39 rfl _ _ _ _ rfl rfl HR.out ?_)
  go_ret
  exact ⟨A', c', rfl, hi, hb⟩
theorem infoL : (Tryd.prog.info? 41).map (fun i => (i.zero.isSome, i.size, i.bytes)) = some (true, 5, 56) := by kernel_rfl
/-- Locals made anew, their registers where they were. -/
def LF (N : Nat) (inn : Nat → Prop) (w : World) (u : Value) (l : List PLoc) : Prop :=
  ∃ A c, u = .slice A l.length c ∧ l.length ≤ c ∧ ((l = [] ∧ A = none) ∨ ∃ g, A = some ⟨g, 0, none⟩ ∧ N ≤ g ∧ LR g (fun _ => inn) w l)
theorem LF.below {N : Nat} {inn : Nat → Prop} {w w' : World} {u : Value} {l : List PLoc} (h : LF N inn w u l) (hb : Below w.heap.size w w') : LF N inn w' u l := by
  obtain ⟨A, c, h1, h2, h3⟩ := h
  exact ⟨A, c, h1, h2, h3.imp id fun ⟨g, e, hg, hr⟩ => ⟨g, e, hg, hr.below hb⟩⟩
theorem five {k j : Nat} (h : j < 5) {n : Nat} (hk : k < n) : k * 5 + j < n * 5 := by omega
set_option maxHeartbeats 400000 in
theorem freshL_any (ok inn : Nat → Prop) (w : World) (v : Value) (l : List PLoc) (h : Locs ok inn w v l) (hl : l.length ≤ 1000) :
    Calls Tryd.prog 22 #[v] w fun e w' => ∃ u, e = .returned u ∧ LF w.heap.size inn w' u l ∧ Below w.heap.size w w' := by
  obtain ⟨A, c, rfl, _⟩ := h.form
  obtain ⟨i0, hi0, hq⟩ := Option.map_eq_some_iff.1 infoL
  simp only [Prod.mk.injEq] at hq
  obtain ⟨hz0, hz1, hz2⟩ := hq
  obtain ⟨z, hz⟩ := Option.isSome_iff_exists.1 hz0
  have hth : There w A l.length 5 := by
    by_cases h0 : l.length = 0
    · exact Or.inl h0
    · obtain ⟨b, o, rfl, _, hlt, hc⟩ := h.at (by omega)
      refine Or.inr ⟨b, o, rfl, fun j hj => ?_⟩
      obtain ⟨x, hx⟩ := at_lt (l := l) (k := j / 5) (by omega)
      obtain ⟨⟨u, r0, _⟩, r1, r2, r3, r4⟩ := hc (j / 5) x hx
      have e : j = j / 5 * 5 + j % 5 := by omega
      rcases (by omega : j % 5 = 0 ∨ j % 5 = 1 ∨ j % 5 = 2 ∨ j % 5 = 3 ∨ j % 5 = 4) with m | m | m | m | m
      · rw [show o + j = o + j / 5 * 5 by omega, r0]; rfl
      · rw [show o + j = o + j / 5 * 5 + 1 by omega, r1]; rfl
      · rw [show o + j = o + j / 5 * 5 + 2 by omega, r2]; rfl
      · rw [show o + j = o + j / 5 * 5 + 3 by omega, r3]; rfl
      · rw [show o + j = o + j / 5 * 5 + 4 by omega, r4]; rfl
  obtain ⟨A', c', w', hrun, hcl, hcc⟩ := run_fresh (P := Tryd.prog) w 29 41 i0 z Tryd.underlying29 hi0 hz A l.length c (by rw [hz1]; exact hth) hl (by omega)
  rw [hz1] at hcl
  have HR := hid_mk hrun
  have HI : Hid (LF w.heap.size inn w' (.slice A' l.length c') l ∧ Below w.heap.size w w') := by
    show _ ∧ _
    rcases hcl with ⟨h0, rfl, rfl⟩ | ⟨h0, b, o, cs, rfl, rfl, rfl, hcs⟩
    · exact ⟨⟨_, _, rfl, hcc, Or.inl ⟨List.length_eq_zero_iff.1 h0, rfl⟩⟩, bRefl _⟩
    · obtain ⟨b', o', e, _, hlt, hc⟩ := h.at (by omega)
      cases e
      have hN : (w.drew.alloc (.cells cs 41)).heap[w.heap.size]? = some (.cells cs 41) := heap_new2 (w := w.drew) rfl
      have hB : Below w.heap.size w (w.drew.alloc (.cells cs 41)) := bAlloc (bRefl w).drew _
      refine ⟨⟨_, _, rfl, hcc, Or.inr ⟨_, rfl, Nat.le_refl _, ⟨⟨cs, hN⟩, fun j x hx => ?_⟩⟩⟩, hB⟩
      have hj := (List.getElem?_eq_some_iff.1 hx).1
      obtain ⟨⟨u, r0, r0'⟩, r1, r2, r3, r4⟩ := hc j x hx
      have ec : ∀ i, i < 5 → (w.drew.alloc (.cells cs 41)).cell? ⟨w.heap.size, j * 5 + i, none⟩ = w.cell? ⟨b, o + j * 5 + i, none⟩ := fun i hi => by
        rw [cell_of_row _ _ _ _ _ _ hN, hcs _ (five hi hj), Nat.add_assoc]
      refine ⟨⟨u, (ec 0 (by omega)).trans r0, r0'.below hB⟩, (ec 1 (by omega)).trans r1, (ec 2 (by omega)).trans r2, (ec 3 (by omega)).trans r3, (ec 4 (by omega)).trans r4⟩
  clear hrun hcl
  go_enter Tryd.func22, Tryd.ntmps22
  go_wp2_with (at_builtin; refine wpList_append_run rfl _ _ 29 rfl _ _ _ _ rfl rfl HR.out ?_)
  go_ret
  exact ⟨_, rfl, HI.out.1, HI.out.2⟩

/-- A world's value made anew: its locals in new memory (N) outside of lo .. hi, its messages within. -/
def Qa (N lo hi : Nat) : Nat → Prop := fun b => N ≤ b ∧ ¬ (lo ≤ b ∧ b < hi)
def Qm (lo hi : Nat) (m : Value) : Nat → Prop := fun b => (lo ≤ b ∧ b < hi) ∧ m.ownBlock = some b
def Qi (lo hi : Nat) (m : Value) : Nat → Prop := fun b => (lo ≤ b ∧ b < hi) ∧ m.ownBlock ≠ some b
def LV (Q : Nat → Prop) (w : World) (u : Value) (l : List PLoc) : Prop :=
  ∃ A c, u = .slice A l.length c ∧ l.length ≤ c ∧ ((l = [] ∧ A = none) ∨ ∃ g, A = some ⟨g, 0, none⟩ ∧ Q g ∧ LR g (fun _ b => Q b ∧ b ≠ g) w l)
structure WN (N lo hi : Nat) (w : World) (a m : Value) (x : PWld) : Prop where
  acts : LV (Qa N lo hi) w a x.acts
  mail : Msgs (Qm lo hi m) (Qi lo hi m) w m x.mail
  le : N ≤ lo
  hi : hi ≤ w.heap.size
/-- Worlds that are not too great. -/
structure SmW (x : PWld) : Prop where
  n : x.acts.length ≤ 100
  regs : ∀ a ∈ x.acts, a.regs.length ≤ 1000
  mail : x.mail.length ≤ 500
  args : ∀ m ∈ x.mail, m.nt.args.length ≤ 1000
section
variable {N lo hi : Nat} {w w' : World} {a m u : Value} {x : PWld} {l : List PLoc} {Q : Nat → Prop}
theorem LV.below (h : LV Q w u l) (hb : Below w.heap.size w w') : LV Q w' u l := by
  obtain ⟨A, c, h1, h2, h3⟩ := h
  exact ⟨A, c, h1, h2, h3.imp id fun ⟨g, e, hg, hr⟩ => ⟨g, e, hg, hr.below hb⟩⟩
theorem LV.locs (h : LV Q w u l) (hl : l.length ≤ 1000) : Locs Q Q w u l := by
  obtain ⟨A, c, rfl, h2, h3⟩ := h
  rcases h3 with ⟨rfl, rfl⟩ | ⟨g, rfl, hg, hr⟩
  · exact ⟨_, _, rfl, by simp, h2, Or.inl rfl⟩
  · exact (hr.locs (fun _ b hb => hb.1) h2 hl).weak (fun b e => by rw [e]; exact hg) (fun _ h => h)
theorem LV.form (h : LV Q w u l) : ∃ A c, u = .slice A l.length c := let ⟨A, c, h1, _⟩ := h; ⟨A, c, h1⟩
theorem WN.below (h : WN N lo hi w a m x) (hb : Below w.heap.size w w') : WN N lo hi w' a m x := ⟨h.acts.below hb, h.mail.below hb, h.le, Nat.le_trans h.hi hb.size⟩
theorem WN.wld (h : WN N lo hi w a m x) (hs : SmW x) : WldV w (wVal x.used a m) x := ⟨a, m, rfl, (h.acts.locs (by have := hs.n; omega)).any2, h.mail.any2⟩
end
end Go.Proofs.YtjdnedmhffakjaaDoor
