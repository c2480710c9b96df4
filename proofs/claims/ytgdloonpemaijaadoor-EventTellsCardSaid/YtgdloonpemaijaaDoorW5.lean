/-
  Worlds that are made anew: which memory they lie in; lists made anew (fresh); towards world.Copy. Conditions: lists are short.
-/
import Derived.Test.YtgdloonpemaijaaDoorW2
import Derived.Deep.RegionWith
import Derived.Deep.DeepCutAuto
namespace Go.Proofs.YtgdloonpemaijaaDoor
open Go.RowKit

theorem Same.trans {ok : Nat → Prop} {a b c : World} (h : Same ok a b) (k : Same ok b c) : Same ok a c :=
  ⟨Nat.le_trans h.size k.size, fun d hd hl => (k.block d hd (Nat.lt_of_lt_of_le hl h.size)).trans (h.block d hd hl)⟩
theorem setCell_heap {w : World} {b i : Nat} {v : Value} {c : Array Value} {T : TypeId} (h : w.heap[b]? = some (.cells c T)) : (w.setCell ⟨b, i, none⟩ v).heap[b]? = some (.cells (c.setIfInBounds i v) T) := by
  simp [World.setCell, Array.getElem?_modify, h]
theorem setCell_same {w : World} {ok : Nat → Prop} {b o : Nat} {v : Value} (h : ∀ d, ok d → d ≠ b) : Same ok w (w.setCell ⟨b, o, none⟩ v) :=
  ⟨by simp [World.setCell], fun d hd _ => Below.heap_setCell _ _ _ _ (h d hd)⟩
theorem olds {W w1 : World} (hb : Below W.heap.size W w1) : (∀ b o, b < W.heap.size → w1.cell? ⟨b, o, none⟩ = W.cell? ⟨b, o, none⟩) ∧ (∀ b o, b < W.heap.size → w1.frozen? ⟨b, o, none⟩ = W.frozen? ⟨b, o, none⟩) ∧ (∀ b, b < W.heap.size → b < w1.heap.size) :=
  ⟨fun b o h => hb.cell (p := ⟨b, o, none⟩) h, fun b o h => hb.frozen (p := ⟨b, o, none⟩) h, fun _ h => Nat.lt_of_lt_of_le h hb.size⟩
theorem heap_cell {w : World} {b i : Nat} {c : Array Value} {T : TypeId} {v : Value} (h : w.heap[b]? = some (.cells c T)) (hi : c[i]? = some v) : w.cell? ⟨b, i, none⟩ = some v := by
  simp [World.cell?, h, hi]
theorem heap_frozen {w : World} {b i : Nat} {c : Array Value} {T : TypeId} (h : w.heap[b]? = some (.cells c T)) : w.frozen? ⟨b, i, none⟩ = false := by
  simp [World.frozen?, h]

/-- Locals in the row g; the registers of the j-th in blocks of which P j says yes. -/
structure LR (g : Nat) (P : Nat → Nat → Prop) (w : World) (l : List PLoc) : Prop where
  row : ∃ cs, w.heap[g]? = some (.cells cs 29)
  rd : ∀ (j : Nat) (x : PLoc), l[j]? = some x → (∃ v, w.cell? ⟨g, j * 5, none⟩ = some v ∧ Ints (P j) w v x.regs) ∧ w.cell? ⟨g, j * 5 + 1, none⟩ = some (.bool x.armed) ∧ w.cell? ⟨g, j * 5 + 2, none⟩ = some (.int .i64 x.down) ∧
    w.cell? ⟨g, j * 5 + 3, none⟩ = some (.int .i64 x.sent) ∧ w.cell? ⟨g, j * 5 + 4, none⟩ = some (.int .i64 x.over)
section
variable {g : Nat} {P P' : Nat → Nat → Prop} {w w' : World} {l : List PLoc}
theorem LR.lt (h : LR g P w l) : g < w.heap.size := by obtain ⟨cs, h⟩ := h.row; exact (Array.getElem?_eq_some_iff.1 h).1
theorem LR.frozen (h : LR g P w l) (o : Nat) : w.frozen? ⟨g, o, none⟩ = false := by obtain ⟨cs, h⟩ := h.row; exact heap_frozen h
theorem LR.same (h : LR g P w l) (hz : w.heap.size ≤ w'.heap.size) (hg : w'.heap[g]? = w.heap[g]?) (hs : ∀ j b, P j b → b < w.heap.size → w'.heap[b]? = w.heap[b]?) : LR g P w' l := by
  refine ⟨by rw [hg]; exact h.row, fun j x hx => ?_⟩
  have e : ∀ o, w'.cell? ⟨g, o, none⟩ = w.cell? ⟨g, o, none⟩ := fun o => World.cell?_of_block (w := w) hg
  obtain ⟨⟨v, h1, h2⟩, h3, h4, h5, h6⟩ := h.rd j x hx
  rw [e, e, e, e, e]
  exact ⟨⟨v, h1, h2.same ⟨hz, fun b hb hl => hs j b hb hl⟩⟩, h3, h4, h5, h6⟩
theorem LR.below (h : LR g P w l) (hb : Below w.heap.size w w') : LR g P w' l := h.same hb.size (hb.block g h.lt) fun _ b _ hl => hb.block b hl
theorem LR.weak (h : LR g P w l) (k : ∀ j b, P j b → P' j b) : LR g P' w l := ⟨h.row, fun j x hx => let ⟨⟨v, h1, h2⟩, h3⟩ := h.rd j x hx; ⟨⟨v, h1, h2.weak (k j)⟩, h3⟩⟩
theorem LR.ltP (h : LR g P w l) : LR g (fun j b => P j b ∧ b < w.heap.size) w l := ⟨h.row, fun j x hx => let ⟨⟨v, h1, h2⟩, h3⟩ := h.rd j x hx; ⟨⟨v, h1, h2.lt⟩, h3⟩⟩
theorem LR.locs {inn : Nat → Prop} {c : Nat} (h : LR g P w l) (k : ∀ j b, P j b → inn b) (hc : l.length ≤ c) (hl : l.length ≤ 1000) : Locs (fun b => b = g) inn w (.slice (some ⟨g, 0, none⟩) l.length c) l :=
  ⟨_, c, rfl, by omega, hc, Or.inr ⟨g, 0, rfl, rfl, h.lt, fun j x hx => by
    obtain ⟨⟨v, h1, h2⟩, h3, h4, h5, h6⟩ := h.rd j x hx
    rw [Nat.zero_add]
    exact ⟨⟨v, h1, h2.weak (k j)⟩, h3, h4, h5, h6⟩⟩⟩
end
theorem cell_set_other {w : World} {b o o' : Nat} {v : Value} (h : o ≠ o') : (w.setCell ⟨b, o, none⟩ v).cell? ⟨b, o', none⟩ = w.cell? ⟨b, o', none⟩ :=
  World.cell?_setCell_other _ _ _ _ (fun e => h (by injection e))
theorem cell_set_here {w : World} {b o : Nat} {u v : Value} (h : w.cell? ⟨b, o, none⟩ = some u) : (w.setCell ⟨b, o, none⟩ v).cell? ⟨b, o, none⟩ = some v :=
  World.cell?_setCell_same _ _ _ h

theorem LR.put {g : Nat} {P P' : Nat → Nat → Prop} {w : World} {l : List PLoc} {j i off : Nat} {x x' : PLoc} {v : Value} (h : LR g P w l) (hx : l[j]? = some x) (ho : off = j * 5 + i) (hi : i < 5) (hP : ∀ k b, P k b → b ≠ g) (hQ : ∀ b, P' j b → b ≠ g) (hk : ∀ k, k ≠ j → ∀ b, P k b → P' k b)
    (h0 : (i = 0 ∧ Ints (P' j) w v x'.regs) ∨ (i ≠ 0 ∧ x'.regs = x.regs ∧ ∀ b, P j b → P' j b)) (h1 : (i = 1 ∧ v = .bool x'.armed) ∨ (i ≠ 1 ∧ x'.armed = x.armed)) (h2 : (i = 2 ∧ v = .int .i64 x'.down) ∨ (i ≠ 2 ∧ x'.down = x.down))
    (h3 : (i = 3 ∧ v = .int .i64 x'.sent) ∨ (i ≠ 3 ∧ x'.sent = x.sent)) (h4 : (i = 4 ∧ v = .int .i64 x'.over) ∨ (i ≠ 4 ∧ x'.over = x.over)) :
    LR g P' (w.setCell ⟨g, off, none⟩ v) (l.set j x') := by
  subst ho
  obtain ⟨cs, hr⟩ := h.row
  refine ⟨⟨_, setCell_heap hr⟩, fun k y hy => ?_⟩
  have hj := (List.getElem?_eq_some_iff.1 hx).1
  by_cases e : k = j
  · subst e
    rw [List.getElem?_set_self hj] at hy
    cases hy
    obtain ⟨⟨u, r0, r0'⟩, r1, r2, r3, r4⟩ := h.rd k x hx
    refine ⟨?_, ?_, ?_, ?_, ?_⟩
    · rcases h0 with ⟨rfl, h0⟩ | ⟨n0, e0, hp⟩
      · exact ⟨v, by rw [Nat.add_zero]; exact cell_set_here r0, h0.same (setCell_same hQ)⟩
      · refine ⟨u, by rw [cell_set_other (by omega)]; exact r0, ?_⟩
        rw [e0]
        exact (r0'.weak hp).same (setCell_same hQ)
    · rcases h1 with ⟨rfl, rfl⟩ | ⟨n0, e0⟩
      · exact cell_set_here r1
      · rw [cell_set_other (by omega), e0]; exact r1
    · rcases h2 with ⟨rfl, rfl⟩ | ⟨n0, e0⟩
      · exact cell_set_here r2
      · rw [cell_set_other (by omega), e0]; exact r2
    · rcases h3 with ⟨rfl, rfl⟩ | ⟨n0, e0⟩
      · exact cell_set_here r3
      · rw [cell_set_other (by omega), e0]; exact r3
    · rcases h4 with ⟨rfl, rfl⟩ | ⟨n0, e0⟩
      · exact cell_set_here r4
      · rw [cell_set_other (by omega), e0]; exact r4
  · rw [List.getElem?_set_ne (fun h => e h.symm)] at hy
    obtain ⟨⟨u, r0, r0'⟩, r1, r2, r3, r4⟩ := h.rd k y hy
    refine ⟨⟨u, ?_, (r0'.same (setCell_same (hP k))).weak (hk k e)⟩, ?_, ?_, ?_, ?_⟩ <;> rw [cell_set_other (by omega)] <;> assumption
theorem set_self {α : Type} {l : List α} {j : Nat} {x : α} (h : l[j]? = some x) : l.set j x = l := by
  apply List.ext_getElem?
  intro i
  by_cases e : j = i
  · subst e; rw [List.getElem?_set_self (List.getElem?_eq_some_iff.1 h).1, h]
  · rw [List.getElem?_set_ne e]

/-! ### Lists made anew -/
set_option maxHeartbeats 400000 in
theorem freshI_any (ok : Nat → Prop) (w : World) (v : Value) (l : List Int) (h : Ints ok w v l) (hl : l.length ≤ 1000) :
    Calls Tryd.prog 54 #[v] w fun e w' => ∃ A' c', e = .returned (.slice A' l.length c') ∧ Ints (fun b => w.heap.size ≤ b) w' (.slice A' l.length c') l ∧ Below w.heap.size w w' := by
  obtain ⟨A, c, rfl, _⟩ := h.form
  obtain ⟨A', c', w', hrun, hi, hb⟩ := fresh_ints ok w A c l h hl
  have HR := hid_mk hrun
  clear hrun
  go_enter Tryd.func54, Tryd.ntmps54
  go_wp2_with (at_builtin; refine wpList_append_run rfl _ _ 27 rfl _ _ _ _ rfl rfl HR.out ?_)
  go_ret
  exact ⟨A', c', rfl, hi, hb⟩
theorem infoL : (Tryd.prog.info? 29).map (fun i => (i.zero.isSome, i.size, i.bytes)) = some (true, 5, 56) := by kernel_rfl
/-- Locals made anew, their registers where they were. -/
def LF (N : Nat) (inn : Nat → Prop) (w : World) (u : Value) (l : List PLoc) : Prop :=
  ∃ A c, u = .slice A l.length c ∧ l.length ≤ c ∧ ((l = [] ∧ A = none) ∨ ∃ g, A = some ⟨g, 0, none⟩ ∧ N ≤ g ∧ LR g (fun _ => inn) w l)
theorem LF.below {N : Nat} {inn : Nat → Prop} {w w' : World} {u : Value} {l : List PLoc} (h : LF N inn w u l) (hb : Below w.heap.size w w') : LF N inn w' u l := by
  obtain ⟨A, c, h1, h2, h3⟩ := h
  exact ⟨A, c, h1, h2, h3.imp id fun ⟨g, e, hg, hr⟩ => ⟨g, e, hg, hr.below hb⟩⟩
theorem five {k j : Nat} (h : j < 5) {n : Nat} (hk : k < n) : k * 5 + j < n * 5 := by omega
set_option maxHeartbeats 400000 in
theorem freshL_any (ok inn : Nat → Prop) (w : World) (v : Value) (l : List PLoc) (h : Locs ok inn w v l) (hl : l.length ≤ 1000) :
    Calls Tryd.prog 59 #[v] w fun e w' => ∃ u, e = .returned u ∧ LF w.heap.size inn w' u l ∧ Below w.heap.size w w' := by
  obtain ⟨A, c, rfl, _⟩ := h.form
  obtain ⟨i0, hi0, hq⟩ := Option.map_eq_some_iff.1 infoL
  simp only [Prod.mk.injEq] at hq
  obtain ⟨hz0, hz1, hz2⟩ := hq
  obtain ⟨z, hz⟩ := Option.isSome_iff_exists.1 hz0
  have hth : There w A l.length 5 := by
    by_cases h0 : l.length = 0
    · exact Or.inl h0
    · obtain ⟨b, o, rfl, _, hlt, hc⟩ := h.at (by omega)
      refine Or.inr ⟨b, o, rfl, fun j hj => ?_⟩
      obtain ⟨x, hx⟩ := at_lt (l := l) (k := j / 5) (by omega)
      obtain ⟨⟨u, r0, _⟩, r1, r2, r3, r4⟩ := hc (j / 5) x hx
      have e : j = j / 5 * 5 + j % 5 := by omega
      rcases (by omega : j % 5 = 0 ∨ j % 5 = 1 ∨ j % 5 = 2 ∨ j % 5 = 3 ∨ j % 5 = 4) with m | m | m | m | m
      · rw [show o + j = o + j / 5 * 5 by omega, r0]; rfl
      · rw [show o + j = o + j / 5 * 5 + 1 by omega, r1]; rfl
      · rw [show o + j = o + j / 5 * 5 + 2 by omega, r2]; rfl
      · rw [show o + j = o + j / 5 * 5 + 3 by omega, r3]; rfl
      · rw [show o + j = o + j / 5 * 5 + 4 by omega, r4]; rfl
  obtain ⟨A', c', w', hrun, hcl, hcc⟩ := run_fresh (P := Tryd.prog) w 39 29 i0 z Tryd.underlying39 hi0 hz A l.length c (by rw [hz1]; exact hth) hl (by omega)
  rw [hz1] at hcl
  have HR := hid_mk hrun
  have HI : Hid (LF w.heap.size inn w' (.slice A' l.length c') l ∧ Below w.heap.size w w') := by
    show _ ∧ _
    rcases hcl with ⟨h0, rfl, rfl⟩ | ⟨h0, b, o, cs, rfl, rfl, rfl, hcs⟩
    · exact ⟨⟨_, _, rfl, hcc, Or.inl ⟨List.length_eq_zero_iff.1 h0, rfl⟩⟩, bRefl _⟩
    · obtain ⟨b', o', e, _, hlt, hc⟩ := h.at (by omega)
      cases e
      have hN : (w.drew.alloc (.cells cs 29)).heap[w.heap.size]? = some (.cells cs 29) := heap_new2 (w := w.drew) rfl
      have hB : Below w.heap.size w (w.drew.alloc (.cells cs 29)) := bAlloc (bRefl w).drew _
      refine ⟨⟨_, _, rfl, hcc, Or.inr ⟨_, rfl, Nat.le_refl _, ⟨⟨cs, hN⟩, fun j x hx => ?_⟩⟩⟩, hB⟩
      have hj := (List.getElem?_eq_some_iff.1 hx).1
      obtain ⟨⟨u, r0, r0'⟩, r1, r2, r3, r4⟩ := hc j x hx
      have ec : ∀ i, i < 5 → (w.drew.alloc (.cells cs 29)).cell? ⟨w.heap.size, j * 5 + i, none⟩ = w.cell? ⟨b, o + j * 5 + i, none⟩ := fun i hi => by
        rw [cell_of_row _ _ _ _ _ _ hN, hcs _ (five hi hj), Nat.add_assoc]
      refine ⟨⟨u, (ec 0 (by omega)).trans r0, r0'.below hB⟩, (ec 1 (by omega)).trans r1, (ec 2 (by omega)).trans r2, (ec 3 (by omega)).trans r3, (ec 4 (by omega)).trans r4⟩
  clear hrun hcl
  go_enter Tryd.func59, Tryd.ntmps59
  go_wp2_with (at_builtin; refine wpList_append_run rfl _ _ 39 rfl _ _ _ _ rfl rfl HR.out ?_)
  go_ret
  exact ⟨_, rfl, HI.out.1, HI.out.2⟩

/-- A world's value made anew: its locals in new memory (N) outside of lo .. hi, its messages within. -/
def Qa (N lo hi : Nat) : Nat → Prop := fun b => N ≤ b ∧ ¬ (lo ≤ b ∧ b < hi)
def Qm (lo hi : Nat) (m : Value) : Nat → Prop := fun b => (lo ≤ b ∧ b < hi) ∧ m.ownBlock = some b
def Qi (lo hi : Nat) (m : Value) : Nat → Prop := fun b => (lo ≤ b ∧ b < hi) ∧ m.ownBlock ≠ some b
def LV (Q : Nat → Prop) (w : World) (u : Value) (l : List PLoc) : Prop :=
  ∃ A c, u = .slice A l.length c ∧ l.length ≤ c ∧ ((l = [] ∧ A = none) ∨ ∃ g, A = some ⟨g, 0, none⟩ ∧ Q g ∧ LR g (fun _ b => Q b ∧ b ≠ g) w l)
structure WN (N lo hi : Nat) (w : World) (a m : Value) (x : PWld) : Prop where
  acts : LV (Qa N lo hi) w a x.acts
  mail : Msgs (Qm lo hi m) (Qi lo hi m) w m x.mail
  le : N ≤ lo
  hi : hi ≤ w.heap.size
/-- Worlds that are not too great. -/
structure SmW (x : PWld) : Prop where
  n : x.acts.length ≤ 100
  regs : ∀ a ∈ x.acts, a.regs.length ≤ 1000
  mail : x.mail.length ≤ 500
  args : ∀ m ∈ x.mail, m.nt.args.length ≤ 1000
section
variable {N lo hi : Nat} {w w' : World} {a m u : Value} {x : PWld} {l : List PLoc} {Q : Nat → Prop}
theorem LV.below (h : LV Q w u l) (hb : Below w.heap.size w w') : LV Q w' u l := by
  obtain ⟨A, c, h1, h2, h3⟩ := h
  exact ⟨A, c, h1, h2, h3.imp id fun ⟨g, e, hg, hr⟩ => ⟨g, e, hg, hr.below hb⟩⟩
theorem LV.locs (h : LV Q w u l) (hl : l.length ≤ 1000) : Locs Q Q w u l := by
  obtain ⟨A, c, rfl, h2, h3⟩ := h
  rcases h3 with ⟨rfl, rfl⟩ | ⟨g, rfl, hg, hr⟩
  · exact ⟨_, _, rfl, by simp, h2, Or.inl rfl⟩
  · exact (hr.locs (fun _ b hb => hb.1) h2 hl).weak (fun b e => by rw [e]; exact hg) (fun _ h => h)
theorem LV.form (h : LV Q w u l) : ∃ A c, u = .slice A l.length c := let ⟨A, c, h1, _⟩ := h; ⟨A, c, h1⟩
theorem WN.below (h : WN N lo hi w a m x) (hb : Below w.heap.size w w') : WN N lo hi w' a m x := ⟨h.acts.below hb, h.mail.below hb, h.le, Nat.le_trans h.hi hb.size⟩
theorem WN.wld (h : WN N lo hi w a m x) (hs : SmW x) : WldV w (wVal x.used a m) x := ⟨a, m, rfl, (h.acts.locs (by have := hs.n; omega)).any2, h.mail.any2⟩
end
theorem Msgs.ltAll {out inn : Nat → Prop} {w : World} {v : Value} {l : List PMsg} (h : Msgs out inn w v l) : Msgs (fun b => out b ∧ b < w.heap.size) (fun b => inn b ∧ b < w.heap.size) w v l :=
  h.lt.imp (fun _ h => h) (Nat.le_refl _) fun _ _ _ _ _ ⟨h1, h2, h3, h4, h5, c, h6, h7⟩ => ⟨h1, h2, h3, h4, h5, c, h6, h7.lt⟩
theorem Msgs.within {N : Nat} {w : World} {v : Value} {l : List PMsg} (h : Msgs (nO N v) (nI N v) w v l) : Msgs (Qm N w.heap.size v) (Qi N w.heap.size v) w v l :=
  h.ltAll.weak (fun _ h => ⟨⟨h.1.1, h.2⟩, h.1.2⟩) (fun _ h => ⟨⟨h.1.1, h.2⟩, h.1.2⟩)
theorem Locs.ltIn {out inn : Nat → Prop} {w : World} {v : Value} {l : List PLoc} (h : Locs out inn w v l) : Locs out (fun b => b < w.heap.size) w v l :=
  h.imp (fun _ h => h) (Nat.le_refl _) fun _ _ _ _ _ ⟨⟨c, h1, h2⟩, h3⟩ => ⟨⟨c, h1, Ints.weak h2.lt fun _ h => h.2⟩, h3⟩
abbrev zW : Obj := .cells #[.slice none 0 0, .slice none 0 0, .int .i64 0, .int .i64 0, .int .i64 0, .int .i64 0] 44
/-- Behind the first statement of Copy. -/
structure CW (w : World) (x : PWld) (bo lo hi : Nat) (a m : Value) (wc : World) : Prop where
  box : wc.heap[bo]? = some (.cells #[a, m, .int .i64 x.used.drop, .int .i64 x.used.dup, .int .i64 x.used.time, .int .i64 x.used.crash] 44)
  la : LF (w.heap.size + 2) (fun b => b < w.heap.size) wc a x.acts
  res : wc.heap[w.heap.size + 1]? = some zW
  lm : Msgs (Qm lo hi m) (Qi lo hi m) wc m x.mail
  own : ∀ g, a.ownBlock = some g → ¬ (lo ≤ g ∧ g < hi) ∧ g ≠ bo
  le : w.heap.size + 2 ≤ lo
  hi : hi ≤ wc.heap.size
  bo : w.heap.size + 2 ≤ bo
  low : Below w.heap.size w wc
theorem cw_mk {w w2 wc : World} {x : PWld} {bo lo hi N : Nat} {a m : Value} (la : LF N (fun b => b < w.heap.size) w2 a x.acts) (hN : w.heap.size + 2 ≤ N) (res : w2.heap[w.heap.size + 1]? = some zW) (lm : Msgs (Qm lo hi m) (Qi lo hi m) w2 m x.mail) (hS : Same (fun d => d ≠ bo) w2 wc)
    (box : wc.heap[bo]? = some (.cells #[a, m, .int .i64 x.used.drop, .int .i64 x.used.dup, .int .i64 x.used.time, .int .i64 x.used.crash] 44))
    (le : w.heap.size + 2 ≤ lo) (hhi : hi ≤ w2.heap.size) (hbo : w.heap.size + 2 ≤ bo) (hbm : ¬ (lo ≤ bo ∧ bo < hi)) (own : ∀ g, a.ownBlock = some g → ¬ (lo ≤ g ∧ g < hi) ∧ g ≠ bo) (low : Below w.heap.size w wc) : CW w x bo lo hi a m wc := by
  refine ⟨box, ?_, (hS.block _ (by omega) (Array.getElem?_eq_some_iff.1 res).1).trans res, lm.same (hS.weak ?_) (hS.weak ?_), own, le, Nat.le_trans hhi hS.size, hbo, low⟩
  · obtain ⟨A, c, rfl, h2, h3⟩ := la
    refine ⟨A, c, rfl, h2, h3.imp id fun ⟨g, e, hg, hr⟩ => ⟨g, e, Nat.le_trans hN hg, hr.same hS.size (hS.block g ?_ hr.lt) fun _ b hb hl => hS.block b ?_ hl⟩⟩
    · subst e; exact (own g rfl).2
    · show b ≠ bo; omega
  · rintro b ⟨h, _⟩ rfl; exact hbm h
  · rintro b ⟨h, _⟩ rfl; exact hbm h
/-- A struct of six cells, stored. -/
abbrev put6 (w : World) (b : Nat) (a0 a1 a2 a3 a4 a5 : Value) : World := (((((w.setCell ⟨b, 0, none⟩ a0).setCell ⟨b, 1, none⟩ a1).setCell ⟨b, 2, none⟩ a2).setCell ⟨b, 3, none⟩ a3).setCell ⟨b, 4, none⟩ a4).setCell ⟨b, 5, none⟩ a5
theorem put6_heap {w : World} {b : Nat} {a0 a1 a2 a3 a4 a5 z0 z1 z2 z3 z4 z5 : Value} {T : TypeId} (h : w.heap[b]? = some (.cells #[z0, z1, z2, z3, z4, z5] T)) : (put6 w b a0 a1 a2 a3 a4 a5).heap[b]? = some (.cells #[a0, a1, a2, a3, a4, a5] T) := by
  have h1 := setCell_heap (i := 0) (v := a0) h
  have h2 := setCell_heap (i := 1) (v := a1) h1
  have h3 := setCell_heap (i := 2) (v := a2) h2
  have h4 := setCell_heap (i := 3) (v := a3) h3
  have h5 := setCell_heap (i := 4) (v := a4) h4
  have h6 := setCell_heap (i := 5) (v := a5) h5
  exact h6.trans (by simp)
theorem put6_same {w : World} {b : Nat} {a0 a1 a2 a3 a4 a5 : Value} : Same (fun d => d ≠ b) w (put6 w b a0 a1 a2 a3 a4 a5) :=
  (((((setCell_same fun _ h => h).trans (setCell_same fun _ h => h)).trans (setCell_same fun _ h => h)).trans (setCell_same fun _ h => h)).trans (setCell_same fun _ h => h)).trans (setCell_same fun _ h => h)
theorem put6_below {B : Nat} {a w : World} {b : Nat} {a0 a1 a2 a3 a4 a5 : Value} (h : Below B a w) (hb : B ≤ b) : Below B a (put6 w b a0 a1 a2 a3 a4 a5) :=
  (((((h.setCell (p := ⟨b, 0, none⟩) hb _).setCell (p := ⟨b, 1, none⟩) hb _).setCell (p := ⟨b, 2, none⟩) hb _).setCell (p := ⟨b, 3, none⟩) hb _).setCell (p := ⟨b, 4, none⟩) hb _).setCell (p := ⟨b, 5, none⟩) hb _
theorem LF.own {N : Nat} {inn : Nat → Prop} {w : World} {u : Value} {l : List PLoc} (h : LF N inn w u l) {g : Nat} (e : u.ownBlock = some g) : N ≤ g ∧ g < w.heap.size := by
  obtain ⟨A, c, rfl, _, ⟨_, rfl⟩ | ⟨g', rfl, h1, h2⟩⟩ := h
  · cases e
  · cases e; exact ⟨h1, h2.lt⟩
section
variable {w w0 w1 w2 : World} {x : PWld} {a m : Value}
theorem way_a (h0 : Below w.heap.size w w0) (hr : w0.heap[w.heap.size + 1]? = some zW) (hs : w0.heap.size = w.heap.size + 2) (lf : LF w0.drew.heap.size (fun b => b < w.heap.size) w1 a x.acts) (hb1 : Below w0.drew.heap.size w0.drew w1) (hm : Msgs (Qm w1.heap.size w2.heap.size m) (Qi w1.heap.size w2.heap.size m) w2 m x.mail) (hb2 : Below w1.heap.size w1 w2) :
    CW w x w2.heap.size w1.heap.size w2.heap.size a m (w2.alloc (.cells #[a, m, .int .i64 x.used.drop, .int .i64 x.used.dup, .int .i64 x.used.time, .int .i64 x.used.crash] 44)) := by
  have z0 := h0.size
  have z1 := hb1.size
  have z2 := hb2.size
  change w0.heap.size ≤ _ at z1
  refine cw_mk (lf.below hb2) (by show _ ≤ w0.heap.size; omega) (boxAt (boxAt hr (undrew hb1)) hb2) hm (Same.all (bAlloc (bRefl _) _)) (heap_new _ _) (by omega) (Nat.le_refl _) (by omega) (by omega) (fun g e => ?_) (bAlloc (bTrans (bTrans h0.drew hb1) hb2) _)
  have := lf.own e
  omega
theorem way_b (h0 : Below w.heap.size w w0) (hr : w0.heap[w.heap.size + 1]? = some zW) (hs : w0.heap.size = w.heap.size + 2) (lf : LF w0.drew.heap.size (fun b => b < w.heap.size) w1 a x.acts) (hb1 : Below w0.drew.heap.size w0.drew w1) (hm : Msgs (Qm (w1.alloc zW).heap.size w2.heap.size m) (Qi (w1.alloc zW).heap.size w2.heap.size m) w2 m x.mail) (hb2 : Below (w1.alloc zW).heap.size (w1.alloc zW) w2) :
    CW w x w1.heap.size (w1.alloc zW).heap.size w2.heap.size a m (put6 w2 w1.heap.size a m (.int .i64 x.used.drop) (.int .i64 x.used.dup) (.int .i64 x.used.time) (.int .i64 x.used.crash)) := by
  have z0 := h0.size
  have z1 := hb1.size
  have z2 := hb2.size
  have z3 : (w1.alloc zW).heap.size = w1.heap.size + 1 := by simp
  change w0.heap.size ≤ _ at z1
  have hbox : w2.heap[w1.heap.size]? = some zW := (hb2.block _ (by omega)).trans (heap_new _ _)
  refine cw_mk (lf.below (bTrans (bAlloc (bRefl _) _) hb2)) (by show _ ≤ w0.heap.size; omega) (boxAt (boxAt hr (undrew hb1)) (bTrans (bAlloc (bRefl _) _) hb2)) hm put6_same (put6_heap hbox) (by omega) (Nat.le_refl _) (by omega) (by omega) (fun g e => ?_) (put6_below (bTrans (bAlloc (bTrans h0.drew hb1) _) hb2) (by omega))
  have := lf.own e
  omega
theorem way_c (h0 : Below w.heap.size w w0) (hr : w0.heap[w.heap.size + 1]? = some zW) (hs : w0.heap.size = w.heap.size + 2) (lf : LF (w0.alloc zW).drew.heap.size (fun b => b < w.heap.size) w1 a x.acts) (hb1 : Below (w0.alloc zW).drew.heap.size (w0.alloc zW).drew w1) (hm : Msgs (Qm w1.heap.size w2.heap.size m) (Qi w1.heap.size w2.heap.size m) w2 m x.mail) (hb2 : Below w1.heap.size w1 w2) :
    CW w x w0.heap.size w1.heap.size w2.heap.size a m (put6 w2 w0.heap.size a m (.int .i64 x.used.drop) (.int .i64 x.used.dup) (.int .i64 x.used.time) (.int .i64 x.used.crash)) := by
  have z0 := h0.size
  have z1 := hb1.size
  have z2 := hb2.size
  have z3 : (w0.alloc zW).drew.heap.size = w0.heap.size + 1 := by show (w0.alloc zW).heap.size = _; simp
  have hbox : w2.heap[w0.heap.size]? = some zW := (hb2.block _ (by omega)).trans ((hb1.block _ (by omega)).trans (heap_new w0 zW))
  refine cw_mk (lf.below hb2) (by omega) (boxAt (boxAt hr (bTrans (bAlloc (bRefl _) _) (undrew hb1))) hb2) hm put6_same (put6_heap hbox) (by omega) (Nat.le_refl _) (by omega) (by omega) (fun g e => ?_) (put6_below (bTrans (bTrans (bAlloc h0 _).drew hb1) hb2) (by omega))
  have := lf.own e
  omega
end
/-- Behind k rounds of Copy's loop. -/
structure CK (w : World) (x : PWld) (bo lo hi k : Nat) (A : Option Addr) (c : Nat) (m : Value) (wr : World) : Prop where
  box : wr.heap[bo]? = some (.cells #[.slice A x.acts.length c, m, .int .i64 x.used.drop, .int .i64 x.used.dup, .int .i64 x.used.time, .int .i64 x.used.crash] 44)
  len : x.acts.length ≤ c
  la : (x.acts = [] ∧ A = none) ∨ ∃ g, A = some ⟨g, 0, none⟩ ∧ Qa (w.heap.size + 2) lo hi g ∧ g ≠ bo ∧ LR g (fun j b => b ≠ g ∧ (j < k → Qa (w.heap.size + 2) lo hi b)) wr x.acts
  res : wr.heap[w.heap.size + 1]? = some zW
  lm : Msgs (Qm lo hi m) (Qi lo hi m) wr m x.mail
  le : w.heap.size + 2 ≤ lo
  hi : hi ≤ wr.heap.size
  bo : w.heap.size + 2 ≤ bo
  low : Below w.heap.size w wr
section
variable {w wr w1 : World} {x : PWld} {bo lo hi k c : Nat} {a m : Value} {A : Option Addr}
theorem CW.start (h : CW w x bo lo hi a m wr) : ∃ A c, a = .slice A x.acts.length c ∧ CK w x bo lo hi 0 A c m wr := by
  obtain ⟨A, c, rfl, h2, h3⟩ := h.la
  refine ⟨A, c, rfl, h.box, h2, h3.imp id fun ⟨g, e, hg, hr⟩ => ⟨g, e, ⟨hg, ?_⟩, ?_, hr.weak fun j b hb => ⟨by omega, fun hj => by omega⟩⟩, h.res, h.lm, h.le, h.hi, h.bo, h.low⟩
  · subst e; exact (h.own g rfl).1
  · subst e; exact (h.own g rfl).2
/-- A round: registers made anew (at w1), stored. -/
theorem CK.next {g d : Nat} {D : Option Addr} {y : PLoc} (h : CK w x bo lo hi k (some ⟨g, 0, none⟩) c m wr) (hy : x.acts[k]? = some y) (hi1 : Ints (fun b => wr.drew.heap.size ≤ b) w1 (.slice D y.regs.length d) y.regs) (hb : Below wr.drew.heap.size wr.drew w1) :
    CK w x bo lo hi (k + 1) (some ⟨g, 0, none⟩) c m (w1.setCell ⟨g, k * 5, none⟩ (.slice D y.regs.length d)) := by
  have hb' : Below wr.heap.size wr w1 := undrew hb
  obtain ⟨g', e, hg, hgb, hr⟩ : ∃ g', (some ⟨g, 0, none⟩ : Option Addr) = some ⟨g', 0, none⟩ ∧ Qa (w.heap.size + 2) lo hi g' ∧ g' ≠ bo ∧ LR g' (fun j b => b ≠ g' ∧ (j < k → Qa (w.heap.size + 2) lo hi b)) wr x.acts := by
    rcases h.la with ⟨_, h2⟩ | h2
    · cases h2
    · exact h2
  cases e
  have hgl := hr.lt
  have hlow := (Array.getElem?_eq_some_iff.1 h.box).1
  have hbo := h.bo
  have hhi := h.hi
  have key : LR g (fun j b => b ≠ g ∧ (j < k + 1 → Qa (w.heap.size + 2) lo hi b)) (w1.setCell ⟨g, k * 5, none⟩ (.slice D y.regs.length d)) (x.acts.set k y) :=
    (hr.below hb').put (i := 0) hy rfl (by omega) (fun _ b hb => hb.1) (fun b hb => hb.1) (fun j hj b hb => ⟨hb.1, fun h => hb.2 (by omega)⟩)
      (Or.inl ⟨rfl, Ints.weak hi1 fun b (hb : wr.heap.size ≤ b) => ⟨by omega, fun _ => ⟨by omega, by omega⟩⟩⟩) (Or.inr ⟨by omega, rfl⟩) (Or.inr ⟨by omega, rfl⟩) (Or.inr ⟨by omega, rfl⟩) (Or.inr ⟨by omega, rfl⟩)
  rw [set_self hy] at key
  have hS : ∀ (ok : Nat → Prop), (∀ b, ok b → b ≠ g) → Same ok w1 (w1.setCell ⟨g, k * 5, none⟩ (.slice D y.regs.length d)) := fun ok hk => setCell_same hk
  refine ⟨?_, h.len, Or.inr ⟨g, rfl, hg, hgb, key⟩, ?_, (h.lm.below hb').same (hS _ ?_) (hS _ ?_), h.le, ?_, h.bo, ?_⟩
  · rw [Below.heap_setCell _ _ _ _ (fun e => hgb e.symm)]; exact boxAt h.box hb'
  · have hg1 : w.heap.size + 2 ≤ g := hg.1
    have hg2 : w.heap.size + 1 ≠ g := by omega
    exact (Below.heap_setCell w1 ⟨g, k * 5, none⟩ (.slice D y.regs.length d) (w.heap.size + 1) hg2).trans (boxAt h.res hb')
  · rintro b ⟨h1, _⟩ rfl; exact hg.2 h1
  · rintro b ⟨h1, _⟩ rfl; exact hg.2 h1
  · have := hb'.size; simp [World.setCell]; omega
  · exact (bTrans h.low hb').setCell (p := ⟨g, _, none⟩) (by have := hg.1; show w.heap.size ≤ g; omega) _
theorem CK.done (h : CK w x bo lo hi k A c m wr) (hk : ¬ k < x.acts.length) : WN (w.heap.size + 2) lo hi wr (.slice A x.acts.length c) m x := by
  refine ⟨⟨A, c, rfl, h.len, h.la.imp id fun ⟨g, e, hg, _, hr⟩ => ⟨g, e, hg, ⟨hr.row, fun j y hy => ?_⟩⟩⟩, h.lm, h.le, h.hi⟩
  have hj := (List.getElem?_eq_some_iff.1 hy).1
  obtain ⟨⟨v, h1, h2⟩, h3⟩ := hr.rd j y hy
  exact ⟨⟨v, h1, Ints.weak h2 fun b hb => ⟨hb.2 (by omega), hb.1⟩⟩, h3⟩
end
theorem WN.mono {N M lo hi : Nat} {w : World} {a m : Value} {x : PWld} (h : WN N lo hi w a m x) (hM : M ≤ N) : WN M lo hi w a m x := by
  obtain ⟨A, c, rfl, h2, h3⟩ := h.acts
  exact ⟨⟨A, c, rfl, h2, h3.imp id fun ⟨g, e, hg, hr⟩ => ⟨g, e, ⟨Nat.le_trans hM hg.1, hg.2⟩, hr.weak fun _ b hb => ⟨⟨Nat.le_trans hM hb.1.1, hb.1.2⟩, hb.2⟩⟩⟩, h.mail, Nat.le_trans hM h.le, h.hi⟩
/-- What is stored ahead of it does not turn it. -/
theorem WN.far {N lo hi rb : Nat} {w w' : World} {a m : Value} {x : PWld} (h : WN N lo hi w a m x) (hS : Same (fun d => d ≠ rb) w w') (hrb : rb < N) : WN N lo hi w' a m x := by
  have hle := h.le
  refine ⟨?_, h.mail.same (hS.weak ?_) (hS.weak ?_), h.le, Nat.le_trans h.hi hS.size⟩
  · obtain ⟨A, c, rfl, h2, h3⟩ := h.acts
    refine ⟨A, c, rfl, h2, ?_⟩
    rcases h3 with h3 | ⟨g, e, hg, hr⟩
    · exact Or.inl h3
    · refine Or.inr ⟨g, e, hg, hr.same hS.size (hS.block g ?_ hr.lt) fun _ b hb hl => hS.block b ?_ hl⟩
      · have := hg.1; show g ≠ rb; omega
      · have := hb.1.1; show b ≠ rb; omega
  · intro b hb; have := hb.1.1; show b ≠ rb; omega
  · intro b hb; have := hb.1.1; show b ≠ rb; omega
end Go.Proofs.YtgdloonpemaijaaDoor
