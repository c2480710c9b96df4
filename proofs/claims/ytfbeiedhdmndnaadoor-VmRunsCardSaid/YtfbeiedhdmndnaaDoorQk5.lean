/-
  Worlds that are made anew: which memory they lie in; lists made anew (fresh); towards world.Copy. Conditions: lists are short. Plain arithmetic of numbers that wrap: what a sum, a product, a quotient of two numbers is, and the laws that follow. No conditions but those that each theorem names. A handler, run, as plain data: what each instruction does, and what comes of all of them. No conditions. The memory of a handler that runs: the run's own block, the registers, the notes; what each store does to them. No conditions. What the functions of package sums, and the reference's, answer for every number: the plain functions of Num. No conditions. The machine's small steps: put, take, load, store, two. Condition: the stack has room, or a number. The machine sends: a note behind those ahead, or it goes down. Conditions: the handler is there, with 0 to 4 arguments; the stack has them, and the one to whom.
-/
import Derived.Test.YtfbeiedhdmndnaaDoorQk4
import Derived.Deep.RegionWith
import Derived.Deep.DeepCutAuto
import Derived.Test.YtfbeiedhdmndnaaDoorRows
import Derived.WalkKit
import Derived.ProofKit
import Derived.OpenShut
import Derived.Test.YtfbeiedhdmndnaaDoorQk1
import Derived.Test.YtfbeiedhdmndnaaDoorQk3
import Derived.Test.YtfbeiedhdmndnaaDoorQk2
import Derived.Deep.RegionHeld3
import Derived.Deep.DrawnRows
import Derived.Deep.RegionLaw
import Derived.Deep.AppendLies
import Derived.OwnWalk
namespace Go.Proofs.YtfbeiedhdmndnaaDoor
open Go.RowKit

theorem Same.trans {ok : Nat → Prop} {a b c : World} (h : Same ok a b) (k : Same ok b c) : Same ok a c :=
  ⟨Nat.le_trans h.size k.size, fun d hd hl => (k.block d hd (Nat.lt_of_lt_of_le hl h.size)).trans (h.block d hd hl)⟩
theorem setCell_heap {w : World} {b i : Nat} {v : Value} {c : Array Value} {T : TypeId} (h : w.heap[b]? = some (.cells c T)) : (w.setCell ⟨b, i, none⟩ v).heap[b]? = some (.cells (c.setIfInBounds i v) T) := by
  simp [World.setCell, Array.getElem?_modify, h]
theorem setCell_same {w : World} {ok : Nat → Prop} {b o : Nat} {v : Value} (h : ∀ d, ok d → d ≠ b) : Same ok w (w.setCell ⟨b, o, none⟩ v) :=
  ⟨by simp [World.setCell], fun d hd _ => Below.heap_setCell _ _ _ _ (h d hd)⟩
theorem olds {W w1 : World} (hb : Below W.heap.size W w1) : (∀ b o, b < W.heap.size → w1.cell? ⟨b, o, none⟩ = W.cell? ⟨b, o, none⟩) ∧ (∀ b o, b < W.heap.size → w1.frozen? ⟨b, o, none⟩ = W.frozen? ⟨b, o, none⟩) ∧ (∀ b, b < W.heap.size → b < w1.heap.size) :=
  ⟨fun b o h => hb.cell (p := ⟨b, o, none⟩) h, fun b o h => hb.frozen (p := ⟨b, o, none⟩) h, fun _ h => Nat.lt_of_lt_of_le h hb.size⟩
theorem heap_cell {w : World} {b i : Nat} {c : Array Value} {T : TypeId} {v : Value} (h : w.heap[b]? = some (.cells c T)) (hi : c[i]? = some v) : w.cell? ⟨b, i, none⟩ = some v := by
  simp [World.cell?, h, hi]
theorem heap_frozen {w : World} {b i : Nat} {c : Array Value} {T : TypeId} (h : w.heap[b]? = some (.cells c T)) : w.frozen? ⟨b, i, none⟩ = false := by
  simp [World.frozen?, h]

/-- Locals in the row g; the registers of the j-th in blocks of which P j says yes. -/
structure LR (g : Nat) (P : Nat → Nat → Prop) (w : World) (l : List PLoc) : Prop where
  row : ∃ cs, w.heap[g]? = some (.cells cs 29)
  rd : ∀ (j : Nat) (x : PLoc), l[j]? = some x → (∃ v, w.cell? ⟨g, j * 5, none⟩ = some v ∧ Ints (P j) w v x.regs) ∧ w.cell? ⟨g, j * 5 + 1, none⟩ = some (.bool x.armed) ∧ w.cell? ⟨g, j * 5 + 2, none⟩ = some (.int .i64 x.down) ∧
    w.cell? ⟨g, j * 5 + 3, none⟩ = some (.int .i64 x.sent) ∧ w.cell? ⟨g, j * 5 + 4, none⟩ = some (.int .i64 x.over)
section
variable {g : Nat} {P P' : Nat → Nat → Prop} {w w' : World} {l : List PLoc}
theorem LR.lt (h : LR g P w l) : g < w.heap.size := by obtain ⟨cs, h⟩ := h.row; exact (Array.getElem?_eq_some_iff.1 h).1
theorem LR.frozen (h : LR g P w l) (o : Nat) : w.frozen? ⟨g, o, none⟩ = false := by obtain ⟨cs, h⟩ := h.row; exact heap_frozen h
theorem LR.same (h : LR g P w l) (hz : w.heap.size ≤ w'.heap.size) (hg : w'.heap[g]? = w.heap[g]?) (hs : ∀ j b, P j b → b < w.heap.size → w'.heap[b]? = w.heap[b]?) : LR g P w' l := by
  refine ⟨by rw [hg]; exact h.row, fun j x hx => ?_⟩
  have e : ∀ o, w'.cell? ⟨g, o, none⟩ = w.cell? ⟨g, o, none⟩ := fun o => World.cell?_of_block (w := w) hg
  obtain ⟨⟨v, h1, h2⟩, h3, h4, h5, h6⟩ := h.rd j x hx
  rw [e, e, e, e, e]
  exact ⟨⟨v, h1, h2.same ⟨hz, fun b hb hl => hs j b hb hl⟩⟩, h3, h4, h5, h6⟩
theorem LR.below (h : LR g P w l) (hb : Below w.heap.size w w') : LR g P w' l := h.same hb.size (hb.block g h.lt) fun _ b _ hl => hb.block b hl
theorem LR.weak (h : LR g P w l) (k : ∀ j b, P j b → P' j b) : LR g P' w l := ⟨h.row, fun j x hx => let ⟨⟨v, h1, h2⟩, h3⟩ := h.rd j x hx; ⟨⟨v, h1, h2.weak (k j)⟩, h3⟩⟩
theorem LR.ltP (h : LR g P w l) : LR g (fun j b => P j b ∧ b < w.heap.size) w l := ⟨h.row, fun j x hx => let ⟨⟨v, h1, h2⟩, h3⟩ := h.rd j x hx; ⟨⟨v, h1, h2.lt⟩, h3⟩⟩
theorem LR.locs {inn : Nat → Prop} {c : Nat} (h : LR g P w l) (k : ∀ j b, P j b → inn b) (hc : l.length ≤ c) (hl : l.length ≤ 1000) : Locs (fun b => b = g) inn w (.slice (some ⟨g, 0, none⟩) l.length c) l :=
  ⟨_, c, rfl, by omega, hc, Or.inr ⟨g, 0, rfl, rfl, h.lt, fun j x hx => by
    obtain ⟨⟨v, h1, h2⟩, h3, h4, h5, h6⟩ := h.rd j x hx
    rw [Nat.zero_add]
    exact ⟨⟨v, h1, h2.weak (k j)⟩, h3, h4, h5, h6⟩⟩⟩
end
theorem cell_set_other {w : World} {b o o' : Nat} {v : Value} (h : o ≠ o') : (w.setCell ⟨b, o, none⟩ v).cell? ⟨b, o', none⟩ = w.cell? ⟨b, o', none⟩ :=
  World.cell?_setCell_other _ _ _ _ (fun e => h (by injection e))
theorem cell_set_here {w : World} {b o : Nat} {u v : Value} (h : w.cell? ⟨b, o, none⟩ = some u) : (w.setCell ⟨b, o, none⟩ v).cell? ⟨b, o, none⟩ = some v :=
  World.cell?_setCell_same _ _ _ h

theorem LR.put {g : Nat} {P P' : Nat → Nat → Prop} {w : World} {l : List PLoc} {j i off : Nat} {x x' : PLoc} {v : Value} (h : LR g P w l) (hx : l[j]? = some x) (ho : off = j * 5 + i) (hi : i < 5) (hP : ∀ k b, P k b → b ≠ g) (hQ : ∀ b, P' j b → b ≠ g) (hk : ∀ k, k ≠ j → ∀ b, P k b → P' k b)
    (h0 : (i = 0 ∧ Ints (P' j) w v x'.regs) ∨ (i ≠ 0 ∧ x'.regs = x.regs ∧ ∀ b, P j b → P' j b)) (h1 : (i = 1 ∧ v = .bool x'.armed) ∨ (i ≠ 1 ∧ x'.armed = x.armed)) (h2 : (i = 2 ∧ v = .int .i64 x'.down) ∨ (i ≠ 2 ∧ x'.down = x.down))
    (h3 : (i = 3 ∧ v = .int .i64 x'.sent) ∨ (i ≠ 3 ∧ x'.sent = x.sent)) (h4 : (i = 4 ∧ v = .int .i64 x'.over) ∨ (i ≠ 4 ∧ x'.over = x.over)) :
    LR g P' (w.setCell ⟨g, off, none⟩ v) (l.set j x') := by
  subst ho
  obtain ⟨cs, hr⟩ := h.row
  refine ⟨⟨_, setCell_heap hr⟩, fun k y hy => ?_⟩
  have hj := (List.getElem?_eq_some_iff.1 hx).1
  by_cases e : k = j
  · subst e
    rw [List.getElem?_set_self hj] at hy
    cases hy
    obtain ⟨⟨u, r0, r0'⟩, r1, r2, r3, r4⟩ := h.rd k x hx
    refine ⟨?_, ?_, ?_, ?_, ?_⟩
    · rcases h0 with ⟨rfl, h0⟩ | ⟨n0, e0, hp⟩
      · exact ⟨v, by rw [Nat.add_zero]; exact cell_set_here r0, h0.same (setCell_same hQ)⟩
      · refine ⟨u, by rw [cell_set_other (by omega)]; exact r0, ?_⟩
        rw [e0]
        exact (r0'.weak hp).same (setCell_same hQ)
    · rcases h1 with ⟨rfl, rfl⟩ | ⟨n0, e0⟩
      · exact cell_set_here r1
      · rw [cell_set_other (by omega), e0]; exact r1
    · rcases h2 with ⟨rfl, rfl⟩ | ⟨n0, e0⟩
      · exact cell_set_here r2
      · rw [cell_set_other (by omega), e0]; exact r2
    · rcases h3 with ⟨rfl, rfl⟩ | ⟨n0, e0⟩
      · exact cell_set_here r3
      · rw [cell_set_other (by omega), e0]; exact r3
    · rcases h4 with ⟨rfl, rfl⟩ | ⟨n0, e0⟩
      · exact cell_set_here r4
      · rw [cell_set_other (by omega), e0]; exact r4
  · rw [List.getElem?_set_ne (fun h => e h.symm)] at hy
    obtain ⟨⟨u, r0, r0'⟩, r1, r2, r3, r4⟩ := h.rd k y hy
    refine ⟨⟨u, ?_, (r0'.same (setCell_same (hP k))).weak (hk k e)⟩, ?_, ?_, ?_, ?_⟩ <;> rw [cell_set_other (by omega)] <;> assumption
theorem set_self {α : Type} {l : List α} {j : Nat} {x : α} (h : l[j]? = some x) : l.set j x = l := by
  apply List.ext_getElem?
  intro i
  by_cases e : j = i
  · subst e; rw [List.getElem?_set_self (List.getElem?_eq_some_iff.1 h).1, h]
  · rw [List.getElem?_set_ne e]

/-! ### Lists made anew -/
set_option maxHeartbeats 400000 in
theorem freshI_any (ok : Nat → Prop) (w : World) (v : Value) (l : List Int) (h : Ints ok w v l) (hl : l.length ≤ 1000) :
    Calls Tryd.prog 32 #[v] w fun e w' => ∃ A' c', e = .returned (.slice A' l.length c') ∧ Ints (fun b => w.heap.size ≤ b) w' (.slice A' l.length c') l ∧ Below w.heap.size w w' := by
  obtain ⟨A, c, rfl, _⟩ := h.form
  obtain ⟨A', c', w', hrun, hi, hb⟩ := fresh_ints ok w A c l h hl
  have HR := hid_mk hrun
  clear hrun
  go_enter Tryd.func32, Tryd.ntmps32
  go_wp2_with (at_builtin; refine wpList_append_run rfl _ _ 27 rfl _ _ _ _ rfl rfl HR.out ?_)
  go_ret
  exact ⟨A', c', rfl, hi, hb⟩
theorem infoL : (Tryd.prog.info? 29).map (fun i => (i.zero.isSome, i.size, i.bytes)) = some (true, 5, 56) := by kernel_rfl
/-- Locals made anew, their registers where they were. -/
def LF (N : Nat) (inn : Nat → Prop) (w : World) (u : Value) (l : List PLoc) : Prop :=
  ∃ A c, u = .slice A l.length c ∧ l.length ≤ c ∧ ((l = [] ∧ A = none) ∨ ∃ g, A = some ⟨g, 0, none⟩ ∧ N ≤ g ∧ LR g (fun _ => inn) w l)
theorem LF.below {N : Nat} {inn : Nat → Prop} {w w' : World} {u : Value} {l : List PLoc} (h : LF N inn w u l) (hb : Below w.heap.size w w') : LF N inn w' u l := by
  obtain ⟨A, c, h1, h2, h3⟩ := h
  exact ⟨A, c, h1, h2, h3.imp id fun ⟨g, e, hg, hr⟩ => ⟨g, e, hg, hr.below hb⟩⟩
theorem five {k j : Nat} (h : j < 5) {n : Nat} (hk : k < n) : k * 5 + j < n * 5 := by omega
set_option maxHeartbeats 400000 in
theorem freshL_any (ok inn : Nat → Prop) (w : World) (v : Value) (l : List PLoc) (h : Locs ok inn w v l) (hl : l.length ≤ 1000) :
    Calls Tryd.prog 34 #[v] w fun e w' => ∃ u, e = .returned u ∧ LF w.heap.size inn w' u l ∧ Below w.heap.size w w' := by
  obtain ⟨A, c, rfl, _⟩ := h.form
  obtain ⟨i0, hi0, hq⟩ := Option.map_eq_some_iff.1 infoL
  simp only [Prod.mk.injEq] at hq
  obtain ⟨hz0, hz1, hz2⟩ := hq
  obtain ⟨z, hz⟩ := Option.isSome_iff_exists.1 hz0
  have hth : There w A l.length 5 := by
    by_cases h0 : l.length = 0
    · exact Or.inl h0
    · obtain ⟨b, o, rfl, _, hlt, hc⟩ := h.at (by omega)
      refine Or.inr ⟨b, o, rfl, fun j hj => ?_⟩
      obtain ⟨x, hx⟩ := at_lt (l := l) (k := j / 5) (by omega)
      obtain ⟨⟨u, r0, _⟩, r1, r2, r3, r4⟩ := hc (j / 5) x hx
      have e : j = j / 5 * 5 + j % 5 := by omega
      rcases (by omega : j % 5 = 0 ∨ j % 5 = 1 ∨ j % 5 = 2 ∨ j % 5 = 3 ∨ j % 5 = 4) with m | m | m | m | m
      · rw [show o + j = o + j / 5 * 5 by omega, r0]; rfl
      · rw [show o + j = o + j / 5 * 5 + 1 by omega, r1]; rfl
      · rw [show o + j = o + j / 5 * 5 + 2 by omega, r2]; rfl
      · rw [show o + j = o + j / 5 * 5 + 3 by omega, r3]; rfl
      · rw [show o + j = o + j / 5 * 5 + 4 by omega, r4]; rfl
  obtain ⟨A', c', w', hrun, hcl, hcc⟩ := run_fresh (P := Tryd.prog) w 40 29 i0 z Tryd.underlying40 hi0 hz A l.length c (by rw [hz1]; exact hth) hl (by omega)
  rw [hz1] at hcl
  have HR := hid_mk hrun
  have HI : Hid (LF w.heap.size inn w' (.slice A' l.length c') l ∧ Below w.heap.size w w') := by
    show _ ∧ _
    rcases hcl with ⟨h0, rfl, rfl⟩ | ⟨h0, b, o, cs, rfl, rfl, rfl, hcs⟩
    · exact ⟨⟨_, _, rfl, hcc, Or.inl ⟨List.length_eq_zero_iff.1 h0, rfl⟩⟩, bRefl _⟩
    · obtain ⟨b', o', e, _, hlt, hc⟩ := h.at (by omega)
      cases e
      have hN : (w.drew.alloc (.cells cs 29)).heap[w.heap.size]? = some (.cells cs 29) := heap_new2 (w := w.drew) rfl
      have hB : Below w.heap.size w (w.drew.alloc (.cells cs 29)) := bAlloc (bRefl w).drew _
      refine ⟨⟨_, _, rfl, hcc, Or.inr ⟨_, rfl, Nat.le_refl _, ⟨⟨cs, hN⟩, fun j x hx => ?_⟩⟩⟩, hB⟩
      have hj := (List.getElem?_eq_some_iff.1 hx).1
      obtain ⟨⟨u, r0, r0'⟩, r1, r2, r3, r4⟩ := hc j x hx
      have ec : ∀ i, i < 5 → (w.drew.alloc (.cells cs 29)).cell? ⟨w.heap.size, j * 5 + i, none⟩ = w.cell? ⟨b, o + j * 5 + i, none⟩ := fun i hi => by
        rw [cell_of_row _ _ _ _ _ _ hN, hcs _ (five hi hj), Nat.add_assoc]
      refine ⟨⟨u, (ec 0 (by omega)).trans r0, r0'.below hB⟩, (ec 1 (by omega)).trans r1, (ec 2 (by omega)).trans r2, (ec 3 (by omega)).trans r3, (ec 4 (by omega)).trans r4⟩
  clear hrun hcl
  go_enter Tryd.func34, Tryd.ntmps34
  go_wp2_with (at_builtin; refine wpList_append_run rfl _ _ 40 rfl _ _ _ _ rfl rfl HR.out ?_)
  go_ret
  exact ⟨_, rfl, HI.out.1, HI.out.2⟩

/-- A world's value made anew: its locals in new memory (N) outside of lo .. hi, its messages within. -/
def Qa (N lo hi : Nat) : Nat → Prop := fun b => N ≤ b ∧ ¬ (lo ≤ b ∧ b < hi)
def Qm (lo hi : Nat) (m : Value) : Nat → Prop := fun b => (lo ≤ b ∧ b < hi) ∧ m.ownBlock = some b
def Qi (lo hi : Nat) (m : Value) : Nat → Prop := fun b => (lo ≤ b ∧ b < hi) ∧ m.ownBlock ≠ some b
def LV (Q : Nat → Prop) (w : World) (u : Value) (l : List PLoc) : Prop :=
  ∃ A c, u = .slice A l.length c ∧ l.length ≤ c ∧ ((l = [] ∧ A = none) ∨ ∃ g, A = some ⟨g, 0, none⟩ ∧ Q g ∧ LR g (fun _ b => Q b ∧ b ≠ g) w l)
structure WN (N lo hi : Nat) (w : World) (a m : Value) (x : PWld) : Prop where
  acts : LV (Qa N lo hi) w a x.acts
  mail : Msgs (Qm lo hi m) (Qi lo hi m) w m x.mail
  le : N ≤ lo
  hi : hi ≤ w.heap.size
/-- Worlds that are not too great. -/
structure SmW (x : PWld) : Prop where
  n : x.acts.length ≤ 100
  regs : ∀ a ∈ x.acts, a.regs.length ≤ 1000
  mail : x.mail.length ≤ 500
  args : ∀ m ∈ x.mail, m.nt.args.length ≤ 1000
section
variable {N lo hi : Nat} {w w' : World} {a m u : Value} {x : PWld} {l : List PLoc} {Q : Nat → Prop}
theorem LV.below (h : LV Q w u l) (hb : Below w.heap.size w w') : LV Q w' u l := by
  obtain ⟨A, c, h1, h2, h3⟩ := h
  exact ⟨A, c, h1, h2, h3.imp id fun ⟨g, e, hg, hr⟩ => ⟨g, e, hg, hr.below hb⟩⟩
theorem LV.locs (h : LV Q w u l) (hl : l.length ≤ 1000) : Locs Q Q w u l := by
  obtain ⟨A, c, rfl, h2, h3⟩ := h
  rcases h3 with ⟨rfl, rfl⟩ | ⟨g, rfl, hg, hr⟩
  · exact ⟨_, _, rfl, by simp, h2, Or.inl rfl⟩
  · exact (hr.locs (fun _ b hb => hb.1) h2 hl).weak (fun b e => by rw [e]; exact hg) (fun _ h => h)
theorem LV.form (h : LV Q w u l) : ∃ A c, u = .slice A l.length c := let ⟨A, c, h1, _⟩ := h; ⟨A, c, h1⟩
theorem WN.below (h : WN N lo hi w a m x) (hb : Below w.heap.size w w') : WN N lo hi w' a m x := ⟨h.acts.below hb, h.mail.below hb, h.le, Nat.le_trans h.hi hb.size⟩
theorem WN.wld (h : WN N lo hi w a m x) (hs : SmW x) : WldV w (wVal x.used a m) x := ⟨a, m, rfl, (h.acts.locs (by have := hs.n; omega)).any2, h.mail.any2⟩
end
theorem Msgs.ltAll {out inn : Nat → Prop} {w : World} {v : Value} {l : List PMsg} (h : Msgs out inn w v l) : Msgs (fun b => out b ∧ b < w.heap.size) (fun b => inn b ∧ b < w.heap.size) w v l :=
  h.lt.imp (fun _ h => h) (Nat.le_refl _) fun _ _ _ _ _ ⟨h1, h2, h3, h4, h5, c, h6, h7⟩ => ⟨h1, h2, h3, h4, h5, c, h6, h7.lt⟩
theorem Msgs.within {N : Nat} {w : World} {v : Value} {l : List PMsg} (h : Msgs (nO N v) (nI N v) w v l) : Msgs (Qm N w.heap.size v) (Qi N w.heap.size v) w v l :=
  h.ltAll.weak (fun _ h => ⟨⟨h.1.1, h.2⟩, h.1.2⟩) (fun _ h => ⟨⟨h.1.1, h.2⟩, h.1.2⟩)
theorem Locs.ltIn {out inn : Nat → Prop} {w : World} {v : Value} {l : List PLoc} (h : Locs out inn w v l) : Locs out (fun b => b < w.heap.size) w v l :=
  h.imp (fun _ h => h) (Nat.le_refl _) fun _ _ _ _ _ ⟨⟨c, h1, h2⟩, h3⟩ => ⟨⟨c, h1, Ints.weak h2.lt fun _ h => h.2⟩, h3⟩
abbrev zW : Obj := .cells #[.slice none 0 0, .slice none 0 0, .int .i64 0, .int .i64 0, .int .i64 0, .int .i64 0] 45
/-- Behind the first statement of Copy. -/
structure CW (w : World) (x : PWld) (bo lo hi : Nat) (a m : Value) (wc : World) : Prop where
  box : wc.heap[bo]? = some (.cells #[a, m, .int .i64 x.used.drop, .int .i64 x.used.dup, .int .i64 x.used.time, .int .i64 x.used.crash] 45)
  la : LF (w.heap.size + 2) (fun b => b < w.heap.size) wc a x.acts
  res : wc.heap[w.heap.size + 1]? = some zW
  lm : Msgs (Qm lo hi m) (Qi lo hi m) wc m x.mail
  own : ∀ g, a.ownBlock = some g → ¬ (lo ≤ g ∧ g < hi) ∧ g ≠ bo
  le : w.heap.size + 2 ≤ lo
  hi : hi ≤ wc.heap.size
  bo : w.heap.size + 2 ≤ bo
  low : Below w.heap.size w wc
theorem cw_mk {w w2 wc : World} {x : PWld} {bo lo hi N : Nat} {a m : Value} (la : LF N (fun b => b < w.heap.size) w2 a x.acts) (hN : w.heap.size + 2 ≤ N) (res : w2.heap[w.heap.size + 1]? = some zW) (lm : Msgs (Qm lo hi m) (Qi lo hi m) w2 m x.mail) (hS : Same (fun d => d ≠ bo) w2 wc)
    (box : wc.heap[bo]? = some (.cells #[a, m, .int .i64 x.used.drop, .int .i64 x.used.dup, .int .i64 x.used.time, .int .i64 x.used.crash] 45))
    (le : w.heap.size + 2 ≤ lo) (hhi : hi ≤ w2.heap.size) (hbo : w.heap.size + 2 ≤ bo) (hbm : ¬ (lo ≤ bo ∧ bo < hi)) (own : ∀ g, a.ownBlock = some g → ¬ (lo ≤ g ∧ g < hi) ∧ g ≠ bo) (low : Below w.heap.size w wc) : CW w x bo lo hi a m wc := by
  refine ⟨box, ?_, (hS.block _ (by omega) (Array.getElem?_eq_some_iff.1 res).1).trans res, lm.same (hS.weak ?_) (hS.weak ?_), own, le, Nat.le_trans hhi hS.size, hbo, low⟩
  · obtain ⟨A, c, rfl, h2, h3⟩ := la
    refine ⟨A, c, rfl, h2, h3.imp id fun ⟨g, e, hg, hr⟩ => ⟨g, e, Nat.le_trans hN hg, hr.same hS.size (hS.block g ?_ hr.lt) fun _ b hb hl => hS.block b ?_ hl⟩⟩
    · subst e; exact (own g rfl).2
    · show b ≠ bo; omega
  · rintro b ⟨h, _⟩ rfl; exact hbm h
  · rintro b ⟨h, _⟩ rfl; exact hbm h
/-- A struct of six cells, stored. -/
abbrev put6 (w : World) (b : Nat) (a0 a1 a2 a3 a4 a5 : Value) : World := (((((w.setCell ⟨b, 0, none⟩ a0).setCell ⟨b, 1, none⟩ a1).setCell ⟨b, 2, none⟩ a2).setCell ⟨b, 3, none⟩ a3).setCell ⟨b, 4, none⟩ a4).setCell ⟨b, 5, none⟩ a5
theorem put6_heap {w : World} {b : Nat} {a0 a1 a2 a3 a4 a5 z0 z1 z2 z3 z4 z5 : Value} {T : TypeId} (h : w.heap[b]? = some (.cells #[z0, z1, z2, z3, z4, z5] T)) : (put6 w b a0 a1 a2 a3 a4 a5).heap[b]? = some (.cells #[a0, a1, a2, a3, a4, a5] T) := by
  have h1 := setCell_heap (i := 0) (v := a0) h
  have h2 := setCell_heap (i := 1) (v := a1) h1
  have h3 := setCell_heap (i := 2) (v := a2) h2
  have h4 := setCell_heap (i := 3) (v := a3) h3
  have h5 := setCell_heap (i := 4) (v := a4) h4
  have h6 := setCell_heap (i := 5) (v := a5) h5
  exact h6.trans (by simp)
theorem put6_same {w : World} {b : Nat} {a0 a1 a2 a3 a4 a5 : Value} : Same (fun d => d ≠ b) w (put6 w b a0 a1 a2 a3 a4 a5) :=
  (((((setCell_same fun _ h => h).trans (setCell_same fun _ h => h)).trans (setCell_same fun _ h => h)).trans (setCell_same fun _ h => h)).trans (setCell_same fun _ h => h)).trans (setCell_same fun _ h => h)
theorem put6_below {B : Nat} {a w : World} {b : Nat} {a0 a1 a2 a3 a4 a5 : Value} (h : Below B a w) (hb : B ≤ b) : Below B a (put6 w b a0 a1 a2 a3 a4 a5) :=
  (((((h.setCell (p := ⟨b, 0, none⟩) hb _).setCell (p := ⟨b, 1, none⟩) hb _).setCell (p := ⟨b, 2, none⟩) hb _).setCell (p := ⟨b, 3, none⟩) hb _).setCell (p := ⟨b, 4, none⟩) hb _).setCell (p := ⟨b, 5, none⟩) hb _
theorem LF.own {N : Nat} {inn : Nat → Prop} {w : World} {u : Value} {l : List PLoc} (h : LF N inn w u l) {g : Nat} (e : u.ownBlock = some g) : N ≤ g ∧ g < w.heap.size := by
  obtain ⟨A, c, rfl, _, ⟨_, rfl⟩ | ⟨g', rfl, h1, h2⟩⟩ := h
  · cases e
  · cases e; exact ⟨h1, h2.lt⟩
section
variable {w w0 w1 w2 : World} {x : PWld} {a m : Value}
theorem way_a (h0 : Below w.heap.size w w0) (hr : w0.heap[w.heap.size + 1]? = some zW) (hs : w0.heap.size = w.heap.size + 2) (lf : LF w0.drew.heap.size (fun b => b < w.heap.size) w1 a x.acts) (hb1 : Below w0.drew.heap.size w0.drew w1) (hm : Msgs (Qm w1.heap.size w2.heap.size m) (Qi w1.heap.size w2.heap.size m) w2 m x.mail) (hb2 : Below w1.heap.size w1 w2) :
    CW w x w2.heap.size w1.heap.size w2.heap.size a m (w2.alloc (.cells #[a, m, .int .i64 x.used.drop, .int .i64 x.used.dup, .int .i64 x.used.time, .int .i64 x.used.crash] 45)) := by
  have z0 := h0.size
  have z1 := hb1.size
  have z2 := hb2.size
  change w0.heap.size ≤ _ at z1
  refine cw_mk (lf.below hb2) (by show _ ≤ w0.heap.size; omega) (boxAt (boxAt hr (undrew hb1)) hb2) hm (Same.all (bAlloc (bRefl _) _)) (heap_new _ _) (by omega) (Nat.le_refl _) (by omega) (by omega) (fun g e => ?_) (bAlloc (bTrans (bTrans h0.drew hb1) hb2) _)
  have := lf.own e
  omega
theorem way_b (h0 : Below w.heap.size w w0) (hr : w0.heap[w.heap.size + 1]? = some zW) (hs : w0.heap.size = w.heap.size + 2) (lf : LF w0.drew.heap.size (fun b => b < w.heap.size) w1 a x.acts) (hb1 : Below w0.drew.heap.size w0.drew w1) (hm : Msgs (Qm (w1.alloc zW).heap.size w2.heap.size m) (Qi (w1.alloc zW).heap.size w2.heap.size m) w2 m x.mail) (hb2 : Below (w1.alloc zW).heap.size (w1.alloc zW) w2) :
    CW w x w1.heap.size (w1.alloc zW).heap.size w2.heap.size a m (put6 w2 w1.heap.size a m (.int .i64 x.used.drop) (.int .i64 x.used.dup) (.int .i64 x.used.time) (.int .i64 x.used.crash)) := by
  have z0 := h0.size
  have z1 := hb1.size
  have z2 := hb2.size
  have z3 : (w1.alloc zW).heap.size = w1.heap.size + 1 := by simp
  change w0.heap.size ≤ _ at z1
  have hbox : w2.heap[w1.heap.size]? = some zW := (hb2.block _ (by omega)).trans (heap_new _ _)
  refine cw_mk (lf.below (bTrans (bAlloc (bRefl _) _) hb2)) (by show _ ≤ w0.heap.size; omega) (boxAt (boxAt hr (undrew hb1)) (bTrans (bAlloc (bRefl _) _) hb2)) hm put6_same (put6_heap hbox) (by omega) (Nat.le_refl _) (by omega) (by omega) (fun g e => ?_) (put6_below (bTrans (bAlloc (bTrans h0.drew hb1) _) hb2) (by omega))
  have := lf.own e
  omega
theorem way_c (h0 : Below w.heap.size w w0) (hr : w0.heap[w.heap.size + 1]? = some zW) (hs : w0.heap.size = w.heap.size + 2) (lf : LF (w0.alloc zW).drew.heap.size (fun b => b < w.heap.size) w1 a x.acts) (hb1 : Below (w0.alloc zW).drew.heap.size (w0.alloc zW).drew w1) (hm : Msgs (Qm w1.heap.size w2.heap.size m) (Qi w1.heap.size w2.heap.size m) w2 m x.mail) (hb2 : Below w1.heap.size w1 w2) :
    CW w x w0.heap.size w1.heap.size w2.heap.size a m (put6 w2 w0.heap.size a m (.int .i64 x.used.drop) (.int .i64 x.used.dup) (.int .i64 x.used.time) (.int .i64 x.used.crash)) := by
  have z0 := h0.size
  have z1 := hb1.size
  have z2 := hb2.size
  have z3 : (w0.alloc zW).drew.heap.size = w0.heap.size + 1 := by show (w0.alloc zW).heap.size = _; simp
  have hbox : w2.heap[w0.heap.size]? = some zW := (hb2.block _ (by omega)).trans ((hb1.block _ (by omega)).trans (heap_new w0 zW))
  refine cw_mk (lf.below hb2) (by omega) (boxAt (boxAt hr (bTrans (bAlloc (bRefl _) _) (undrew hb1))) hb2) hm put6_same (put6_heap hbox) (by omega) (Nat.le_refl _) (by omega) (by omega) (fun g e => ?_) (put6_below (bTrans (bTrans (bAlloc h0 _).drew hb1) hb2) (by omega))
  have := lf.own e
  omega
end
/-- Behind k rounds of Copy's loop. -/
structure CK (w : World) (x : PWld) (bo lo hi k : Nat) (A : Option Addr) (c : Nat) (m : Value) (wr : World) : Prop where
  box : wr.heap[bo]? = some (.cells #[.slice A x.acts.length c, m, .int .i64 x.used.drop, .int .i64 x.used.dup, .int .i64 x.used.time, .int .i64 x.used.crash] 45)
  len : x.acts.length ≤ c
  la : (x.acts = [] ∧ A = none) ∨ ∃ g, A = some ⟨g, 0, none⟩ ∧ Qa (w.heap.size + 2) lo hi g ∧ g ≠ bo ∧ LR g (fun j b => b ≠ g ∧ (j < k → Qa (w.heap.size + 2) lo hi b)) wr x.acts
  res : wr.heap[w.heap.size + 1]? = some zW
  lm : Msgs (Qm lo hi m) (Qi lo hi m) wr m x.mail
  le : w.heap.size + 2 ≤ lo
  hi : hi ≤ wr.heap.size
  bo : w.heap.size + 2 ≤ bo
  low : Below w.heap.size w wr
section
variable {w wr w1 : World} {x : PWld} {bo lo hi k c : Nat} {a m : Value} {A : Option Addr}
theorem CW.start (h : CW w x bo lo hi a m wr) : ∃ A c, a = .slice A x.acts.length c ∧ CK w x bo lo hi 0 A c m wr := by
  obtain ⟨A, c, rfl, h2, h3⟩ := h.la
  refine ⟨A, c, rfl, h.box, h2, h3.imp id fun ⟨g, e, hg, hr⟩ => ⟨g, e, ⟨hg, ?_⟩, ?_, hr.weak fun j b hb => ⟨by omega, fun hj => by omega⟩⟩, h.res, h.lm, h.le, h.hi, h.bo, h.low⟩
  · subst e; exact (h.own g rfl).1
  · subst e; exact (h.own g rfl).2
/-- A round: registers made anew (at w1), stored. -/
theorem CK.next {g d : Nat} {D : Option Addr} {y : PLoc} (h : CK w x bo lo hi k (some ⟨g, 0, none⟩) c m wr) (hy : x.acts[k]? = some y) (hi1 : Ints (fun b => wr.drew.heap.size ≤ b) w1 (.slice D y.regs.length d) y.regs) (hb : Below wr.drew.heap.size wr.drew w1) :
    CK w x bo lo hi (k + 1) (some ⟨g, 0, none⟩) c m (w1.setCell ⟨g, k * 5, none⟩ (.slice D y.regs.length d)) := by
  have hb' : Below wr.heap.size wr w1 := undrew hb
  obtain ⟨g', e, hg, hgb, hr⟩ : ∃ g', (some ⟨g, 0, none⟩ : Option Addr) = some ⟨g', 0, none⟩ ∧ Qa (w.heap.size + 2) lo hi g' ∧ g' ≠ bo ∧ LR g' (fun j b => b ≠ g' ∧ (j < k → Qa (w.heap.size + 2) lo hi b)) wr x.acts := by
    rcases h.la with ⟨_, h2⟩ | h2
    · cases h2
    · exact h2
  cases e
  have hgl := hr.lt
  have hlow := (Array.getElem?_eq_some_iff.1 h.box).1
  have hbo := h.bo
  have hhi := h.hi
  have key : LR g (fun j b => b ≠ g ∧ (j < k + 1 → Qa (w.heap.size + 2) lo hi b)) (w1.setCell ⟨g, k * 5, none⟩ (.slice D y.regs.length d)) (x.acts.set k y) :=
    (hr.below hb').put (i := 0) hy rfl (by omega) (fun _ b hb => hb.1) (fun b hb => hb.1) (fun j hj b hb => ⟨hb.1, fun h => hb.2 (by omega)⟩)
      (Or.inl ⟨rfl, Ints.weak hi1 fun b (hb : wr.heap.size ≤ b) => ⟨by omega, fun _ => ⟨by omega, by omega⟩⟩⟩) (Or.inr ⟨by omega, rfl⟩) (Or.inr ⟨by omega, rfl⟩) (Or.inr ⟨by omega, rfl⟩) (Or.inr ⟨by omega, rfl⟩)
  rw [set_self hy] at key
  have hS : ∀ (ok : Nat → Prop), (∀ b, ok b → b ≠ g) → Same ok w1 (w1.setCell ⟨g, k * 5, none⟩ (.slice D y.regs.length d)) := fun ok hk => setCell_same hk
  refine ⟨?_, h.len, Or.inr ⟨g, rfl, hg, hgb, key⟩, ?_, (h.lm.below hb').same (hS _ ?_) (hS _ ?_), h.le, ?_, h.bo, ?_⟩
  · rw [Below.heap_setCell _ _ _ _ (fun e => hgb e.symm)]; exact boxAt h.box hb'
  · have hg1 : w.heap.size + 2 ≤ g := hg.1
    have hg2 : w.heap.size + 1 ≠ g := by omega
    exact (Below.heap_setCell w1 ⟨g, k * 5, none⟩ (.slice D y.regs.length d) (w.heap.size + 1) hg2).trans (boxAt h.res hb')
  · rintro b ⟨h1, _⟩ rfl; exact hg.2 h1
  · rintro b ⟨h1, _⟩ rfl; exact hg.2 h1
  · have := hb'.size; simp [World.setCell]; omega
  · exact (bTrans h.low hb').setCell (p := ⟨g, _, none⟩) (by have := hg.1; show w.heap.size ≤ g; omega) _
theorem CK.done (h : CK w x bo lo hi k A c m wr) (hk : ¬ k < x.acts.length) : WN (w.heap.size + 2) lo hi wr (.slice A x.acts.length c) m x := by
  refine ⟨⟨A, c, rfl, h.len, h.la.imp id fun ⟨g, e, hg, _, hr⟩ => ⟨g, e, hg, ⟨hr.row, fun j y hy => ?_⟩⟩⟩, h.lm, h.le, h.hi⟩
  have hj := (List.getElem?_eq_some_iff.1 hy).1
  obtain ⟨⟨v, h1, h2⟩, h3⟩ := hr.rd j y hy
  exact ⟨⟨v, h1, Ints.weak h2 fun b hb => ⟨hb.2 (by omega), hb.1⟩⟩, h3⟩
end
theorem WN.mono {N M lo hi : Nat} {w : World} {a m : Value} {x : PWld} (h : WN N lo hi w a m x) (hM : M ≤ N) : WN M lo hi w a m x := by
  obtain ⟨A, c, rfl, h2, h3⟩ := h.acts
  exact ⟨⟨A, c, rfl, h2, h3.imp id fun ⟨g, e, hg, hr⟩ => ⟨g, e, ⟨Nat.le_trans hM hg.1, hg.2⟩, hr.weak fun _ b hb => ⟨⟨Nat.le_trans hM hb.1.1, hb.1.2⟩, hb.2⟩⟩⟩, h.mail, Nat.le_trans hM h.le, h.hi⟩
/-- What is stored ahead of it does not turn it. -/
theorem WN.far {N lo hi rb : Nat} {w w' : World} {a m : Value} {x : PWld} (h : WN N lo hi w a m x) (hS : Same (fun d => d ≠ rb) w w') (hrb : rb < N) : WN N lo hi w' a m x := by
  have hle := h.le
  refine ⟨?_, h.mail.same (hS.weak ?_) (hS.weak ?_), h.le, Nat.le_trans h.hi hS.size⟩
  · obtain ⟨A, c, rfl, h2, h3⟩ := h.acts
    refine ⟨A, c, rfl, h2, ?_⟩
    rcases h3 with h3 | ⟨g, e, hg, hr⟩
    · exact Or.inl h3
    · refine Or.inr ⟨g, e, hg, hr.same hS.size (hS.block g ?_ hr.lt) fun _ b hb hl => hS.block b ?_ hl⟩
      · have := hg.1; show g ≠ rb; omega
      · have := hb.1.1; show b ≠ rb; omega
  · intro b hb; have := hb.1.1; show b ≠ rb; omega
  · intro b hb; have := hb.1.1; show b ≠ rb; omega
end Go.Proofs.YtfbeiedhdmndnaaDoor
namespace Go.Proofs.YtfbeiedhdmndnaaDoor
open Go.RowKit

/-- What 'Truth' answers. -/
def tr (b : Bool) : Int := if b then 1 else 0
/-- What comes of two numbers. -/
def tw (op a b : Int) : Int :=
  if op = 9 then wrap64 (a + b) else if op = 10 then wrap64 (a - b) else if op = 11 then wrap64 (a * b)
  else if op = 12 then (if b = 0 then 0 else wrap64 (a.tdiv b)) else if op = 13 then (if b = 0 then 0 else a.tmod b)
  else if op = 15 then tr (a == b) else if op = 16 then tr (decide (a < b)) else if op = 17 then tr (a != 0 && b != 0)
  else if op = 18 then tr (a != 0 || b != 0) else 0
/-- Why the actor goes down by it. -/
def dn (op b : Int) : Int := if (op = 12 ∨ op = 13) ∧ b = 0 then 3 else 0
/-- What comes of one number, and whether anything does. -/
def on (op a : Int) : Int := if op = 14 then wrap64 (-a) else if op = 19 then tr (a == 0) else 0
def ok (op : Int) : Bool := op == 14 || op == 19

abbrev MM : Int := 18446744073709551616
theorem wrap_mod (x : Int) : wrap64 x % MM = x % MM := by simp only [wrap64, MM]; omega
theorem wrap_eq {x y : Int} (h : x % MM = y % MM) : wrap64 x = wrap64 y := by
  simp only [wrap64, MM] at *; omega
theorem wrap_inN {x : Int} (h : -9223372036854775808 ≤ x ∧ x ≤ 9223372036854775807) : wrap64 x = x := IntWalk.wrap64_in x h
theorem wf_bd {x : Int} (h : (Lit.int .i64 x).wf = true) : -9223372036854775808 ≤ x ∧ x ≤ 9223372036854775807 := by
  simpa [Lit.wf, IntKind.min, IntKind.max, IntKind.signed, IntKind.bits] using h
theorem wrap_is {x y : Int} (h : x % MM = y % MM) (hy : -9223372036854775808 ≤ y ∧ y ≤ 9223372036854775807) : wrap64 x = y :=
  (wrap_eq h).trans (wrap_inN hy)
theorem mod_add {a b c d : Int} (h : a % MM = c % MM) (k : b % MM = d % MM) : (a + b) % MM = (c + d) % MM := by
  rw [Int.add_emod, h, k, ← Int.add_emod]
theorem mod_mul {a b c d : Int} (h : a % MM = c % MM) (k : b % MM = d % MM) : (a * b) % MM = (c * d) % MM := by
  rw [Int.mul_emod, h, k, ← Int.mul_emod]

theorem tw_add (a b : Int) : tw 9 a b = wrap64 (a + b) := rfl
theorem tw_sub (a b : Int) : tw 10 a b = wrap64 (a - b) := rfl
theorem tw_mul (a b : Int) : tw 11 a b = wrap64 (a * b) := rfl
theorem tw_div {a b : Int} (h : b ≠ 0) : tw 12 a b = wrap64 (a.tdiv b) := by simp [tw, h]
theorem tw_mod {a b : Int} (h : b ≠ 0) : tw 13 a b = a.tmod b := by simp [tw, h]
theorem tw_div0 (a : Int) : tw 12 a 0 = 0 := rfl
theorem tw_mod0 (a : Int) : tw 13 a 0 = 0 := rfl
theorem tw_eq (a b : Int) : tw 15 a b = tr (a == b) := rfl
theorem tw_less (a b : Int) : tw 16 a b = tr (decide (a < b)) := rfl
theorem tw_and (a b : Int) : tw 17 a b = tr (a != 0 && b != 0) := rfl
theorem tw_or (a b : Int) : tw 18 a b = tr (a != 0 || b != 0) := rfl
theorem dn_div {b : Int} (h : b ≠ 0) : dn 12 b = 0 := by simp [dn, h]
theorem dn_mod {b : Int} (h : b ≠ 0) : dn 13 b = 0 := by simp [dn, h]
theorem on_neg (a : Int) : on 14 a = wrap64 (-a) := rfl
theorem on_not (a : Int) : on 19 a = tr (a == 0) := rfl

/-- What was added is taken away again. -/
theorem add_sub {a b : Int} (h : (Lit.int .i64 a).wf = true) : tw 10 (tw 9 a b) b = a := by
  rw [tw_add, tw_sub]
  refine wrap_is ?_ (wf_bd h)
  rw [Int.sub_eq_add_neg, mod_add (wrap_mod _) rfl, show a + b + -b = a by omega]
theorem mul_swap (a b : Int) : tw 11 b a = tw 11 a b := by rw [tw_mul, tw_mul, Int.mul_comm]
theorem add_neg (a : Int) : tw 9 a (on 14 a) = 0 := by
  rw [tw_add, on_neg]
  refine wrap_is ?_ (by omega)
  rw [mod_add rfl (wrap_mod _), show a + -a = 0 by omega]
theorem mul_sum (a b c : Int) : tw 11 a (tw 9 b c) = tw 9 (tw 11 a b) (tw 11 a c) := by
  rw [tw_add, tw_mul, tw_mul, tw_mul, tw_add]
  refine wrap_eq ?_
  rw [mod_mul rfl (wrap_mod _), mod_add (wrap_mod _) (wrap_mod _), Int.mul_add]
theorem div_back {a b : Int} (h : (Lit.int .i64 a).wf = true) (hb : b ≠ 0) : tw 9 (tw 11 (tw 12 a b) b) (tw 13 a b) = a := by
  rw [tw_div hb, tw_mod hb, tw_mul, tw_add]
  refine wrap_is ?_ (wf_bd h)
  rw [mod_add ((wrap_mod _).trans (mod_mul (wrap_mod _) rfl)) rfl, Int.tdiv_mul_add_tmod]
end Go.Proofs.YtfbeiedhdmndnaaDoor
namespace Go.Proofs.YtfbeiedhdmndnaaDoor
open Go.RowKit

/-- What comes of a handler. -/
structure PRes where
  loc : PLoc
  notes : List PNte
  steps : Int
  deriving DecidableEq, Inhabited
/-- A handler on its way: the stack's upper number first. -/
structure MS where
  regs : List Int
  armed : Bool
  notes : List PNte
  st : List Int
  pc : Nat
  steps : Nat
  deriving DecidableEq, Inhabited

/-- The upper number, and the one below. -/
def hd0 : List Int → Int
  | [] => 0
  | x :: _ => x
/-- The timer of an actor. -/
def tmr (p : PPrg) (who : Int) : Int := ((p.acs[who.toNat]?).map (·.timer)).getD (-1)
/-- P6.1: one instruction; why the actor goes down, 0 if it does not. -/
def stp (p : PPrg) (who : Int) (args : List Int) (len : Nat) (i : PIns) (s : MS) : Int × MS :=
  match i.op.toNat with
  | 1 => (0, { s with st := i.a :: s.st })
  | 2 => (0, { s with st := s.st.tail })
  | 3 => (0, { s with st := hd0 s.st :: s.st })
  | 4 => (0, { s with st := hd0 s.st.tail :: hd0 s.st :: s.st.tail.tail })
  | 5 => (0, { s with st := s.regs.getD i.a.toNat 0 :: s.st })
  | 6 => (0, { s with st := s.st.tail, regs := s.regs.set i.a.toNat (hd0 s.st) })
  | 7 => (0, { s with st := args.getD i.a.toNat 0 :: s.st })
  | 8 => (0, { s with st := who :: s.st })
  | 14 => (0, { s with st := on 14 (hd0 s.st) :: s.st.tail })
  | 19 => (0, { s with st := on 19 (hd0 s.st) :: s.st.tail })
  | 20 => (0, { s with pc := i.a.toNat })
  | 21 => (0, { s with st := s.st.tail, pc := if hd0 s.st = 0 then i.a.toNat else s.pc })
  | 22 => if 0 ≤ hd0 s.st ∧ hd0 s.st < p.acs.length
      then (0, { s with st := s.st.tail.drop (argsOf p.hs i.a).toNat, notes := s.notes ++ [⟨hd0 s.st, i.a, (s.st.tail.take (argsOf p.hs i.a).toNat).reverse⟩] })
      else (4, { s with st := s.st.tail })
  | 23 => (0, { s with armed := s.armed || tmr p who != -1 })
  | 24 => (0, { s with armed := false })
  | 25 => (0, { s with pc := len })
  | _ => (dn i.op (hd0 s.st), { s with st := tw i.op (hd0 s.st.tail) (hd0 s.st) :: s.st.tail.tail })

/-- All of them, with so much fuel left. -/
def rn (p : PPrg) (who : Int) (args : List Int) (code : List PIns) : Nat → MS → Int × MS
  | 0, s => if s.pc < code.length then (2, s) else (0, s)
  | f + 1, s =>
    if s.pc < code.length then
      (let r := stp p who args code.length (code.getD s.pc default) { s with pc := s.pc + 1, steps := s.steps + 1 }
       if r.1 = 0 then rn p who args code f r.2 else r)
    else (0, s)

/-- P6.1: whether it may be run. -/
noncomputable def mayP (p : PPrg) (who : Int) (l : PLoc) (h : Int) (args : List Int) : Prop :=
  fc p = 0 ∧ (0 ≤ who ∧ who < p.acs.length) ∧ (0 ≤ h ∧ h < p.hs.length) ∧ (args.length : Int) = argsOf p.hs h ∧ l.regs.length ≤ 8 ∧ l.down = 0
/-- The state ahead of the first instruction. -/
def ms0 (l : PLoc) : MS := ⟨l.regs, l.armed, [], [], 0, 0⟩
/-- P6.2. -/
def fin (l : PLoc) (r : Int × MS) : PRes :=
  if r.1 = 0 then ⟨⟨r.2.regs, r.2.armed, l.down, wrap64 (l.sent + r.2.notes.length), l.over⟩, r.2.notes, r.2.steps⟩ else ⟨{ l with down := r.1 }, [], r.2.steps⟩
def rnR (p : PPrg) (who : Int) (l : PLoc) (h : Int) (args : List Int) : Int × MS := rn p who args (fcode p h) p.fuel.toNat (ms0 l)
open Classical in
noncomputable def runP (p : PPrg) (who : Int) (l : PLoc) (h : Int) (args : List Int) : PRes :=
  if mayP p who l h args then fin l (rnR p who l h args) else ⟨⟨[], false, 0, 0, 0⟩, [], 0⟩

/-- What is known of an instruction that is reached, of a checked handler. -/
structure OkS (p : PPrg) (args : List Int) (code : List PIns) (s : MS) (i : PIns) : Prop where
  ok : okI p.hs i s.st.length
  vl : vl i.op = true
  reg : i.op = 5 ∨ i.op = 6 → 0 ≤ i.a ∧ i.a ≤ 7
  arg : i.op = 7 → 0 ≤ i.a ∧ i.a < args.length
  tgt : i.op = 20 ∨ i.op = 21 → 0 ≤ i.a ∧ i.a ≤ code.length
  snd : i.op = 22 → (0 ≤ i.a ∧ i.a < p.hs.length) ∧ 0 ≤ argsOf p.hs i.a ∧ argsOf p.hs i.a ≤ 4
end Go.Proofs.YtfbeiedhdmndnaaDoor
namespace Go.Proofs.YtfbeiedhdmndnaaDoor
open Go.RowKit

/-- What does not turn while a handler runs. -/
structure FX where
  a1 : Value
  a2 : Value
  a3 : Value
  fuel : Int
  who : Int
  va : Value
  vc : Value
  vr : Value
  down : Int
  sent : Int
  over : Int
/-- The run's cells. -/
def rv (x : FX) (ar : Bool) (vn : Value) (sk : List Int) (d a s : Int) : Nat → Value
  | 0 => x.a1
  | 1 => x.a2
  | 2 => x.a3
  | 3 => .int .i64 x.fuel
  | 4 => .int .i64 x.who
  | 5 => x.va
  | 6 => x.vc
  | 7 => x.vr
  | 8 => .bool ar
  | 9 => .int .i64 x.down
  | 10 => .int .i64 x.sent
  | 11 => .int .i64 x.over
  | 12 => vn
  | 21 => .int .i64 d
  | 22 => .int .i64 a
  | 23 => .int .i64 s
  | j => .int .i64 (sk.getD (j - 13) 0)
theorem rv_sk {x : FX} {ar : Bool} {vn : Value} {sk : List Int} {d a s : Int} {j : Nat} (hj : j < 8) : rv x ar vn sk d a s (13 + j) = .int .i64 (sk.getD j 0) := by
  match j, hj with
  | 0, _ => rfl
  | 1, _ => rfl
  | 2, _ => rfl
  | 3, _ => rfl
  | 4, _ => rfl
  | 5, _ => rfl
  | 6, _ => rfl
  | 7, _ => rfl

/-- Numbers in a row of the call's own, at its head. -/
def RG (w0 : World) (B : Nat) (w : World) (v : Value) (l : List Int) : Prop :=
  ∃ A c, v = .slice A l.length c ∧ l.length ≤ 8 ∧ l.length ≤ c ∧ (l = [] ∨ ∃ (b : Nat) (cur : Array Value), A = some ⟨b, 0, none⟩ ∧ w0.heap.size ≤ b ∧ b ≠ B ∧ w.heap[b]? = some (.cells cur 3) ∧ ∀ (k : Nat) (x : Int), l[k]? = some x → cur[k]? = some (Value.int .i64 x))
/-- The block of a list at a row's head. -/
def hb (v : Value) : Option Nat := match v with | .slice (some a) (_ + 1) _ => some a.block | _ => none
theorem RG.hb {w0 w : World} {B : Nat} {v : Value} {l : List Int} (h : RG w0 B w v l) {b : Nat} (e : hb v = some b) : w0.heap.size ≤ b ∧ b ≠ B ∧ b < w.heap.size := by
  obtain ⟨A, c, rfl, _, _, h⟩ := h
  rcases h with rfl | ⟨b', cur, rfl, h1, h2, h3, _⟩
  · cases A <;> cases e
  · cases l with
    | nil => cases e
    | cons _ _ =>
      have e' : b' = b := Option.some.inj e
      subst e'
      exact ⟨h1, h2, (Array.getElem?_eq_some_iff.1 h3).1⟩
theorem RG.same {w0 w w' : World} {B : Nat} {v : Value} {l : List Int} (h : RG w0 B w v l) (hs : ∀ b, YtfbeiedhdmndnaaDoor.hb v = some b → w'.heap[b]? = w.heap[b]?) : RG w0 B w' v l := by
  obtain ⟨A, c, rfl, hl, hcp, h⟩ := h
  refine ⟨A, c, rfl, hl, hcp, ?_⟩
  rcases h with rfl | ⟨b, cur, rfl, h1, h2, h3, h4⟩
  · exact Or.inl rfl
  · cases l with
    | nil => exact Or.inl rfl
    | cons _ _ => exact Or.inr ⟨b, cur, rfl, h1, h2, (hs b rfl).trans h3, h4⟩
theorem RG.form {w0 w : World} {B : Nat} {v : Value} {l : List Int} (h : RG w0 B w v l) : ∃ A c, v = .slice A l.length c ∧ l.length ≤ 8 := let ⟨A, c, h1, h2, _⟩ := h; ⟨A, c, h1, h2⟩
theorem RG.cell {w0 w : World} {B : Nat} {A : Option Addr} {n c : Nat} {l : List Int} (h : RG w0 B w (.slice A n c) l) {k : Nat} (hk : k < l.length) :
    ∃ b x, A = some ⟨b, 0, none⟩ ∧ YtfbeiedhdmndnaaDoor.hb (.slice A n c) = some b ∧ l[k]? = some x ∧ b < w.heap.size ∧ b ≠ B ∧ w.cell? ⟨b, k, none⟩ = some (.int .i64 x) ∧ ∀ j, w.frozen? ⟨b, j, none⟩ = false := by
  obtain ⟨A', c', e, _, _, h⟩ := h
  cases e
  obtain ⟨x, hx⟩ := at_lt hk
  rcases h with rfl | ⟨b, cur, rfl, h1, h2, h3, h4⟩
  · cases hx
  · cases l with
    | nil => cases hx
    | cons _ _ => exact ⟨b, x, rfl, rfl, hx, (Array.getElem?_eq_some_iff.1 h3).1, h2, by simp [World.cell?, h3, h4 _ _ hx], fun j => by simp [World.frozen?, h3]⟩
theorem RG.set {w0 w : World} {B : Nat} {A : Option Addr} {n c b k : Nat} {l : List Int} (h : RG w0 B w (.slice A n c) l) (hA : A = some ⟨b, 0, none⟩) (hk : k < l.length) (y : Int) : RG w0 B (w.setCell ⟨b, k, none⟩ (.int .i64 y)) (.slice A n c) (l.set k y) := by
  obtain ⟨A', c', e, hl, hcp, h⟩ := h
  cases e
  refine ⟨A, c, by rw [List.length_set], by rw [List.length_set]; exact hl, by rw [List.length_set]; exact hcp, ?_⟩
  rcases h with rfl | ⟨b', cur, rfl, h1, h2, h3, h4⟩
  · simp at hk
  · cases hA
    refine Or.inr ⟨b, cur.setIfInBounds k (.int .i64 y), rfl, h1, h2, setCell_heap h3, fun j x hx => ?_⟩
    obtain ⟨z, hz⟩ := at_lt hk
    have hkc := (Array.getElem?_eq_some_iff.1 (h4 k z hz)).1
    by_cases e : k = j
    · subst e
      rw [List.getElem?_set_self hk] at hx
      cases hx
      rw [Array.getElem?_setIfInBounds_self_of_lt hkc]
    · rw [List.getElem?_set_ne e] at hx
      rw [Array.getElem?_setIfInBounds_ne e]
      exact h4 j x hx
theorem RG.ints {w0 w : World} {B : Nat} {v : Value} {l : List Int} (h : RG w0 B w v l) : Ints (fun b => w0.heap.size ≤ b) w v l := by
  obtain ⟨A, c, rfl, hl, hcp, h⟩ := h
  refine ⟨A, c, rfl, by omega, hcp, ?_⟩
  rcases h with rfl | ⟨b, cur, rfl, h1, h2, h3, h4⟩
  · exact Or.inl rfl
  · exact Or.inr ⟨b, 0, rfl, h1, (Array.getElem?_eq_some_iff.1 h3).1, fun k x hx => by
      show w.cell? ⟨b, 0 + k * 1, none⟩ = _
      rw [Nat.zero_add, Nat.mul_one]
      simp [World.cell?, h3, h4 _ _ hx]⟩

/-- Notes in a row of the call's own; each one's arguments elsewhere, in blocks of which ex does not say yes. -/
structure NT (w0 : World) (ex : Nat → Prop) (w : World) (v : Value) (l : List PNte) (us : List Value) : Prop where
  own : w.ownsRow w0.heap.size 50 3 v l.length ((List.zipWith (fun (n : PNte) u => [Value.int .i64 n.to, Value.int .i64 n.hd, u]) l us).flatten)
  len : us.length = l.length
  rd : ∀ (k : Nat) (n : PNte) (u : Value), l[k]? = some n → us[k]? = some u → Ints (fun b => w0.heap.size ≤ b ∧ ¬ ex b ∧ v.ownBlock ≠ some b) w u n.args
  nx : ∀ g, v.ownBlock = some g → ¬ ex g
theorem NT.same {w0 w w' : World} {ex : Nat → Prop} {v : Value} {l : List PNte} {us : List Value} (h : NT w0 ex w v l us) (hz : w.heap.size ≤ w'.heap.size) (hs : ∀ b, b < w.heap.size → ¬ ex b → w'.heap[b]? = w.heap[b]?) : NT w0 ex w' v l us :=
  ⟨own_block h.own fun g hg hlt => hs g hlt (h.nx g hg), h.len, fun k n u hn hu => (h.rd k n u hn hu).same ⟨hz, fun b hb hlt => hs b hlt hb.2.1⟩, h.nx⟩
theorem NT.form {w0 w : World} {ex : Nat → Prop} {v : Value} {l : List PNte} {us : List Value} (h : NT w0 ex w v l us) : ∃ A c, v = .slice A l.length c := by
  obtain ⟨h1, h2⟩ := h.own
  rcases h2 with ⟨rfl, h2⟩ | ⟨g, cap, cur, rfl, _⟩
  · exact ⟨none, 0, by rw [h2]⟩
  · exact ⟨_, cap, rfl⟩
theorem NT.nil (w0 w : World) (ex : Nat → Prop) : NT w0 ex w (.slice none 0 0) [] [] :=
  ⟨⟨rfl, Or.inl ⟨rfl, rfl⟩⟩, rfl, fun k n u hn => by simp at hn, fun g hg => by cases hg⟩
theorem NT.push {w0 w w1 w' : World} {ex : Nat → Prop} {v : Value} {l : List PNte} {us : List Value} {g cap : Nat} {n : PNte} {u : Value} (h : NT w0 ex w v l us) (hz : w0.heap.size ≤ w.heap.size) (hb1 : Below w.heap.size w w1)
    (hex : ∀ b, ex b → b < w.heap.size)
    (ho : w'.ownsRow w0.heap.size 50 3 (.slice (some ⟨g, 0, none⟩) (l.length + 1) cap) (l.length + 1) ((List.zipWith (fun (n : PNte) u => [Value.int .i64 n.to, Value.int .i64 n.hd, u]) l us).flatten ++ [Value.int .i64 n.to, Value.int .i64 n.hd, u]))
    (hg : w1.grownBy w' v.ownBlock) (hat : v.ownBlock = some g ∨ g = w1.heap.size) (hu : Ints (fun b => w.heap.size ≤ b) w1 u n.args) :
    NT w0 ex w' (.slice (some ⟨g, 0, none⟩) (l.length + 1) cap) (l ++ [n]) (us ++ [u]) := by
  have hs := hb1.size
  have hge : ∀ b, (Value.slice (some ⟨g, 0, none⟩) (l.length + 1) cap).ownBlock = some b → b = g := fun b hb => (Option.some.inj hb).symm
  refine ⟨?_, by simp [h.len], fun k n' u' hn hu' => ?_, fun b hb => ?_⟩
  · rw [List.length_append, List.length_singleton]
    rw [List.zipWith_append (by rw [h.len]), List.flatten_append]
    simpa using ho
  · by_cases hk : k < l.length
    · rw [List.getElem?_append_left hk] at hn
      rw [List.getElem?_append_left (by rw [h.len]; exact hk)] at hu'
      have h1 := (h.rd k n' u' hn hu').lt
      refine (h1.imp (fun b hb => ⟨hb.1.1, hb.1.2.1, fun e => ?_⟩) (Nat.le_trans hs hg.size) fun b o x hb hlt hr => ?_)
      · have := hge b e
        subst this
        rcases hat with hat | hat
        · exact hb.1.2.2 hat
        · have := hb.2; omega
      · have e1 := hg.block b (by omega) (fun e => hb.1.2.2 e.symm)
        have e2 := hb1.block b hlt
        exact (World.cell?_of_block (w := w) (e1.trans e2)).trans hr
    · have hk2 : k = l.length := by have := (List.getElem?_eq_some_iff.1 hn).1; simp at this; omega
      subst hk2
      rw [List.getElem?_append_right (by omega)] at hn
      rw [List.getElem?_append_right (by rw [h.len]; omega)] at hu'
      simp [h.len] at hn hu'
      subst hn hu'
      refine hu.lt.imp (fun b hb => ⟨by omega, fun e => ?_, fun e => ?_⟩) hg.size fun b o x hb hlt hr => ?_
      · have := hex b e; omega
      · have := hge b e
        subst this
        rcases hat with hat | hat
        · have := (own_lt h.own hat).2; omega
        · have := hb.2; omega
      · refine (World.cell?_of_block (w := w1) (hg.block b hlt (fun e => ?_))).trans hr
        have := (own_lt h.own e.symm).2; omega
  · have := hge b hb
    subst this
    rcases hat with hat | hat
    · exact h.nx _ hat
    · intro e; have := hex _ e; omega
theorem zip_lenV : ∀ (l : List PNte) (us : List Value), ∀ e ∈ List.zipWith (fun (n : PNte) u => [Value.int .i64 n.to, Value.int .i64 n.hd, u]) l us, e.length = 3
  | [], _, e, he => by simp at he
  | _ :: _, [], e, he => by simp at he
  | n :: l, u :: us, e, he => by
    rw [List.zipWith_cons_cons, List.mem_cons] at he
    rcases he with rfl | he
    · rfl
    · exact zip_lenV l us e he
theorem NT.ntes {w0 w : World} {ex : Nat → Prop} {v : Value} {l : List PNte} {us : List Value} (h : NT w0 ex w v l us) (hl : l.length ≤ 1000000) : Ntes (fun b => w0.heap.size ≤ b) (fun b => w0.heap.size ≤ b) w v l := by
  obtain ⟨h1, h2⟩ := h.own
  rcases h2 with ⟨rfl, h2⟩ | ⟨g, cap, cur, rfl, hb, hh, h3, h4, h5, h6⟩
  · have : l = [] := by cases l with | nil => rfl | cons _ _ => simp at h2
    subst this; exact ⟨_, _, rfl, by simp, by simp, Or.inl rfl⟩
  · refine ⟨_, cap, rfl, by omega, h3, Or.inr ⟨g, 0, rfl, hb, (Array.getElem?_eq_some_iff.1 hh).1, fun k n hn => ?_⟩⟩
    have hk := (List.getElem?_eq_some_iff.1 hn).1
    obtain ⟨u, hu⟩ := at_lt (l := us) (k := k) (by rw [h.len]; exact hk)
    have hz : (List.zipWith (fun (n : PNte) u => [Value.int .i64 n.to, Value.int .i64 n.hd, u]) l us)[k]? = some [Value.int .i64 n.to, Value.int .i64 n.hd, u] := by
      rw [List.getElem?_zipWith, hn, hu]
    have hcell : ∀ j, j < l.length * 3 → w.cell? ⟨g, j, none⟩ = ((List.zipWith (fun (n : PNte) u => [Value.int .i64 n.to, Value.int .i64 n.hd, u]) l us).flatten)[j]? := fun j hj => by
      rw [cell_of_row _ _ _ _ _ _ hh, ← h6, List.getElem?_take, if_pos hj]; simp
    have hc : ∀ j, j < 3 → w.cell? ⟨g, 0 + k * 3 + j, none⟩ = [Value.int .i64 n.to, Value.int .i64 n.hd, u][j]? := fun j hj => by
      rw [Nat.zero_add, hcell _ (by omega), flat_at _ (zip_lenV l us) k j hj, hz]; rfl
    exact ⟨hc 0 (by omega), hc 1 (by omega), u, hc 2 (by omega), (h.rd k n u hn hu).imp (fun b hb => hb.1) (Nat.le_refl _) fun _ _ _ _ _ h => h⟩

/-- The machine's memory. w0: the world ahead of the call; B: the run's block. -/
structure RM (w0 : World) (B : Nat) (x : FX) (vn : Value) (us : List Value) (sk : List Int) (s : MS) (w : World) : Prop where
  low : Below w0.heap.size w0 w
  row : w.rowIs B 77 24 (rv x s.armed vn sk s.st.length s.pc s.steps)
  base : w0.heap.size ≤ B
  skl : sk.length = 8
  stk : sk.take s.st.length = s.st.reverse
  st8 : s.st.length ≤ 8
  regs : RG w0 B w x.vr s.regs
  nts : NT w0 (fun b => b = B ∨ hb x.vr = some b) w vn s.notes us
section
variable {w0 w w1 w' : World} {B : Nat} {x : FX} {vn : Value} {us : List Value} {sk : List Int} {s : MS}
theorem RM.lt (h : RM w0 B x vn us sk s w) : B < w.heap.size := h.row.lt
theorem RM.below (h : RM w0 B x vn us sk s w) (hb : Below w.heap.size w w1) : RM w0 B x vn us sk s w1 :=
  ⟨bTrans h.low hb, h.row.of_block (hb.block B h.lt), h.base, h.skl, h.stk, h.st8, h.regs.same fun b e => hb.block b (h.regs.hb e).2.2, h.nts.same hb.size fun b hlt _ => hb.block b hlt⟩
/-- A store into the run's block. -/
theorem RM.setB (h : RM w0 B x vn us sk s w) (j : Nat) (u : Value) (s' : MS) (sk' : List Int) (hr : s'.regs = s.regs) (hn : s'.notes = s.notes) (hl : sk'.length = 8) (ht : sk'.take s'.st.length = s'.st.reverse) (h8 : s'.st.length ≤ 8)
    (hv : ∀ i, i < 24 → (if i = j then u else rv x s.armed vn sk s.st.length s.pc s.steps i) = rv x s'.armed vn sk' s'.st.length s'.pc s'.steps i) : RM w0 B x vn us sk' s' (w.setCell ⟨B, j, none⟩ u) := by
  have hne : ∀ b, b ≠ B → (w.setCell ⟨B, j, none⟩ u).heap[b]? = w.heap[b]? := fun b hb => Below.heap_setCell _ _ _ _ (fun e => hb (by have e' : b = B := e; exact e'))
  refine ⟨h.low.setCell h.base _, (h.row.set j u).congr hv, h.base, hl, ht, h8, ?_, ?_⟩
  · rw [hr]; exact h.regs.same fun b e => hne b (h.regs.hb e).2.1
  · rw [hn]; exact h.nts.same (by simp) fun b _ hb => hne b (fun e => hb (Or.inl e))
/-- What the cells hold. -/
theorem RM.c (h : RM w0 B x vn us sk s w) (i : Nat) (hi : i < 24) : w.cell? ⟨B, i, none⟩ = some (rv x s.armed vn sk s.st.length s.pc s.steps i) := h.row.cell hi
theorem RM.fz (h : RM w0 B x vn us sk s w) (i : Nat) : w.frozen? ⟨B, i, none⟩ = false := h.row.frozen i
theorem RM.sc (h : RM w0 B x vn us sk s w) {j : Nat} (hj : j < 8) : w.cell? ⟨B, 13 + j, none⟩ = some (.int .i64 (sk.getD j 0)) := by rw [h.c _ (by omega), rv_sk hj]
end
end Go.Proofs.YtfbeiedhdmndnaaDoor
namespace Go.Proofs.YtfbeiedhdmndnaaDoor
open Go.RowKit

theorem ret_two {a b c d : Int} (h : a = c) (k : b = d) : Ending.returned (.tuple #[.int .i64 a, .int .i64 b]) = .returned (.tuple #[.int .i64 c, .int .i64 d]) := by rw [h, k]
theorem ret_one {a c : Int} {b d : Bool} (h : a = c) (k : b = d) : Ending.returned (.tuple #[.int .i64 a, .bool b]) = .returned (.tuple #[.int .i64 c, .bool d]) := by rw [h, k]

theorem truth_any (b : Bool) (w : World) : Calls Tryd.prog 105 #[.bool b] w fun e w' => e = .returned (.int .i64 (tr b)) ∧ w' = w := by
  cases b
  all_goals
    go_enter Tryd.func105, Tryd.ntmps105
    go_wp2
    go_ret
    exact ⟨rfl, rfl⟩
theorem rtruth_any (b : Bool) (w : World) : Calls Tryd.prog 54 #[.bool b] w fun e w' => e = .returned (.int .i64 (tr b)) ∧ w' = w := by
  cases b
  all_goals
    go_enter Tryd.func54, Tryd.ntmps54
    go_wp2
    go_ret
    exact ⟨rfl, rfl⟩

theorem divide_nought (op a : Int) (w : World) : Calls Tryd.prog 115 #[.int .i64 op, .int .i64 a, .int .i64 0] w fun e w' => e = .returned (.tuple #[.int .i64 0, .int .i64 3]) ∧ w' = w := by
  go_enter Tryd.func115, Tryd.ntmps115
  go_wp2
  go_ret2
  exact ⟨rfl, rfl⟩
theorem divide_div (a b : Int) (hb : b ≠ 0) (w : World) : Calls Tryd.prog 115 #[.int .i64 12, .int .i64 a, .int .i64 b] w fun e w' => e = .returned (.tuple #[.int .i64 (wrap64 (a.tdiv b)), .int .i64 0]) ∧ w' = w := by
  go_enter Tryd.func115, Tryd.ntmps115
  go_wp2
  go_ret2
  exact ⟨rfl, rfl⟩
theorem divide_mod (a b : Int) (hb : b ≠ 0) (w : World) : Calls Tryd.prog 115 #[.int .i64 13, .int .i64 a, .int .i64 b] w fun e w' => e = .returned (.tuple #[.int .i64 (a.tmod b), .int .i64 0]) ∧ w' = w := by
  go_enter Tryd.func115, Tryd.ntmps115
  go_wp2
  go_ret2
  exact ⟨rfl, rfl⟩
set_option maxHeartbeats 400000 in
theorem two_add (a b : Int) (w : World) : Calls Tryd.prog 104 #[.int .i64 9, .int .i64 a, .int .i64 b] w fun e w' => e = .returned (.tuple #[.int .i64 (tw 9 a b), .int .i64 (dn 9 b)]) ∧ w' = w := by
  go_enter Tryd.func104, Tryd.ntmps104
  go_wp2
  go_ret2
  exact ⟨ret_two rfl rfl, rfl⟩

set_option maxHeartbeats 400000 in
theorem two_sub (a b : Int) (w : World) : Calls Tryd.prog 104 #[.int .i64 10, .int .i64 a, .int .i64 b] w fun e w' => e = .returned (.tuple #[.int .i64 (tw 10 a b), .int .i64 (dn 10 b)]) ∧ w' = w := by
  go_enter Tryd.func104, Tryd.ntmps104
  go_wp2
  go_ret2
  exact ⟨ret_two rfl rfl, rfl⟩

set_option maxHeartbeats 400000 in
theorem two_mul (a b : Int) (w : World) : Calls Tryd.prog 104 #[.int .i64 11, .int .i64 a, .int .i64 b] w fun e w' => e = .returned (.tuple #[.int .i64 (tw 11 a b), .int .i64 (dn 11 b)]) ∧ w' = w := by
  go_enter Tryd.func104, Tryd.ntmps104
  go_wp2
  go_ret2
  exact ⟨ret_two rfl rfl, rfl⟩

set_option maxHeartbeats 400000 in
theorem two_div0 (a : Int) (w : World) : Calls Tryd.prog 104 #[.int .i64 12, .int .i64 a, .int .i64 0] w fun e w' => e = .returned (.tuple #[.int .i64 (tw 12 a 0), .int .i64 (dn 12 0)]) ∧ w' = w := by
  go_enter Tryd.func104, Tryd.ntmps104
  go_wp2_with (go_at_call 115; refine (divide_nought _ _ _).mono ?_; rintro e w' ⟨rfl, rfl⟩)
  go_ret2
  exact ⟨ret_two rfl rfl, rfl⟩

set_option maxHeartbeats 400000 in
theorem two_div (a b : Int) (hb : b ≠ 0) (w : World) : Calls Tryd.prog 104 #[.int .i64 12, .int .i64 a, .int .i64 b] w fun e w' => e = .returned (.tuple #[.int .i64 (tw 12 a b), .int .i64 (dn 12 b)]) ∧ w' = w := by
  go_enter Tryd.func104, Tryd.ntmps104
  go_wp2_with (go_at_call 115; refine (divide_div _ _ hb _).mono ?_; rintro e w' ⟨rfl, rfl⟩)
  go_ret2
  exact ⟨ret_two (tw_div hb).symm (dn_div hb).symm, rfl⟩

set_option maxHeartbeats 400000 in
theorem two_mod0 (a : Int) (w : World) : Calls Tryd.prog 104 #[.int .i64 13, .int .i64 a, .int .i64 0] w fun e w' => e = .returned (.tuple #[.int .i64 (tw 13 a 0), .int .i64 (dn 13 0)]) ∧ w' = w := by
  go_enter Tryd.func104, Tryd.ntmps104
  go_wp2_with (go_at_call 115; refine (divide_nought _ _ _).mono ?_; rintro e w' ⟨rfl, rfl⟩)
  go_ret2
  exact ⟨ret_two rfl rfl, rfl⟩

set_option maxHeartbeats 400000 in
theorem two_mod (a b : Int) (hb : b ≠ 0) (w : World) : Calls Tryd.prog 104 #[.int .i64 13, .int .i64 a, .int .i64 b] w fun e w' => e = .returned (.tuple #[.int .i64 (tw 13 a b), .int .i64 (dn 13 b)]) ∧ w' = w := by
  go_enter Tryd.func104, Tryd.ntmps104
  go_wp2_with (go_at_call 115; refine (divide_mod _ _ hb _).mono ?_; rintro e w' ⟨rfl, rfl⟩)
  go_ret2
  exact ⟨ret_two (tw_mod hb).symm (dn_mod hb).symm, rfl⟩

set_option maxHeartbeats 400000 in
theorem two_eq (a b : Int) (w : World) : Calls Tryd.prog 104 #[.int .i64 15, .int .i64 a, .int .i64 b] w fun e w' => e = .returned (.tuple #[.int .i64 (tw 15 a b), .int .i64 (dn 15 b)]) ∧ w' = w := by
  go_enter Tryd.func104, Tryd.ntmps104
  go_wp2_with (go_at_call 105; refine (truth_any _ _).mono ?_; rintro e w' ⟨rfl, rfl⟩)
  go_ret2
  exact ⟨ret_two rfl rfl, rfl⟩

set_option maxHeartbeats 400000 in
theorem two_less (a b : Int) (w : World) : Calls Tryd.prog 104 #[.int .i64 16, .int .i64 a, .int .i64 b] w fun e w' => e = .returned (.tuple #[.int .i64 (tw 16 a b), .int .i64 (dn 16 b)]) ∧ w' = w := by
  go_enter Tryd.func104, Tryd.ntmps104
  go_wp2_with (go_at_call 105; refine (truth_any _ _).mono ?_; rintro e w' ⟨rfl, rfl⟩)
  go_ret2
  exact ⟨ret_two rfl rfl, rfl⟩

set_option maxHeartbeats 400000 in
theorem two_and (a b : Int) (w : World) : Calls Tryd.prog 104 #[.int .i64 17, .int .i64 a, .int .i64 b] w fun e w' => e = .returned (.tuple #[.int .i64 (tw 17 a b), .int .i64 (dn 17 b)]) ∧ w' = w := by
  by_cases ha : a = 0 <;> by_cases hb : b = 0
  all_goals
    first | subst ha | skip
    first | subst hb | skip
    go_enter Tryd.func104, Tryd.ntmps104
    go_wp2_with (go_at_call 105; refine (truth_any _ _).mono ?_; rintro e w' ⟨rfl, rfl⟩)
    go_ret2
    exact ⟨ret_two (by rw [tw_and]; try exact congrArg tr (by simp [*])) rfl, rfl⟩

set_option maxHeartbeats 400000 in
theorem two_or (a b : Int) (w : World) : Calls Tryd.prog 104 #[.int .i64 18, .int .i64 a, .int .i64 b] w fun e w' => e = .returned (.tuple #[.int .i64 (tw 18 a b), .int .i64 (dn 18 b)]) ∧ w' = w := by
  by_cases ha : a = 0 <;> by_cases hb : b = 0
  all_goals
    first | subst ha | skip
    first | subst hb | skip
    go_enter Tryd.func104, Tryd.ntmps104
    go_wp2_with (go_at_call 105; refine (truth_any _ _).mono ?_; rintro e w' ⟨rfl, rfl⟩)
    go_ret2
    exact ⟨ret_two (by rw [tw_or]; try exact congrArg tr (by simp [*])) rfl, rfl⟩
set_option maxHeartbeats 400000 in
theorem rtwo_add (a b : Int) (w : World) : Calls Tryd.prog 31 #[.int .i64 9, .int .i64 a, .int .i64 b] w fun e w' => e = .returned (.tuple #[.int .i64 (tw 9 a b), .int .i64 (dn 9 b)]) ∧ w' = w := by
  go_enter Tryd.func31, Tryd.ntmps31
  go_wp2
  go_ret2
  exact ⟨ret_two rfl rfl, rfl⟩

set_option maxHeartbeats 400000 in
theorem rtwo_sub (a b : Int) (w : World) : Calls Tryd.prog 31 #[.int .i64 10, .int .i64 a, .int .i64 b] w fun e w' => e = .returned (.tuple #[.int .i64 (tw 10 a b), .int .i64 (dn 10 b)]) ∧ w' = w := by
  go_enter Tryd.func31, Tryd.ntmps31
  go_wp2
  go_ret2
  exact ⟨ret_two rfl rfl, rfl⟩

set_option maxHeartbeats 400000 in
theorem rtwo_mul (a b : Int) (w : World) : Calls Tryd.prog 31 #[.int .i64 11, .int .i64 a, .int .i64 b] w fun e w' => e = .returned (.tuple #[.int .i64 (tw 11 a b), .int .i64 (dn 11 b)]) ∧ w' = w := by
  go_enter Tryd.func31, Tryd.ntmps31
  go_wp2
  go_ret2
  exact ⟨ret_two rfl rfl, rfl⟩

set_option maxHeartbeats 400000 in
theorem rtwo_div0 (a : Int) (w : World) : Calls Tryd.prog 31 #[.int .i64 12, .int .i64 a, .int .i64 0] w fun e w' => e = .returned (.tuple #[.int .i64 (tw 12 a 0), .int .i64 (dn 12 0)]) ∧ w' = w := by
  go_enter Tryd.func31, Tryd.ntmps31
  go_wp2
  go_ret2
  exact ⟨ret_two rfl rfl, rfl⟩

set_option maxHeartbeats 400000 in
theorem rtwo_div1 (a : Int) (w : World) : Calls Tryd.prog 31 #[.int .i64 12, .int .i64 a, .int .i64 (-1)] w fun e w' => e = .returned (.tuple #[.int .i64 (tw 12 a (-1)), .int .i64 (dn 12 (-1))]) ∧ w' = w := by
  go_enter Tryd.func31, Tryd.ntmps31
  go_wp2
  go_ret2
  exact ⟨ret_two (by rw [tw_div (by omega)]; simp) (dn_div (by omega)).symm, rfl⟩

set_option maxHeartbeats 400000 in
theorem rtwo_div (a b : Int) (hb : b ≠ 0) (hb1 : b ≠ -1) (w : World) : Calls Tryd.prog 31 #[.int .i64 12, .int .i64 a, .int .i64 b] w fun e w' => e = .returned (.tuple #[.int .i64 (tw 12 a b), .int .i64 (dn 12 b)]) ∧ w' = w := by
  go_enter Tryd.func31, Tryd.ntmps31
  go_wp2
  go_ret2
  exact ⟨ret_two (tw_div hb).symm (dn_div hb).symm, rfl⟩

set_option maxHeartbeats 400000 in
theorem rtwo_mod0 (a : Int) (w : World) : Calls Tryd.prog 31 #[.int .i64 13, .int .i64 a, .int .i64 0] w fun e w' => e = .returned (.tuple #[.int .i64 (tw 13 a 0), .int .i64 (dn 13 0)]) ∧ w' = w := by
  go_enter Tryd.func31, Tryd.ntmps31
  go_wp2
  go_ret2
  exact ⟨ret_two rfl rfl, rfl⟩

set_option maxHeartbeats 400000 in
theorem rtwo_mod1 (a : Int) (w : World) : Calls Tryd.prog 31 #[.int .i64 13, .int .i64 a, .int .i64 (-1)] w fun e w' => e = .returned (.tuple #[.int .i64 (tw 13 a (-1)), .int .i64 (dn 13 (-1))]) ∧ w' = w := by
  go_enter Tryd.func31, Tryd.ntmps31
  go_wp2
  go_ret2
  exact ⟨ret_two (by rw [tw_mod (by omega)]; simp) (dn_mod (by omega)).symm, rfl⟩

set_option maxHeartbeats 400000 in
theorem rtwo_mod (a b : Int) (hb : b ≠ 0) (hb1 : b ≠ -1) (w : World) : Calls Tryd.prog 31 #[.int .i64 13, .int .i64 a, .int .i64 b] w fun e w' => e = .returned (.tuple #[.int .i64 (tw 13 a b), .int .i64 (dn 13 b)]) ∧ w' = w := by
  go_enter Tryd.func31, Tryd.ntmps31
  go_wp2
  go_ret2
  exact ⟨ret_two (tw_mod hb).symm (dn_mod hb).symm, rfl⟩

set_option maxHeartbeats 400000 in
theorem rtwo_eq (a b : Int) (w : World) : Calls Tryd.prog 31 #[.int .i64 15, .int .i64 a, .int .i64 b] w fun e w' => e = .returned (.tuple #[.int .i64 (tw 15 a b), .int .i64 (dn 15 b)]) ∧ w' = w := by
  go_enter Tryd.func31, Tryd.ntmps31
  go_wp2_with (go_at_call 54; refine (rtruth_any _ _).mono ?_; rintro e w' ⟨rfl, rfl⟩)
  go_ret2
  exact ⟨ret_two rfl rfl, rfl⟩

set_option maxHeartbeats 400000 in
theorem rtwo_less (a b : Int) (w : World) : Calls Tryd.prog 31 #[.int .i64 16, .int .i64 a, .int .i64 b] w fun e w' => e = .returned (.tuple #[.int .i64 (tw 16 a b), .int .i64 (dn 16 b)]) ∧ w' = w := by
  go_enter Tryd.func31, Tryd.ntmps31
  go_wp2_with (go_at_call 54; refine (rtruth_any _ _).mono ?_; rintro e w' ⟨rfl, rfl⟩)
  go_ret2
  exact ⟨ret_two rfl rfl, rfl⟩

set_option maxHeartbeats 400000 in
theorem rtwo_and (a b : Int) (w : World) : Calls Tryd.prog 31 #[.int .i64 17, .int .i64 a, .int .i64 b] w fun e w' => e = .returned (.tuple #[.int .i64 (tw 17 a b), .int .i64 (dn 17 b)]) ∧ w' = w := by
  by_cases ha : a = 0 <;> by_cases hb : b = 0
  all_goals
    first | subst ha | skip
    first | subst hb | skip
    go_enter Tryd.func31, Tryd.ntmps31
    go_wp2_with (go_at_call 54; refine (rtruth_any _ _).mono ?_; rintro e w' ⟨rfl, rfl⟩)
    go_ret2
    exact ⟨ret_two (by rw [tw_and]; try exact congrArg tr (by simp [*])) rfl, rfl⟩

set_option maxHeartbeats 400000 in
theorem rtwo_or (a b : Int) (w : World) : Calls Tryd.prog 31 #[.int .i64 18, .int .i64 a, .int .i64 b] w fun e w' => e = .returned (.tuple #[.int .i64 (tw 18 a b), .int .i64 (dn 18 b)]) ∧ w' = w := by
  by_cases ha : a = 0 <;> by_cases hb : b = 0
  all_goals
    first | subst ha | skip
    first | subst hb | skip
    go_enter Tryd.func31, Tryd.ntmps31
    go_wp2_with (go_at_call 54; refine (rtruth_any _ _).mono ?_; rintro e w' ⟨rfl, rfl⟩)
    go_ret2
    exact ⟨ret_two (by rw [tw_or]; try exact congrArg tr (by simp [*])) rfl, rfl⟩

set_option maxHeartbeats 400000 in
theorem two_else (op a b : Int) (h : op ≠ 9 ∧ op ≠ 10 ∧ op ≠ 11 ∧ op ≠ 12 ∧ op ≠ 13 ∧ op ≠ 15 ∧ op ≠ 16 ∧ op ≠ 17 ∧ op ≠ 18) (w : World) : Calls Tryd.prog 104 #[.int .i64 op, .int .i64 a, .int .i64 b] w fun e w' => e = .returned (.tuple #[.int .i64 (tw op a b), .int .i64 (dn op b)]) ∧ w' = w := by
  obtain ⟨h1, h2, h3, h4, h5, h6, h7, h8, h9⟩ := h
  have e1 : tw op a b = 0 := by simp [tw, *]
  have e2 : dn op b = 0 := by simp [dn, *]
  rw [e1, e2]
  go_enter Tryd.func104, Tryd.ntmps104
  go_wp2
  go_ret2
  exact ⟨rfl, rfl⟩
set_option maxHeartbeats 400000 in
theorem rtwo_else (op a b : Int) (h : op ≠ 9 ∧ op ≠ 10 ∧ op ≠ 11 ∧ op ≠ 12 ∧ op ≠ 13 ∧ op ≠ 15 ∧ op ≠ 16 ∧ op ≠ 17 ∧ op ≠ 18) (w : World) : Calls Tryd.prog 31 #[.int .i64 op, .int .i64 a, .int .i64 b] w fun e w' => e = .returned (.tuple #[.int .i64 (tw op a b), .int .i64 (dn op b)]) ∧ w' = w := by
  obtain ⟨h1, h2, h3, h4, h5, h6, h7, h8, h9⟩ := h
  have e1 : tw op a b = 0 := by simp [tw, *]
  have e2 : dn op b = 0 := by simp [dn, *]
  rw [e1, e2]
  go_enter Tryd.func31, Tryd.ntmps31
  go_wp2
  go_ret2
  exact ⟨rfl, rfl⟩

/-- 'Two', whatever the instruction and the numbers. -/
theorem two_any (op a b : Int) (w : World) : Calls Tryd.prog 104 #[.int .i64 op, .int .i64 a, .int .i64 b] w fun e w' => e = .returned (.tuple #[.int .i64 (tw op a b), .int .i64 (dn op b)]) ∧ w' = w := by
  by_cases h1 : op = 9
  · subst h1; exact two_add a b w
  by_cases h2 : op = 10
  · subst h2; exact two_sub a b w
  by_cases h3 : op = 11
  · subst h3; exact two_mul a b w
  by_cases h4 : op = 12
  · subst h4
    by_cases hb : b = 0
    · subst hb; exact two_div0 a w
    · exact two_div a b hb w
  by_cases h5 : op = 13
  · subst h5
    by_cases hb : b = 0
    · subst hb; exact two_mod0 a w
    · exact two_mod a b hb w
  by_cases h6 : op = 15
  · subst h6; exact two_eq a b w
  by_cases h7 : op = 16
  · subst h7; exact two_less a b w
  by_cases h8 : op = 17
  · subst h8; exact two_and a b w
  by_cases h9 : op = 18
  · subst h9; exact two_or a b w
  exact two_else op a b ⟨h1, h2, h3, h4, h5, h6, h7, h8, h9⟩ w
/-- The reference's 'Two' answers the same. -/
theorem rtwo_any (op a b : Int) (w : World) : Calls Tryd.prog 31 #[.int .i64 op, .int .i64 a, .int .i64 b] w fun e w' => e = .returned (.tuple #[.int .i64 (tw op a b), .int .i64 (dn op b)]) ∧ w' = w := by
  by_cases h1 : op = 9
  · subst h1; exact rtwo_add a b w
  by_cases h2 : op = 10
  · subst h2; exact rtwo_sub a b w
  by_cases h3 : op = 11
  · subst h3; exact rtwo_mul a b w
  by_cases h4 : op = 12
  · subst h4
    by_cases hb : b = 0
    · subst hb; exact rtwo_div0 a w
    · by_cases hb1 : b = -1
      · subst hb1; exact rtwo_div1 a w
      · exact rtwo_div a b hb hb1 w
  by_cases h5 : op = 13
  · subst h5
    by_cases hb : b = 0
    · subst hb; exact rtwo_mod0 a w
    · by_cases hb1 : b = -1
      · subst hb1; exact rtwo_mod1 a w
      · exact rtwo_mod a b hb hb1 w
  by_cases h6 : op = 15
  · subst h6; exact rtwo_eq a b w
  by_cases h7 : op = 16
  · subst h7; exact rtwo_less a b w
  by_cases h8 : op = 17
  · subst h8; exact rtwo_and a b w
  by_cases h9 : op = 18
  · subst h9; exact rtwo_or a b w
  exact rtwo_else op a b ⟨h1, h2, h3, h4, h5, h6, h7, h8, h9⟩ w

/-- 'One', whatever the instruction and the number. -/
theorem one_any (op a : Int) (w : World) : Calls Tryd.prog 85 #[.int .i64 op, .int .i64 a] w fun e w' => e = .returned (.tuple #[.int .i64 (on op a), .bool (ok op)]) ∧ w' = w := by
  by_cases h1 : op = 14
  · subst h1
    go_enter Tryd.func85, Tryd.ntmps85
    go_wp2
    go_ret2
    exact ⟨ret_one (by rw [on_neg]) rfl, rfl⟩
  by_cases h2 : op = 19
  · subst h2
    go_enter Tryd.func85, Tryd.ntmps85
    go_wp2_with (go_at_call 105; refine (truth_any _ _).mono ?_; rintro e w' ⟨rfl, rfl⟩)
    go_ret2
    exact ⟨ret_one rfl rfl, rfl⟩
  have e1 : on op a = 0 := by simp [on, *]
  have e2 : ok op = false := by simp [ok, *]
  rw [e1, e2]
  go_enter Tryd.func85, Tryd.ntmps85
  go_wp2
  go_ret2
  exact ⟨rfl, rfl⟩

/-- 'rOne', whatever the instruction and the number. -/
theorem rone_any (op a : Int) (w : World) : Calls Tryd.prog 30 #[.int .i64 op, .int .i64 a] w fun e w' => e = .returned (.tuple #[.int .i64 (on op a), .bool (ok op)]) ∧ w' = w := by
  by_cases h1 : op = 14
  · subst h1
    go_enter Tryd.func30, Tryd.ntmps30
    go_wp2
    go_ret2
    exact ⟨ret_one (by rw [on_neg]) rfl, rfl⟩
  by_cases h2 : op = 19
  · subst h2
    go_enter Tryd.func30, Tryd.ntmps30
    go_wp2_with (go_at_call 54; refine (rtruth_any _ _).mono ?_; rintro e w' ⟨rfl, rfl⟩)
    go_ret2
    exact ⟨ret_one rfl rfl, rfl⟩
  have e1 : on op a = 0 := by simp [on, *]
  have e2 : ok op = false := by simp [ok, *]
  rw [e1, e2]
  go_enter Tryd.func30, Tryd.ntmps30
  go_wp2
  go_ret2
  exact ⟨rfl, rfl⟩
end Go.Proofs.YtfbeiedhdmndnaaDoor
namespace Go.Proofs.YtfbeiedhdmndnaaDoor
open Go.RowKit
attribute [local go_sem ↓] Go.wp_at_zero Go.wp_at_succ

theorem take_set {sk st : List Int} {n : Int} (hl : sk.length = 8) (ht : sk.take st.length = st.reverse) (h8 : st.length < 8) : (sk.set st.length n).take (n :: st).length = (n :: st).reverse := by
  rw [List.length_cons, List.take_add_one, List.getElem?_set_self (by omega), List.take_set_of_le (Nat.le_refl _), ht, List.reverse_cons]
  rfl
theorem take_tail {sk st : List Int} (ht : sk.take st.length = st.reverse) : sk.take st.tail.length = st.tail.reverse := by
  cases st with
  | nil => simp
  | cons a r =>
    have := congrArg (List.take r.length) ht
    rw [List.take_take, List.reverse_cons, List.length_cons, Nat.min_eq_left (by omega), List.take_append_of_le_length (by rw [List.length_reverse]; exact Nat.le_refl _), List.take_of_length_le (l := r.reverse) (by rw [List.length_reverse]; exact Nat.le_refl _)] at this
    exact this
theorem sk_at {sk st : List Int} {j : Nat} (ht : sk.take st.length = st.reverse) (hj : j < st.length) : sk.getD (st.length - 1 - j) 0 = st.getD j 0 := by
  have h1 : (sk.take st.length)[st.length - 1 - j]? = sk[st.length - 1 - j]? := by rw [List.getElem?_take, if_pos (by omega)]
  rw [List.getD_eq_getElem?_getD, ← h1, ht, List.getElem?_reverse (by omega), List.getD_eq_getElem?_getD]
  congr 2
  omega
section
variable {w0 w : World} {B : Nat} {x : FX} {vn : Value} {us : List Value} {sk : List Int} {s : MS}
theorem rv_put {x : FX} {ar : Bool} {vn : Value} {sk : List Int} {d a st : Int} {k : Nat} {n : Int} (hk : k < 8) (hl : sk.length = 8) : ∀ i, i < 24 → (if i = 13 + k then Value.int .i64 n else rv x ar vn sk d a st i) = rv x ar vn (sk.set k n) d a st i := by
  intro i hi
  by_cases e : i = 13 + k
  · rw [if_pos e, e, rv_sk hk, List.getD_eq_getElem?_getD, List.getElem?_set_self (by omega)]; rfl
  · rw [if_neg e]
    by_cases h1 : 13 ≤ i ∧ i < 21
    · obtain ⟨j, rfl⟩ : ∃ j, i = 13 + j := ⟨i - 13, by omega⟩
      rw [rv_sk (by omega), rv_sk (by omega), List.getD_eq_getElem?_getD, List.getD_eq_getElem?_getD, List.getElem?_set_ne (by omega)]
    · have : i = 0 ∨ i = 1 ∨ i = 2 ∨ i = 3 ∨ i = 4 ∨ i = 5 ∨ i = 6 ∨ i = 7 ∨ i = 8 ∨ i = 9 ∨ i = 10 ∨ i = 11 ∨ i = 12 ∨ i = 21 ∨ i = 22 ∨ i = 23 := by omega
      rcases this with rfl | rfl | rfl | rfl | rfl | rfl | rfl | rfl | rfl | rfl | rfl | rfl | rfl | rfl | rfl | rfl <;> rfl
theorem rv_dep {x : FX} {ar : Bool} {vn : Value} {sk : List Int} {d d' a st : Int} : ∀ i, i < 24 → (if i = 21 then Value.int .i64 d' else rv x ar vn sk d a st i) = rv x ar vn sk d' a st i := by
  intro i hi
  by_cases e : i = 21
  · rw [if_pos e, e]; rfl
  · rw [if_neg e]
    unfold rv
    split <;> first | rfl | omega
theorem RM.put1 (h : RM w0 B x vn us sk s w) (n : Int) (h8 : s.st.length < 8) : RM w0 B x vn us (sk.set s.st.length n) s (w.setCell ⟨B, 13 + s.st.length, none⟩ (.int .i64 n)) :=
  h.setB _ _ s _ rfl rfl (by rw [List.length_set]; exact h.skl) (by rw [List.take_set_of_le (Nat.le_refl _)]; exact h.stk) h.st8 (rv_put h8 h.skl)
/-- The stack cell is written, then the depth. -/
theorem RM.put (h : RM w0 B x vn us sk s w) (n : Int) (h8 : s.st.length < 8) : RM w0 B x vn us (sk.set s.st.length n) { s with st := n :: s.st } ((w.setCell ⟨B, 13 + s.st.length, none⟩ (.int .i64 n)).setCell ⟨B, 21, none⟩ (.int .i64 ((s.st.length : Int) + 1))) := by
  have hl : (sk.set s.st.length n).length = 8 := by rw [List.length_set]; exact h.skl
  refine (h.put1 n h8).setB _ _ { s with st := n :: s.st } _ rfl rfl hl (take_set h.skl h.stk h8) (by simp; omega) ?_
  have e : (((n :: s.st).length : Nat) : Int) = (s.st.length : Int) + 1 := by simp
  show ∀ i, i < 24 → _ = rv x s.armed vn _ (((n :: s.st).length : Nat) : Int) s.pc s.steps i
  rw [e]
  exact rv_dep
/-- A number is taken. -/
theorem RM.pop (h : RM w0 B x vn us sk s w) (h0 : 0 < s.st.length) : RM w0 B x vn us sk { s with st := s.st.tail } (w.setCell ⟨B, 21, none⟩ (.int .i64 ((s.st.length : Int) - 1))) := by
  refine h.setB _ _ { s with st := s.st.tail } _ rfl rfl h.skl (take_tail h.stk) (by have := h.st8; simp; omega) ?_
  have e : ((s.st.tail.length : Nat) : Int) = (s.st.length : Int) - 1 := by simp; omega
  show ∀ i, i < 24 → _ = rv x s.armed vn _ ((s.st.tail.length : Nat) : Int) s.pc s.steps i
  rw [e]
  exact rv_dep

set_option maxHeartbeats 400000 in
theorem put_any (h : RM w0 B x vn us sk s w) (n : Int) (h8 : s.st.length < 8) :
    Calls Tryd.prog 80 #[.pointer (some ⟨B, 0, none⟩), .int .i64 n] w fun e w' => e = .returned (.tuple #[]) ∧ ∃ sk', RM w0 B x vn us sk' { s with st := n :: s.st } w' := by
  have HN : Hid (RM w0 B x vn us (sk.set s.st.length n) { s with st := n :: s.st } ((w.setCell ⟨B, 13 + s.st.length, none⟩ (.int .i64 n)).setCell ⟨B, 21, none⟩ (.int .i64 ((s.st.length : Int) + 1)))) := h.put n h8
  have q1 : w.cell? ⟨B, 21, none⟩ = some (.int .i64 s.st.length) := h.c 21 (by omega)
  have q2 := h.sc h8
  have f1 := h.fz 21
  have f2 := h.fz (13 + s.st.length)
  have hB := h.lt
  have q3 : (w.drew.setCell ⟨B, 13 + s.st.length, none⟩ (.int .i64 n)).cell? ⟨B, 21, none⟩ = some (.int .i64 s.st.length) := ((h.below (bRefl w).drew).put1 n h8).c 21 (by omega)
  have f3 : (w.drew.setCell ⟨B, 13 + s.st.length, none⟩ (.int .i64 n)).frozen? ⟨B, 21, none⟩ = false := ((h.below (bRefl w).drew).put1 n h8).fz 21
  obtain ⟨d, hd⟩ : ∃ d, s.st.length = d := ⟨_, rfl⟩
  rw [hd] at q1 q2 f2 HN h8 q3 f3
  clear h
  go_enter Tryd.func80, Tryd.ntmps80
  go_wp2
  go_region
  go_wp2
  (try simp only [Exit.inBlock, Exit.then]); refine bodyPost_end (results_none rfl _ _ _) rfl ?_
  exact ⟨rfl, _, HN.out.below (bRefl _).drew⟩

set_option maxHeartbeats 400000 in
theorem take_any (h : RM w0 B x vn us sk s w) (h0 : 0 < s.st.length) :
    Calls Tryd.prog 81 #[.pointer (some ⟨B, 0, none⟩)] w fun e w' => e = .returned (.int .i64 (hd0 s.st)) ∧ RM w0 B x vn us sk { s with st := s.st.tail } w' ∧ ∀ b, b ≠ B → w'.heap[b]? = w.heap[b]? := by
  have HN : Hid (RM w0 B x vn us sk { s with st := s.st.tail } (w.setCell ⟨B, 21, none⟩ (.int .i64 ((s.st.length : Int) - 1)))) := h.pop h0
  have q1 : w.cell? ⟨B, 21, none⟩ = some (.int .i64 s.st.length) := h.c 21 (by omega)
  have f1 := h.fz 21
  have hB := h.lt
  have h8 := h.st8
  have HV : Hid (sk.getD (s.st.length - 1) 0 = hd0 s.st) := by
    show _ = _
    have := sk_at (j := 0) h.stk h0
    rw [Nat.sub_zero] at this
    rw [this]
    cases s.st <;> rfl
  have q2 : (w.setCell ⟨B, 21, none⟩ (.int .i64 ((s.st.length : Int) - 1))).cell? ⟨B, 13 + (s.st.length - 1), none⟩ = some (.int .i64 (sk.getD (s.st.length - 1) 0)) := (h.pop h0).sc (by omega)
  obtain ⟨d, hd⟩ : ∃ d, s.st.length = d + 1 := ⟨s.st.length - 1, by omega⟩
  rw [hd] at q1 q2 HN HV h8
  have ed : (((d + 1 : Nat) : Int) - 1) = (d : Int) := by omega
  rw [ed] at q2 HN
  rw [Nat.add_sub_cancel] at q2 HV
  have h7 : d < 8 := by omega
  clear h
  go_enter Tryd.func81, Tryd.ntmps81
  go_wp2
  go_region
  go_wp2
  go_ret
  exact ⟨ret_int HV.out, HN.out.below (bRefl _).drew, fun b hb => Below.heap_setCell _ _ _ _ (fun e => hb (by have e' : b = B := e; exact e'))⟩

set_option maxHeartbeats 400000 in
theorem load_any (h : RM w0 B x vn us sk s w) (a : Int) (h0 : 0 ≤ a) :
    Calls Tryd.prog 82 #[.pointer (some ⟨B, 0, none⟩), .int .i64 a] w fun e w' => e = .returned (.int .i64 (s.regs.getD a.toNat 0)) ∧ w' = w := by
  have q1 : w.cell? ⟨B, 7, none⟩ = some x.vr := h.c 7 (by omega)
  have hR := h.regs
  have hB := h.lt
  obtain ⟨A, c, hv, hl⟩ := hR.form
  rw [hv] at q1 hR
  obtain ⟨k, rfl⟩ := Int.eq_ofNat_of_zero_le h0
  clear h hv
  by_cases hk : k < s.regs.length
  · obtain ⟨b, y, rfl, _, hy, hlt, hbB, q2, _⟩ := hR.cell hk
    have HV : Hid (y = s.regs.getD (k : Int).toNat 0) := by show _ = _; rw [Int.toNat_natCast, List.getD_eq_getElem?_getD, hy]; rfl
    clear hy
    go_enter Tryd.func82, Tryd.ntmps82
    go_wp2
    go_ret
    exact ⟨ret_int HV.out, rfl⟩
  · have HV : Hid (0 = s.regs.getD (k : Int).toNat 0) := by show _ = _; rw [Int.toNat_natCast, List.getD_eq_getElem?_getD, List.getElem?_eq_none (by omega)]; rfl
    go_enter Tryd.func82, Tryd.ntmps82
    go_wp2
    go_ret
    exact ⟨ret_int HV.out, rfl⟩
theorem RM.reg (h : RM w0 B x vn us sk s w) {A : Option Addr} {n c b k : Nat} (hv : x.vr = .slice A n c) (hA : A = some ⟨b, 0, none⟩) (hk : k < s.regs.length) (y : Int) : RM w0 B x vn us sk { s with regs := s.regs.set k y } (w.setCell ⟨b, k, none⟩ (.int .i64 y)) := by
  have hR := h.regs
  rw [hv] at hR
  obtain ⟨b', z, e, hh, _, _, hbB, _⟩ := hR.cell hk
  rw [hA] at e
  cases e
  have hg := hR.hb hh
  have hne : ∀ b', b' ≠ b → (w.setCell ⟨b, k, none⟩ (.int .i64 y)).heap[b']? = w.heap[b']? := fun b' hb => Below.heap_setCell _ _ _ _ (fun e => hb (by have e' : b' = b := e; exact e'))
  refine ⟨h.low.setCell hg.1 _, h.row.setOther (by exact Ne.symm hbB) _, h.base, h.skl, h.stk, h.st8, by rw [hv]; exact hR.set hA hk y, h.nts.same (by simp) fun b' _ hb => hne b' (fun e => hb (Or.inr (by rw [hv, e]; exact hh)))⟩

set_option maxHeartbeats 400000 in
theorem store_any (h : RM w0 B x vn us sk s w) (a n : Int) (h0 : 0 ≤ a) :
    Calls Tryd.prog 83 #[.pointer (some ⟨B, 0, none⟩), .int .i64 a, .int .i64 n] w fun e w' => e = .returned (.tuple #[]) ∧ RM w0 B x vn us sk { s with regs := s.regs.set a.toNat n } w' := by
  have q1 : w.cell? ⟨B, 7, none⟩ = some x.vr := h.c 7 (by omega)
  have hR := h.regs
  have hB := h.lt
  obtain ⟨A, c, hv, hl⟩ := hR.form
  rw [hv] at q1 hR
  obtain ⟨k, rfl⟩ := Int.eq_ofNat_of_zero_le h0
  by_cases hk : k < s.regs.length
  · obtain ⟨b, y, rfl, _, hy, hlt, hbB, q2, hf⟩ := hR.cell hk
    have HN : Hid (RM w0 B x vn us sk { s with regs := s.regs.set k n } (w.setCell ⟨b, k, none⟩ (.int .i64 n))) := h.reg hv rfl hk n
    have f2 := hf k
    clear hy h hv hR hf
    go_enter Tryd.func83, Tryd.ntmps83
    go_wp2
    (try simp only [Exit.inBlock, Exit.then]); refine bodyPost_end (results_none rfl _ _ _) rfl ?_
    exact ⟨rfl, HN.out⟩
  · have HN : Hid (RM w0 B x vn us sk { s with regs := s.regs.set k n } w) := by
      rw [List.set_eq_of_length_le (by omega)]; exact h
    clear h hv hR
    go_enter Tryd.func83, Tryd.ntmps83
    go_wp2
    (try simp only [Exit.inBlock, Exit.then]); refine bodyPost_end (results_none rfl _ _ _) rfl ?_
    exact ⟨rfl, HN.out⟩

set_option maxHeartbeats 400000 in
theorem mtwo_any (h : RM w0 B x vn us sk s w) (op : Int) (h2 : 2 ≤ s.st.length) :
    Calls Tryd.prog 84 #[.pointer (some ⟨B, 0, none⟩), .int .i64 op] w fun e w' => e = .returned (.int .i64 (dn op (hd0 s.st))) ∧ ∃ sk', RM w0 B x vn us sk' { s with st := tw op (hd0 s.st.tail) (hd0 s.st) :: s.st.tail.tail } w' := by
  have HH : Hid (RM w0 B x vn us sk s w) := h
  have HL : Hid (2 ≤ s.st.length ∧ s.st.length ≤ 8) := ⟨h2, h.st8⟩
  clear h h2
  go_enter Tryd.func84, Tryd.ntmps84
  go_wp2_with fail
  refine (take_any HH.out (by have := HL.out; omega)).mono ?_
  rintro e w1 ⟨rfl, h1, _⟩
  have H1 : Hid (RM w0 B x vn us sk { s with st := s.st.tail } w1) := h1
  clear h1
  go_wp2_with fail
  refine (take_any H1.out (by have := HL.out; simp; omega)).mono ?_
  rintro e w2 ⟨rfl, h2, _⟩
  have H2 : Hid (RM w0 B x vn us sk { s with st := s.st.tail.tail } w2) := h2
  clear h2
  go_wp2_with fail
  refine (two_any _ _ _ _).mono ?_
  rintro e w3 ⟨rfl, rfl⟩
  go_wp2_with fail
  refine (put_any H2.out _ (by have := HL.out; simp; omega)).mono ?_
  rintro e w4 ⟨rfl, sk', h4⟩
  go_wp2
  go_ret
  exact ⟨rfl, sk', h4⟩
end
end Go.Proofs.YtfbeiedhdmndnaaDoor
namespace Go.Proofs.YtfbeiedhdmndnaaDoor
open Go.RowKit
attribute [local go_sem ↓] Go.wp_at_zero Go.wp_at_succ

theorem step_append_run {P : Program} {ops : Array Oper} {o : Oper} {a : Act} {w : World} {K : Act → World → Prop} {Q : Exit → Act → World → Prop} {E : Prop} (hgd : o.guard = none) (s x : Operand) (t : TypeId)
    (ho : o.op = .call { callee := .builtin .append, args := #[s, x], argTypes := #[t, t] }) (v1 v2 v' : Value) (w' : World) (hs : a.eval s = v1) (hx : a.eval x = v2)
    (hrun : ∀ ty, (Builtin.append_ #[t, t] ty #[v1, v2]).run P w = .ok v' w') (h : K (a.put o.dst v') w') : if Region.wanted o (yielded ops a.tmps) = true then Oper.wp P o a w K Q else E := by
  have hw : Region.wanted o (yielded ops a.tmps) = true := by simp [Region.wanted, hgd]
  rw [if_pos hw]
  unfold Oper.wp
  simp [execOp, ho, resolve, invoke, builtin, hs, hx, hrun, Result.andThen]
  exact h
/-- Numbers are copied into new memory. -/
def NewI (w : World) (w' : World) (v : Value) (l : List Int) : Prop := Ints (fun b => w.heap.size ≤ b) w' v l ∧ Below w.heap.size w w' ∧ ∃ A c, v = .slice A l.length c
theorem run_copyI (w : World) (A : Option Addr) (n c : Nat) (l : List Int) (hl : l.length = n) (hn : n ≤ 1000) (h : n = 0 ∨ ∃ b o, A = some ⟨b, o, none⟩ ∧ ∀ k y, l[k]? = some y → w.cell? ⟨b, o + k, none⟩ = some (.int .i64 y)) :
    ∃ A' c' w', (∀ ty, (Builtin.append_ #[27, 27] ty #[.slice none 0 0, .slice A n c]).run Tryd.prog w = .ok (.slice A' n c') w') ∧ NewI w w' (.slice A' n c') l := by
  obtain ⟨i0, hi0, hz0, hz1, hz2⟩ := info_parts info3
  subst hl
  by_cases h0 : l = []
  · subst h0
    exact ⟨none, 0, w, fun ty => run_append_empty 27 ty 3 i0 Tryd.underlying27 hi0 A c, ⟨_, _, rfl, by simp, by simp, Or.inl rfl⟩, bRefl w, _, _, rfl⟩
  · rcases h with h | ⟨b, o, rfl, hc⟩
    · exact absurd (List.eq_nil_of_length_eq_zero h) h0
    · have hp : 0 < l.length := List.length_pos_iff.2 h0
      have hadd : ∀ j, (⟨b, o, none⟩ : Addr).add j = ⟨b, o + j, none⟩ := fun j => by
        unfold Addr.add
        by_cases h0 : j = 0
        · subst h0; rfl
        · rw [if_neg h0]
      have hr := fun ty => run_append_nil w 27 ty 3 i0 _ Tryd.underlying27 hi0 hz0 ⟨b, o, none⟩ l.length c (l.map (Value.int .i64)) (by simp [hz1]) (fun j u hu => by
        rw [hadd]
        rw [List.getElem?_map] at hu
        cases hx : l[j]? with
        | none => rw [hx] at hu; cases hu
        | some y => rw [hx] at hu; cases hu; exact hc j y hx) (by omega) (by omega) (by rw [hz2]; omega)
      refine ⟨_, _, _, hr, ⟨_, _, rfl, by omega, grownCap_ge _ _ _ _, Or.inr ⟨w.heap.size, 0, rfl, Nat.le_refl _, by simp, fun k y hy => ?_⟩⟩, bAlloc (bRefl w).drew _, _, _, rfl⟩
      have hk := (List.getElem?_eq_some_iff.1 hy).1
      show World.cell? _ ⟨w.heap.size, 0 + k * 1, none⟩ = _
      rw [Nat.zero_add, Nat.mul_one]
      have hh : ∀ (cs : Array Value), (w.drew.alloc (.cells cs 3)).cell? ⟨w.heap.size, k, none⟩ = cs[k]? := fun cs => by
        have h2 : (w.drew.alloc (.cells cs 3)).heap[w.heap.size]? = some (.cells cs 3) := heap_new w.drew (.cells cs 3)
        rw [cell_of_row _ _ _ _ _ _ h2]
      rw [hh, Array.getElem?_append_left (by simpa using hk)]
      simp [hy]
section
variable {w0 w w1 w' : World} {B : Nat} {x : FX} {vn : Value} {us : List Value} {sk : List Int} {s : MS}
/-- So many are taken. -/
theorem RM.drop (h : RM w0 B x vn us sk s w) (k : Nat) (hk : k ≤ s.st.length) : RM w0 B x vn us sk { s with st := s.st.drop k } (w.setCell ⟨B, 21, none⟩ (.int .i64 ((s.st.length : Int) - k))) := by
  refine h.setB _ _ { s with st := s.st.drop k } _ rfl rfl h.skl ?_ (by have := h.st8; simp; omega) ?_
  · show sk.take (s.st.drop k).length = (s.st.drop k).reverse
    have := congrArg (List.take (s.st.drop k).length) h.stk
    rw [List.take_take, Nat.min_eq_left (by simp)] at this
    rw [this]
    have e : s.st.reverse = (s.st.drop k).reverse ++ (s.st.take k).reverse := by rw [← List.reverse_append, List.take_append_drop]
    rw [e, List.take_append_of_le_length (by rw [List.length_reverse]; exact Nat.le_refl _), List.take_of_length_le (by rw [List.length_reverse]; exact Nat.le_refl _)]
  · have e : (((s.st.drop k).length : Nat) : Int) = (s.st.length : Int) - k := by simp; omega
    show ∀ i, i < 24 → _ = rv x s.armed vn _ (((s.st.drop k).length : Nat) : Int) s.pc s.steps i
    rw [e]
    exact rv_dep
/-- The numbers that are sent. -/
theorem RM.sent (h : RM w0 B x vn us sk s w) {k j : Nat} {y : Int} (hk : k ≤ s.st.length) (hj : (s.st.take k).reverse[j]? = some y) : s.st.length - k + j < 8 ∧ sk.getD (s.st.length - k + j) 0 = y := by
  have hjk : j < k := by have := (List.getElem?_eq_some_iff.1 hj).1; simp at this; omega
  have h8 := h.st8
  have e : s.st.length - k + j = s.st.length - 1 - (k - 1 - j) := by omega
  refine ⟨by omega, ?_⟩
  rw [e, sk_at h.stk (by omega)]
  rw [List.getElem?_reverse (by simp; omega), List.length_take, Nat.min_eq_left hk, List.getElem?_take, if_pos (by omega)] at hj
  rw [List.getD_eq_getElem?_getD, hj]; rfl
theorem slice8 (W : World) (B m k : Nat) (hm : m < 8) (h : m + k ≤ 8) : (Instr.sliceAt 75 (.pointer (some ⟨B, 13, none⟩)) (some (.int .i64 (m : Int))) (some (.int .i64 ((m : Int) + k))) none).run Tryd.prog W = .ok (.slice (some ⟨B, 13 + m, none⟩) k (8 - m)) W := by
  have al : Tryd.prog.arrayLen 75 = 8 := by kernel_rfl
  have el : Tryd.prog.elem 75 = 3 := by kernel_rfl
  obtain ⟨i0, hi0, hz0, hz1, hz2⟩ := info_parts info3
  have hu : Tryd.prog.underlying 75 = some (.array (Tryd.prog.arrayLen 75) (Tryd.prog.elem 75)) := by rw [al, el]; exact Tryd.underlying75
  rw [run_sliceAt_array_lh W 75 ⟨B, 13, none⟩ hu .i64 .i64 (m : Int) ((m : Int) + k) (by omega) (by omega) (by rw [al]; omega)]
  have e1 : ((m : Int) + k).toNat = m + k := by omega
  have e2 : (⟨B, 13, none⟩ : Addr).add m = ⟨B, 13 + m, none⟩ := by
    unfold Addr.add
    by_cases h0 : m = 0
    · subst h0; rfl
    · rw [if_neg h0]
  simp [sizeOf, typeInfo, el, hi0, hz1, al, slicedAt, Result.andThen, e1, e2]
  omega
/-- A note is put behind. -/
theorem rv_nt {x : FX} {ar : Bool} {vn vn' : Value} {sk : List Int} {d a st : Int} : ∀ i, i < 24 → (if i = 12 then vn' else rv x ar vn sk d a st i) = rv x ar vn' sk d a st i := by
  intro i hi
  by_cases e : i = 12
  · rw [if_pos e, e]; rfl
  · rw [if_neg e]
    unfold rv
    split <;> first | rfl | omega
theorem RM.push {g cap : Nat} {n : PNte} {u : Value} (h : RM w0 B x vn us sk s w) (hb1 : Below w.heap.size w w1)
    (ho : w'.ownsRow w0.heap.size 50 3 (.slice (some ⟨g, 0, none⟩) (s.notes.length + 1) cap) (s.notes.length + 1) ((List.zipWith (fun (n : PNte) u => [Value.int .i64 n.to, Value.int .i64 n.hd, u]) s.notes us).flatten ++ [Value.int .i64 n.to, Value.int .i64 n.hd, u]))
    (hg : w1.grownBy w' vn.ownBlock) (hat : vn.ownBlock = some g ∨ g = w1.heap.size) (hu : Ints (fun b => w.heap.size ≤ b) w1 u n.args) :
    RM w0 B x (.slice (some ⟨g, 0, none⟩) (s.notes.length + 1) cap) (us ++ [u]) sk { s with notes := s.notes ++ [n] } (w'.setCell ⟨B, 12, none⟩ (.slice (some ⟨g, 0, none⟩) (s.notes.length + 1) cap)) ∧ w'.cell? ⟨B, 12, none⟩ = some vn ∧ w'.frozen? ⟨B, 12, none⟩ = false ∧ B < w'.heap.size := by
  have hex : ∀ b, (b = B ∨ hb x.vr = some b) → b < w.heap.size := fun b hb => by
    rcases hb with rfl | hb
    · exact h.lt
    · exact (h.regs.hb hb).2.2
  have hN := h.nts.push h.low.size hb1 hex ho hg hat hu
  have hs := hb1.size
  have hBl := h.lt
  have hot : ∀ b, (b = B ∨ hb x.vr = some b) → w'.heap[b]? = w.heap[b]? := fun b hb => by
    rw [hg.block b (Nat.lt_of_lt_of_le (hex b hb) hs) (fun e => h.nts.nx b e.symm hb), hb1.block b (hex b hb)]
  have hrow : w'.rowIs B 77 24 (rv x s.armed vn sk s.st.length s.pc s.steps) := h.row.of_block (hot B (Or.inl rfl))
  have hne : ∀ b, b ≠ B → (w'.setCell ⟨B, 12, none⟩ (.slice (some ⟨g, 0, none⟩) (s.notes.length + 1) cap)).heap[b]? = w'.heap[b]? := fun b hb => Below.heap_setCell _ _ _ _ (fun e => hb (by have e' : b = B := e; exact e'))
  have hlow : Below w0.heap.size w0 w' := grown_low (bTrans h.low hb1) hg fun k hk => (own_lt h.nts.own hk).1
  refine ⟨⟨hlow.setCell h.base _, (hrow.set 12 _).congr rv_nt, h.base, h.skl, h.stk, h.st8, ?_, ?_⟩, hrow.cell (by omega), hrow.frozen 12, hrow.lt⟩
  · exact h.regs.same fun b e => (hne b (h.regs.hb e).2.1).trans (hot b (Or.inr e))
  · exact hN.same (by simp) fun b _ hb => hne b (fun e => hb (Or.inl e))

theorem vwithin_any (n m : Int) (w : World) : Calls Tryd.prog 25 #[.int .i64 n, .int .i64 m] w fun e w' => e = .returned (.bool (decide (0 ≤ n ∧ n < m))) ∧ w' = w := by
  by_cases h1 : 0 ≤ n <;> by_cases h2 : n < m
  all_goals
    go_enter Tryd.func25, Tryd.ntmps25
    go_wp2
    go_ret
    exact ⟨ret_b (by simp [h1, h2]), rfl⟩
end
end Go.Proofs.YtfbeiedhdmndnaaDoor
