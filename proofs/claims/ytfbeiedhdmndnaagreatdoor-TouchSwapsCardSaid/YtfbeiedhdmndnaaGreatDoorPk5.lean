/-
  Worlds that are made anew: which memory they lie in; lists made anew (fresh); towards world.Copy.
-/
import Derived.Test.YtfbeiedhdmndnaaGreatDoorPk4
import Derived.Deep.RegionWith
import Derived.Deep.DeepCutAuto
import Derived.Test.YtfbeiedhdmndnaaGreatDoorRows
import Derived.WalkKit
import Derived.ProofKit
import Derived.OpenShut
import Derived.Test.YtfbeiedhdmndnaaGreatDoorPk1
import Derived.Test.YtfbeiedhdmndnaaGreatDoorPk3
namespace Go.Proofs.YtfbeiedhdmndnaaGreatDoor
open Go.RowKit

theorem Same.trans {ok : Nat → Prop} {a b c : World} (h : Same ok a b) (k : Same ok b c) : Same ok a c :=
  ⟨Nat.le_trans h.size k.size, fun d hd hl => (k.block d hd (Nat.lt_of_lt_of_le hl h.size)).trans (h.block d hd hl)⟩
theorem setCell_heap {w : World} {b i : Nat} {v : Value} {c : Array Value} {T : TypeId} (h : w.heap[b]? = some (.cells c T)) : (w.setCell ⟨b, i, none⟩ v).heap[b]? = some (.cells (c.setIfInBounds i v) T) := by
  simp [World.setCell, Array.getElem?_modify, h]
theorem setCell_same {w : World} {ok : Nat → Prop} {b o : Nat} {v : Value} (h : ∀ d, ok d → d ≠ b) : Same ok w (w.setCell ⟨b, o, none⟩ v) :=
  ⟨by simp [World.setCell], fun d hd _ => Below.heap_setCell _ _ _ _ (h d hd)⟩
theorem olds {W w1 : World} (hb : Below W.heap.size W w1) : (∀ b o, b < W.heap.size → w1.cell? ⟨b, o, none⟩ = W.cell? ⟨b, o, none⟩) ∧ (∀ b o, b < W.heap.size → w1.frozen? ⟨b, o, none⟩ = W.frozen? ⟨b, o, none⟩) ∧ (∀ b, b < W.heap.size → b < w1.heap.size) :=
  ⟨fun b o h => hb.cell (p := ⟨b, o, none⟩) h, fun b o h => hb.frozen (p := ⟨b, o, none⟩) h, fun _ h => Nat.lt_of_lt_of_le h hb.size⟩
theorem heap_frozen {w : World} {b i : Nat} {c : Array Value} {T : TypeId} (h : w.heap[b]? = some (.cells c T)) : w.frozen? ⟨b, i, none⟩ = false := by
  simp [World.frozen?, h]

structure LR (g : Nat) (P : Nat → Nat → Prop) (w : World) (l : List PLoc) : Prop where
  row : ∃ cs, w.heap[g]? = some (.cells cs 56)
  rd : ∀ (j : Nat) (x : PLoc), l[j]? = some x → (∃ v, w.cell? ⟨g, j * 5, none⟩ = some v ∧ Ints (P j) w v x.regs) ∧ w.cell? ⟨g, j * 5 + 1, none⟩ = some (.bool x.armed) ∧ w.cell? ⟨g, j * 5 + 2, none⟩ = some (.int .i64 x.down) ∧
    w.cell? ⟨g, j * 5 + 3, none⟩ = some (.int .i64 x.sent) ∧ w.cell? ⟨g, j * 5 + 4, none⟩ = some (.int .i64 x.over)
section
variable {g : Nat} {P P' : Nat → Nat → Prop} {w w' : World} {l : List PLoc}
theorem LR.lt (h : LR g P w l) : g < w.heap.size := by obtain ⟨cs, h⟩ := h.row; exact (Array.getElem?_eq_some_iff.1 h).1
theorem LR.frozen (h : LR g P w l) (o : Nat) : w.frozen? ⟨g, o, none⟩ = false := by obtain ⟨cs, h⟩ := h.row; exact heap_frozen h
theorem LR.same (h : LR g P w l) (hz : w.heap.size ≤ w'.heap.size) (hg : w'.heap[g]? = w.heap[g]?) (hs : ∀ j b, P j b → b < w.heap.size → w'.heap[b]? = w.heap[b]?) : LR g P w' l := by
  refine ⟨by rw [hg]; exact h.row, fun j x hx => ?_⟩
  have e : ∀ o, w'.cell? ⟨g, o, none⟩ = w.cell? ⟨g, o, none⟩ := fun o => World.cell?_of_block (w := w) hg
  obtain ⟨⟨v, h1, h2⟩, h3, h4, h5, h6⟩ := h.rd j x hx
  rw [e, e, e, e, e]
  exact ⟨⟨v, h1, h2.same ⟨hz, fun b hb hl => hs j b hb hl⟩⟩, h3, h4, h5, h6⟩
theorem LR.below (h : LR g P w l) (hb : Below w.heap.size w w') : LR g P w' l := h.same hb.size (hb.block g h.lt) fun _ b _ hl => hb.block b hl
theorem LR.weak (h : LR g P w l) (k : ∀ j b, P j b → P' j b) : LR g P' w l := ⟨h.row, fun j x hx => let ⟨⟨v, h1, h2⟩, h3⟩ := h.rd j x hx; ⟨⟨v, h1, h2.weak (k j)⟩, h3⟩⟩
theorem LR.ltP (h : LR g P w l) : LR g (fun j b => P j b ∧ b < w.heap.size) w l := ⟨h.row, fun j x hx => let ⟨⟨v, h1, h2⟩, h3⟩ := h.rd j x hx; ⟨⟨v, h1, h2.lt⟩, h3⟩⟩
theorem LR.locs {inn : Nat → Prop} {c : Nat} (h : LR g P w l) (k : ∀ j b, P j b → inn b) (hc : l.length ≤ c) (hl : l.length ≤ 1000) : Locs (fun b => b = g) inn w (.slice (some ⟨g, 0, none⟩) l.length c) l :=
  ⟨_, c, rfl, by omega, hc, Or.inr ⟨g, 0, rfl, rfl, h.lt, fun j x hx => by
    obtain ⟨⟨v, h1, h2⟩, h3, h4, h5, h6⟩ := h.rd j x hx
    rw [Nat.zero_add]
    exact ⟨⟨v, h1, h2.weak (k j)⟩, h3, h4, h5, h6⟩⟩⟩
end
theorem cell_set_other {w : World} {b o o' : Nat} {v : Value} (h : o ≠ o') : (w.setCell ⟨b, o, none⟩ v).cell? ⟨b, o', none⟩ = w.cell? ⟨b, o', none⟩ :=
  World.cell?_setCell_other _ _ _ _ (fun e => h (by injection e))
theorem cell_set_here {w : World} {b o : Nat} {u v : Value} (h : w.cell? ⟨b, o, none⟩ = some u) : (w.setCell ⟨b, o, none⟩ v).cell? ⟨b, o, none⟩ = some v :=
  World.cell?_setCell_same _ _ _ h

theorem LR.put {g : Nat} {P P' : Nat → Nat → Prop} {w : World} {l : List PLoc} {j i off : Nat} {x x' : PLoc} {v : Value} (h : LR g P w l) (hx : l[j]? = some x) (ho : off = j * 5 + i) (hi : i < 5) (hP : ∀ k b, P k b → b ≠ g) (hQ : ∀ b, P' j b → b ≠ g) (hk : ∀ k, k ≠ j → ∀ b, P k b → P' k b)
    (h0 : (i = 0 ∧ Ints (P' j) w v x'.regs) ∨ (i ≠ 0 ∧ x'.regs = x.regs ∧ ∀ b, P j b → P' j b)) (h1 : (i = 1 ∧ v = .bool x'.armed) ∨ (i ≠ 1 ∧ x'.armed = x.armed)) (h2 : (i = 2 ∧ v = .int .i64 x'.down) ∨ (i ≠ 2 ∧ x'.down = x.down))
    (h3 : (i = 3 ∧ v = .int .i64 x'.sent) ∨ (i ≠ 3 ∧ x'.sent = x.sent)) (h4 : (i = 4 ∧ v = .int .i64 x'.over) ∨ (i ≠ 4 ∧ x'.over = x.over)) :
    LR g P' (w.setCell ⟨g, off, none⟩ v) (l.set j x') := by
  subst ho
  obtain ⟨cs, hr⟩ := h.row
  refine ⟨⟨_, setCell_heap hr⟩, fun k y hy => ?_⟩
  have hj := (List.getElem?_eq_some_iff.1 hx).1
  by_cases e : k = j
  · subst e
    rw [List.getElem?_set_self hj] at hy
    cases hy
    obtain ⟨⟨u, r0, r0'⟩, r1, r2, r3, r4⟩ := h.rd k x hx
    refine ⟨?_, ?_, ?_, ?_, ?_⟩
    · rcases h0 with ⟨rfl, h0⟩ | ⟨n0, e0, hp⟩
      · exact ⟨v, by rw [Nat.add_zero]; exact cell_set_here r0, h0.same (setCell_same hQ)⟩
      · refine ⟨u, by rw [cell_set_other (by omega)]; exact r0, ?_⟩
        rw [e0]
        exact (r0'.weak hp).same (setCell_same hQ)
    · rcases h1 with ⟨rfl, rfl⟩ | ⟨n0, e0⟩
      · exact cell_set_here r1
      · rw [cell_set_other (by omega), e0]; exact r1
    · rcases h2 with ⟨rfl, rfl⟩ | ⟨n0, e0⟩
      · exact cell_set_here r2
      · rw [cell_set_other (by omega), e0]; exact r2
    · rcases h3 with ⟨rfl, rfl⟩ | ⟨n0, e0⟩
      · exact cell_set_here r3
      · rw [cell_set_other (by omega), e0]; exact r3
    · rcases h4 with ⟨rfl, rfl⟩ | ⟨n0, e0⟩
      · exact cell_set_here r4
      · rw [cell_set_other (by omega), e0]; exact r4
  · rw [List.getElem?_set_ne (fun h => e h.symm)] at hy
    obtain ⟨⟨u, r0, r0'⟩, r1, r2, r3, r4⟩ := h.rd k y hy
    refine ⟨⟨u, ?_, (r0'.same (setCell_same (hP k))).weak (hk k e)⟩, ?_, ?_, ?_, ?_⟩ <;> rw [cell_set_other (by omega)] <;> assumption
theorem set_self {α : Type} {l : List α} {j : Nat} {x : α} (h : l[j]? = some x) : l.set j x = l := by
  apply List.ext_getElem?
  intro i
  by_cases e : j = i
  · subst e; rw [List.getElem?_set_self (List.getElem?_eq_some_iff.1 h).1, h]
  · rw [List.getElem?_set_ne e]

/-! ### Lists made anew -/
set_option maxHeartbeats 400000 in
theorem freshI_any (ok : Nat → Prop) (w : World) (v : Value) (l : List Int) (h : Ints ok w v l) (hl : l.length ≤ 1000) :
    Calls Tryz.prog 69 #[v] w fun e w' => ∃ A' c', e = .returned (.slice A' l.length c') ∧ Ints (fun b => w.heap.size ≤ b) w' (.slice A' l.length c') l ∧ Below w.heap.size w w' := by
  obtain ⟨A, c, rfl, _⟩ := h.form
  obtain ⟨A', c', w', hrun, hi, hb⟩ := fresh_ints ok w A c l h hl
  have HR := hid_mk hrun
  clear hrun
  go_enter Tryz.func69, Tryz.ntmps69
  go_wp2_with (at_builtin; refine wpList_append_run rfl _ _ 54 rfl _ _ _ _ rfl rfl HR.out ?_)
  go_ret
  exact ⟨A', c', rfl, hi, hb⟩
theorem infoL : (Tryz.prog.info? 56).map (fun i => (i.zero.isSome, i.size, i.bytes)) = some (true, 5, 56) := by kernel_rfl
def LF (N : Nat) (inn : Nat → Prop) (w : World) (u : Value) (l : List PLoc) : Prop :=
  ∃ A c, u = .slice A l.length c ∧ l.length ≤ c ∧ ((l = [] ∧ A = none) ∨ ∃ g, A = some ⟨g, 0, none⟩ ∧ N ≤ g ∧ LR g (fun _ => inn) w l)
theorem LF.below {N : Nat} {inn : Nat → Prop} {w w' : World} {u : Value} {l : List PLoc} (h : LF N inn w u l) (hb : Below w.heap.size w w') : LF N inn w' u l := by
  obtain ⟨A, c, h1, h2, h3⟩ := h
  exact ⟨A, c, h1, h2, h3.imp id fun ⟨g, e, hg, hr⟩ => ⟨g, e, hg, hr.below hb⟩⟩
theorem five {k j : Nat} (h : j < 5) {n : Nat} (hk : k < n) : k * 5 + j < n * 5 := by omega
set_option maxHeartbeats 400000 in
theorem freshL_any (ok inn : Nat → Prop) (w : World) (v : Value) (l : List PLoc) (h : Locs ok inn w v l) (hl : l.length ≤ 1000) :
    Calls Tryz.prog 70 #[v] w fun e w' => ∃ u, e = .returned u ∧ LF w.heap.size inn w' u l ∧ Below w.heap.size w w' := by
  obtain ⟨A, c, rfl, _⟩ := h.form
  obtain ⟨i0, hi0, hq⟩ := Option.map_eq_some_iff.1 infoL
  simp only [Prod.mk.injEq] at hq
  obtain ⟨hz0, hz1, hz2⟩ := hq
  obtain ⟨z, hz⟩ := Option.isSome_iff_exists.1 hz0
  have hth : There w A l.length 5 := by
    by_cases h0 : l.length = 0
    · exact Or.inl h0
    · obtain ⟨b, o, rfl, _, hlt, hc⟩ := h.at (by omega)
      refine Or.inr ⟨b, o, rfl, fun j hj => ?_⟩
      obtain ⟨x, hx⟩ := at_lt (l := l) (k := j / 5) (by omega)
      obtain ⟨⟨u, r0, _⟩, r1, r2, r3, r4⟩ := hc (j / 5) x hx
      have e : j = j / 5 * 5 + j % 5 := by omega
      rcases (by omega : j % 5 = 0 ∨ j % 5 = 1 ∨ j % 5 = 2 ∨ j % 5 = 3 ∨ j % 5 = 4) with m | m | m | m | m
      · rw [show o + j = o + j / 5 * 5 by omega, r0]; rfl
      · rw [show o + j = o + j / 5 * 5 + 1 by omega, r1]; rfl
      · rw [show o + j = o + j / 5 * 5 + 2 by omega, r2]; rfl
      · rw [show o + j = o + j / 5 * 5 + 3 by omega, r3]; rfl
      · rw [show o + j = o + j / 5 * 5 + 4 by omega, r4]; rfl
  obtain ⟨A', c', w', hrun, hcl, hcc⟩ := run_fresh (P := Tryz.prog) w 29 56 i0 z Tryz.underlying29 hi0 hz A l.length c (by rw [hz1]; exact hth) hl (by omega)
  rw [hz1] at hcl
  have HR := hid_mk hrun
  have HI : Hid (LF w.heap.size inn w' (.slice A' l.length c') l ∧ Below w.heap.size w w') := by
    show _ ∧ _
    rcases hcl with ⟨h0, rfl, rfl⟩ | ⟨h0, b, o, cs, rfl, rfl, rfl, hcs⟩
    · exact ⟨⟨_, _, rfl, hcc, Or.inl ⟨List.length_eq_zero_iff.1 h0, rfl⟩⟩, bRefl _⟩
    · obtain ⟨b', o', e, _, hlt, hc⟩ := h.at (by omega)
      cases e
      have hN : (w.drew.alloc (.cells cs 56)).heap[w.heap.size]? = some (.cells cs 56) := heap_new2 (w := w.drew) rfl
      have hB : Below w.heap.size w (w.drew.alloc (.cells cs 56)) := bAlloc (bRefl w).drew _
      refine ⟨⟨_, _, rfl, hcc, Or.inr ⟨_, rfl, Nat.le_refl _, ⟨⟨cs, hN⟩, fun j x hx => ?_⟩⟩⟩, hB⟩
      have hj := (List.getElem?_eq_some_iff.1 hx).1
      obtain ⟨⟨u, r0, r0'⟩, r1, r2, r3, r4⟩ := hc j x hx
      have ec : ∀ i, i < 5 → (w.drew.alloc (.cells cs 56)).cell? ⟨w.heap.size, j * 5 + i, none⟩ = w.cell? ⟨b, o + j * 5 + i, none⟩ := fun i hi => by
        rw [cell_of_row _ _ _ _ _ _ hN, hcs _ (five hi hj), Nat.add_assoc]
      refine ⟨⟨u, (ec 0 (by omega)).trans r0, r0'.below hB⟩, (ec 1 (by omega)).trans r1, (ec 2 (by omega)).trans r2, (ec 3 (by omega)).trans r3, (ec 4 (by omega)).trans r4⟩
  clear hrun hcl
  go_enter Tryz.func70, Tryz.ntmps70
  go_wp2_with (at_builtin; refine wpList_append_run rfl _ _ 29 rfl _ _ _ _ rfl rfl HR.out ?_)
  go_ret
  exact ⟨_, rfl, HI.out.1, HI.out.2⟩

def Qa (N lo hi : Nat) : Nat → Prop := fun b => N ≤ b ∧ ¬ (lo ≤ b ∧ b < hi)
def Qm (lo hi : Nat) (m : Value) : Nat → Prop := fun b => (lo ≤ b ∧ b < hi) ∧ m.ownBlock = some b
def Qi (lo hi : Nat) (m : Value) : Nat → Prop := fun b => (lo ≤ b ∧ b < hi) ∧ m.ownBlock ≠ some b
def LV (Q : Nat → Prop) (w : World) (u : Value) (l : List PLoc) : Prop :=
  ∃ A c, u = .slice A l.length c ∧ l.length ≤ c ∧ ((l = [] ∧ A = none) ∨ ∃ g, A = some ⟨g, 0, none⟩ ∧ Q g ∧ LR g (fun _ b => Q b ∧ b ≠ g) w l)
structure WN (N lo hi : Nat) (w : World) (a m : Value) (x : PWld) : Prop where
  acts : LV (Qa N lo hi) w a x.acts
  mail : Msgs (Qm lo hi m) (Qi lo hi m) w m x.mail
  le : N ≤ lo
  hi : hi ≤ w.heap.size
structure SmW (x : PWld) : Prop where
  n : x.acts.length ≤ 100
  regs : ∀ a ∈ x.acts, a.regs.length ≤ 1000
  mail : x.mail.length ≤ 500
  args : ∀ m ∈ x.mail, m.nt.args.length ≤ 1000
section
variable {N lo hi : Nat} {w w' : World} {a m u : Value} {x : PWld} {l : List PLoc} {Q : Nat → Prop}
theorem LV.below (h : LV Q w u l) (hb : Below w.heap.size w w') : LV Q w' u l := by
  obtain ⟨A, c, h1, h2, h3⟩ := h
  exact ⟨A, c, h1, h2, h3.imp id fun ⟨g, e, hg, hr⟩ => ⟨g, e, hg, hr.below hb⟩⟩
theorem LV.locs (h : LV Q w u l) (hl : l.length ≤ 1000) : Locs Q Q w u l := by
  obtain ⟨A, c, rfl, h2, h3⟩ := h
  rcases h3 with ⟨rfl, rfl⟩ | ⟨g, rfl, hg, hr⟩
  · exact ⟨_, _, rfl, by simp, h2, Or.inl rfl⟩
  · exact (hr.locs (fun _ b hb => hb.1) h2 hl).weak (fun b e => by rw [e]; exact hg) (fun _ h => h)
theorem LV.form (h : LV Q w u l) : ∃ A c, u = .slice A l.length c := let ⟨A, c, h1, _⟩ := h; ⟨A, c, h1⟩
theorem WN.below (h : WN N lo hi w a m x) (hb : Below w.heap.size w w') : WN N lo hi w' a m x := ⟨h.acts.below hb, h.mail.below hb, h.le, Nat.le_trans h.hi hb.size⟩
theorem WN.wld (h : WN N lo hi w a m x) (hs : SmW x) : WldV w (wVal x.used a m) x := ⟨a, m, rfl, (h.acts.locs (by have := hs.n; omega)).any2, h.mail.any2⟩
end
theorem Msgs.ltAll {out inn : Nat → Prop} {w : World} {v : Value} {l : List PMsg} (h : Msgs out inn w v l) : Msgs (fun b => out b ∧ b < w.heap.size) (fun b => inn b ∧ b < w.heap.size) w v l :=
  h.lt.imp (fun _ h => h) (Nat.le_refl _) fun _ _ _ _ _ ⟨h1, h2, h3, h4, h5, c, h6, h7⟩ => ⟨h1, h2, h3, h4, h5, c, h6, h7.lt⟩
theorem Msgs.within {N : Nat} {w : World} {v : Value} {l : List PMsg} (h : Msgs (nO N v) (nI N v) w v l) : Msgs (Qm N w.heap.size v) (Qi N w.heap.size v) w v l :=
  h.ltAll.weak (fun _ h => ⟨⟨h.1.1, h.2⟩, h.1.2⟩) (fun _ h => ⟨⟨h.1.1, h.2⟩, h.1.2⟩)
theorem Locs.ltIn {out inn : Nat → Prop} {w : World} {v : Value} {l : List PLoc} (h : Locs out inn w v l) : Locs out (fun b => b < w.heap.size) w v l :=
  h.imp (fun _ h => h) (Nat.le_refl _) fun _ _ _ _ _ ⟨⟨c, h1, h2⟩, h3⟩ => ⟨⟨c, h1, Ints.weak h2.lt fun _ h => h.2⟩, h3⟩
abbrev zW : Obj := .cells #[.slice none 0 0, .slice none 0 0, .int .i64 0, .int .i64 0, .int .i64 0, .int .i64 0] 32
structure CW (w : World) (x : PWld) (bo lo hi : Nat) (a m : Value) (wc : World) : Prop where
  box : wc.heap[bo]? = some (.cells #[a, m, .int .i64 x.used.drop, .int .i64 x.used.dup, .int .i64 x.used.time, .int .i64 x.used.crash] 32)
  la : LF (w.heap.size + 2) (fun b => b < w.heap.size) wc a x.acts
  res : wc.heap[w.heap.size + 1]? = some zW
  lm : Msgs (Qm lo hi m) (Qi lo hi m) wc m x.mail
  own : ∀ g, a.ownBlock = some g → ¬ (lo ≤ g ∧ g < hi) ∧ g ≠ bo
  le : w.heap.size + 2 ≤ lo
  hi : hi ≤ wc.heap.size
  bo : w.heap.size + 2 ≤ bo
  low : Below w.heap.size w wc
theorem cw_mk {w w2 wc : World} {x : PWld} {bo lo hi N : Nat} {a m : Value} (la : LF N (fun b => b < w.heap.size) w2 a x.acts) (hN : w.heap.size + 2 ≤ N) (res : w2.heap[w.heap.size + 1]? = some zW) (lm : Msgs (Qm lo hi m) (Qi lo hi m) w2 m x.mail) (hS : Same (fun d => d ≠ bo) w2 wc)
    (box : wc.heap[bo]? = some (.cells #[a, m, .int .i64 x.used.drop, .int .i64 x.used.dup, .int .i64 x.used.time, .int .i64 x.used.crash] 32))
    (le : w.heap.size + 2 ≤ lo) (hhi : hi ≤ w2.heap.size) (hbo : w.heap.size + 2 ≤ bo) (hbm : ¬ (lo ≤ bo ∧ bo < hi)) (own : ∀ g, a.ownBlock = some g → ¬ (lo ≤ g ∧ g < hi) ∧ g ≠ bo) (low : Below w.heap.size w wc) : CW w x bo lo hi a m wc := by
  refine ⟨box, ?_, (hS.block _ (by omega) (Array.getElem?_eq_some_iff.1 res).1).trans res, lm.same (hS.weak ?_) (hS.weak ?_), own, le, Nat.le_trans hhi hS.size, hbo, low⟩
  · obtain ⟨A, c, rfl, h2, h3⟩ := la
    refine ⟨A, c, rfl, h2, h3.imp id fun ⟨g, e, hg, hr⟩ => ⟨g, e, Nat.le_trans hN hg, hr.same hS.size (hS.block g ?_ hr.lt) fun _ b hb hl => hS.block b ?_ hl⟩⟩
    · subst e; exact (own g rfl).2
    · show b ≠ bo; omega
  · rintro b ⟨h, _⟩ rfl; exact hbm h
  · rintro b ⟨h, _⟩ rfl; exact hbm h
abbrev put6 (w : World) (b : Nat) (a0 a1 a2 a3 a4 a5 : Value) : World := (((((w.setCell ⟨b, 0, none⟩ a0).setCell ⟨b, 1, none⟩ a1).setCell ⟨b, 2, none⟩ a2).setCell ⟨b, 3, none⟩ a3).setCell ⟨b, 4, none⟩ a4).setCell ⟨b, 5, none⟩ a5
theorem put6_heap {w : World} {b : Nat} {a0 a1 a2 a3 a4 a5 z0 z1 z2 z3 z4 z5 : Value} {T : TypeId} (h : w.heap[b]? = some (.cells #[z0, z1, z2, z3, z4, z5] T)) : (put6 w b a0 a1 a2 a3 a4 a5).heap[b]? = some (.cells #[a0, a1, a2, a3, a4, a5] T) := by
  have h1 := setCell_heap (i := 0) (v := a0) h
  have h2 := setCell_heap (i := 1) (v := a1) h1
  have h3 := setCell_heap (i := 2) (v := a2) h2
  have h4 := setCell_heap (i := 3) (v := a3) h3
  have h5 := setCell_heap (i := 4) (v := a4) h4
  have h6 := setCell_heap (i := 5) (v := a5) h5
  exact h6.trans (by simp)
theorem put6_same {w : World} {b : Nat} {a0 a1 a2 a3 a4 a5 : Value} : Same (fun d => d ≠ b) w (put6 w b a0 a1 a2 a3 a4 a5) :=
  (((((setCell_same fun _ h => h).trans (setCell_same fun _ h => h)).trans (setCell_same fun _ h => h)).trans (setCell_same fun _ h => h)).trans (setCell_same fun _ h => h)).trans (setCell_same fun _ h => h)
theorem put6_below {B : Nat} {a w : World} {b : Nat} {a0 a1 a2 a3 a4 a5 : Value} (h : Below B a w) (hb : B ≤ b) : Below B a (put6 w b a0 a1 a2 a3 a4 a5) :=
  (((((h.setCell (p := ⟨b, 0, none⟩) hb _).setCell (p := ⟨b, 1, none⟩) hb _).setCell (p := ⟨b, 2, none⟩) hb _).setCell (p := ⟨b, 3, none⟩) hb _).setCell (p := ⟨b, 4, none⟩) hb _).setCell (p := ⟨b, 5, none⟩) hb _
theorem LF.own {N : Nat} {inn : Nat → Prop} {w : World} {u : Value} {l : List PLoc} (h : LF N inn w u l) {g : Nat} (e : u.ownBlock = some g) : N ≤ g ∧ g < w.heap.size := by
  obtain ⟨A, c, rfl, _, ⟨_, rfl⟩ | ⟨g', rfl, h1, h2⟩⟩ := h
  · cases e
  · cases e; exact ⟨h1, h2.lt⟩
section
variable {w w0 w1 w2 : World} {x : PWld} {a m : Value}
theorem way_a (h0 : Below w.heap.size w w0) (hr : w0.heap[w.heap.size + 1]? = some zW) (hs : w0.heap.size = w.heap.size + 2) (lf : LF w0.drew.heap.size (fun b => b < w.heap.size) w1 a x.acts) (hb1 : Below w0.drew.heap.size w0.drew w1) (hm : Msgs (Qm w1.heap.size w2.heap.size m) (Qi w1.heap.size w2.heap.size m) w2 m x.mail) (hb2 : Below w1.heap.size w1 w2) :
    CW w x w2.heap.size w1.heap.size w2.heap.size a m (w2.alloc (.cells #[a, m, .int .i64 x.used.drop, .int .i64 x.used.dup, .int .i64 x.used.time, .int .i64 x.used.crash] 32)) := by
  have z0 := h0.size
  have z1 := hb1.size
  have z2 := hb2.size
  change w0.heap.size ≤ _ at z1
  refine cw_mk (lf.below hb2) (by show _ ≤ w0.heap.size; omega) (boxAt (boxAt hr (undrew hb1)) hb2) hm (Same.all (bAlloc (bRefl _) _)) (heap_new _ _) (by omega) (Nat.le_refl _) (by omega) (by omega) (fun g e => ?_) (bAlloc (bTrans (bTrans h0.drew hb1) hb2) _)
  have := lf.own e
  omega
theorem way_b (h0 : Below w.heap.size w w0) (hr : w0.heap[w.heap.size + 1]? = some zW) (hs : w0.heap.size = w.heap.size + 2) (lf : LF w0.drew.heap.size (fun b => b < w.heap.size) w1 a x.acts) (hb1 : Below w0.drew.heap.size w0.drew w1) (hm : Msgs (Qm (w1.alloc zW).heap.size w2.heap.size m) (Qi (w1.alloc zW).heap.size w2.heap.size m) w2 m x.mail) (hb2 : Below (w1.alloc zW).heap.size (w1.alloc zW) w2) :
    CW w x w1.heap.size (w1.alloc zW).heap.size w2.heap.size a m (put6 w2 w1.heap.size a m (.int .i64 x.used.drop) (.int .i64 x.used.dup) (.int .i64 x.used.time) (.int .i64 x.used.crash)) := by
  have z0 := h0.size
  have z1 := hb1.size
  have z2 := hb2.size
  have z3 : (w1.alloc zW).heap.size = w1.heap.size + 1 := by simp
  change w0.heap.size ≤ _ at z1
  have hbox : w2.heap[w1.heap.size]? = some zW := (hb2.block _ (by omega)).trans (heap_new _ _)
  refine cw_mk (lf.below (bTrans (bAlloc (bRefl _) _) hb2)) (by show _ ≤ w0.heap.size; omega) (boxAt (boxAt hr (undrew hb1)) (bTrans (bAlloc (bRefl _) _) hb2)) hm put6_same (put6_heap hbox) (by omega) (Nat.le_refl _) (by omega) (by omega) (fun g e => ?_) (put6_below (bTrans (bAlloc (bTrans h0.drew hb1) _) hb2) (by omega))
  have := lf.own e
  omega
theorem way_c (h0 : Below w.heap.size w w0) (hr : w0.heap[w.heap.size + 1]? = some zW) (hs : w0.heap.size = w.heap.size + 2) (lf : LF (w0.alloc zW).drew.heap.size (fun b => b < w.heap.size) w1 a x.acts) (hb1 : Below (w0.alloc zW).drew.heap.size (w0.alloc zW).drew w1) (hm : Msgs (Qm w1.heap.size w2.heap.size m) (Qi w1.heap.size w2.heap.size m) w2 m x.mail) (hb2 : Below w1.heap.size w1 w2) :
    CW w x w0.heap.size w1.heap.size w2.heap.size a m (put6 w2 w0.heap.size a m (.int .i64 x.used.drop) (.int .i64 x.used.dup) (.int .i64 x.used.time) (.int .i64 x.used.crash)) := by
  have z0 := h0.size
  have z1 := hb1.size
  have z2 := hb2.size
  have z3 : (w0.alloc zW).drew.heap.size = w0.heap.size + 1 := by show (w0.alloc zW).heap.size = _; simp
  have hbox : w2.heap[w0.heap.size]? = some zW := (hb2.block _ (by omega)).trans ((hb1.block _ (by omega)).trans (heap_new w0 zW))
  refine cw_mk (lf.below hb2) (by omega) (boxAt (boxAt hr (bTrans (bAlloc (bRefl _) _) (undrew hb1))) hb2) hm put6_same (put6_heap hbox) (by omega) (Nat.le_refl _) (by omega) (by omega) (fun g e => ?_) (put6_below (bTrans (bTrans (bAlloc h0 _).drew hb1) hb2) (by omega))
  have := lf.own e
  omega
end
structure CK (w : World) (x : PWld) (bo lo hi k : Nat) (A : Option Addr) (c : Nat) (m : Value) (wr : World) : Prop where
  box : wr.heap[bo]? = some (.cells #[.slice A x.acts.length c, m, .int .i64 x.used.drop, .int .i64 x.used.dup, .int .i64 x.used.time, .int .i64 x.used.crash] 32)
  len : x.acts.length ≤ c
  la : (x.acts = [] ∧ A = none) ∨ ∃ g, A = some ⟨g, 0, none⟩ ∧ Qa (w.heap.size + 2) lo hi g ∧ g ≠ bo ∧ LR g (fun j b => b ≠ g ∧ (j < k → Qa (w.heap.size + 2) lo hi b)) wr x.acts
  res : wr.heap[w.heap.size + 1]? = some zW
  lm : Msgs (Qm lo hi m) (Qi lo hi m) wr m x.mail
  le : w.heap.size + 2 ≤ lo
  hi : hi ≤ wr.heap.size
  bo : w.heap.size + 2 ≤ bo
  low : Below w.heap.size w wr
section
variable {w wr w1 : World} {x : PWld} {bo lo hi k c : Nat} {a m : Value} {A : Option Addr}
theorem CW.start (h : CW w x bo lo hi a m wr) : ∃ A c, a = .slice A x.acts.length c ∧ CK w x bo lo hi 0 A c m wr := by
  obtain ⟨A, c, rfl, h2, h3⟩ := h.la
  refine ⟨A, c, rfl, h.box, h2, h3.imp id fun ⟨g, e, hg, hr⟩ => ⟨g, e, ⟨hg, ?_⟩, ?_, hr.weak fun j b hb => ⟨by omega, fun hj => by omega⟩⟩, h.res, h.lm, h.le, h.hi, h.bo, h.low⟩
  · subst e; exact (h.own g rfl).1
  · subst e; exact (h.own g rfl).2
theorem CK.next {g d : Nat} {D : Option Addr} {y : PLoc} (h : CK w x bo lo hi k (some ⟨g, 0, none⟩) c m wr) (hy : x.acts[k]? = some y) (hi1 : Ints (fun b => wr.drew.heap.size ≤ b) w1 (.slice D y.regs.length d) y.regs) (hb : Below wr.drew.heap.size wr.drew w1) :
    CK w x bo lo hi (k + 1) (some ⟨g, 0, none⟩) c m (w1.setCell ⟨g, k * 5, none⟩ (.slice D y.regs.length d)) := by
  have hb' : Below wr.heap.size wr w1 := undrew hb
  obtain ⟨g', e, hg, hgb, hr⟩ : ∃ g', (some ⟨g, 0, none⟩ : Option Addr) = some ⟨g', 0, none⟩ ∧ Qa (w.heap.size + 2) lo hi g' ∧ g' ≠ bo ∧ LR g' (fun j b => b ≠ g' ∧ (j < k → Qa (w.heap.size + 2) lo hi b)) wr x.acts := by
    rcases h.la with ⟨_, h2⟩ | h2
    · cases h2
    · exact h2
  cases e
  have hgl := hr.lt
  have hlow := (Array.getElem?_eq_some_iff.1 h.box).1
  have hbo := h.bo
  have hhi := h.hi
  have key : LR g (fun j b => b ≠ g ∧ (j < k + 1 → Qa (w.heap.size + 2) lo hi b)) (w1.setCell ⟨g, k * 5, none⟩ (.slice D y.regs.length d)) (x.acts.set k y) :=
    (hr.below hb').put (i := 0) hy rfl (by omega) (fun _ b hb => hb.1) (fun b hb => hb.1) (fun j hj b hb => ⟨hb.1, fun h => hb.2 (by omega)⟩)
      (Or.inl ⟨rfl, Ints.weak hi1 fun b (hb : wr.heap.size ≤ b) => ⟨by omega, fun _ => ⟨by omega, by omega⟩⟩⟩) (Or.inr ⟨by omega, rfl⟩) (Or.inr ⟨by omega, rfl⟩) (Or.inr ⟨by omega, rfl⟩) (Or.inr ⟨by omega, rfl⟩)
  rw [set_self hy] at key
  have hS : ∀ (ok : Nat → Prop), (∀ b, ok b → b ≠ g) → Same ok w1 (w1.setCell ⟨g, k * 5, none⟩ (.slice D y.regs.length d)) := fun ok hk => setCell_same hk
  refine ⟨?_, h.len, Or.inr ⟨g, rfl, hg, hgb, key⟩, ?_, (h.lm.below hb').same (hS _ ?_) (hS _ ?_), h.le, ?_, h.bo, ?_⟩
  · rw [Below.heap_setCell _ _ _ _ (fun e => hgb e.symm)]; exact boxAt h.box hb'
  · have hg1 : w.heap.size + 2 ≤ g := hg.1
    have hg2 : w.heap.size + 1 ≠ g := by omega
    exact (Below.heap_setCell w1 ⟨g, k * 5, none⟩ (.slice D y.regs.length d) (w.heap.size + 1) hg2).trans (boxAt h.res hb')
  · rintro b ⟨h1, _⟩ rfl; exact hg.2 h1
  · rintro b ⟨h1, _⟩ rfl; exact hg.2 h1
  · have := hb'.size; simp [World.setCell]; omega
  · exact (bTrans h.low hb').setCell (p := ⟨g, _, none⟩) (by have := hg.1; show w.heap.size ≤ g; omega) _
theorem CK.done (h : CK w x bo lo hi k A c m wr) (hk : ¬ k < x.acts.length) : WN (w.heap.size + 2) lo hi wr (.slice A x.acts.length c) m x := by
  refine ⟨⟨A, c, rfl, h.len, h.la.imp id fun ⟨g, e, hg, _, hr⟩ => ⟨g, e, hg, ⟨hr.row, fun j y hy => ?_⟩⟩⟩, h.lm, h.le, h.hi⟩
  have hj := (List.getElem?_eq_some_iff.1 hy).1
  obtain ⟨⟨v, h1, h2⟩, h3⟩ := hr.rd j y hy
  exact ⟨⟨v, h1, Ints.weak h2 fun b hb => ⟨hb.2 (by omega), hb.1⟩⟩, h3⟩
end
theorem WN.mono {N M lo hi : Nat} {w : World} {a m : Value} {x : PWld} (h : WN N lo hi w a m x) (hM : M ≤ N) : WN M lo hi w a m x := by
  obtain ⟨A, c, rfl, h2, h3⟩ := h.acts
  exact ⟨⟨A, c, rfl, h2, h3.imp id fun ⟨g, e, hg, hr⟩ => ⟨g, e, ⟨Nat.le_trans hM hg.1, hg.2⟩, hr.weak fun _ b hb => ⟨⟨Nat.le_trans hM hb.1.1, hb.1.2⟩, hb.2⟩⟩⟩, h.mail, Nat.le_trans hM h.le, h.hi⟩
theorem WN.far {N lo hi rb : Nat} {w w' : World} {a m : Value} {x : PWld} (h : WN N lo hi w a m x) (hS : Same (fun d => d ≠ rb) w w') (hrb : rb < N) : WN N lo hi w' a m x := by
  have hle := h.le
  refine ⟨?_, h.mail.same (hS.weak ?_) (hS.weak ?_), h.le, Nat.le_trans h.hi hS.size⟩
  · obtain ⟨A, c, rfl, h2, h3⟩ := h.acts
    refine ⟨A, c, rfl, h2, ?_⟩
    rcases h3 with h3 | ⟨g, e, hg, hr⟩
    · exact Or.inl h3
    · refine Or.inr ⟨g, e, hg, hr.same hS.size (hS.block g ?_ hr.lt) fun _ b hb hl => hS.block b ?_ hl⟩
      · have := hg.1; show g ≠ rb; omega
      · have := hb.1.1; show b ≠ rb; omega
  · intro b hb; have := hb.1.1; show b ≠ rb; omega
  · intro b hb; have := hb.1.1; show b ≠ rb; omega
end Go.Proofs.YtfbeiedhdmndnaaGreatDoor
namespace Go.Proofs.YtfbeiedhdmndnaaGreatDoor
open Go.RowKit

def tr (b : Bool) : Int := if b then 1 else 0
def tw (op a b : Int) : Int :=
  if op = 9 then wrap64 (a + b) else if op = 10 then wrap64 (a - b) else if op = 11 then wrap64 (a * b)
  else if op = 12 then (if b = 0 then 0 else wrap64 (a.tdiv b)) else if op = 13 then (if b = 0 then 0 else a.tmod b)
  else if op = 15 then tr (a == b) else if op = 16 then tr (decide (a < b)) else if op = 17 then tr (a != 0 && b != 0)
  else if op = 18 then tr (a != 0 || b != 0) else 0
def dn (op b : Int) : Int := if (op = 12 ∨ op = 13) ∧ b = 0 then 3 else 0
def on (op a : Int) : Int := if op = 14 then wrap64 (-a) else if op = 19 then tr (a == 0) else 0
def ok (op : Int) : Bool := op == 14 || op == 19

theorem tw_div {a b : Int} (h : b ≠ 0) : tw 12 a b = wrap64 (a.tdiv b) := by simp [tw, h]
theorem tw_mod {a b : Int} (h : b ≠ 0) : tw 13 a b = a.tmod b := by simp [tw, h]
theorem tw_and (a b : Int) : tw 17 a b = tr (a != 0 && b != 0) := rfl
theorem tw_or (a b : Int) : tw 18 a b = tr (a != 0 || b != 0) := rfl
theorem dn_div {b : Int} (h : b ≠ 0) : dn 12 b = 0 := by simp [dn, h]
theorem dn_mod {b : Int} (h : b ≠ 0) : dn 13 b = 0 := by simp [dn, h]
theorem on_neg (a : Int) : on 14 a = wrap64 (-a) := rfl
end Go.Proofs.YtfbeiedhdmndnaaGreatDoor
namespace Go.Proofs.YtfbeiedhdmndnaaGreatDoor
open Go.RowKit

structure PRes where
  loc : PLoc
  notes : List PNte
  steps : Int
  deriving DecidableEq, Inhabited
structure MS where
  regs : List Int
  armed : Bool
  notes : List PNte
  st : List Int
  pc : Nat
  steps : Nat
  deriving DecidableEq, Inhabited

def hd0 : List Int → Int
  | [] => 0
  | x :: _ => x
def tmr (p : PPrg) (who : Int) : Int := ((p.acs[who.toNat]?).map (·.timer)).getD (-1)
def stp (p : PPrg) (who : Int) (args : List Int) (len : Nat) (i : PIns) (s : MS) : Int × MS :=
  match i.op.toNat with
  | 1 => (0, { s with st := i.a :: s.st })
  | 2 => (0, { s with st := s.st.tail })
  | 3 => (0, { s with st := hd0 s.st :: s.st })
  | 4 => (0, { s with st := hd0 s.st.tail :: hd0 s.st :: s.st.tail.tail })
  | 5 => (0, { s with st := s.regs.getD i.a.toNat 0 :: s.st })
  | 6 => (0, { s with st := s.st.tail, regs := s.regs.set i.a.toNat (hd0 s.st) })
  | 7 => (0, { s with st := args.getD i.a.toNat 0 :: s.st })
  | 8 => (0, { s with st := who :: s.st })
  | 14 => (0, { s with st := on 14 (hd0 s.st) :: s.st.tail })
  | 19 => (0, { s with st := on 19 (hd0 s.st) :: s.st.tail })
  | 20 => (0, { s with pc := i.a.toNat })
  | 21 => (0, { s with st := s.st.tail, pc := if hd0 s.st = 0 then i.a.toNat else s.pc })
  | 22 => if 0 ≤ hd0 s.st ∧ hd0 s.st < p.acs.length
      then (0, { s with st := s.st.tail.drop (argsOf p.hs i.a).toNat, notes := s.notes ++ [⟨hd0 s.st, i.a, (s.st.tail.take (argsOf p.hs i.a).toNat).reverse⟩] })
      else (4, { s with st := s.st.tail })
  | 23 => (0, { s with armed := s.armed || tmr p who != -1 })
  | 24 => (0, { s with armed := false })
  | 25 => (0, { s with pc := len })
  | _ => (dn i.op (hd0 s.st), { s with st := tw i.op (hd0 s.st.tail) (hd0 s.st) :: s.st.tail.tail })

def rn (p : PPrg) (who : Int) (args : List Int) (code : List PIns) : Nat → MS → Int × MS
  | 0, s => if s.pc < code.length then (2, s) else (0, s)
  | f + 1, s =>
    if s.pc < code.length then
      (let r := stp p who args code.length (code.getD s.pc default) { s with pc := s.pc + 1, steps := s.steps + 1 }
       if r.1 = 0 then rn p who args code f r.2 else r)
    else (0, s)

noncomputable def mayP (p : PPrg) (who : Int) (l : PLoc) (h : Int) (args : List Int) : Prop :=
  fc p = 0 ∧ (0 ≤ who ∧ who < p.acs.length) ∧ (0 ≤ h ∧ h < p.hs.length) ∧ (args.length : Int) = argsOf p.hs h ∧ l.regs.length ≤ 8 ∧ l.down = 0
def ms0 (l : PLoc) : MS := ⟨l.regs, l.armed, [], [], 0, 0⟩
def fin (l : PLoc) (r : Int × MS) : PRes :=
  if r.1 = 0 then ⟨⟨r.2.regs, r.2.armed, l.down, wrap64 (l.sent + r.2.notes.length), l.over⟩, r.2.notes, r.2.steps⟩ else ⟨{ l with down := r.1 }, [], r.2.steps⟩
def rnR (p : PPrg) (who : Int) (l : PLoc) (h : Int) (args : List Int) : Int × MS := rn p who args (fcode p h) p.fuel.toNat (ms0 l)
open Classical in
noncomputable def runP (p : PPrg) (who : Int) (l : PLoc) (h : Int) (args : List Int) : PRes :=
  if mayP p who l h args then fin l (rnR p who l h args) else ⟨⟨[], false, 0, 0, 0⟩, [], 0⟩

structure OkS (p : PPrg) (args : List Int) (code : List PIns) (s : MS) (i : PIns) : Prop where
  ok : okI p.hs i s.st.length
  vl : vl i.op = true
  reg : i.op = 5 ∨ i.op = 6 → 0 ≤ i.a ∧ i.a ≤ 7
  arg : i.op = 7 → 0 ≤ i.a ∧ i.a < args.length
  tgt : i.op = 20 ∨ i.op = 21 → 0 ≤ i.a ∧ i.a ≤ code.length
  snd : i.op = 22 → (0 ≤ i.a ∧ i.a < p.hs.length) ∧ 0 ≤ argsOf p.hs i.a ∧ argsOf p.hs i.a ≤ 4
end Go.Proofs.YtfbeiedhdmndnaaGreatDoor
namespace Go.Proofs.YtfbeiedhdmndnaaGreatDoor
open Go.RowKit
set_option maxHeartbeats 4000000 in
set_option maxRecDepth 100000 in
theorem copyW_any (w : World) (v : Value) (x : PWld) (h : WldV w v x) (hs : SmW x) :
    Calls Tryz.prog 37 #[v] w fun e w' => ∃ a m lo hi, e = .returned (wVal x.used a m) ∧ WN w.heap.size lo hi w' a m x ∧ Below w.heap.size w w' := by
  obtain ⟨va, vm, rfl, h1, h2⟩ := h
  obtain ⟨A1, c1, rfl, hl1⟩ := h1.form
  obtain ⟨A2, c2, rfl, hl2⟩ := h2.form
  have HS := hid_mk hs
  have s1 : x.acts.length ≤ 1000 := by have := hs.n; omega
  clear hs
  go_enter Tryz.func37, Tryz.ntmps37
  go_wp2
  go_cut [3] (fun i3 wc => ∃ bo lo hi a m, i3 = .pointer (some ⟨bo, 0, none⟩) ∧ CW w x bo lo hi a m wc)
  case first =>
    have H1 := hid_mk h1.ltIn
    have H2 := hid_mk h2
    have hA := (two_new w (.cells #[.slice A1 x.acts.length c1, .slice A2 x.mail.length c2, .int .i64 x.used.drop, .int .i64 x.used.dup, .int .i64 x.used.time, .int .i64 x.used.crash] 32) (.cells #[.slice none 0 0, .slice none 0 0, .int .i64 0, .int .i64 0, .int .i64 0, .int .i64 0] 32))
    have HL : Below w.heap.size w ((w.alloc (.cells #[.slice A1 x.acts.length c1, .slice A2 x.mail.length c2, .int .i64 x.used.drop, .int .i64 x.used.dup, .int .i64 x.used.time, .int .i64 x.used.crash] 32)).alloc (.cells #[.slice none 0 0, .slice none 0 0, .int .i64 0, .int .i64 0, .int .i64 0, .int .i64 0] 32)) := bAlloc (bAlloc (bRefl _) _) _
    generalize ((w.alloc (.cells #[.slice A1 x.acts.length c1, .slice A2 x.mail.length c2, .int .i64 x.used.drop, .int .i64 x.used.dup, .int .i64 x.used.time, .int .i64 x.used.crash] 32)).alloc (.cells #[.slice none 0 0, .slice none 0 0, .int .i64 0, .int .i64 0, .int .i64 0, .int .i64 0] 32)) = w0 at hA HL ⊢
    obtain ⟨p0, p1, p2, p3, p4, p5⟩ := blk6 hA.1
    have hz0 : w.heap.size < w0.heap.size := by have := hA.2.2; omega
    have hbb := HL
    have nn : ¬ w.heap.size = w0.heap.size := by omega
    have nn' : ¬ w0.heap.size = w.heap.size := by omega
    have hz0' : w.heap.size < w0.heap.size + 1 := by omega
    have HR0 := hid_mk hA.2.1
    have HZ0 := hid_mk hA.2.2
    clear h1 h2 hA
    go_region_held3 (fun w' => w'.cell? ⟨w.heap.size, 0, none⟩ = some (.slice A1 x.acts.length c1) ∧ w'.cell? ⟨w.heap.size, 1, none⟩ = some (.slice A2 x.mail.length c2) ∧ w'.cell? ⟨w.heap.size, 2, none⟩ = some (.int .i64 x.used.drop) ∧ w'.cell? ⟨w.heap.size, 3, none⟩ = some (.int .i64 x.used.dup) ∧ w'.cell? ⟨w.heap.size, 4, none⟩ = some (.int .i64 x.used.time) ∧ w'.cell? ⟨w.heap.size, 5, none⟩ = some (.int .i64 x.used.crash)) (go_keep)
      (first
        | (go_at_call 70; refine (freshL_any anyB (fun b => b < w.heap.size) _ _ x.acts (H1.out.below (by first | exact hbb | exact hbb.drew | exact bAlloc hbb _ | exact (bAlloc hbb _).drew | exact bAlloc hbb.drew _)) s1).mono ?_; rintro e w1 ⟨u1, rfl, lf, hb1⟩; obtain ⟨D1, e1, rfl, hd1, hd2⟩ := lf; obtain ⟨hc1, hf1, hy1⟩ := (by first | exact olds (undrew hb1) | exact olds hb1); have hj1 := hb1.size; have HF1 := hid_mk (show LF _ _ _ _ _ from ⟨D1, e1, rfl, hd1, hd2⟩); have HB1 := hid_mk hb1; replace hbb := bTrans (by first | exact hbb | exact hbb.drew | exact bAlloc hbb _ | exact (bAlloc hbb _).drew | exact bAlloc hbb.drew _) hb1; have x1 : w.heap.size < w1.heap.size := (by (try simp at hj1); omega); have n1 : ¬ w.heap.size = w1.heap.size := (by omega); have x1' : w.heap.size < w1.heap.size + 1 := (by omega); have n1' : ¬ w1.heap.size = w.heap.size := (by omega); clear hd1 hd2 hb1)
        | (go_at_call 71; refine (copy_any _ _ x.mail (H2.out.below (by first | exact hbb | exact hbb.drew | exact bAlloc hbb _ | exact (bAlloc hbb _).drew | exact bAlloc hbb.drew _)) (by have := HS.out.mail; omega) HS.out.args).mono ?_; rintro e w2 ⟨u2, rfl, mf, hb2⟩; obtain ⟨D2, e2, rfl, _⟩ := mf.form; obtain ⟨hc2, hf2, hy2⟩ := (by first | exact olds (undrew hb2) | exact olds hb2); have hj2 := hb2.size; have HM2 := hid_mk mf.within; have HB2 := hid_mk hb2; replace hbb := bTrans (by first | exact hbb | exact hbb.drew | exact bAlloc hbb _ | exact (bAlloc hbb _).drew | exact bAlloc hbb.drew _) hb2; have x2 : w.heap.size < w2.heap.size := (by (try simp at hj2); omega); have n2 : ¬ w.heap.size = w2.heap.size := (by omega); have x2' : w.heap.size < w2.heap.size + 1 := (by omega); have n2' : ¬ w2.heap.size = w.heap.size := (by omega); clear mf hb2))
    all_goals (go_wp2_with fail; go_meet)
    all_goals first
      | with_reducible exact ⟨_, _, _, _, _, rfl, way_a HL HR0.out HZ0.out HF1.out HB1.out HM2.out HB2.out⟩
      | with_reducible exact ⟨_, _, _, _, _, rfl, way_b HL HR0.out HZ0.out HF1.out HB1.out HM2.out HB2.out⟩
      | with_reducible exact ⟨_, _, _, _, _, rfl, way_c HL HR0.out HZ0.out HF1.out HB1.out HM2.out HB2.out⟩
  case rest =>
    obtain ⟨bo, lo, hi, a, m, rfl, hcw⟩ := hcut
    obtain ⟨A, c, rfl, hck⟩ := hcw.start
    obtain ⟨B, d, rfl, _⟩ := hck.lm.form
    clear h1 h2 hcw
    obtain ⟨o0, o1, o2, o3, o4, o5⟩ := blk6 hck.box
    go_wp2
    go_loopg [4, 17] x.acts.length (fun g i4 i17 wr => ∃ k : Nat, g = x.acts.length - k ∧ i17 = .int .i64 k ∧ CK w x bo lo hi k A c (.slice B x.mail.length d) wr)
    case atStart => exact ⟨0, rfl, rfl, hck⟩
    case round =>
      clear hck o0 o1 o2 o3 o4 o5
      obtain ⟨k, rfl, rfl, ck⟩ := hrel
      obtain ⟨o0, o1, o2, o3, o4, o5⟩ := blk6 ck.box
      have hbo : bo < wr.heap.size := (Array.getElem?_eq_some_iff.1 ck.box).1
      by_cases hlt : k < x.acts.length
      · obtain ⟨y, hy⟩ := at_lt hlt
        obtain ⟨g, rfl, hg, hgb, hr⟩ : ∃ g, A = some ⟨g, 0, none⟩ ∧ Qa (w.heap.size + 2) lo hi g ∧ g ≠ bo ∧ LR g (fun j b => b ≠ g ∧ (j < k → Qa (w.heap.size + 2) lo hi b)) wr x.acts := by
          rcases ck.la with ⟨e, _⟩ | h
          · rw [e] at hlt; simp at hlt
          · exact h
        obtain ⟨⟨v, r0, r0'⟩, r1, r2, r3, r4⟩ := hr.rd k y hy
        obtain ⟨V, n, rfl, _⟩ := r0'.form
        have hfz : ∀ o, wr.frozen? ⟨g, o, none⟩ = false := hr.frozen
        have hgl : g < wr.heap.size := hr.lt
        have hsm : y.regs.length ≤ 1000 := HS.out.regs y (List.mem_of_getElem? hy)
        have CKk := hid_mk ck
        have HY := hid_mk hy
        have HV := hid_mk r0'
        clear ck hy r0' hr hg
        go_wp2
        go_region_with (go_at_call 69; refine (freshI_any _ _ _ y.regs (HV.out.below (by first | exact (bRefl _).drew | exact bRefl _)) hsm).mono ?_; rintro e w1 ⟨D1, m1, rfl, hi1, hb1⟩; obtain ⟨hc1, hf1, hy1⟩ := olds (undrew hb1))
        all_goals
          go_wp2
          go_roundg (x.acts.length - (k + 1))
          case measure => omega
          case rel => exact ⟨k + 1, rfl, by go_num, CKk.out.next HY.out hi1 hb1⟩
      · have HW := hid_mk (ck.done hlt)
        have HLo := hid_mk ck.low
        obtain ⟨y0, y1, y2, y3, y4, y5⟩ := blk6 ck.res
        have fz : ∀ o, wr.frozen? ⟨w.heap.size + 1, o, none⟩ = false := fun o => heap_frozen ck.res
        have HRs := hid_mk ck.res
        clear ck
        go_wp2
        refine bodyPost_ret (v := wVal x.used (.slice A x.acts.length c) (.slice B x.mail.length d)) (by simp [results, Tryz.results37, go_sem, y0, y1, y2, y3, y4, y5]) rfl ⟨_, _, lo, hi, rfl, (HW.out.far put6_same (by omega)).mono (by omega), put6_below HLo.out (by omega)⟩
end Go.Proofs.YtfbeiedhdmndnaaGreatDoor
namespace Go.Proofs.YtfbeiedhdmndnaaGreatDoor
open Go.RowKit
attribute [local go_sem ↓] Go.wp_at_zero Go.wp_at_succ subA_rule
attribute [local go_sem] subA_rule2
theorem midB {a W w2 : World} (_ : Below W.heap.size W w2) (h : Below a.heap.size a W) : Below a.heap.size a W := h
theorem same_set {N g j : Nat} {w : World} {y : Value} (hg : g < N) : Same (fun b => N ≤ b) w (w.setCell ⟨g, j, none⟩ y) :=
  ⟨by simp, fun b hb _ => Below.heap_setCell _ _ _ _ (fun e => by have e' : b = g := e; omega)⟩
theorem Ints.setFar {N g j : Nat} {w : World} {v y : Value} {l : List Int} (h : Ints (fun b => N ≤ b) w v l) (hg : g < N) : Ints (fun b => N ≤ b) (w.setCell ⟨g, j, none⟩ y) v l := h.same (same_set hg)
theorem Msgs.setFar {N g j : Nat} {w : World} {v y : Value} {l : List PMsg} (h : Msgs (fun b => N ≤ b) (fun b => N ≤ b) w v l) (hg : g < N) : Msgs (fun b => N ≤ b) (fun b => N ≤ b) (w.setCell ⟨g, j, none⟩ y) v l := h.same (same_set hg) (same_set hg)
def msg0 : PMsg := ⟨⟨0, 0, 0⟩, ⟨0, 0, []⟩⟩
def cutP (l : List PMsg) (k : Nat) : List PMsg := l.take k ++ l.drop (k + 1)
set_option maxHeartbeats 4000000 in
set_option maxRecDepth 100000 in
theorem take_there (w : World) (v : Value) (l : List PMsg) (d : PID) (h : Msgs anyB anyB w v l) (k : Nat) (x : PMsg) (hf : fnd l d = k) (hx : l[k]? = some x) (hF : Few l) :
    Calls Tryz.prog 76 #[v, dV d] w fun e w' => ∃ u u2, e = .returned (.tuple #[u, mVal x u2, .int .i64 0]) ∧ Msgs (fun b => w.heap.size ≤ b) (fun b => w.heap.size ≤ b) w' u (cutP l k) ∧ Ints (fun b => w.heap.size ≤ b) w' u2 x.nt.args ∧ Below w.heap.size w w' := by
  obtain ⟨A, c, rfl, hl⟩ := h.form
  have hcap := h.cap
  have hkl : k < l.length := (List.getElem?_eq_some_iff.1 hx).1
  have HF : Hid (Few l) := hF
  have hx6 : x.nt.args.length ≤ 1000 := hF.2 x (List.mem_of_getElem? hx)
  have HP : Hid (cutP l k = l.take k ++ (l.drop (k + 1) ++ [])) := by show _ = _; unfold cutP; simp
  have hi : (0 : Int) ≤ k := by omega
  have hi2 : (k : Int) < l.length := by omega
  have hkc : (k : Int) ≤ c := by omega
  have hi3 : (k : Int) + 1 ≤ l.length := by omega
  have hi4 : (0 : Int) ≤ (k : Int) + 1 := by omega
  have hi5 : ((k : Int) + 1).toNat = k + 1 := by omega
  have hw1 : IntKind.i64.wrap ((k : Int) + 1) = (k : Int) + 1 := by rw [IntKind.wrap_i64]; omega
  have HK : Hid (k < l.length) := hkl
  have HX : Hid (l[k]? = some x) := hx
  clear hF hcap hx
  go_enter Tryz.func76, Tryz.ntmps76
  go_wp2_with fail
  refine (find_any _ _ l d (h.below (by exact bAlloc (bAlloc (bRefl _) _) _))).mono ?_
  rintro e w1 ⟨rfl, hb1⟩
  have kb0 : w1.heap[w.heap.size + 1]? = some (.cells #[.int .i64 0, .int .i64 0, .int .i64 0, .int .i64 0, .int .i64 0, .slice none 0 0] 90) := (hb1.block _ (by simp)).trans (heap_new2 (by simp))
  have HB : Hid (Below w.heap.size w w1) := bTrans (bAlloc (bAlloc (bRefl _) _) _) hb1
  obtain ⟨b1, o1, x', v1, rfl, hx', hlt1, q1, q2, q3, q4, q5, q6, hv1⟩ := h.cell HB.out HK.out
  have ex := HX.out
  rw [ex] at hx'
  cases hx'
  obtain ⟨V1, n1, rfl, _⟩ := hv1.form
  have hbo : b1 < w.heap.size := by
    obtain ⟨b, o, e, _, hlt, _⟩ := h.at (by omega)
    cases e; exact hlt
  have hz : w.heap.size + 1 < w1.heap.size := by have := hb1.size; simp at this; omega
  have hn1 : ¬ b1 = w.heap.size + 1 := by omega
  have hn2 : ¬ w.heap.size + 1 = b1 := by omega
  have HZ : Hid (w.heap.size + 1 < w1.heap.size) := hz
  have HFZ : Hid (∀ j, w1.frozen? ⟨w.heap.size + 1, j, none⟩ = false) := fun j => by simp [World.frozen?, kb0]
  have hbb : Below w1.heap.size w1 w1 := bRefl w1
  have hq : Below w1.heap.size w1 w1 := bRefl w1
  have hj : Below w1.heap.size w1 w1 := bRefl w1
  clear hb1 ex
  have HMS : Hid (Msgs anyB anyB w (.slice (some ⟨b1, o1, none⟩) l.length c) l) := h
  clear h
  go_wp2_with fail
  go_region_held3 (fun w' => w'.cell? ⟨b1, o1 + k * 6, none⟩ = some (.int .i64 x.id.f) ∧ w'.cell? ⟨b1, o1 + k * 6 + 1, none⟩ = some (.int .i64 x.id.n) ∧ w'.cell? ⟨b1, o1 + k * 6 + 2, none⟩ = some (.int .i64 x.id.c) ∧ w'.cell? ⟨b1, o1 + k * 6 + 3, none⟩ = some (.int .i64 x.nt.to) ∧ w'.cell? ⟨b1, o1 + k * 6 + 4, none⟩ = some (.int .i64 x.nt.hd) ∧ w'.cell? ⟨b1, o1 + k * 6 + 5, none⟩ = some (.slice V1 x.nt.args.length n1)) (go_keep)
    (first
      | (go_at_call 107; refine (another_any anyB _ _ x ⟨_, rfl, hv1.below (by first | exact hbb | exact hbb.drew | exact (bAlloc hbb _).drew | exact bAlloc hbb _)⟩ hx6).mono ?_; rintro e w2 ⟨u2, rfl, hu2, hb2⟩; have hbw := midB hb2 (by first | exact hbb | exact hbb.drew | exact (bAlloc hbb _).drew | exact bAlloc hbb _); obtain ⟨A5, d5, rfl, _⟩ := hu2.form; have HA : Hid (Ints (fun b => w1.heap.size ≤ b) w2 (.slice A5 x.nt.args.length d5) x.nt.args) := (hu2.weak fun b hb => Nat.le_trans hbw.size hb); have hq := hb2; replace hbb := bTrans hbw hb2; clear hu2 hbw; have kb := (hbb.block (w.heap.size + 1) hz).trans kb0; have yf : (∀ j, w2.frozen? ⟨w.heap.size + 1, j, none⟩ = false) := (fun j => by simp [World.frozen?, kb]); obtain ⟨z0, z1, z2, z3, z4, z5⟩ := blk6 kb; clear kb; have t0 := (hbb.cell (p := ⟨b1, o1 + k * 6, none⟩) hlt1).trans q1; have t1 := (hbb.cell (p := ⟨b1, o1 + k * 6 + 1, none⟩) hlt1).trans q2; have t2 := (hbb.cell (p := ⟨b1, o1 + k * 6 + 2, none⟩) hlt1).trans q3; have t3 := (hbb.cell (p := ⟨b1, o1 + k * 6 + 3, none⟩) hlt1).trans q4; have t4 := (hbb.cell (p := ⟨b1, o1 + k * 6 + 4, none⟩) hlt1).trans q5; have t5 := (hbb.cell (p := ⟨b1, o1 + k * 6 + 5, none⟩) hlt1).trans q6; have hzz := Nat.lt_of_lt_of_le hz hbb.size; have hlz := Nat.lt_of_lt_of_le hlt1 hbb.size)
      | (go_at_call 101; refine (join_any _ _ [l.take k, l.drop (k + 1)] (parts2 (by first | exact heap_new2 (by simp) | exact (hq.block _ (by simp)).trans (heap_new2 (by simp))) (((HMS.out.below (bTrans HB.out (by first | exact hbb | exact hbb.drew | exact (bAlloc hbb _).drew | exact bAlloc hbb _))).takeS (by have := HK.out; omega)).any2) (((HMS.out.below (bTrans HB.out (by first | exact hbb | exact hbb.drew | exact (bAlloc hbb _).drew | exact bAlloc hbb _))).dropS (by have := HK.out; omega)).any2)) (by have := HF.out.1; simp; omega) (by have hF2 := HF.out.2; intro y hy; simp only [List.flatten_cons, List.flatten_nil, List.mem_append, List.append_nil] at hy; rcases hy with hy | hy; exact hF2 y (List.mem_of_mem_take hy); exact hF2 y (List.mem_of_mem_drop hy))).mono ?_; rintro e w3 ⟨u, rfl, hu, hb3⟩; have hbw := midB hb3 (by first | exact hbb | exact hbb.drew | exact (bAlloc hbb _).drew | exact bAlloc hbb _); have HU : Hid (Msgs (fun b => w1.heap.size ≤ b) (fun b => w1.heap.size ≤ b) w3 u (l.take k ++ (l.drop (k + 1) ++ []))) := (hu.weak (fun b hb => Nat.le_trans hbw.size hb.1) (fun b hb => Nat.le_trans hbw.size hb.1)); have hj := hb3; replace hbb := bTrans hbw hb3; clear hu hbw; have kb := (hbb.block (w.heap.size + 1) hz).trans kb0; have yf : (∀ j, w3.frozen? ⟨w.heap.size + 1, j, none⟩ = false) := (fun j => by simp [World.frozen?, kb]); obtain ⟨z0, z1, z2, z3, z4, z5⟩ := blk6 kb; clear kb; have t0 := (hbb.cell (p := ⟨b1, o1 + k * 6, none⟩) hlt1).trans q1; have t1 := (hbb.cell (p := ⟨b1, o1 + k * 6 + 1, none⟩) hlt1).trans q2; have t2 := (hbb.cell (p := ⟨b1, o1 + k * 6 + 2, none⟩) hlt1).trans q3; have t3 := (hbb.cell (p := ⟨b1, o1 + k * 6 + 3, none⟩) hlt1).trans q4; have t4 := (hbb.cell (p := ⟨b1, o1 + k * 6 + 4, none⟩) hlt1).trans q5; have t5 := (hbb.cell (p := ⟨b1, o1 + k * 6 + 5, none⟩) hlt1).trans q6; have hzz := Nat.lt_of_lt_of_le hz hbb.size; have hlz := Nat.lt_of_lt_of_le hlt1 hbb.size))
  all_goals
    have HBB := hbb
    clear hbb
    go_wp2
    refine bodyPost_ret (v := .tuple #[u, mVal x (.slice A5 x.nt.args.length d5), .int .i64 0]) (by simp [results, Tryz.results76, go_sem, z0, z1, z2, z3, z4, z5]) rfl ⟨_, _, rfl, ?_, ?_, ?_⟩
    · rw [HP.out]
      refine Msgs.weak (ok := fun b => w1.heap.size ≤ b) (inn := fun b => w1.heap.size ≤ b) ?_ (fun b hb => Nat.le_trans HB.out.size hb) (fun b hb => Nat.le_trans HB.out.size hb)
      repeat (refine Msgs.setFar ?_ HZ.out)
      first | exact HU.out | exact HU.out.below hq
    · refine Ints.weak (ok := fun b => w1.heap.size ≤ b) ?_ (fun b hb => Nat.le_trans HB.out.size hb)
      repeat (refine Ints.setFar ?_ HZ.out)
      first | exact HA.out | exact HA.out.below hj | exact HA.out.below (bTrans (bAlloc (bRefl _) _) hj)
    · repeat (refine Below.setCell ?_ (Nat.le_succ _) _)
      exact bTrans HB.out HBB
end Go.Proofs.YtfbeiedhdmndnaaGreatDoor
namespace Go.Proofs.YtfbeiedhdmndnaaGreatDoor
open Go.RowKit
def Qp (N bo lo hi : Nat) : Nat → Prop := fun b => N ≤ b ∧ b ≠ bo ∧ ¬ (lo ≤ b ∧ b < hi)
structure PW (N bo lo hi : Nat) (W : World) (a m : Value) (x : PWld) : Prop where
  box : W.heap[bo]? = some (.cells #[a, m, .int .i64 x.used.drop, .int .i64 x.used.dup, .int .i64 x.used.time, .int .i64 x.used.crash] 32)
  acts : LV (Qp N bo lo hi) W a x.acts
  mail : Msgs (Qm lo hi m) (Qi lo hi m) W m x.mail
  nb : ¬ (lo ≤ bo ∧ bo < hi)
  le : N ≤ lo
  hi : hi ≤ W.heap.size
  bo : N ≤ bo
section
variable {N bo lo hi : Nat} {W W' : World} {a m : Value} {x : PWld}
theorem PW.below (h : PW N bo lo hi W a m x) (hb : Below W.heap.size W W') : PW N bo lo hi W' a m x := ⟨boxAt h.box hb, h.acts.below hb, h.mail.below hb, h.nb, h.le, Nat.le_trans h.hi hb.size, h.bo⟩
theorem PW.wn (h : PW N bo lo hi W a m x) : WN N lo hi W a m x := by
  refine ⟨?_, h.mail, h.le, h.hi⟩
  obtain ⟨A, c, rfl, h2, h3⟩ := h.acts
  exact ⟨A, c, rfl, h2, h3.imp id fun ⟨g, e, hg, hr⟩ => ⟨g, e, ⟨hg.1, hg.2.2⟩, hr.weak fun _ b hb => ⟨⟨hb.1.1, hb.1.2.2⟩, hb.2⟩⟩⟩
theorem PW.blt (h : PW N bo lo hi W a m x) : bo < W.heap.size := (Array.getElem?_eq_some_iff.1 h.box).1
theorem PW.setMail {W0 : World} {m' : Value} {ml : List PMsg} (h : PW N bo lo hi W0 a m x) (hb : Below W0.heap.size W0 W) (hm : Msgs (Qm W0.heap.size W.heap.size m') (Qi W0.heap.size W.heap.size m') W m' ml) :
    PW N bo W0.heap.size W.heap.size (W.setCell ⟨bo, 1, none⟩ m') a m' { x with mail := ml } := by
  have hbl := h.blt
  have hz := hb.size
  have hN : N ≤ W0.heap.size := by have := h.bo; omega
  have hS : Same (fun d => d ≠ bo) W (W.setCell ⟨bo, 1, none⟩ m') := setCell_same fun _ h => h
  refine ⟨(setCell_heap (boxAt h.box hb)).trans (by simp), ?_, hm.same (hS.weak ?_) (hS.weak ?_), by omega, hN, by simp [World.setCell], h.bo⟩
  · obtain ⟨A, c, rfl, h2, h3⟩ := h.acts
    refine ⟨A, c, rfl, h2, ?_⟩
    rcases h3 with h3 | ⟨g, e, hg, hr⟩
    · exact Or.inl h3
    · have hg1 : N ≤ g ∧ g ≠ bo ∧ ¬ (lo ≤ g ∧ g < hi) := hg
      have hgl := hr.lt
      refine Or.inr ⟨g, e, ⟨hg1.1, hg1.2.1, by omega⟩, LR.weak (P := fun _ b => (Qp N bo lo hi b ∧ b ≠ g) ∧ b < W0.heap.size) (LR.same (hr.ltP.below hb) hS.size (hS.block g ?_ ?_) fun _ b hb hl => hS.block b ?_ hl) fun _ b hb => ?_⟩
      · show g ≠ bo; omega
      · omega
      · have : N ≤ b ∧ b ≠ bo ∧ ¬ (lo ≤ b ∧ b < hi) := hb.1.1; show b ≠ bo; omega
      · have : N ≤ b ∧ b ≠ bo ∧ ¬ (lo ≤ b ∧ b < hi) := hb.1.1; exact ⟨⟨this.1, this.2.1, by have := hb.2; omega⟩, hb.1.2⟩
  · intro b hb; have := hb.1.1; show b ≠ bo; omega
  · intro b hb; have := hb.1.1; show b ≠ bo; omega
theorem PW.setAct {g c k i off : Nat} {y y' : PLoc} {v : Value} (h : PW N bo lo hi W (.slice (some ⟨g, 0, none⟩) x.acts.length c) m x) (hy : x.acts[k]? = some y) (ho : off = k * 5 + i) (hi5 : i < 5) (hi0 : i ≠ 0) (hr0 : y'.regs = y.regs)
    (h1 : (i = 1 ∧ v = .bool y'.armed) ∨ (i ≠ 1 ∧ y'.armed = y.armed)) (h2 : (i = 2 ∧ v = .int .i64 y'.down) ∨ (i ≠ 2 ∧ y'.down = y.down))
    (h3 : (i = 3 ∧ v = .int .i64 y'.sent) ∨ (i ≠ 3 ∧ y'.sent = y.sent)) (h4 : (i = 4 ∧ v = .int .i64 y'.over) ∨ (i ≠ 4 ∧ y'.over = y.over)) :
    PW N bo lo hi (W.setCell ⟨g, off, none⟩ v) (.slice (some ⟨g, 0, none⟩) x.acts.length c) m { x with acts := x.acts.set k y' } := by
  obtain ⟨A, c', e, hc, hl⟩ := h.acts
  simp only [Value.slice.injEq] at e
  obtain ⟨rfl, _, rfl⟩ := e
  obtain ⟨g', e, hg, hr⟩ : ∃ g', (some ⟨g, 0, none⟩ : Option Addr) = some ⟨g', 0, none⟩ ∧ Qp N bo lo hi g' ∧ LR g' (fun _ b => Qp N bo lo hi b ∧ b ≠ g') W x.acts := by
    rcases hl with ⟨_, h2⟩ | h2
    · cases h2
    · exact h2
  cases e
  have hg1 : N ≤ g ∧ g ≠ bo ∧ ¬ (lo ≤ g ∧ g < hi) := hg
  have hS : Same (fun d => d ≠ g) W (W.setCell ⟨g, off, none⟩ v) := setCell_same fun _ h => h
  have key := hr.put (P' := fun _ b => Qp N bo lo hi b ∧ b ≠ g) hy ho hi5 (fun _ _ hb => hb.2) (fun _ hb => hb.2) (fun _ _ _ hb => hb) (Or.inr ⟨hi0, hr0, fun _ hb => hb⟩) h1 h2 h3 h4
  refine ⟨?_, ⟨_, c, by rw [List.length_set], by simpa using hc, Or.inr ⟨g, rfl, hg, key⟩⟩, h.mail.same (hS.weak ?_) (hS.weak ?_), h.nb, h.le, by simpa [World.setCell] using h.hi, h.bo⟩
  · have hne : bo ≠ g := by omega
    exact (Below.heap_setCell W ⟨g, off, none⟩ v bo hne).trans h.box
  · intro b hb; have := hb.1; show b ≠ g; omega
  · intro b hb; have := hb.1; show b ≠ g; omega
theorem PW.row (h : PW N bo lo hi W a m x) (hk : 0 < x.acts.length) : ∃ g c, a = .slice (some ⟨g, 0, none⟩) x.acts.length c ∧ N ≤ g ∧ g ≠ bo ∧ LR g (fun _ b => Qp N bo lo hi b ∧ b ≠ g) W x.acts := by
  obtain ⟨A, c, rfl, hc, ⟨e, _⟩ | ⟨g, rfl, hg, hr⟩⟩ := h.acts
  · rw [e] at hk; simp at hk
  · have hg1 : N ≤ g ∧ g ≠ bo ∧ ¬ (lo ≤ g ∧ g < hi) := hg
    exact ⟨g, c, rfl, hg1.1, by omega, hr⟩
end
def capP (p : PPrg) (k : Nat) : Int := (p.acs.getD k default).cap
def roomB (p : PPrg) (x : PWld) (m : PMsg) (k : Nat) : Bool := decide ((toN x.mail m.nt.to : Int) < capP p k) && decide (fnd x.mail m.id = -1)
def postP (p : PPrg) (x : PWld) (m : PMsg) (k : Nat) : PWld :=
  if roomB p x m k = true then { x with mail := putP x.mail m } else { x with acts := x.acts.set k { x.acts.getD k default with over := wrap64 ((x.acts.getD k default).over + 1) } }
theorem cap_at {p : PPrg} {k : Nat} {a : PAct} (h : p.acs[k]? = some a) : capP p k = a.cap := by unfold capP; rw [List.getD_eq_getElem?_getD, h]; rfl
theorem getD_at {α : Type} [Inhabited α] {l : List α} {k : Nat} {a : α} (h : l[k]? = some a) : l.getD k default = a := by rw [List.getD_eq_getElem?_getD, h]; rfl
set_option maxHeartbeats 4000000 in
set_option maxRecDepth 100000 in
theorem post_new (N bo lo hi : Nat) (W : World) (vp a mv c : Value) (p : PPrg) (x : PWld) (d : PID) (k : Nat) (hd : Int) (args : List Int) (ac : PAct) (y : PLoc) (hp : PrgV W vp p) (hw : PW N bo lo hi W a mv x) (hc : Ints anyB W c args) (hs : Few x.mail) (hn : args.length ≤ 1000) (hac : p.acs[k]? = some ac) (hy : x.acts[k]? = some y) (hsz : x.acts.length ≤ 1000)
    (e1 : (toN x.mail (k : Int) : Int) < ac.cap) (e2 : fnd x.mail d = -1) :
    Calls Tryz.prog 75 #[vp, .pointer (some ⟨bo, 0, none⟩), mVal ⟨d, ⟨(k : Int), hd, args⟩⟩ c] W fun e w' => e = .returned (.tuple #[]) ∧ (∃ a' m' lo' hi', PW N bo lo' hi' w' a' m' { x with mail := putP x.mail ⟨d, ⟨(k : Int), hd, args⟩⟩ }) ∧ Below N W w' := by
  obtain ⟨A, cc, rfl, _⟩ := hc.form
  obtain ⟨vh, vb, vc, rfl, h1, h2, h3⟩ := hp
  obtain ⟨A1, c1, rfl, hl1⟩ := h1.form
  obtain ⟨A2, c2, rfl, hl2⟩ := h2.form
  obtain ⟨A3, c3, rfl, hl3⟩ := h3.form
  obtain ⟨B, dd, rfl, hlm⟩ := hw.mail.form
  have hka : k < p.acs.length := (List.getElem?_eq_some_iff.1 hac).1
  have hkx : k < x.acts.length := (List.getElem?_eq_some_iff.1 hy).1
  obtain ⟨g, ca, rfl, hgN, hgb, hgr⟩ := hw.row (by omega)
  obtain ⟨b2, o2, ac', v2, rfl, hac2, hz2, s1, s2, s3, s4, _⟩ := h2.cell (bRefl W) hka
  obtain rfl : ac = ac' := Option.some.inj (hac.symm.trans hac2)
  obtain ⟨_, _, _, _, r4⟩ := hgr.rd k y hy
  have hla : (x.acts.length : Int) ≤ 9223372036854775807 := by
    have := hw.acts.locs hsz; obtain ⟨_, _, _, h'⟩ := this.form; exact h'
  have hgl : g < W.heap.size := hgr.lt
  have hblt := hw.blt
  have hNb := hw.bo
  have HR4 := hid_mk r4
  have HGR := hid_mk hgr
  have HPW := hid_mk hw
  have HM := hid_mk hw.mail.any2
  have HC := hid_mk hc
  have HY := hid_mk hy
  have hki : (k : Int) < p.acs.length := by omega
  have hkj : (k : Int) < x.acts.length := by omega
  clear hac hac2 hy h1 h2 h3 hgr r4 hc s1 s3 s4
  obtain ⟨n0, n1, n2, n3, n4, n5⟩ := blk6 hw.box
  have hk0 : ¬ (k : Int) < 0 := by omega
  have hk1 : ¬ (p.acs.length : Int) ≤ (k : Int) := by omega
  have hk2 : ¬ (x.acts.length : Int) ≤ (k : Int) := by omega
  go_enter Tryz.func75, Tryz.ntmps75
  go_wp2_with fail
  have hA := (two_new W (.cells #[.slice A1 p.hs.length c1, .slice (some ⟨b2, o2, none⟩) p.acs.length c2, .slice A3 p.bs.length c3, .int .i64 p.fuel] 26) (.cells #[.int .i64 d.f, .int .i64 d.n, .int .i64 d.c, .int .i64 (k : Int), .int .i64 hd, .slice A args.length cc] 90))
  have HL : Below W.heap.size W ((W.alloc (.cells #[.slice A1 p.hs.length c1, .slice (some ⟨b2, o2, none⟩) p.acs.length c2, .slice A3 p.bs.length c3, .int .i64 p.fuel] 26)).alloc (.cells #[.int .i64 d.f, .int .i64 d.n, .int .i64 d.c, .int .i64 (k : Int), .int .i64 hd, .slice A args.length cc] 90)) := bAlloc (bAlloc (bRefl _) _) _
  generalize ((W.alloc (.cells #[.slice A1 p.hs.length c1, .slice (some ⟨b2, o2, none⟩) p.acs.length c2, .slice A3 p.bs.length c3, .int .i64 p.fuel] 26)).alloc (.cells #[.int .i64 d.f, .int .i64 d.n, .int .i64 d.c, .int .i64 (k : Int), .int .i64 hd, .slice A args.length cc] 90)) = w1 at hA HL ⊢
  clear n0 n1 n2 n3 n4 n5 hk0 hk1 hk2
  obtain ⟨p0, p1, p2, p3⟩ := blk4 hA.1
  have HMB := hid_mk hA.2.1
  obtain ⟨b0, b1, b3, b4, b5, b6⟩ := blk6 (boxAt hw.box HL)
  have t2 := (HL.cell (p := ⟨b2, o2 + k * 4 + 1, none⟩) hz2).trans s2
  have hbb := HL
  have zz := hA.2.2
  have z1 : W.heap.size < w1.heap.size := by omega
  have z2 : b2 < w1.heap.size := by omega
  have z3 : bo < w1.heap.size := by omega
  clear hA hw s2 HL zz
  go_region_held3 (fun w' => w'.cell? ⟨bo, 1, none⟩ = some (.slice B x.mail.length dd) ∧ w'.cell? ⟨W.heap.size, 1, none⟩ = some (.slice (some ⟨b2, o2, none⟩) p.acs.length c2) ∧ w'.cell? ⟨b2, o2 + k * 4 + 1, none⟩ = some (.int .i64 ac.cap)) (go_keep)
    (first | (go_at_call 105; refine (to_any _ _ x.mail _ (HM.out.below (by first | exact hbb | exact hbb.drew))).mono ?_; rintro e w2 ⟨rfl, hb2⟩; have hc2 := (by first | exact bcell (undrew hb2) | exact bcell hb2); have hj2 := hb2.size; replace hbb := bTrans (by first | exact hbb | exact hbb.drew) hb2; have HMB2 := hid_mk (boxAt HMB.out (by first | exact undrew hb2 | exact hb2)); clear hb2))
  all_goals
    go_wp2_with fail
    obtain ⟨m0, m1, m2, m3, m4, m5⟩ := blk6 HMB2.out
    obtain ⟨q0, q1, q2, q3, q4, q5⟩ := blk6 (boxAt HPW.out.box hbb)
    have y1 : W.heap.size + 1 < w2.heap.size := (Array.getElem?_eq_some_iff.1 HMB2.out).1
    have y3 : bo < w2.heap.size := Nat.lt_of_lt_of_le hblt hbb.size
    clear b0 b1 b3 b4 b5 b6 p0 p1 p2 p3 t2 hc2
    go_region_held3 (fun w' => w'.cell? ⟨bo, 1, none⟩ = some (.slice B x.mail.length dd) ∧ w'.cell? ⟨W.heap.size + 1, 0, none⟩ = some (.int .i64 d.f) ∧ w'.cell? ⟨W.heap.size + 1, 1, none⟩ = some (.int .i64 d.n) ∧ w'.cell? ⟨W.heap.size + 1, 2, none⟩ = some (.int .i64 d.c) ∧ w'.cell? ⟨W.heap.size + 1, 3, none⟩ = some (.int .i64 (k : Int)) ∧ w'.cell? ⟨W.heap.size + 1, 4, none⟩ = some (.int .i64 hd) ∧ w'.cell? ⟨W.heap.size + 1, 5, none⟩ = some (.slice A args.length cc)) (go_keep)
      (first | (go_at_call 106; refine (put_new _ _ _ x.mail ⟨d, ⟨(k : Int), hd, args⟩⟩ (HM.out.below (by first | exact hbb | exact hbb.drew)) ⟨_, rfl, HC.out.below (by first | exact hbb | exact hbb.drew)⟩ e2 hs hn).mono ?_; rintro e w3 ⟨u, rfl, hu, hb3⟩; obtain ⟨B', d', rfl, _⟩ := hu.form; have hc3 := (by first | exact bcell (undrew hb3) | exact bcell hb3); have HBW0 := hid_mk (midB hb3 (by first | exact hbb | exact hbb.drew)); have HB3 := hid_mk hb3; replace hbb := bTrans (by first | exact hbb | exact hbb.drew) hb3; have HU := hid_mk hu.within; clear hu; clear hb3))
    all_goals
      obtain ⟨q0, q1, q2, q3, q4, q5⟩ := blk6 (boxAt HPW.out.box hbb)
      have fz : ∀ o, w3.frozen? ⟨bo, o, none⟩ = false := fun o => heap_frozen (boxAt HPW.out.box hbb)
      go_wp2
      exact bodyPost_ret (v := .tuple #[]) (by simp [results, Tryz.results75, go_sem]) rfl ⟨rfl, ⟨_, _, _, _, (HPW.out.below HBW0.out).setMail HB3.out HU.out⟩, (hbb.mono (by omega)).setCell (p := ⟨bo, 1, none⟩) hNb _⟩
set_option maxHeartbeats 4000000 in
set_option maxRecDepth 100000 in
theorem post_there (N bo lo hi : Nat) (W : World) (vp a mv c : Value) (p : PPrg) (x : PWld) (d : PID) (k : Nat) (hd : Int) (args : List Int) (ac : PAct) (y : PLoc) (hp : PrgV W vp p) (hw : PW N bo lo hi W a mv x) (hc : Ints anyB W c args) (hac : p.acs[k]? = some ac) (hy : x.acts[k]? = some y) (hsz : x.acts.length ≤ 1000)
    (e1 : (toN x.mail (k : Int) : Int) < ac.cap) (j : Nat) (e2 : fnd x.mail d = j) :
    Calls Tryz.prog 75 #[vp, .pointer (some ⟨bo, 0, none⟩), mVal ⟨d, ⟨(k : Int), hd, args⟩⟩ c] W fun e w' => e = .returned (.tuple #[]) ∧ (∃ a' m' lo' hi', PW N bo lo' hi' w' a' m' { x with acts := x.acts.set k { y with over := wrap64 (y.over + 1) } }) ∧ Below N W w' := by
  obtain ⟨A, cc, rfl, _⟩ := hc.form
  obtain ⟨vh, vb, vc, rfl, h1, h2, h3⟩ := hp
  obtain ⟨A1, c1, rfl, hl1⟩ := h1.form
  obtain ⟨A2, c2, rfl, hl2⟩ := h2.form
  obtain ⟨A3, c3, rfl, hl3⟩ := h3.form
  obtain ⟨B, dd, rfl, hlm⟩ := hw.mail.form
  have hka : k < p.acs.length := (List.getElem?_eq_some_iff.1 hac).1
  have hkx : k < x.acts.length := (List.getElem?_eq_some_iff.1 hy).1
  obtain ⟨g, ca, rfl, hgN, hgb, hgr⟩ := hw.row (by omega)
  obtain ⟨b2, o2, ac', v2, rfl, hac2, hz2, s1, s2, s3, s4, _⟩ := h2.cell (bRefl W) hka
  obtain rfl : ac = ac' := Option.some.inj (hac.symm.trans hac2)
  obtain ⟨_, _, _, _, r4⟩ := hgr.rd k y hy
  have hla : (x.acts.length : Int) ≤ 9223372036854775807 := by
    have := hw.acts.locs hsz; obtain ⟨_, _, _, h'⟩ := this.form; exact h'
  have hgl : g < W.heap.size := hgr.lt
  have hblt := hw.blt
  have hNb := hw.bo
  have HR4 := hid_mk r4
  have HGR := hid_mk hgr
  have HPW := hid_mk hw
  have HM := hid_mk hw.mail.any2
  have HC := hid_mk hc
  have HY := hid_mk hy
  have hki : (k : Int) < p.acs.length := by omega
  have hkj : (k : Int) < x.acts.length := by omega
  clear hac hac2 hy h1 h2 h3 hgr r4 hc s1 s3 s4
  obtain ⟨n0, n1, n2, n3, n4, n5⟩ := blk6 hw.box
  have hk0 : ¬ (k : Int) < 0 := by omega
  have hk1 : ¬ (p.acs.length : Int) ≤ (k : Int) := by omega
  have hk2 : ¬ (x.acts.length : Int) ≤ (k : Int) := by omega
  go_enter Tryz.func75, Tryz.ntmps75
  go_wp2_with fail
  have hA := (two_new W (.cells #[.slice A1 p.hs.length c1, .slice (some ⟨b2, o2, none⟩) p.acs.length c2, .slice A3 p.bs.length c3, .int .i64 p.fuel] 26) (.cells #[.int .i64 d.f, .int .i64 d.n, .int .i64 d.c, .int .i64 (k : Int), .int .i64 hd, .slice A args.length cc] 90))
  have HL : Below W.heap.size W ((W.alloc (.cells #[.slice A1 p.hs.length c1, .slice (some ⟨b2, o2, none⟩) p.acs.length c2, .slice A3 p.bs.length c3, .int .i64 p.fuel] 26)).alloc (.cells #[.int .i64 d.f, .int .i64 d.n, .int .i64 d.c, .int .i64 (k : Int), .int .i64 hd, .slice A args.length cc] 90)) := bAlloc (bAlloc (bRefl _) _) _
  generalize ((W.alloc (.cells #[.slice A1 p.hs.length c1, .slice (some ⟨b2, o2, none⟩) p.acs.length c2, .slice A3 p.bs.length c3, .int .i64 p.fuel] 26)).alloc (.cells #[.int .i64 d.f, .int .i64 d.n, .int .i64 d.c, .int .i64 (k : Int), .int .i64 hd, .slice A args.length cc] 90)) = w1 at hA HL ⊢
  clear n0 n1 n2 n3 n4 n5 hk0 hk1 hk2
  obtain ⟨p0, p1, p2, p3⟩ := blk4 hA.1
  have HMB := hid_mk hA.2.1
  obtain ⟨b0, b1, b3, b4, b5, b6⟩ := blk6 (boxAt hw.box HL)
  have t2 := (HL.cell (p := ⟨b2, o2 + k * 4 + 1, none⟩) hz2).trans s2
  have hbb := HL
  have zz := hA.2.2
  have z1 : W.heap.size < w1.heap.size := by omega
  have z2 : b2 < w1.heap.size := by omega
  have z3 : bo < w1.heap.size := by omega
  clear hA hw s2 HL zz
  go_region_held3 (fun w' => w'.cell? ⟨bo, 1, none⟩ = some (.slice B x.mail.length dd) ∧ w'.cell? ⟨W.heap.size, 1, none⟩ = some (.slice (some ⟨b2, o2, none⟩) p.acs.length c2) ∧ w'.cell? ⟨b2, o2 + k * 4 + 1, none⟩ = some (.int .i64 ac.cap)) (go_keep)
    (first | (go_at_call 105; refine (to_any _ _ x.mail _ (HM.out.below (by first | exact hbb | exact hbb.drew))).mono ?_; rintro e w2 ⟨rfl, hb2⟩; have hc2 := (by first | exact bcell (undrew hb2) | exact bcell hb2); have hj2 := hb2.size; replace hbb := bTrans (by first | exact hbb | exact hbb.drew) hb2; have HMB2 := hid_mk (boxAt HMB.out (by first | exact undrew hb2 | exact hb2)); clear hb2))
  all_goals
    go_wp2_with fail
    obtain ⟨m0, m1, m2, m3, m4, m5⟩ := blk6 HMB2.out
    obtain ⟨q0, q1, q2, q3, q4, q5⟩ := blk6 (boxAt HPW.out.box hbb)
    have y1 : W.heap.size + 1 < w2.heap.size := (Array.getElem?_eq_some_iff.1 HMB2.out).1
    have y3 : bo < w2.heap.size := Nat.lt_of_lt_of_le hblt hbb.size
    clear b0 b1 b3 b4 b5 b6 p0 p1 p2 p3 t2 hc2
    go_region_held3 (fun w' => w'.cell? ⟨bo, 1, none⟩ = some (.slice B x.mail.length dd) ∧ w'.cell? ⟨W.heap.size + 1, 0, none⟩ = some (.int .i64 d.f) ∧ w'.cell? ⟨W.heap.size + 1, 1, none⟩ = some (.int .i64 d.n) ∧ w'.cell? ⟨W.heap.size + 1, 2, none⟩ = some (.int .i64 d.c) ∧ w'.cell? ⟨W.heap.size + 1, 3, none⟩ = some (.int .i64 (k : Int)) ∧ w'.cell? ⟨W.heap.size + 1, 4, none⟩ = some (.int .i64 hd) ∧ w'.cell? ⟨W.heap.size + 1, 5, none⟩ = some (.slice A args.length cc)) (go_keep)
      (first | (go_at_call 106; refine (put_there _ _ _ x.mail ⟨d, ⟨(k : Int), hd, args⟩⟩ (HM.out.below (by first | exact hbb | exact hbb.drew)) ⟨_, rfl, HC.out.below (by first | exact hbb | exact hbb.drew)⟩ j e2).mono ?_; rintro e w3 ⟨rfl, hb3⟩; have hc3 := (by first | exact bcell (undrew hb3) | exact bcell hb3); replace hbb := bTrans (by first | exact hbb | exact hbb.drew) hb3; clear hb3))
    all_goals
      obtain ⟨q0, q1, q2, q3, q4, q5⟩ := blk6 (boxAt HPW.out.box hbb)
      have hgw := HGR.out.below hbb
      have fz : ∀ o, w3.frozen? ⟨g, o, none⟩ = false := hgw.frozen
      obtain ⟨_, _, _, _, u4⟩ := hgw.rd k y HY.out
      clear hgw
      go_wp2
      go_end0
      exact ⟨rfl, ⟨_, _, _, _, (HPW.out.below hbb).setAct (y' := { y with over := wrap64 (y.over + 1) }) (i := 4) HY.out (by omega) (by omega) (by omega) rfl (Or.inr ⟨by omega, rfl⟩) (Or.inr ⟨by omega, rfl⟩) (Or.inr ⟨by omega, rfl⟩) (Or.inl ⟨rfl, rfl⟩)⟩, (hbb.mono (by omega)).setCell (p := ⟨g, _, none⟩) hgN _⟩
set_option maxHeartbeats 4000000 in
set_option maxRecDepth 100000 in
theorem post_full (N bo lo hi : Nat) (W : World) (vp a mv c : Value) (p : PPrg) (x : PWld) (d : PID) (k : Nat) (hd : Int) (args : List Int) (ac : PAct) (y : PLoc) (hp : PrgV W vp p) (hw : PW N bo lo hi W a mv x) (hc : Ints anyB W c args) (hac : p.acs[k]? = some ac) (hy : x.acts[k]? = some y) (hsz : x.acts.length ≤ 1000)
    (e1 : ¬ (toN x.mail (k : Int) : Int) < ac.cap) :
    Calls Tryz.prog 75 #[vp, .pointer (some ⟨bo, 0, none⟩), mVal ⟨d, ⟨(k : Int), hd, args⟩⟩ c] W fun e w' => e = .returned (.tuple #[]) ∧ (∃ a' m' lo' hi', PW N bo lo' hi' w' a' m' { x with acts := x.acts.set k { y with over := wrap64 (y.over + 1) } }) ∧ Below N W w' := by
  obtain ⟨A, cc, rfl, _⟩ := hc.form
  obtain ⟨vh, vb, vc, rfl, h1, h2, h3⟩ := hp
  obtain ⟨A1, c1, rfl, hl1⟩ := h1.form
  obtain ⟨A2, c2, rfl, hl2⟩ := h2.form
  obtain ⟨A3, c3, rfl, hl3⟩ := h3.form
  obtain ⟨B, dd, rfl, hlm⟩ := hw.mail.form
  have hka : k < p.acs.length := (List.getElem?_eq_some_iff.1 hac).1
  have hkx : k < x.acts.length := (List.getElem?_eq_some_iff.1 hy).1
  obtain ⟨g, ca, rfl, hgN, hgb, hgr⟩ := hw.row (by omega)
  obtain ⟨b2, o2, ac', v2, rfl, hac2, hz2, s1, s2, s3, s4, _⟩ := h2.cell (bRefl W) hka
  obtain rfl : ac = ac' := Option.some.inj (hac.symm.trans hac2)
  obtain ⟨_, _, _, _, r4⟩ := hgr.rd k y hy
  have hla : (x.acts.length : Int) ≤ 9223372036854775807 := by
    have := hw.acts.locs hsz; obtain ⟨_, _, _, h'⟩ := this.form; exact h'
  have hgl : g < W.heap.size := hgr.lt
  have hblt := hw.blt
  have hNb := hw.bo
  have HR4 := hid_mk r4
  have HGR := hid_mk hgr
  have HPW := hid_mk hw
  have HM := hid_mk hw.mail.any2
  have HC := hid_mk hc
  have HY := hid_mk hy
  have hki : (k : Int) < p.acs.length := by omega
  have hkj : (k : Int) < x.acts.length := by omega
  clear hac hac2 hy h1 h2 h3 hgr r4 hc s1 s3 s4
  obtain ⟨n0, n1, n2, n3, n4, n5⟩ := blk6 hw.box
  have hk0 : ¬ (k : Int) < 0 := by omega
  have hk1 : ¬ (p.acs.length : Int) ≤ (k : Int) := by omega
  have hk2 : ¬ (x.acts.length : Int) ≤ (k : Int) := by omega
  go_enter Tryz.func75, Tryz.ntmps75
  go_wp2_with fail
  have hA := (two_new W (.cells #[.slice A1 p.hs.length c1, .slice (some ⟨b2, o2, none⟩) p.acs.length c2, .slice A3 p.bs.length c3, .int .i64 p.fuel] 26) (.cells #[.int .i64 d.f, .int .i64 d.n, .int .i64 d.c, .int .i64 (k : Int), .int .i64 hd, .slice A args.length cc] 90))
  have HL : Below W.heap.size W ((W.alloc (.cells #[.slice A1 p.hs.length c1, .slice (some ⟨b2, o2, none⟩) p.acs.length c2, .slice A3 p.bs.length c3, .int .i64 p.fuel] 26)).alloc (.cells #[.int .i64 d.f, .int .i64 d.n, .int .i64 d.c, .int .i64 (k : Int), .int .i64 hd, .slice A args.length cc] 90)) := bAlloc (bAlloc (bRefl _) _) _
  generalize ((W.alloc (.cells #[.slice A1 p.hs.length c1, .slice (some ⟨b2, o2, none⟩) p.acs.length c2, .slice A3 p.bs.length c3, .int .i64 p.fuel] 26)).alloc (.cells #[.int .i64 d.f, .int .i64 d.n, .int .i64 d.c, .int .i64 (k : Int), .int .i64 hd, .slice A args.length cc] 90)) = w1 at hA HL ⊢
  clear n0 n1 n2 n3 n4 n5 hk0 hk1 hk2
  obtain ⟨p0, p1, p2, p3⟩ := blk4 hA.1
  have HMB := hid_mk hA.2.1
  obtain ⟨b0, b1, b3, b4, b5, b6⟩ := blk6 (boxAt hw.box HL)
  have t2 := (HL.cell (p := ⟨b2, o2 + k * 4 + 1, none⟩) hz2).trans s2
  have hbb := HL
  have zz := hA.2.2
  have z1 : W.heap.size < w1.heap.size := by omega
  have z2 : b2 < w1.heap.size := by omega
  have z3 : bo < w1.heap.size := by omega
  clear hA hw s2 HL zz
  go_region_held3 (fun w' => w'.cell? ⟨bo, 1, none⟩ = some (.slice B x.mail.length dd) ∧ w'.cell? ⟨W.heap.size, 1, none⟩ = some (.slice (some ⟨b2, o2, none⟩) p.acs.length c2) ∧ w'.cell? ⟨b2, o2 + k * 4 + 1, none⟩ = some (.int .i64 ac.cap)) (go_keep)
    (first | (go_at_call 105; refine (to_any _ _ x.mail _ (HM.out.below (by first | exact hbb | exact hbb.drew))).mono ?_; rintro e w2 ⟨rfl, hb2⟩; have hc2 := (by first | exact bcell (undrew hb2) | exact bcell hb2); have hj2 := hb2.size; replace hbb := bTrans (by first | exact hbb | exact hbb.drew) hb2; have HMB2 := hid_mk (boxAt HMB.out (by first | exact undrew hb2 | exact hb2)); clear hb2))
  all_goals
    obtain ⟨q0, q1, q2, q3, q4, q5⟩ := blk6 (boxAt HPW.out.box hbb)
    have hgw := HGR.out.below hbb
    have fz : ∀ o, w2.frozen? ⟨g, o, none⟩ = false := hgw.frozen
    obtain ⟨_, _, _, _, u4⟩ := hgw.rd k y HY.out
    clear hgw
    clear b0 b1 b3 b4 b5 b6 p0 p1 p2 p3 t2 hc2
    go_wp2
    go_end0
    exact ⟨rfl, ⟨_, _, _, _, (HPW.out.below hbb).setAct (y' := { y with over := wrap64 (y.over + 1) }) (i := 4) HY.out (by omega) (by omega) (by omega) rfl (Or.inr ⟨by omega, rfl⟩) (Or.inr ⟨by omega, rfl⟩) (Or.inr ⟨by omega, rfl⟩) (Or.inl ⟨rfl, rfl⟩)⟩, (hbb.mono (by omega)).setCell (p := ⟨g, _, none⟩) hgN _⟩
def postG (p : PPrg) (x : PWld) (m : PMsg) : PWld :=
  if inB m.nt.to 0 ((p.acs.length : Int) - 1) = true ∧ m.nt.to < (x.acts.length : Int) then postP p x m m.nt.to.toNat else x
theorem postG_no {p : PPrg} {x : PWld} {m : PMsg} (h : m.nt.to < 0 ∨ (p.acs.length : Int) ≤ m.nt.to ∨ (x.acts.length : Int) ≤ m.nt.to) : postG p x m = x := by
  unfold postG
  rw [if_neg]
  rintro ⟨h1, h2⟩
  have := inB_iff.1 h1
  omega
theorem postG_yes {p : PPrg} {x : PWld} {m : PMsg} {k : Nat} (h : m.nt.to = (k : Int)) (h1 : k < p.acs.length) (h2 : k < x.acts.length) : postG p x m = postP p x m k := by
  unfold postG
  rw [if_pos ⟨inB_iff.2 (by omega), by omega⟩, h, Int.toNat_natCast]
set_option maxHeartbeats 4000000 in
set_option maxRecDepth 100000 in
theorem post_no (N bo lo hi : Nat) (W : World) (vp a mv c : Value) (p : PPrg) (x : PWld) (d : PID) (t hd : Int) (args : List Int) (hp : PrgV W vp p) (hw : PW N bo lo hi W a mv x) (hc : Ints anyB W c args) (h : t < 0 ∨ (p.acs.length : Int) ≤ t ∨ (x.acts.length : Int) ≤ t) :
    Calls Tryz.prog 75 #[vp, .pointer (some ⟨bo, 0, none⟩), mVal ⟨d, ⟨t, hd, args⟩⟩ c] W fun e w' => e = .returned (.tuple #[]) ∧ (∃ a' m' lo' hi', PW N bo lo' hi' w' a' m' x) ∧ Below N W w' := by
  obtain ⟨A, cc, rfl, _⟩ := hc.form
  obtain ⟨vh, vb, vc, rfl, h1, h2, h3⟩ := hp
  obtain ⟨A1, c1, rfl, hl1⟩ := h1.form
  obtain ⟨A2, c2, rfl, hl2⟩ := h2.form
  obtain ⟨A3, c3, rfl, hl3⟩ := h3.form
  obtain ⟨B, dd, rfl, hlm⟩ := hw.mail.form
  obtain ⟨A4, c4, rfl⟩ := hw.acts.form
  have hblt := hw.blt
  have hNb := hw.bo
  obtain ⟨n0, n1, n2, n3, n4, n5⟩ := blk6 hw.box
  have HPW := hid_mk hw
  have HL : Hid (∀ X Y : Obj, Below W.heap.size W ((W.alloc X).alloc Y)) := fun X Y => bAlloc (bAlloc (bRefl _) _) _
  clear h1 h2 h3 hw hc
  by_cases e0 : t < 0
  · go_enter Tryz.func75, Tryz.ntmps75
    go_wp2
    exact bodyPost_ret (v := .tuple #[]) (by simp [results, Tryz.results75, go_sem]) rfl ⟨rfl, ⟨_, _, _, _, HPW.out.below (HL.out _ _)⟩, (HL.out _ _).mono (by omega)⟩
  · by_cases e1 : (p.acs.length : Int) ≤ t
    · go_enter Tryz.func75, Tryz.ntmps75
      go_wp2
      exact bodyPost_ret (v := .tuple #[]) (by simp [results, Tryz.results75, go_sem]) rfl ⟨rfl, ⟨_, _, _, _, HPW.out.below (HL.out _ _)⟩, (HL.out _ _).mono (by omega)⟩
    · have e2 : (x.acts.length : Int) ≤ t := by omega
      go_enter Tryz.func75, Tryz.ntmps75
      go_wp2
      exact bodyPost_ret (v := .tuple #[]) (by simp [results, Tryz.results75, go_sem]) rfl ⟨rfl, ⟨_, _, _, _, HPW.out.below (HL.out _ _)⟩, (HL.out _ _).mono (by omega)⟩
theorem post_any (N bo lo hi : Nat) (W : World) (vp a mv c : Value) (p : PPrg) (x : PWld) (m : PMsg) (hp : PrgV W vp p) (hw : PW N bo lo hi W a mv x) (hc : Ints anyB W c m.nt.args) (hs : Few x.mail) (hn : m.nt.args.length ≤ 1000) (hsz : x.acts.length ≤ 1000) :
    Calls Tryz.prog 75 #[vp, .pointer (some ⟨bo, 0, none⟩), mVal m c] W fun e w' => e = .returned (.tuple #[]) ∧ (∃ a' m' lo' hi', PW N bo lo' hi' w' a' m' (postG p x m)) ∧ Below N W w' := by
  obtain ⟨d, ⟨t, hd, args⟩⟩ := m
  dsimp only at hc hn
  by_cases h : t < 0 ∨ (p.acs.length : Int) ≤ t ∨ (x.acts.length : Int) ≤ t
  · rw [postG_no h]
    exact post_no N bo lo hi W vp a mv c p x d t hd args hp hw hc h
  obtain ⟨k, rfl⟩ := Int.eq_ofNat_of_zero_le (show 0 ≤ t by omega)
  have hk : k < p.acs.length := by omega
  have hk2 : k < x.acts.length := by omega
  rw [postG_yes rfl hk hk2]
  obtain ⟨ac, hac⟩ := at_lt hk
  obtain ⟨y, hy⟩ := at_lt hk2
  have hcap := cap_at hac
  have hgd := getD_at hy
  by_cases e1 : (toN x.mail (k : Int) : Int) < ac.cap
  · rcases fnd_cases x.mail d with ⟨e2, _⟩ | ⟨j, _, e2, _⟩
    · have e : postP p x ⟨d, ⟨(k : Int), hd, args⟩⟩ k = { x with mail := putP x.mail ⟨d, ⟨(k : Int), hd, args⟩⟩ } := by unfold postP roomB; rw [hcap]; simp [e1, e2]
      rw [e]
      exact post_new N bo lo hi W vp a mv c p x d k hd args ac y hp hw hc hs hn hac hy hsz e1 e2
    · have e : postP p x ⟨d, ⟨(k : Int), hd, args⟩⟩ k = { x with acts := x.acts.set k { y with over := wrap64 (y.over + 1) } } := by unfold postP roomB; rw [hcap, hgd]; simp [e1, e2]
      rw [e]
      exact post_there N bo lo hi W vp a mv c p x d k hd args ac y hp hw hc hac hy hsz e1 j e2
  · have e : postP p x ⟨d, ⟨(k : Int), hd, args⟩⟩ k = { x with acts := x.acts.set k { y with over := wrap64 (y.over + 1) } } := by unfold postP roomB; rw [hcap, hgd]; simp [e1]
    rw [e]
    exact post_full N bo lo hi W vp a mv c p x d k hd args ac y hp hw hc hac hy hsz e1
end Go.Proofs.YtfbeiedhdmndnaaGreatDoor
