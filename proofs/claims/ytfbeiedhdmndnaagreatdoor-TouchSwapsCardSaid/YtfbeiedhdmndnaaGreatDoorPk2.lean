/-
  The memory of a walk: the row of depths, and the list of what is to be done, both of the call's own; what each step does to them.
-/
import Derived.Test.YtfbeiedhdmndnaaGreatDoorPk1
import Derived.Deep.OwnRows
import Derived.Deep.AppendLies
import Derived.OwnWalk
import Derived.Test.YtfbeiedhdmndnaaGreatDoorRows
import Derived.WalkKit
import Derived.WalkSpells
import Derived.WalkLawsBesides
import Derived.Deep.QuietTactic
import Derived.BigQuiet
import Derived.Deep.LoopGhost
import Derived.Deep.RegionHeld3
import Derived.Deep.DrawnRows
import Derived.Deep.AppendSrc
import Derived.Laws.StructEq
import Derived.KernelRfl
namespace Go.Proofs.YtfbeiedhdmndnaaGreatDoor
open Go.RowKit

theorem own_block {w w' : World} {base e size : Nat} {v : Value} {n : Nat} {xs : List Value} (h : w.ownsRow base e size v n xs) (hb : ∀ g, v.ownBlock = some g → g < w.heap.size → w'.heap[g]? = w.heap[g]?) : w'.ownsRow base e size v n xs := by
 obtain ⟨h1, h2⟩ := h
 refine ⟨h1, ?_⟩
 rcases h2 with h2 | ⟨g, cap, cur, rfl, hg, hh, h3⟩
 ·exact Or.inl h2
 ·exact Or.inr ⟨g, cap, cur, rfl, hg, (hb g rfl (Array.getElem?_eq_some_iff.1 hh).1).trans hh, h3⟩
theorem own_lt {w : World} {base e size : Nat} {v : Value} {n g : Nat} {xs : List Value} (h : w.ownsRow base e size v n xs) (hv : v.ownBlock = some g) : base ≤ g ∧ g < w.heap.size := by
 obtain ⟨h1, h2⟩ := h
 rcases h2 with ⟨rfl, _⟩ | ⟨g', cap, cur, rfl, hg, hh, h3⟩
 ·cases hv
 ·cases hv; exact ⟨hg, (Array.getElem?_eq_some_iff.1 hh).1⟩

def vs (t : List Nat) : List Value := t.map fun (k : Nat) => .int .i64 (k : Int)
theorem vs_len (t : List Nat) : (vs t).length = t.length := by simp [vs]

structure DW (w : World) (D : Nat) (l : List Int) (v : Value) (t : List Nat) (wr : World) : Prop where
 low : Below w.heap.size w wr
 row : wr.rowIs D 3 l.length (fun j => .int .i64 (l.getD j 0))
 base : w.heap.size ≤ D
 own : wr.ownsRow w.heap.size 3 1 v t.length (vs t)
 ne : v.ownBlock ≠ some D
section
variable {w wr w1 w' : World} {D : Nat} {l : List Int} {v : Value} {t : List Nat}
theorem DW.lt (h : DW w D l v t wr) : D < wr.heap.size := h.row.lt
theorem DW.cell (h : DW w D l v t wr) {j : Nat} {x : Int} (hj : l[j]? = some x) : wr.cell? ⟨D, j, none⟩ = some (.int .i64 x) := by
 have hl := (List.getElem?_eq_some_iff.1 hj).1
 rw [h.row.cell hl, List.getD_eq_getElem?_getD, hj]; rfl
theorem DW.below (h : DW w D l v t wr) (hb : Below wr.heap.size wr w1) : DW w D l v t w1 :=
 ⟨bTrans h.low hb, h.row.of_block (hb.block D h.lt), h.base, own_block h.own fun g _ hg => hb.block g hg, h.ne⟩
theorem DW.set (h : DW w D l v t wr) (j : Nat) (x : Int) : DW w D (l.set j x) v t (wr.setCell ⟨D, j, none⟩ (.int .i64 x)) := by
 refine ⟨h.low.setCell h.base _, ?_, h.base, own_block h.own fun g hg _ => Below.heap_setCell _ _ _ _ (fun e => h.ne (by have e' : g = D := e; rw [hg, e'])), h.ne⟩
 rw [List.length_set]
 refine (h.row.set j _).congr fun m hm => ?_
 by_cases e : m = j
 ·subst e
  rw [if_pos rfl, List.getD_eq_getElem?_getD, List.getElem?_set_self hm]; rfl
 ·rw [if_neg e, List.getD_eq_getElem?_getD, List.getD_eq_getElem?_getD, List.getElem?_set_ne (Ne.symm e)]
theorem DW.form {k : Nat} (h : DW w D l v (t ++ [k]) wr) : ∃ g cap, v = .slice (some ⟨g, 0, none⟩) (t.length + 1) cap ∧ t.length + 1 ≤ cap ∧ g < wr.heap.size ∧ cap ≤ maxLen ∧ wr.cell? ⟨g, t.length, none⟩ = some (.int .i64 (k : Int)) ∧ DW w D l (.slice (some ⟨g, 0, none⟩) t.length cap) t wr := by
 obtain ⟨h1, h2⟩ := h.own
 rcases h2 with ⟨_, h2⟩ | ⟨g, cap, cur, rfl, hb, hh, h3, h4, h5, h6⟩
 ·simp at h2
 ·have hl : (t ++ [k]).length = t.length + 1 := by simp
  have hx : ∀ m, m < t.length + 1 → cur[m]? = (vs (t ++ [k]))[m]? := fun m hm => by
   rw [← h6, List.getElem?_take, if_pos (by rw [hl]; omega)]; simp
  refine ⟨g, cap, by rw [hl], by rw [hl] at h3; exact h3, (Array.getElem?_eq_some_iff.1 hh).1, h4, ?_, h.low, h.row, h.base, ⟨by simp [vs_len], Or.inr ⟨g, cap, cur, rfl, hb, hh, by rw [hl] at h3; omega, h4, h5, ?_⟩⟩, h.ne⟩
  ·rw [cell_of_row _ _ _ _ _ _ hh, hx _ (by omega)]
   simp [vs]
  ·refine List.ext_getElem? fun m => ?_
   by_cases hm : m < t.length
   ·rw [List.getElem?_take, if_pos (by omega), Array.getElem?_toList, hx m (by omega)]
    unfold vs
    rw [List.map_append, List.getElem?_append_left (by simpa using hm)]
   ·rw [List.getElem?_eq_none (by simp; omega), List.getElem?_eq_none (by simp [vs]; omega)]
theorem DW.push {j g cap : Nat} (h : DW w D l v t wr) (hb1 : Below wr.heap.size wr w1)
  (ho : w'.ownsRow w.heap.size 3 1 (.slice (some ⟨g, 0, none⟩) (t.length + 1) cap) (t.length + 1) (vs t ++ [.int .i64 (j : Int)])) (hg : w1.grownBy w' v.ownBlock) (hat : v.ownBlock = some g ∨ g = w1.heap.size) :
  DW w D l (.slice (some ⟨g, 0, none⟩) (t.length + 1) cap) (t ++ [j]) w' := by
 have hs := hb1.size
 have hw := h.low.size
 have hDs := h.lt
 have hD : w'.heap[D]? = wr.heap[D]? := by rw [hg.block D (by omega) (Ne.symm h.ne), hb1.block D h.lt]
 refine ⟨⟨hg.os.trans (hb1.os.trans h.low.os), hg.tape.trans (hb1.tape.trans h.low.tape), hg.output.trans (hb1.output.trans h.low.output), Nat.le_trans hw (Nat.le_trans hs hg.size), fun b hb => ?_⟩, h.row.of_block hD, h.base, ?_, ?_⟩
 ·rw [hg.block b (by omega) (fun e => ?_), hb1.block b (by omega)]
  ·exact h.low.block b hb
  ·have := (own_lt h.own e.symm).1; omega
 ·have e1 : (t ++ [j]).length = t.length + 1 := by simp
  have e2 : vs (t ++ [j]) = vs t ++ [.int .i64 (j : Int)] := by simp [vs]
  rw [e1, e2]; exact ho
 ·intro e
  have e' : g = D := Option.some.inj e
  rcases hat with hat | hat
  ·exact h.ne (by rw [hat, e'])
  ·omega
end

structure FW (D : Nat) (vt : Value) (u : Value) (ways : List Nat) (wr : World) : Prop where
 ex : ∃ A c, u = .slice A ways.length c ∧ ways.length ≤ 2 ∧ (ways = [] ∨ ∃ b, A = some ⟨b, 0, none⟩ ∧ b ≠ D ∧ vt.ownBlock ≠ some b ∧ b < wr.heap.size ∧ ∀ (m j : Nat), ways[m]? = some j → wr.cell? ⟨b, m, none⟩ = some (.int .i64 (j : Int)))
section
variable {w wr w1 w' : World} {D : Nat} {l : List Int} {v u : Value} {t ways : List Nat}
theorem FW.start (h : DW w D l v t wr) (hf : Fol wr.heap.size w1 u ways) : FW D v u ways w1 := by
 obtain ⟨A, c, rfl, hl, hx⟩ := hf
 refine ⟨A, c, rfl, hl, ?_⟩
 rcases hx with hx | ⟨b, hA, hb, hlt, hc⟩
 ·exact Or.inl hx
 ·refine Or.inr ⟨b, hA, ?_, fun e => ?_, hlt, hc⟩
  ·have := h.lt; omega
  ·have := (own_lt h.own e).2; omega
theorem FW.set (h : FW D v u ways wr) (j : Nat) (x : Value) : FW D v u ways (wr.setCell ⟨D, j, none⟩ x) := by
 obtain ⟨A, c, rfl, hl, hx⟩ := h
 refine ⟨A, c, rfl, hl, ?_⟩
 rcases hx with hx | ⟨b, hA, hb, hne, hlt, hc⟩
 ·exact Or.inl hx
 ·exact Or.inr ⟨b, hA, hb, hne, by simpa using hlt, fun m y hy => (World.cell?_of_block (w := wr) (Below.heap_setCell _ _ _ _ (fun e => hb (by have e' : b = D := e; exact e')))).trans (hc m y hy)⟩
theorem FW.push {g cap n : Nat} (h : FW D v u ways wr) (hb1 : Below wr.heap.size wr w1) (hg : w1.grownBy w' v.ownBlock) (hat : v.ownBlock = some g ∨ g = w1.heap.size) : FW D (.slice (some ⟨g, 0, none⟩) n cap) u ways w' := by
 obtain ⟨A, c, rfl, hl, hx⟩ := h
 refine ⟨A, c, rfl, hl, ?_⟩
 rcases hx with hx | ⟨b, hA, hb, hne, hlt, hc⟩
 ·exact Or.inl hx
 ·have hs := hb1.size
  refine Or.inr ⟨b, hA, hb, fun e => ?_, Nat.lt_of_lt_of_le hlt (Nat.le_trans hs hg.size), fun m y hy => ?_⟩
  ·have e' : g = b := Option.some.inj e
   rcases hat with hat | hat
   ·exact hne (by rw [hat, e'])
   ·omega
  ·exact (World.cell?_of_block (w := w1) (hg.block b (by omega) (Ne.symm hne))).trans ((World.cell?_of_block (w := wr) (hb1.block b hlt)).trans (hc m y hy))
theorem FW.cell (h : FW D v u ways wr) {m j : Nat} (hj : ways[m]? = some j) : ∃ b c, u = .slice (some ⟨b, 0, none⟩) ways.length c ∧ b ≠ D ∧ b < wr.heap.size ∧ wr.cell? ⟨b, m, none⟩ = some (.int .i64 (j : Int)) := by
 obtain ⟨A, c, rfl, hl, hx⟩ := h
 rcases hx with rfl | ⟨b, rfl, hb, _, hlt, hc⟩
 ·simp at hj
 ·exact ⟨b, c, rfl, hb, hlt, hc m j hj⟩
theorem FW.form (h : FW D v u ways wr) : ∃ A c, u = .slice A ways.length c ∧ ways.length ≤ 2 := let ⟨A, c, h1, h2, _⟩ := h.ex; ⟨A, c, h1, h2⟩
end
end Go.Proofs.YtfbeiedhdmndnaaGreatDoor
namespace Go.Proofs.YtfbeiedhdmndnaaGreatDoor
open Go.RowKit

structure PID where
 f : Int
 n : Int
 c : Int
 deriving DecidableEq, Inhabited
structure PMsg where
 id : PID
 nt : PNte
 deriving DecidableEq, Inhabited
def cmpI (a b : Int) : Int := if a < b then -1 else if b < a then 1 else 0
def or3 (a b c : Int) : Int := if a ≠ 0 then a else if b ≠ 0 then b else c
def cmpD (a b : PID) : Int := or3 (cmpI a.f b.f) (cmpI a.n b.n) (cmpI a.c b.c)
def lessD (a b : PID) : Bool := decide (cmpD a b < 0)
theorem cmpI_lt {a b : Int} : cmpI a b < 0 ↔ a < b := by unfold cmpI; split <;> (try split) <;> omega
theorem cmpI_eq {a b : Int} : cmpI a b = 0 ↔ a = b := by unfold cmpI; split <;> (try split) <;> omega
theorem cmpD_lt {a b : PID} : cmpD a b < 0 ↔ a.f < b.f ∨ (a.f = b.f ∧ (a.n < b.n ∨ (a.n = b.n ∧ a.c < b.c))) := by
 have h1 := @cmpI_lt a.f b.f; have h2 := @cmpI_eq a.f b.f; have h3 := @cmpI_lt a.n b.n; have h4 := @cmpI_eq a.n b.n; have h5 := @cmpI_lt a.c b.c
 unfold cmpD or3
 generalize cmpI a.f b.f = p at *
 generalize cmpI a.n b.n = q at *
 generalize cmpI a.c b.c = r at *
 split
 ·omega
 ·split <;> omega
theorem lessD_iff {a b : PID} : lessD a b = true ↔ a.f < b.f ∨ (a.f = b.f ∧ (a.n < b.n ∨ (a.n = b.n ∧ a.c < b.c))) := by unfold lessD; rw [decide_eq_true_eq]; exact cmpD_lt

def rMsg (ok : Nat → Prop) (w : World) (b o : Nat) (m : PMsg) : Prop :=
 w.cell? ⟨b, o, none⟩ = some (.int .i64 m.id.f) ∧ w.cell? ⟨b, o + 1, none⟩ = some (.int .i64 m.id.n) ∧ w.cell? ⟨b, o + 2, none⟩ = some (.int .i64 m.id.c) ∧
 w.cell? ⟨b, o + 3, none⟩ = some (.int .i64 m.nt.to) ∧ w.cell? ⟨b, o + 4, none⟩ = some (.int .i64 m.nt.hd) ∧ ∃ v, w.cell? ⟨b, o + 5, none⟩ = some v ∧ Ints ok w v m.nt.args
abbrev Msgs (out inn : Nat → Prop) := Sl 6 (rMsg inn) out
abbrev dV (a : PID) : Value := .agg #[.int .i64 a.f, .int .i64 a.n, .int .i64 a.c]
abbrev mVal (m : PMsg) (c : Value) : Value := .agg #[.int .i64 m.id.f, .int .i64 m.id.n, .int .i64 m.id.c, .int .i64 m.nt.to, .int .i64 m.nt.hd, c]
def MsgV (ok : Nat → Prop) (w : World) (v : Value) (m : PMsg) : Prop := ∃ c, v = mVal m c ∧ Ints ok w c m.nt.args

section
variable {w w' : World} {ok ok' : Nat → Prop} {v : Value} {b o : Nat}

theorem Msgs.same {inn : Nat → Prop} {l : List PMsg} (h : Msgs ok inn w v l) (s : Same ok w w') (t : Same inn w w') : Msgs ok inn w' v l :=
 h.imp (fun _ h => h) s.size fun _ _ _ hk hb ⟨h1, h2, h3, h4, h5, c, h6, h7⟩ => ⟨(s.cell hk hb).trans h1, (s.cell hk hb).trans h2, (s.cell hk hb).trans h3, (s.cell hk hb).trans h4, (s.cell hk hb).trans h5, c, (s.cell hk hb).trans h6, h7.same t⟩
theorem Msgs.below {inn : Nat → Prop} {l : List PMsg} (h : Msgs ok inn w v l) (hb : Below w.heap.size w w') : Msgs ok inn w' v l := h.same (Same.all hb) (Same.all hb)
theorem MsgV.below {x : PMsg} (h : MsgV ok w v x) (hb : Below w.heap.size w w') : MsgV ok w' v x := let ⟨c, h1, h2⟩ := h; ⟨c, h1, h2.below hb⟩
theorem Ints.weak {l : List Int} (h : Ints ok w v l) (k : ∀ b, ok b → ok' b) : Ints ok' w v l := h.imp k (Nat.le_refl _) fun _ _ _ _ _ h => h
theorem Msgs.weak {inn inn' : Nat → Prop} {l : List PMsg} (h : Msgs ok inn w v l) (k : ∀ b, ok b → ok' b) (k' : ∀ b, inn b → inn' b) : Msgs ok' inn' w v l :=
 h.imp k (Nat.le_refl _) fun _ _ _ _ _ ⟨h1, h2, h3, h4, h5, c, h6, h7⟩ => ⟨h1, h2, h3, h4, h5, c, h6, h7.weak k'⟩
theorem Msgs.any2 {inn : Nat → Prop} {l : List PMsg} (h : Msgs ok inn w v l) : Msgs anyB anyB w v l := h.weak (fun _ _ => trivial) (fun _ _ => trivial)

end

theorem ret_i {a b : Int} (h : a = b) : Ending.returned (.int .i64 a) = .returned (.int .i64 b) := by rw [h]
theorem Msgs.cell {out inn : Nat → Prop} {w wr : World} {A : Option Addr} {n c : Nat} {l : List PMsg} (h : Msgs out inn w (.slice A n c) l) (hb : Below w.heap.size w wr) {k : Nat} (hk : k < l.length) :
  ∃ b o x v, A = some ⟨b, o, none⟩ ∧ l[k]? = some x ∧ b < wr.heap.size ∧ wr.cell? ⟨b, o + k * 6, none⟩ = some (.int .i64 x.id.f) ∧ wr.cell? ⟨b, o + k * 6 + 1, none⟩ = some (.int .i64 x.id.n) ∧ wr.cell? ⟨b, o + k * 6 + 2, none⟩ = some (.int .i64 x.id.c) ∧
   wr.cell? ⟨b, o + k * 6 + 3, none⟩ = some (.int .i64 x.nt.to) ∧ wr.cell? ⟨b, o + k * 6 + 4, none⟩ = some (.int .i64 x.nt.hd) ∧ wr.cell? ⟨b, o + k * 6 + 5, none⟩ = some v ∧ Ints inn wr v x.nt.args := by
 obtain ⟨x, hx⟩ := at_lt hk
 obtain ⟨b, o, rfl, _, hlt, hc⟩ := h.at (by omega)
 obtain ⟨h1, h2, h3, h4, h5, v, h6, h7⟩ := hc k x hx
 exact ⟨b, o, x, v, rfl, hx, Nat.lt_of_lt_of_le hlt hb.size, (hb.cell (p := ⟨b, _, none⟩) hlt).trans h1, (hb.cell (p := ⟨b, _, none⟩) hlt).trans h2, (hb.cell (p := ⟨b, _, none⟩) hlt).trans h3, (hb.cell (p := ⟨b, _, none⟩) hlt).trans h4, (hb.cell (p := ⟨b, _, none⟩) hlt).trans h5, (hb.cell (p := ⟨b, _, none⟩) hlt).trans h6, h7.below hb⟩
theorem heap_new2 {w : World} {o : Obj} {n : Nat} (h : w.heap.size = n) : (w.alloc o).heap[n]? = some o := by subst h; exact heap_new _ _
theorem blk3 {b : Nat} {x y z : Value} {t : TypeId} {w : World} (h : w.heap[b]? = some (.cells #[x, y, z] t)) : w.cell? ⟨b, 0, none⟩ = some x ∧ w.cell? ⟨b, 1, none⟩ = some y ∧ w.cell? ⟨b, 2, none⟩ = some z := ⟨by rw [cell_of_row _ _ _ _ _ _ h]; rfl, by rw [cell_of_row _ _ _ _ _ _ h]; rfl, by rw [cell_of_row _ _ _ _ _ _ h]; rfl⟩
theorem blk6 {b : Nat} {v0 v1 v2 v3 v4 v5 : Value} {t : TypeId} {w : World} (h : w.heap[b]? = some (.cells #[v0, v1, v2, v3, v4, v5] t)) : w.cell? ⟨b, 0, none⟩ = some v0 ∧ w.cell? ⟨b, 1, none⟩ = some v1 ∧ w.cell? ⟨b, 2, none⟩ = some v2 ∧ w.cell? ⟨b, 3, none⟩ = some v3 ∧ w.cell? ⟨b, 4, none⟩ = some v4 ∧ w.cell? ⟨b, 5, none⟩ = some v5 :=
 ⟨by rw [cell_of_row _ _ _ _ _ _ h]; rfl, by rw [cell_of_row _ _ _ _ _ _ h]; rfl, by rw [cell_of_row _ _ _ _ _ _ h]; rfl, by rw [cell_of_row _ _ _ _ _ _ h]; rfl, by rw [cell_of_row _ _ _ _ _ _ h]; rfl, by rw [cell_of_row _ _ _ _ _ _ h]; rfl⟩
end Go.Proofs.YtfbeiedhdmndnaaGreatDoor
namespace Go.Proofs.YtfbeiedhdmndnaaGreatDoor
open Go.RowKit
attribute [local go_sem ↓] Go.wp_at_zero Go.wp_at_succ
theorem nan_any (a : Int) (w : World) : Calls Tryz.prog 171 #[.int .i64 a] w fun e w' => e = .returned (.bool false) ∧ w' = w := by
 go_enter Tryz.func171, Tryz.ntmps171
 go_wp2
 go_ret
 exact ⟨by simp, rfl⟩
theorem cmp_any (a b : Int) (w : World) : Calls Tryz.prog 179 #[.int .i64 a, .int .i64 b] w fun e w' => e = .returned (.int .i64 (cmpI a b)) ∧ w' = w := by
 by_cases h1 : a < b
 ·have e : cmpI a b = -1 := by unfold cmpI; rw [if_pos h1]
  rw [e]
  go_enter Tryz.func179, Tryz.ntmps179
  go_wp2_with (go_at_call 171; refine (nan_any _ _).mono ?_; rintro e w' ⟨rfl, hw⟩; replace hw := hw.symm; subst hw)
  go_ret
  exact ⟨rfl, rfl⟩
 ·by_cases h2 : b < a
  ·have e : cmpI a b = 1 := by unfold cmpI; rw [if_neg h1, if_pos h2]
   rw [e]
   go_enter Tryz.func179, Tryz.ntmps179
   go_wp2_with (go_at_call 171; refine (nan_any _ _).mono ?_; rintro e w' ⟨rfl, hw⟩; replace hw := hw.symm; subst hw)
   go_ret
   exact ⟨rfl, rfl⟩
  ·have e : cmpI a b = 0 := by unfold cmpI; rw [if_neg h1, if_neg h2]
   rw [e]
   go_enter Tryz.func179, Tryz.ntmps179
   go_wp2_with (go_at_call 171; refine (nan_any _ _).mono ?_; rintro e w' ⟨rfl, hw⟩; replace hw := hw.symm; subst hw)
   go_ret
   exact ⟨rfl, rfl⟩
theorem or3_a {a b c : Int} (h : a ≠ 0) : or3 a b c = a := by unfold or3; rw [if_pos h]
theorem or3_b {a b c : Int} (ha : a = 0) (h : b ≠ 0) : or3 a b c = b := by unfold or3; rw [if_neg (by simp [ha]), if_pos h]
theorem or3_c {a b c : Int} (ha : a = 0) (hb : b = 0) : or3 a b c = c := by unfold or3; rw [if_neg (by simp [ha]), if_neg (by simp [hb])]
set_option maxHeartbeats 1000000 in
theorem or_any (a b c : Int) (w : World) (g : Nat) (h0 : w.cell? ⟨g, 0, none⟩ = some (.int .i64 a)) (h1 : w.cell? ⟨g, 1, none⟩ = some (.int .i64 b)) (h2 : w.cell? ⟨g, 2, none⟩ = some (.int .i64 c)) :
  Calls Tryz.prog 178 #[.slice (some ⟨g, 0, none⟩) 3 3] w fun e w' => e = .returned (.int .i64 (or3 a b c)) ∧ w' = w := by
 go_enter Tryz.func178, Tryz.ntmps178
 go_wp2
 go_loopg [5, 8] 3 (fun n i5 i8 wr => ∃ k : Nat, n = 3 - k ∧ k ≤ 3 ∧ i8 = .int .i64 k ∧ wr = w ∧ Hid (1 ≤ k → a = 0) ∧ Hid (2 ≤ k → b = 0) ∧ Hid (3 ≤ k → c = 0))
 case atStart => exact ⟨0, rfl, by omega, rfl, rfl, fun h => by omega, fun h => by omega, fun h => by omega⟩
 case round =>
  obtain ⟨k, rfl, hk, rfl, rfl, ha, hb, hc⟩ := hrel
  rcases (by omega : k = 0 ∨ k = 1 ∨ k = 2 ∨ k = 3) with rfl | rfl | rfl | rfl
  ·by_cases e : a = 0
   ·have e1 := ne_no e
    have E : Hid (a = 0) := e
    clear e
    go_wp2
    go_roundg 2
    case measure => omega
    case rel => exact ⟨1, rfl, by omega, rfl, rfl, fun _ => E.out, fun h => by omega, fun h => by omega⟩
   ·have e1 := ne_yes e
    have E : Hid (a ≠ 0) := e
    clear e
    go_wp2
    go_ret
    exact ⟨ret_i (or3_a E.out).symm, rfl⟩
  ·by_cases e : b = 0
   ·have e1 := ne_no e
    have E : Hid (b = 0) := e
    clear e
    go_wp2
    go_roundg 1
    case measure => omega
    case rel => exact ⟨2, rfl, by omega, rfl, rfl, fun _ => ha.out (by omega), fun _ => E.out, fun h => by omega⟩
   ·have e1 := ne_yes e
    have E : Hid (b ≠ 0) := e
    clear e
    go_wp2
    go_ret
    exact ⟨ret_i (or3_b (ha.out (by omega)) E.out).symm, rfl⟩
  ·by_cases e : c = 0
   ·have e1 := ne_no e
    have E : Hid (c = 0) := e
    clear e
    go_wp2
    go_roundg 0
    case measure => omega
    case rel => exact ⟨3, rfl, by omega, rfl, rfl, fun _ => ha.out (by omega), fun _ => hb.out (by omega), fun _ => E.out⟩
   ·have e1 := ne_yes e
    go_wp2
    go_ret
    exact ⟨ret_i (or3_c (ha.out (by omega)) (hb.out (by omega))).symm, rfl⟩
  ·go_wp2
   go_ret
   exact ⟨ret_i ((or3_c (ha.out (by omega)) (hb.out (by omega))).trans (hc.out (by omega))).symm, rfl⟩
theorem cmp_b (a b : Int) (w : World) : Calls Tryz.prog 179 #[.int .i64 a, .int .i64 b] w fun e w' => e = .returned (.int .i64 (cmpI a b)) ∧ Below w.heap.size w w' := (cmp_any a b w).mono fun e w' ⟨h1, h2⟩ => ⟨h1, by rw [h2]; exact bRefl w⟩
theorem or_b (a b c : Int) (w : World) (g : Nat) (h : w.heap[g]? = some (.cells #[.int .i64 a, .int .i64 b, .int .i64 c] 3)) :
  Calls Tryz.prog 178 #[.slice (some ⟨g, 0, none⟩) 3 3] w fun e w' => e = .returned (.int .i64 (or3 a b c)) ∧ Below w.heap.size w w' :=
 (or_any a b c w g (by rw [Lib.cell_of_heap h]; rfl) (by rw [Lib.cell_of_heap h]; rfl) (by rw [Lib.cell_of_heap h]; rfl)).mono fun e w' ⟨h1, h2⟩ => ⟨h1, by rw [h2]; exact bRefl w⟩
set_option maxHeartbeats 2000000 in
set_option maxRecDepth 100000 in
theorem compare_any (a b : PID) (w : World) : Calls Tryz.prog 165 #[dV a, dV b] w fun e w' => e = .returned (.int .i64 (cmpD a b)) ∧ Below w.heap.size w w' := by
 go_enter Tryz.func165, Tryz.ntmps165
 go_wp2_with fail
 have hA : ((w.alloc (.cells #[.int .i64 a.f, .int .i64 a.n, .int .i64 a.c] 34)).alloc (.cells #[.int .i64 b.f, .int .i64 b.n, .int .i64 b.c] 34)).heap[w.heap.size]? = some (.cells #[.int .i64 a.f, .int .i64 a.n, .int .i64 a.c] 34) := ((bAlloc (bRefl (w.alloc _)) _).block _ (by simp)).trans (heap_new _ _)
 have hB : ((w.alloc (.cells #[.int .i64 a.f, .int .i64 a.n, .int .i64 a.c] 34)).alloc (.cells #[.int .i64 b.f, .int .i64 b.n, .int .i64 b.c] 34)).heap[w.heap.size + 1]? = some (.cells #[.int .i64 b.f, .int .i64 b.n, .int .i64 b.c] 34) := heap_new2 (by simp)
 have HL : Hid (Below w.heap.size w ((w.alloc (.cells #[.int .i64 a.f, .int .i64 a.n, .int .i64 a.c] 34)).alloc (.cells #[.int .i64 b.f, .int .i64 b.n, .int .i64 b.c] 34))) := bAlloc (bAlloc (bRefl _) _) _
 have hs : w.heap.size + 1 < ((w.alloc (.cells #[.int .i64 a.f, .int .i64 a.n, .int .i64 a.c] 34)).alloc (.cells #[.int .i64 b.f, .int .i64 b.n, .int .i64 b.c] 34)).heap.size := by simp
 generalize (w.alloc (.cells #[.int .i64 a.f, .int .i64 a.n, .int .i64 a.c] 34)).alloc (.cells #[.int .i64 b.f, .int .i64 b.n, .int .i64 b.c] 34) = w1 at hA hB HL hs ⊢
 obtain ⟨p0, p1, p2⟩ := blk3 hA
 obtain ⟨q0, q1, q2⟩ := blk3 hB
 have hs0 : w.heap.size < w1.heap.size := by omega
 have hbb : Below w1.heap.size w1 w1 := bRefl w1
 clear hA hB
 go_region_held3 (fun w' => w'.cell? ⟨w.heap.size, 0, none⟩ = some (.int .i64 a.f) ∧ w'.cell? ⟨w.heap.size, 1, none⟩ = some (.int .i64 a.n) ∧ w'.cell? ⟨w.heap.size, 2, none⟩ = some (.int .i64 a.c) ∧ w'.cell? ⟨w.heap.size + 1, 0, none⟩ = some (.int .i64 b.f) ∧ w'.cell? ⟨w.heap.size + 1, 1, none⟩ = some (.int .i64 b.n) ∧ w'.cell? ⟨w.heap.size + 1, 2, none⟩ = some (.int .i64 b.c)) (go_keep)
  (first
   | (go_at_call 179; refine (cmp_b _ _ _).mono ?_; rintro e w2 ⟨rfl, hb2⟩; have hc2 := (by first | exact bcell (undrew hb2) | exact bcell hb2); replace hbb := (by first | exact bTrans hbb (undrew hb2) | exact bTrans hbb hb2); have hz2 := Nat.lt_of_lt_of_le hs0 hbb.size; have hz3 := Nat.lt_of_lt_of_le hs hbb.size)
   | (go_at_call 178; refine (or_b _ _ _ _ _ (by exact heap_new2 (by simp))).mono ?_; rintro e w2 ⟨rfl, hb2⟩; have hc2 := bcell hb2; replace hbb := bTrans (bAlloc hbb _) hb2; have y0 := (hbb.cell (p := ⟨w.heap.size, 0, none⟩) hs0).trans p0; have y1 := (hbb.cell (p := ⟨w.heap.size, 1, none⟩) hs0).trans p1; have y2 := (hbb.cell (p := ⟨w.heap.size, 2, none⟩) hs0).trans p2; have x0 := (hbb.cell (p := ⟨w.heap.size + 1, 0, none⟩) hs).trans q0; have x1 := (hbb.cell (p := ⟨w.heap.size + 1, 1, none⟩) hs).trans q1; have x2 := (hbb.cell (p := ⟨w.heap.size + 1, 2, none⟩) hs).trans q2))
 all_goals
  go_wp2_with fail
  go_ret
  exact ⟨rfl, bTrans HL.out hbb⟩
theorem less_any (a b : PID) (w : World) : Calls Tryz.prog 139 #[dV a, dV b] w fun e w' => e = .returned (.bool (lessD a b)) ∧ Below w.heap.size w w' := by
 go_enter Tryz.func139, Tryz.ntmps139
 go_wp2_with (go_at_call 165; refine (compare_any a b _).mono ?_; rintro e w2 ⟨rfl, hb2⟩)
 go_ret
 exact ⟨rfl, bTrans (bAlloc (bAlloc (bRefl _) _) _) hb2⟩
def sameD (a b : PID) : Bool := decide (a = b)
theorem gD : Tryz.prog.eqGuardType Tryz.prog.depth 34 = false := by kernel_rfl
theorem eqD (a b : PID) (w : World) : (Op.equalIn 10000 34 (dV a) (dV b)).run Tryz.prog w = .ok (sameD a b) w := by
 have u3 := Tryz.underlying3
 have a3 := Tryz.isAgg3
 have z3 := Tryz.sizeOf3
 have hS : Tryz.prog.underlying 34 = some (.struct (Tryz.prog.fieldsOf 34)) := by kernel_rfl
 have hp : Tryz.prog.stoodInHeld 34 = false := by kernel_rfl
 obtain ⟨f, n, c⟩ := a
 obtain ⟨f', n', c'⟩ := b
 unfold sameD
 rw [show (10000 : Nat) = 9999 + 1 from rfl, run_equalIn_agg w 9999 34 _ _ hS hp]
 simp only [Program.fieldsOf, Tryz.underlying34]
 go_simp
 by_cases h1 : f = f' <;> by_cases h2 : n = n' <;> by_cases h3 : c = c' <;> simp [h1, h2, h3]
theorem eq6 (f n c f' n' c' : Int) (w : World) : (Op.equalIn 10000 34 (.agg #[.int .i64 f, .int .i64 n, .int .i64 c]) (.agg #[.int .i64 f', .int .i64 n', .int .i64 c'])).run Tryz.prog w = .ok (sameD ⟨f, n, c⟩ ⟨f', n', c'⟩) w := eqD ⟨f, n, c⟩ ⟨f', n', c'⟩ w
theorem sameD_yes {a b : PID} (h : a = b) : sameD a b = true := decide_eq_true h
theorem sameD_no {a b : PID} (h : a ≠ b) : sameD a b = false := decide_eq_false h
theorem eqB_nte (a b : PNte) : eqB a b = (decide (a.to = b.to) && decide (a.hd = b.hd) && eqB a.args b.args) := by
 obtain ⟨t, d, l⟩ := a
 obtain ⟨t', d', l'⟩ := b
 simp [eqB]
 rw [Bool.eq_iff_iff]; simp [and_assoc]
set_option maxHeartbeats 400000 in
theorem eqI (ok ok' : Nat → Prop) (w : World) (v1 v2 : Value) (a b : List Int) (h1 : Ints ok w v1 a) (h2 : Ints ok' w v2 b) :
  Calls Tryz.prog 96 #[v1, v2] w fun e w' => e = .returned (.bool (eqB a b)) ∧ ∃ n, w' = w.drewN n := by
 obtain ⟨A1, c1, rfl, hl1⟩ := h1.form
 obtain ⟨A2, c2, rfl, hl2⟩ := h2.form
 by_cases hlen : a.length = b.length
 ·have HL : Hid (a.length = b.length) := hlen
  have e1 := lt_eq hlen
  clear hlen
  go_enter Tryz.func96, Tryz.ntmps96
  go_wp2
  go_loopg [5, 13] a.length (fun g i5 i13 wr => ∃ k : Nat, g = a.length - k ∧ k ≤ a.length ∧ i13 = .int .i64 k ∧ Hid (a.take k = b.take k) ∧ ∃ n, wr = w.drewN n)
  case atStart => exact ⟨0, rfl, by omega, rfl, rfl, quiet_refl w⟩
  case round =>
   obtain ⟨k, rfl, hk, rfl, ht, hq0⟩ := hrel
   have hb := quiet_below hq0
   have hq : Hid (∃ n, wr = w.drewN n) := hq0
   clear hq0
   by_cases hlt : k < a.length
   ·obtain ⟨b1, o1, x, rfl, hx, q1⟩ := h1.cell hb hlt
    obtain ⟨b2, o2, y, rfl, hy, q2⟩ := h2.cell hb (k := k) (by have := HL.out; omega)
    have hlt2 : (k : Int) < b.length := by have := HL.out; omega
    have HX : Hid (a[k]? = some x) := hx
    have HY : Hid (b[k]? = some y) := hy
    clear hx hy
    by_cases hxy : x = y
    ·have e2 := ne_no hxy
     have HE : Hid (x = y) := hxy
     clear hxy
     go_wp2
     go_quiet (fail)
     go_wp2
     go_roundg (a.length - (k + 1))
     case measure => omega
     case rel => exact ⟨k + 1, rfl, by omega, by go_num, take_eq ht.out HX.out HY.out HE.out, quiet_next hq _⟩
    ·have e2 := ne_yes hxy
     go_wp2
     go_quiet (fail)
     go_wp2
     go_ret
     exact ⟨ret_b (eqB_no (take_ne HX.out HY.out hxy)).symm, quiet_next hq _⟩
   ·go_wp2
    go_ret
    exact ⟨ret_b (eqB_yes (take_all HL.out hlt ht.out)).symm, hq.out⟩
 ·have e1 := lt_ne hlen
  go_enter Tryz.func96, Tryz.ntmps96
  go_wp2
  go_ret
  exact ⟨ret_b (eqB_no (len_ne hlen)).symm, quiet_refl _⟩
set_option maxHeartbeats 400000 in
theorem sameNote (w : World) (v1 v2 : Value) (n m : PNte) (h1 : NteV w v1 n) (h2 : NteV w v2 m) :
  Calls Tryz.prog 122 #[v1, v2] w fun e w' => e = .returned (.bool (eqB n m)) ∧ Below w.heap.size w w' := by
 obtain ⟨c1, rfl, h1⟩ := h1
 obtain ⟨c2, rfl, h2⟩ := h2
 obtain ⟨t1, d1, l1⟩ := n
 obtain ⟨t2, d2, l2⟩ := m
 have HE : Hid (eqB (PNte.mk t1 d1 l1) ⟨t2, d2, l2⟩ = (decide (t1 = t2) && decide (d1 = d2) && eqB l1 l2)) := eqB_nte _ _
 dsimp only at h1 h2
 by_cases e1 : t1 = t2
 ·by_cases e2 : d1 = d2
  ·subst e1 e2
   go_enter Tryz.func122, Tryz.ntmps122
   go_wp2_with (go_at_call 96; refine (eqI anyB anyB _ _ _ _ _ (h1.below (by exact bAlloc (bAlloc (bRefl _) _) _)) (h2.below (by exact bAlloc (bAlloc (bRefl _) _) _))).mono ?_; rintro e w' ⟨rfl, hq⟩)
   go_ret
   exact ⟨ret_b (by rw [HE.out]; simp), bTrans (bAlloc (bAlloc (bRefl _) _) _) (quiet_below hq)⟩
  ·have b2 : (d1 == d2) = false := by simp [e2]
   subst e1
   go_enter Tryz.func122, Tryz.ntmps122
   go_wp2
   go_ret
   exact ⟨ret_b (by rw [HE.out]; simp [e2]), bAlloc (bAlloc (bRefl _) _) _⟩
 ·have b1 : (t1 == t2) = false := by simp [e1]
  go_enter Tryz.func122, Tryz.ntmps122
  go_wp2
  go_ret
  exact ⟨ret_b (by rw [HE.out]; simp [e1]), bAlloc (bAlloc (bRefl _) _) _⟩

end Go.Proofs.YtfbeiedhdmndnaaGreatDoor
namespace Go.Proofs.YtfbeiedhdmndnaaGreatDoor
open Go.RowKit
attribute [local go_sem ↓] Go.wp_at_zero Go.wp_at_succ eq6

def fnd (l : List PMsg) (d : PID) : Int := match l.findIdx? (fun m => decide (m.id = d)) with | some k => k | none => -1
theorem fnd_at {l : List PMsg} {d : PID} {k : Nat} {x : PMsg} (hx : l[k]? = some x) (e : x.id = d) (h : ∀ (j : Nat) (y : PMsg), j < k → l[j]? = some y → y.id ≠ d) : fnd l d = k := by
 obtain ⟨hk, rfl⟩ := List.getElem?_eq_some_iff.1 hx
 have : l.findIdx? (fun m => decide (m.id = d)) = some k := by
  rw [List.findIdx?_eq_some_iff_getElem]
  exact ⟨hk, by simpa using e, fun j hj => by simpa using h j _ hj (List.getElem?_eq_getElem (by omega))⟩
 unfold fnd; rw [this]
theorem fnd_no {l : List PMsg} {d : PID} (h : ∀ (j : Nat) (y : PMsg), l[j]? = some y → y.id ≠ d) : fnd l d = -1 := by
 have : l.findIdx? (fun m => decide (m.id = d)) = none := by
  rw [List.findIdx?_eq_none_iff]
  intro x hx
  obtain ⟨j, hj⟩ := List.mem_iff_getElem?.1 hx
  simpa using h j x hj
 unfold fnd; rw [this]
theorem fnd_cases (l : List PMsg) (d : PID) : (fnd l d = -1 ∧ ∀ (j : Nat) (y : PMsg), l[j]? = some y → y.id ≠ d) ∨ ∃ (k : Nat) (x : PMsg), fnd l d = k ∧ l[k]? = some x ∧ x.id = d ∧ ∀ (j : Nat) (y : PMsg), j < k → l[j]? = some y → y.id ≠ d := by
 cases h : l.findIdx? (fun m => decide (m.id = d)) with
 | none =>
  refine Or.inl ⟨by unfold fnd; rw [h], fun j y hy => ?_⟩
  rw [List.findIdx?_eq_none_iff] at h
  simpa using h y (List.mem_of_getElem? hy)
 | some k =>
  have hf : fnd l d = k := by unfold fnd; rw [h]
  rw [List.findIdx?_eq_some_iff_getElem] at h
  obtain ⟨hk, h1, h2⟩ := h
  refine Or.inr ⟨k, l[k], hf, List.getElem?_eq_getElem hk, by simpa using h1, fun j y hj hy => ?_⟩
  obtain ⟨hj', rfl⟩ := List.getElem?_eq_some_iff.1 hy
  simpa using h2 j hj
def toN (l : List PMsg) (who : Int) : Nat := l.countP fun m => decide (m.nt.to = who)
theorem toN_yes {l : List PMsg} {k : Nat} {x : PMsg} {who : Int} (hx : l[k]? = some x) (e : x.nt.to = who) : toN (l.take (k + 1)) who = toN (l.take k) who + 1 := by
 unfold toN; rw [List.take_add_one, hx, List.countP_append]; simp [e]
theorem toN_no {l : List PMsg} {k : Nat} {x : PMsg} {who : Int} (hx : l[k]? = some x) (e : x.nt.to ≠ who) : toN (l.take (k + 1)) who = toN (l.take k) who := by
 unfold toN; rw [List.take_add_one, hx, List.countP_append]; simp [e]
theorem toN_le (l : List PMsg) (who : Int) : toN l who ≤ l.length := List.countP_le_length
def srt : List PMsg → Bool
 | x :: y :: r => lessD x.id y.id && srt (y :: r)
 | _ => true
theorem srt_iff : ∀ (l : List PMsg), srt l = true ↔ ∀ (i : Nat) x y, l[i]? = some x → l[i + 1]? = some y → lessD x.id y.id = true
 | [] => by simp [srt]
 | [a] => by simp [srt]
 | a :: b :: r => by
  rw [srt, Bool.and_eq_true, srt_iff (b :: r)]
  constructor
  ·rintro ⟨h1, h2⟩ i x y hx hy
   cases i with
   | zero =>
    simp only [List.getElem?_cons_zero, Option.some.injEq, List.getElem?_cons_succ] at hx hy
    subst hx hy; exact h1
   | succ i => exact h2 i x y (by simpa using hx) (by simpa using hy)
  ·intro h
   exact ⟨h 0 a b rfl rfl, fun i x y hx hy => h (i + 1) x y (by simpa using hx) (by simpa using hy)⟩
theorem srt_no {l : List PMsg} {i : Nat} {x y : PMsg} (hx : l[i]? = some x) (hy : l[i + 1]? = some y) (h : lessD x.id y.id = false) : srt l = false := by
 cases hs : srt l with
 | false => rfl
 | true => have := (srt_iff l).1 hs i x y hx hy; rw [h] at this; cases this

theorem find1_any (w : World) (v : Value) (m : PMsg) (c : Value) (d : PID) (g : Nat) (hv : v = mVal m c) (h0 : w.cell? ⟨g, 0, none⟩ = some (.int .i64 d.f)) (h1 : w.cell? ⟨g, 1, none⟩ = some (.int .i64 d.n)) (h2 : w.cell? ⟨g, 2, none⟩ = some (.int .i64 d.c)) (hg : g < w.heap.size) :
  Calls Tryz.prog 89 #[v, .pointer (some ⟨g, 0, none⟩)] w fun e w' => e = .returned (.bool (sameD m.id d)) ∧ Below w.heap.size w w' := by
 subst hv
 have hgD := gD
 go_enter Tryz.func89, Tryz.ntmps89
 go_wp2
 go_ret
 exact ⟨rfl, bAlloc (bRefl _) _⟩
set_option maxHeartbeats 1000000 in
theorem index_any (w : World) (v : Value) (l : List PMsg) (d : PID) (g : Nat) (h : Msgs anyB anyB w v l) (h0 : w.cell? ⟨g, 0, none⟩ = some (.int .i64 d.f)) (h1 : w.cell? ⟨g, 1, none⟩ = some (.int .i64 d.n)) (h2 : w.cell? ⟨g, 2, none⟩ = some (.int .i64 d.c)) (hg : g < w.heap.size) :
  Calls Tryz.prog 88 #[v, .func (.func 89) #[] #[.pointer (some ⟨g, 0, none⟩)]] w fun e w' => e = .returned (.int .i64 (fnd l d)) ∧ Below w.heap.size w w' := by
 obtain ⟨A, c, rfl, hl⟩ := h.form
 go_enter Tryz.func88, Tryz.ntmps88
 go_wp2
 go_loopg [5, 8] l.length (fun n i5 i8 wr => ∃ k : Nat, n = l.length - k ∧ k ≤ l.length ∧ i8 = .int .i64 k ∧ Hid (∀ (j : Nat) (y : PMsg), j < k → l[j]? = some y → y.id ≠ d) ∧ Below w.heap.size w wr)
 case atStart => exact ⟨0, rfl, by omega, rfl, fun j y hj => by omega, bRefl w⟩
 case round =>
  obtain ⟨k, rfl, hk, rfl, ht, hb⟩ := hrel
  by_cases hlt : k < l.length
  ·obtain ⟨b1, o1, x, v1, rfl, hx, hz1, q1, q2, q3, q4, q5, q6, hv1⟩ := h.cell hb hlt
   obtain ⟨V1, n1, rfl, _⟩ := hv1.form
   have HX : Hid (l[k]? = some x) := hx
   have HB : Hid (Below w.heap.size w wr) := hb
   have k0 := (hb.cell (p := ⟨g, 0, none⟩) hg).trans h0
   have k1 := (hb.cell (p := ⟨g, 1, none⟩) hg).trans h1
   have k2 := (hb.cell (p := ⟨g, 2, none⟩) hg).trans h2
   have kg : g < wr.heap.size := Nat.lt_of_lt_of_le hg hb.size
   clear hx hb h0 h1 h2
   by_cases e : x.id = d
   ·have e2 := sameD_yes e
    have HE : Hid (x.id = d) := e
    clear e
    go_wp2_with (go_at_call 89; refine (find1_any _ _ x (.slice V1 x.nt.args.length n1) d g rfl k0 k1 k2 kg).mono ?_; rintro e w1 ⟨rfl, hb1⟩)
    go_ret
    exact ⟨ret_i (fnd_at HX.out HE.out ht.out).symm, bTrans HB.out hb1⟩
   ·have e2 := sameD_no e
    have HE : Hid (x.id ≠ d) := e
    clear e
    go_wp2_with (go_at_call 89; refine (find1_any _ _ x (.slice V1 x.nt.args.length n1) d g rfl k0 k1 k2 kg).mono ?_; rintro e w1 ⟨rfl, hb1⟩)
    go_roundg (l.length - (k + 1))
    case measure => omega
    case rel => exact ⟨k + 1, rfl, by omega, by go_num, fun j y hj hy => by
      by_cases ej : j = k
      ·subst ej; have := HX.out; rw [hy] at this; cases this; exact HE.out
      ·exact ht.out j y (by omega) hy, bTrans HB.out hb1⟩
  ·go_wp2
   go_ret
   exact ⟨ret_i (fnd_no fun j y hy => ht.out j y (by have := (List.getElem?_eq_some_iff.1 hy).1; omega) hy).symm, hb⟩
theorem find_any (w : World) (v : Value) (l : List PMsg) (d : PID) (h : Msgs anyB anyB w v l) :
  Calls Tryz.prog 59 #[v, dV d] w fun e w' => e = .returned (.int .i64 (fnd l d)) ∧ Below w.heap.size w w' := by
 obtain ⟨A, c, rfl, hl⟩ := h.form
 have HH : Hid (Msgs anyB anyB w (.slice A l.length c) l) := h
 clear h
 go_enter Tryz.func59, Tryz.ntmps59
 go_wp2_with fail
 have hA := heap_new w (.cells #[.int .i64 d.f, .int .i64 d.n, .int .i64 d.c] 34)
 obtain ⟨p0, p1, p2⟩ := blk3 hA
 refine (index_any _ _ l d w.heap.size (HH.out.below (bAlloc (bRefl w) _)) p0 p1 p2 (by simp)).mono ?_
 rintro e w1 ⟨rfl, hb1⟩
 go_wp2
 go_ret
 exact ⟨rfl, bTrans (bAlloc (bRefl w) _) hb1⟩
end Go.Proofs.YtfbeiedhdmndnaaGreatDoor
namespace Go.Proofs.YtfbeiedhdmndnaaGreatDoor
open Go.RowKit
attribute [local go_sem ↓] Go.wp_at_zero Go.wp_at_succ eq6
theorem beq_no {a b : Int} (h : a ≠ b) : (a == b) = false := by simp [h]
theorem beq_yes {a b : Int} (h : a = b) : (a == b) = true := by simp [h]
set_option maxHeartbeats 1000000 in
theorem to_any (w : World) (v : Value) (l : List PMsg) (who : Int) (h : Msgs anyB anyB w v l) :
  Calls Tryz.prog 105 #[v, .int .i64 who] w fun e w' => e = .returned (.int .i64 (toN l who)) ∧ Below w.heap.size w w' := by
 obtain ⟨A, c, rfl, hl⟩ := h.form
 go_enter Tryz.func105, Tryz.ntmps105
 go_wp2
 go_loopg [5, 7, 10] l.length (fun n i5 i7 i10 wr => ∃ k m : Nat, n = l.length - k ∧ k ≤ l.length ∧ i10 = .int .i64 k ∧ i5 = .int .i64 m ∧ Hid (m = toN (l.take k) who) ∧ m ≤ k ∧ Below w.heap.size w wr)
 case atStart => exact ⟨0, 0, rfl, by omega, rfl, rfl, rfl, by omega, bRefl w⟩
 case round =>
  obtain ⟨k, m, rfl, hk, rfl, rfl, ht, hm, hb⟩ := hrel
  by_cases hlt : k < l.length
  ·obtain ⟨b1, o1, x, v1, rfl, hx, hz1, q1, q2, q3, q4, q5, q6, hv1⟩ := h.cell hb hlt
   obtain ⟨V1, n1, rfl, _⟩ := hv1.form
   have HX : Hid (l[k]? = some x) := hx
   have HB : Hid (Below w.heap.size w wr) := hb
   clear hx hb
   by_cases e : x.nt.to = who
   ·have e2 := beq_yes e
    have HE : Hid (x.nt.to = who) := e
    clear e
    go_wp2
    go_roundg (l.length - (k + 1))
    case measure => omega
    case rel => exact ⟨k + 1, m + 1, rfl, by omega, by go_num, by go_num, by show _ = _; rw [toN_yes HX.out HE.out, ← ht.out], by omega, bAlloc HB.out _⟩
   ·have e2 := beq_no e
    have HE : Hid (x.nt.to ≠ who) := e
    clear e
    go_wp2
    go_roundg (l.length - (k + 1))
    case measure => omega
    case rel => exact ⟨k + 1, m, rfl, by omega, by go_num, rfl, by show _ = _; rw [toN_no HX.out HE.out, ← ht.out], by omega, bAlloc HB.out _⟩
  ·go_wp2
   go_ret
   exact ⟨ret_i (by rw [ht.out, List.take_of_length_le (by omega)]), hb⟩
set_option maxHeartbeats 4000000 in
theorem sorted_any (w : World) (v : Value) (l : List PMsg) (h : Msgs anyB anyB w v l) :
  Calls Tryz.prog 119 #[v] w fun e w' => e = .returned (.bool (srt l)) ∧ Below w.heap.size w w' := by
 obtain ⟨A, c, rfl, hl⟩ := h.form
 go_enter Tryz.func119, Tryz.ntmps119
 go_wp2
 go_loopg [3] l.length (fun n i3 wr => ∃ k : Nat, n = l.length - k ∧ k ≤ l.length ∧ i3 = .int .i64 ((k : Int) + 1) ∧ Hid (∀ (j : Nat) (x y : PMsg), j < k → l[j]? = some x → l[j + 1]? = some y → lessD x.id y.id = true) ∧ Below w.heap.size w wr)
 case atStart => exact ⟨0, rfl, by omega, rfl, fun j x y hj => by omega, bRefl w⟩
 case round =>
  obtain ⟨k, rfl, hk, rfl, ht, hb⟩ := hrel
  by_cases hlt : k + 1 < l.length
  ·obtain ⟨b1, o1, x, v1, hA1, hx, hz1, q1, q2, q3, -, -, -, -⟩ := h.cell (k := k) hb (by omega)
   obtain ⟨b2, o2, y, v2, hA2, hy, hz2, r1, r2, r3, -, -, -, -⟩ := h.cell hb hlt
   subst hA1
   cases hA2
   have HX : Hid (l[k]? = some x) := hx
   have HY : Hid (l[k + 1]? = some y) := hy
   have HB : Hid (Below w.heap.size w wr) := hb
   have a1 : (k : Int) < l.length := by omega
   have a2 : (k : Int) + 1 < l.length := by omega
   have a3 : (0 : Int) ≤ (k : Int) + 1 := by omega
   have a4 : ((k : Int) + 1).toNat = k + 1 := by omega
   have a5 : IntKind.i64.wrap ((k : Int) + 1 - 1) = k := by rw [IntKind.wrap_i64]; omega
   have a6 : IntKind.i64.wrap (k : Int) = k := by rw [IntKind.wrap_i64]; omega
   have a7 : (k : Int) ≤ 9223372036854775807 := by omega
   have a8 : IntKind.i64.wrap ((k : Int) + 1) = (k : Int) + 1 := by rw [IntKind.wrap_i64]; omega
   have a9 : IntKind.i64.wrap ((k : Int) + 1 + 1) = (k : Int) + 1 + 1 := by rw [IntKind.wrap_i64]; omega
   clear hx hy hb
   cases hle : lessD x.id y.id with
   | true =>
    have HE : Hid (lessD x.id y.id = true) := hle
    go_wp2
    go_region_held3 (fun w' => w'.cell? ⟨b1, o1 + k * 6, none⟩ = some (.int .i64 x.id.f) ∧ w'.cell? ⟨b1, o1 + k * 6 + 1, none⟩ = some (.int .i64 x.id.n) ∧ w'.cell? ⟨b1, o1 + k * 6 + 2, none⟩ = some (.int .i64 x.id.c) ∧ w'.cell? ⟨b1, o1 + (k + 1) * 6, none⟩ = some (.int .i64 y.id.f) ∧ w'.cell? ⟨b1, o1 + (k + 1) * 6 + 1, none⟩ = some (.int .i64 y.id.n) ∧ w'.cell? ⟨b1, o1 + (k + 1) * 6 + 2, none⟩ = some (.int .i64 y.id.c)) (go_keep)
     (first | (go_at_call 139; refine (less_any x.id y.id _).mono ?_; rintro e w1 ⟨rfl, hb1⟩; have hc1 := bcell (undrew hb1)))
    go_wp2
    go_roundg (l.length - (k + 1))
    case measure => omega
    case rel => exact ⟨k + 1, rfl, by omega, by go_num, fun j x' y' hj hx' hy' => by
      by_cases ej : j = k
      ·subst ej; have e1 := HX.out; have e2 := HY.out; rw [hx'] at e1; rw [hy'] at e2; cases e1; cases e2; exact HE.out
      ·exact ht.out j x' y' (by omega) hx' hy', bTrans HB.out (undrew hb1)⟩
   | false =>
    have HE : Hid (lessD x.id y.id = false) := hle
    go_wp2
    go_region_held3 (fun w' => w'.cell? ⟨b1, o1 + k * 6, none⟩ = some (.int .i64 x.id.f) ∧ w'.cell? ⟨b1, o1 + k * 6 + 1, none⟩ = some (.int .i64 x.id.n) ∧ w'.cell? ⟨b1, o1 + k * 6 + 2, none⟩ = some (.int .i64 x.id.c) ∧ w'.cell? ⟨b1, o1 + (k + 1) * 6, none⟩ = some (.int .i64 y.id.f) ∧ w'.cell? ⟨b1, o1 + (k + 1) * 6 + 1, none⟩ = some (.int .i64 y.id.n) ∧ w'.cell? ⟨b1, o1 + (k + 1) * 6 + 2, none⟩ = some (.int .i64 y.id.c)) (go_keep)
     (first | (go_at_call 139; refine (less_any x.id y.id _).mono ?_; rintro e w1 ⟨rfl, hb1⟩; have hc1 := bcell (undrew hb1)))
    go_wp2
    go_ret
    exact ⟨ret_b (srt_no HX.out HY.out HE.out).symm, bTrans HB.out (undrew hb1)⟩
  ·have hlt' : ¬ ((k : Int) + 1 < l.length) := by omega
   go_wp2
   go_ret
   refine ⟨ret_b ((srt_iff l).2 fun i x y hx hy => ht.out i x y ?_ hx hy).symm, hb⟩
   have := (List.getElem?_eq_some_iff.1 hy).1
   omega
end Go.Proofs.YtfbeiedhdmndnaaGreatDoor
namespace Go.Proofs.YtfbeiedhdmndnaaGreatDoor
open Go.RowKit
attribute [local go_sem ↓] Go.wp_at_zero Go.wp_at_succ eq6
theorem eqB_msg (a b : PMsg) : eqB a b = (sameD a.id b.id && eqB a.nt b.nt) := by
 obtain ⟨d, n⟩ := a
 obtain ⟨d', n'⟩ := b
 unfold eqB sameD
 rw [Bool.eq_iff_iff]; simp
set_option maxHeartbeats 1000000 in
theorem sameMsg_any (w : World) (v1 v2 : Value) (a b : PMsg) (h1 : MsgV anyB w v1 a) (h2 : MsgV anyB w v2 b) :
  Calls Tryz.prog 98 #[v1, v2] w fun e w' => e = .returned (.bool (eqB a b)) ∧ Below w.heap.size w w' := by
 obtain ⟨c1, rfl, h1⟩ := h1
 obtain ⟨c2, rfl, h2⟩ := h2
 obtain ⟨A1, d1, rfl, _⟩ := h1.form
 obtain ⟨A2, d2, rfl, _⟩ := h2.form
 have hgD := gD
 have HE : Hid (eqB a b = (sameD a.id b.id && eqB a.nt b.nt)) := eqB_msg _ _
 by_cases e : a.id = b.id
 ·have e2 := sameD_yes e
  have E2 : Hid (sameD a.id b.id = true) := e2
  clear e
  go_enter Tryz.func98, Tryz.ntmps98
  go_wp2_with (go_at_call 122; refine (sameNote _ _ _ a.nt b.nt ⟨_, rfl, h1.below (by exact bAlloc (bAlloc (bRefl _) _) _)⟩ ⟨_, rfl, h2.below (by exact bAlloc (bAlloc (bRefl _) _) _)⟩).mono ?_; rintro e w' ⟨rfl, hb1⟩)
  go_ret
  exact ⟨ret_b (by rw [HE.out, E2.out]; simp), bTrans (bAlloc (bAlloc (bRefl _) _) _) hb1⟩
 ·have e2 := sameD_no e
  have E2 : Hid (sameD a.id b.id = false) := e2
  clear e
  go_enter Tryz.func98, Tryz.ntmps98
  go_wp2
  go_ret
  exact ⟨ret_b (by rw [HE.out, E2.out]; rfl), bAlloc (bAlloc (bRefl _) _) _⟩
set_option maxHeartbeats 4000000 in
theorem equal_any (w : World) (v1 v2 : Value) (a b : List PMsg) (h1 : Msgs anyB anyB w v1 a) (h2 : Msgs anyB anyB w v2 b) :
  Calls Tryz.prog 97 #[v1, v2, .func (.func 98) #[] #[]] w fun e w' => e = .returned (.bool (eqB a b)) ∧ Below w.heap.size w w' := by
 obtain ⟨A1, c1, rfl, hl1⟩ := h1.form
 obtain ⟨A2, c2, rfl, hl2⟩ := h2.form
 by_cases hlen : a.length = b.length
 ·have HL : Hid (a.length = b.length) := hlen
  have e1 := lt_eq hlen
  clear hlen
  go_enter Tryz.func97, Tryz.ntmps97
  go_wp2
  go_loopg [7, 8, 9, 17] a.length (fun g i7 i8 i9 i17 wr => ∃ k : Nat, g = a.length - k ∧ k ≤ a.length ∧ i17 = .int .i64 k ∧ Hid (a.take k = b.take k) ∧ Below w.heap.size w wr)
  case atStart => exact ⟨0, rfl, by omega, rfl, rfl, bRefl w⟩
  case round =>
   obtain ⟨k, rfl, hk, rfl, ht, hb⟩ := hrel
   by_cases hlt : k < a.length
   ·obtain ⟨b1, o1, x, v1, rfl, hx, hz1, q1, q2, q3, q4, q5, q6, hv1⟩ := h1.cell hb hlt
    obtain ⟨b2, o2, y, v2, rfl, hy, hz2, s1, s2, s3, s4, s5, s6, hv2⟩ := h2.cell hb (k := k) (by have := HL.out; omega)
    obtain ⟨V1, n1, rfl, _⟩ := hv1.form
    obtain ⟨V2, n2, rfl, _⟩ := hv2.form
    have hlt2 : (k : Int) < b.length := by have := HL.out; omega
    have HX : Hid (a[k]? = some x) := hx
    have HY : Hid (b[k]? = some y) := hy
    have HB : Hid (Below w.heap.size w wr) := hb
    clear hx hy hb
    by_cases hxy : x = y
    ·have e2 := eqB_yes hxy
     have HE : Hid (x = y) := hxy
     clear hxy
     go_wp2_with (go_at_call 98; refine (sameMsg_any _ _ _ x y ⟨_, rfl, hv1.below (by exact bAlloc (bAlloc (bRefl _) _) _)⟩ ⟨_, rfl, hv2.below (by exact bAlloc (bAlloc (bRefl _) _) _)⟩).mono ?_; rintro e w' ⟨rfl, hb1⟩)
     go_roundg (a.length - (k + 1))
     case measure => omega
     case rel => exact ⟨k + 1, rfl, by omega, by go_num, take_eq ht.out HX.out HY.out HE.out, bTrans HB.out (bTrans (bAlloc (bAlloc (bRefl _) _) _) hb1)⟩
    ·have e2 := eqB_no hxy
     have HE : Hid (x ≠ y) := hxy
     clear hxy
     go_wp2_with (go_at_call 98; refine (sameMsg_any _ _ _ x y ⟨_, rfl, hv1.below (by exact bAlloc (bAlloc (bRefl _) _) _)⟩ ⟨_, rfl, hv2.below (by exact bAlloc (bAlloc (bRefl _) _) _)⟩).mono ?_; rintro e w' ⟨rfl, hb1⟩)
     go_ret
     exact ⟨ret_b (eqB_no (take_ne HX.out HY.out HE.out)).symm, bTrans HB.out (bTrans (bAlloc (bAlloc (bRefl _) _) _) hb1)⟩
   ·go_wp2
    go_ret
    exact ⟨ret_b (eqB_yes (take_all HL.out hlt ht.out)).symm, hb⟩
 ·have e1 := lt_ne hlen
  go_enter Tryz.func97, Tryz.ntmps97
  go_wp2
  go_ret
  exact ⟨ret_b (eqB_no (len_ne hlen)).symm, bRefl _⟩
theorem same_any (w : World) (v1 v2 : Value) (a b : List PMsg) (h1 : Msgs anyB anyB w v1 a) (h2 : Msgs anyB anyB w v2 b) :
  Calls Tryz.prog 67 #[v1, v2] w fun e w' => e = .returned (.bool (eqB a b)) ∧ Below w.heap.size w w' := by
 go_enter Tryz.func67, Tryz.ntmps67
 go_wp2_with (go_at_call 97; refine (equal_any _ _ _ a b h1 h2).mono ?_; rintro e w' ⟨rfl, hb1⟩)
 go_ret
 exact ⟨rfl, hb1⟩
end Go.Proofs.YtfbeiedhdmndnaaGreatDoor
namespace Go.Proofs.YtfbeiedhdmndnaaGreatDoor
open Go.RowKit
attribute [local go_sem ↓] Go.wp_at_zero Go.wp_at_succ
theorem grown_low {w wr w' : World} {row : Option Nat} (h : Below w.heap.size w wr) (hg : wr.grownBy w' row) (hr : ∀ g, row = some g → w.heap.size ≤ g) : Below w.heap.size w w' :=
 ⟨hg.os.trans h.os, hg.tape.trans h.tape, hg.output.trans h.output, Nat.le_trans h.size hg.size, fun b hb => by
  rw [hg.block b (Nat.lt_of_lt_of_le hb h.size) (fun e => by have := hr b e.symm; omega)]; exact h.block b hb⟩

theorem flat_at {sz : Nat} : ∀ (l : List (List Value)), (∀ e ∈ l, e.length = sz) → ∀ i j, j < sz → l.flatten[i * sz + j]? = (l[i]?).bind (·[j]?)
 | [], _, i, j, _ => by simp
 | e :: l, h, 0, j, hj => by
  have he := h e (by simp)
  rw [List.flatten_cons, Nat.zero_mul, Nat.zero_add, List.getElem?_append_left (by omega)]; rfl
 | e :: l, h, i + 1, j, hj => by
  have he := h e (by simp)
  have e1 : (i + 1) * sz + j = e.length + (i * sz + j) := by rw [he, Nat.succ_mul]; omega
  rw [List.flatten_cons, e1, List.getElem?_append_right (by omega), Nat.add_sub_cancel_left, flat_at l (fun x hx => h x (by simp [hx])) i j hj]; rfl
theorem wpList_append_run {P : Program} {w : World} {ops : Array Oper} {rest : List Oper} {o : Oper} {a : Act} {Q : Exit → Act → World → Prop} (hgd : o.guard = none) (s x : Operand) (t : TypeId)
  (ho : o.op = .call { callee := .builtin .append, args := #[s, x], argTypes := #[t, t] }) (v1 v2 v' : Value) (w' : World) (hs : a.eval s = v1) (hx : a.eval x = v2)
  (hrun : ∀ ty, (Builtin.append_ #[t, t] ty #[v1, v2]).run P w = .ok v' w') (h : wpList P ops Q rest (a.put o.dst v') w') : wpList P ops Q (o :: rest) a w := by
 refine wpList_plain hgd fun K hK => ?_
 unfold Oper.wp
 simp [execOp, ho, resolve, invoke, builtin, hs, hx, hrun, Result.andThen]
 exact hK _ _ h

theorem run_append_empty {P : Program} {w : World} (t ty e : TypeId) (i : TypeInfo) (ht : P.underlying t = some (.slice e)) (hi : P.info? e = some i) (A : Option Addr) (c : Nat) :
  (Builtin.append_ #[t, t] ty #[.slice none 0 0, .slice A 0 c]).run P w = .ok (.slice none 0 0) w := by
 cases A with
 | none => simp [Builtin.append_, run_underlying ht, sizeOf, typeInfo, hi, Builtin.lenOf, Builtin.firstCells]
 | some a =>
  have hf := run_firstCells_some (P := P) w i.size 0 a 0 c [] (by simp) (by simp)
  simp [Builtin.append_, run_underlying ht, sizeOf, typeInfo, hi, Builtin.lenOf, hf]

def raw (w : World) (b o m : Nat) : List Value := (List.range m).map fun j => (w.cell? ⟨b, o + j, none⟩).getD (.bool false)
theorem raw_length (w : World) (b o m : Nat) : (raw w b o m).length = m := by simp [raw]
theorem raw_at {w : World} {b o m : Nat} (h : ∀ j, j < m → (w.cell? ⟨b, o + j, none⟩).isSome = true) {j : Nat} (hj : j < m) : (raw w b o m)[j]? = w.cell? ⟨b, o + j, none⟩ := by
 have := h j hj
 rw [Option.isSome_iff_exists] at this
 obtain ⟨u, hu⟩ := this
 simp [raw, hj, hu]
theorem raw_cell {w : World} {b o m : Nat} (h : ∀ j, j < m → (w.cell? ⟨b, o + j, none⟩).isSome = true) (j : Nat) (u : Value) (hu : (raw w b o m)[j]? = some u) : w.cell? ((⟨b, o, none⟩ : Addr).add j) = some u := by
 have hj : j < m := by
  have := (List.getElem?_eq_some_iff.1 hu).1
  rwa [raw_length] at this
 rw [raw_at h hj] at hu
 rw [← hu]
 unfold Addr.add
 by_cases h0 : j = 0
 ·subst h0; rfl
 ·rw [if_neg h0]

def Cloned (w : World) (A : Option Addr) (n sz E : Nat) (w' : World) (A' : Option Addr) : Prop :=
 (n = 0 ∧ w' = w ∧ A' = none) ∨
 (0 < n ∧ ∃ b o cs, A = some ⟨b, o, none⟩ ∧ A' = some ⟨w.heap.size, 0, none⟩ ∧ w' = w.drew.alloc (.cells cs E) ∧ ∀ j, j < n * sz → cs[j]? = w.cell? ⟨b, o + j, none⟩)

def There (w : World) (A : Option Addr) (n sz : Nat) : Prop := n = 0 ∨ ∃ b o, A = some ⟨b, o, none⟩ ∧ ∀ j, j < n * sz → (w.cell? ⟨b, o + j, none⟩).isSome = true

theorem run_fresh {P : Program} (w : World) (t e : TypeId) (i : TypeInfo) (z : Value) (ht : P.underlying t = some (.slice e)) (hi : P.info? e = some i) (hz : i.zero = some z) (A : Option Addr) (n c : Nat)
  (hth : There w A n i.size) (hn : n ≤ 1000) (hby : i.bytes ≤ 1000) :
  ∃ A' c' w', (∀ ty, (Builtin.append_ #[t, t] ty #[.slice none 0 0, .slice A n c]).run P w = .ok (.slice A' n c') w') ∧ Cloned w A n i.size e w' A' ∧ n ≤ c' := by
 by_cases h0 : n = 0
 ·subst h0
  exact ⟨none, 0, w, fun ty => run_append_empty t ty e i ht hi A c, Or.inl ⟨rfl, rfl, rfl⟩, Nat.le_refl _⟩
 ·rcases hth with h | ⟨b, o, rfl, hc⟩
  ·exact absurd h h0
  ·have hm : n * i.bytes ≤ 1000 * 1000 := Nat.mul_le_mul hn hby
   refine ⟨_, _, _, fun ty => run_append_nil w t ty e i z ht hi hz ⟨b, o, none⟩ n c (raw w b o (n * i.size)) (raw_length _ _ _ _) (raw_cell hc) (by omega) (by omega) (by omega), Or.inr ⟨by omega, b, o, _, rfl, rfl, rfl, fun j hj => ?_⟩, grownCap_ge _ _ _ _⟩
   rw [Array.getElem?_append_left (by simpa [raw_length] using hj), List.getElem?_toArray, raw_at hc hj]

theorem infI3 : (Tryz.prog.info? 3).map (fun i => (i.zero, i.size, i.bytes)) = some (some (.int .i64 0), 1, 8) := by kernel_rfl
theorem infoM : (Tryz.prog.info? 90).map (fun i => (i.zero, i.size, i.bytes)) = some (some (.agg #[.int .i64 0, .int .i64 0, .int .i64 0, .int .i64 0, .int .i64 0, .slice none 0 0]), 6, 64) := by kernel_rfl
theorem fresh_ints (ok : Nat → Prop) (w : World) (A : Option Addr) (c : Nat) (l : List Int) (h : Ints ok w (.slice A l.length c) l) (hl : l.length ≤ 1000) :
  ∃ A' c' w', (∀ ty, (Builtin.append_ #[54, 54] ty #[.slice none 0 0, .slice A l.length c]).run Tryz.prog w = .ok (.slice A' l.length c') w') ∧ Ints (fun b => w.heap.size ≤ b) w' (.slice A' l.length c') l ∧ Below w.heap.size w w' := by
 obtain ⟨i0, hi0, hz0, hz1, hz2⟩ := info_parts infI3
 have hth : There w A l.length 1 := by
  by_cases h0 : l.length = 0
  ·exact Or.inl h0
  ·obtain ⟨b, o, rfl, _, hlt, hc⟩ := h.at (by omega)
   refine Or.inr ⟨b, o, rfl, fun j hj => ?_⟩
   obtain ⟨x, hx⟩ := at_lt (l := l) (k := j) (by omega)
   have := hc j x hx
   unfold rInt at this
   rw [Nat.mul_one] at this
   rw [this]; rfl
 obtain ⟨A', c', w', hrun, hcl, hcc⟩ := run_fresh (P := Tryz.prog) w 54 3 i0 _ Tryz.underlying54 hi0 hz0 A l.length c (by rw [hz1]; exact hth) hl (by omega)
 rw [hz1] at hcl
 refine ⟨A', c', w', hrun, ?_, ?_⟩
 ·rcases hcl with ⟨h0, rfl, rfl⟩ | ⟨h0, b, o, cs, rfl, rfl, rfl, hcs⟩
  ·exact ⟨_, _, rfl, by omega, hcc, Or.inl (List.length_eq_zero_iff.1 h0)⟩
  ·obtain ⟨b', o', e, _, hlt, hc⟩ := h.at (by omega)
   cases e
   refine ⟨_, _, rfl, by omega, hcc, Or.inr ⟨w.heap.size, 0, rfl, Nat.le_refl _, by simp, fun k x hx => ?_⟩⟩
   have hk := (List.getElem?_eq_some_iff.1 hx).1
   have h1 := hc k x hx
   unfold rInt at *
   rw [Nat.mul_one] at h1
   rw [Nat.zero_add, Nat.mul_one, cell_of_row _ _ _ _ _ _ (heap_new2 (w := w.drew) (n := w.heap.size) rfl), hcs k (by omega)]
   exact h1
 ·rcases hcl with ⟨_, rfl, _⟩ | ⟨_, b, o, cs, _, _, rfl, _⟩
  ·exact bRefl _
  ·exact bAlloc (bRefl w).drew _

def mrow (m : PMsg) (u : Value) : List Value := [.int .i64 m.id.f, .int .i64 m.id.n, .int .i64 m.id.c, .int .i64 m.nt.to, .int .i64 m.nt.hd, u]
structure MT (P : Nat → Prop) (base : Nat) (w : World) (v : Value) (l : List PMsg) (us : List Value) : Prop where
 own : w.ownsRow base 90 6 v l.length ((List.zipWith mrow l us).flatten)
 len : us.length = l.length
 rd : ∀ (k : Nat) (n : PMsg) (u : Value), l[k]? = some n → us[k]? = some u → Ints (fun b => P b ∧ v.ownBlock ≠ some b) w u n.nt.args
section
variable {P : Nat → Prop} {base : Nat} {w w1 w' : World} {v : Value} {l : List PMsg} {us : List Value}
theorem MT.same (h : MT P base w v l us) (hz : w.heap.size ≤ w'.heap.size) (hs : ∀ b, b < w.heap.size → P b ∨ v.ownBlock = some b → w'.heap[b]? = w.heap[b]?) : MT P base w' v l us :=
 ⟨own_block h.own fun g hg hlt => hs g hlt (Or.inr hg), h.len, fun k n u hn hu => (h.rd k n u hn hu).same ⟨hz, fun b hb hlt => hs b hlt (Or.inl hb.1)⟩⟩
theorem MT.below (h : MT P base w v l us) (hb : Below w.heap.size w w') : MT P base w' v l us := h.same hb.size fun b hlt _ => hb.block b hlt
theorem MT.form (h : MT P base w v l us) : ∃ A c, v = .slice A l.length c := by
 obtain ⟨h1, h2⟩ := h.own
 rcases h2 with ⟨rfl, h2⟩ | ⟨g, cap, cur, rfl, _⟩
 ·exact ⟨none, 0, by rw [h2]⟩
 ·exact ⟨_, cap, rfl⟩
theorem MT.nil (P : Nat → Prop) (base : Nat) (w : World) : MT P base w (.slice none 0 0) [] [] :=
 ⟨⟨rfl, Or.inl ⟨rfl, rfl⟩⟩, rfl, fun k n u hn => by simp at hn⟩
theorem zip_len : ∀ (l : List PMsg) (us : List Value), ∀ e ∈ List.zipWith mrow l us, e.length = 6
 | [], _, e, he => by simp at he
 | _ :: _, [], e, he => by simp at he
 | n :: l, u :: us, e, he => by
  rw [List.zipWith_cons_cons, List.mem_cons] at he
  rcases he with rfl | he
  ·rfl
  ·exact zip_len l us e he
theorem MT.push {g cap m : Nat} {ms : List PMsg} {xs : List Value} (h : MT P base w v l us) (hm : ms.length = m) (hx : xs.length = ms.length)
  (ho : w'.ownsRow base 90 6 (.slice (some ⟨g, 0, none⟩) (l.length + m) cap) (l.length + m) ((List.zipWith mrow l us).flatten ++ (List.zipWith mrow ms xs).flatten))
  (hg : w.grownBy w' v.ownBlock) (hat : v.ownBlock = some g ∨ g = w.heap.size) (hu : ∀ (k : Nat) (n : PMsg) (u : Value), ms[k]? = some n → xs[k]? = some u → Ints (fun b => P b ∧ v.ownBlock ≠ some b) w u n.nt.args) :
  MT P base w' (.slice (some ⟨g, 0, none⟩) (l.length + m) cap) (l ++ ms) (us ++ xs) := by
 have hge : ∀ b, (Value.slice (some ⟨g, 0, none⟩) (l.length + m) cap).ownBlock = some b → b = g := fun b hb => (Option.some.inj hb).symm
 have key : ∀ (n : PMsg) (u : Value), Ints (fun b => P b ∧ v.ownBlock ≠ some b) w u n.nt.args → Ints (fun b => P b ∧ (Value.slice (some ⟨g, 0, none⟩) (l.length + m) cap).ownBlock ≠ some b) w' u n.nt.args := fun n u h1 =>
  h1.lt.imp (fun b hb => ⟨hb.1.1, fun e => by
   have := hge b e
   subst this
   rcases hat with hat | hat
   ·exact hb.1.2 hat
   ·have := hb.2; omega⟩) hg.size fun b o x hb hlt hr => (World.cell?_of_block (w := w) (hg.block b hlt (fun e => hb.1.2 e.symm))).trans hr
 refine ⟨?_, by simp [h.len, hx], fun k n' u' hn hu' => ?_⟩
 ·rw [List.length_append, hm, List.zipWith_append (by rw [h.len]), List.flatten_append]
  exact ho
 ·by_cases hk : k < l.length
  ·rw [List.getElem?_append_left hk] at hn
   rw [List.getElem?_append_left (by rw [h.len]; exact hk)] at hu'
   exact key _ _ (h.rd k n' u' hn hu')
  ·rw [List.getElem?_append_right (by omega)] at hn
   rw [List.getElem?_append_right (by rw [h.len]; omega), h.len] at hu'
   exact key _ _ (hu _ n' u' hn hu')
theorem MT.msgs2 (h : MT P base w v l us) (hl : l.length ≤ 1000000) : Msgs (fun b => base ≤ b ∧ v.ownBlock = some b) (fun b => P b ∧ v.ownBlock ≠ some b) w v l := by
 obtain ⟨h1, h2⟩ := h.own
 rcases h2 with ⟨rfl, h2⟩ | ⟨g, cap, cur, rfl, hb, hh, h3, h4, h5, h6⟩
 ·have : l = [] := by cases l with | nil => rfl | cons _ _ => simp at h2
  subst this; exact ⟨_, _, rfl, by simp, by simp, Or.inl rfl⟩
 ·refine ⟨_, cap, rfl, by omega, h3, Or.inr ⟨g, 0, rfl, ⟨hb, rfl⟩, (Array.getElem?_eq_some_iff.1 hh).1, fun k n hn => ?_⟩⟩
  have hk := (List.getElem?_eq_some_iff.1 hn).1
  obtain ⟨u, hu⟩ := at_lt (l := us) (k := k) (by rw [h.len]; exact hk)
  have hz : (List.zipWith mrow l us)[k]? = some (mrow n u) := by rw [List.getElem?_zipWith, hn, hu]
  have hcell : ∀ j, j < l.length * 6 → w.cell? ⟨g, j, none⟩ = ((List.zipWith mrow l us).flatten)[j]? := fun j hj => by
   rw [cell_of_row _ _ _ _ _ _ hh, ← h6, List.getElem?_take, if_pos hj]; simp
  have hc : ∀ j, j < 6 → w.cell? ⟨g, 0 + k * 6 + j, none⟩ = (mrow n u)[j]? := fun j hj => by
   rw [Nat.zero_add, hcell _ (by omega), flat_at _ (zip_len l us) k j hj, hz]; rfl
  exact ⟨hc 0 (by omega), hc 1 (by omega), hc 2 (by omega), hc 3 (by omega), hc 4 (by omega), u, hc 5 (by omega), h.rd k n u hn hu⟩
def nO (N : Nat) (u : Value) : Nat → Prop := fun b => N ≤ b ∧ u.ownBlock = some b
def nI (N : Nat) (u : Value) : Nat → Prop := fun b => N ≤ b ∧ u.ownBlock ≠ some b
theorem nO.le {N M : Nat} {u : Value} (h : N ≤ M) : ∀ b, nO M u b → nO N u b := fun _ hb => ⟨Nat.le_trans h hb.1, hb.2⟩
theorem nI.le {N M : Nat} {u : Value} (h : N ≤ M) : ∀ b, nI M u b → nI N u b := fun _ hb => ⟨Nat.le_trans h hb.1, hb.2⟩
end

set_option maxHeartbeats 1000000 in
set_option maxRecDepth 100000 in
theorem another_any (ok : Nat → Prop) (w : World) (v : Value) (m : PMsg) (h : MsgV ok w v m) (hl : m.nt.args.length ≤ 1000) :
  Calls Tryz.prog 107 #[v] w fun e w' => ∃ u, e = .returned (mVal m u) ∧ Ints (fun b => w.heap.size ≤ b) w' u m.nt.args ∧ Below w.heap.size w w' := by
 obtain ⟨c, rfl, hr⟩ := h
 obtain ⟨A, d, rfl, hlen⟩ := hr.form
 have hbb : Below w.heap.size w ((w.alloc (.cells #[.int .i64 m.id.f, .int .i64 m.id.n, .int .i64 m.id.c, .int .i64 m.nt.to, .int .i64 m.nt.hd, .slice A m.nt.args.length d] 90)).alloc (.cells #[.int .i64 0, .int .i64 0, .int .i64 0, .int .i64 0, .int .i64 0, .slice none 0 0] 90)) := bAlloc (bAlloc (bRefl w) _) _
 obtain ⟨A1, d1, w1, hrun, hI, hb1⟩ := fresh_ints ok _ A d m.nt.args (hr.below hbb) hl
 have k0 : w1.heap[w.heap.size]? = some (.cells #[.int .i64 m.id.f, .int .i64 m.id.n, .int .i64 m.id.c, .int .i64 m.nt.to, .int .i64 m.nt.hd, .slice A m.nt.args.length d] 90) := (hb1.block _ (by first | (simp; done) | (simp; omega))).trans ((Below.heap_alloc _ _ _ (by first | (simp; done) | (simp; omega))).trans (heap_new _ _))
 have k1 : w1.heap[w.heap.size + 1]? = some (.cells #[.int .i64 0, .int .i64 0, .int .i64 0, .int .i64 0, .int .i64 0, .slice none 0 0] 90) := (hb1.block _ (by first | (simp; done) | (simp; omega))).trans (heap_new2 (by simp))
 have xf : ∀ j, w1.frozen? ⟨w.heap.size, j, none⟩ = false := fun j => by simp [World.frozen?, k0]
 have yf : ∀ j, w1.frozen? ⟨w.heap.size + 1, j, none⟩ = false := fun j => by simp [World.frozen?, k1]
 obtain ⟨x0, x1, x2, x3, x4, x5⟩ := blk6 k0
 obtain ⟨y0, y1, y2, y3, y4, y5⟩ := blk6 k1
 have HI : Hid (Ints (fun b => ((w.alloc (.cells #[.int .i64 m.id.f, .int .i64 m.id.n, .int .i64 m.id.c, .int .i64 m.nt.to, .int .i64 m.nt.hd, .slice A m.nt.args.length d] 90)).alloc (.cells #[.int .i64 0, .int .i64 0, .int .i64 0, .int .i64 0, .int .i64 0, .slice none 0 0] 90)).heap.size ≤ b) w1 (.slice A1 m.nt.args.length d1) m.nt.args) := hI
 have HB : Hid (Below w.heap.size w w1) := bTrans hbb hb1
 have HR : Hid (∀ ty, (Builtin.append_ #[54, 54] ty #[.slice none 0 0, .slice A m.nt.args.length d]).run Tryz.prog ((w.alloc (.cells #[.int .i64 m.id.f, .int .i64 m.id.n, .int .i64 m.id.c, .int .i64 m.nt.to, .int .i64 m.nt.hd, .slice A m.nt.args.length d] 90)).alloc (.cells #[.int .i64 0, .int .i64 0, .int .i64 0, .int .i64 0, .int .i64 0, .slice none 0 0] 90)) = .ok (.slice A1 m.nt.args.length d1) w1) := hrun
 clear hrun hI hb1 hbb k0 k1 hr
 go_enter Tryz.func107, Tryz.ntmps107
 go_wp2_with (at_builtin; refine wpList_append_run rfl _ _ 54 rfl _ _ _ _ rfl rfl HR.out ?_)
 refine bodyPost_ret (v := mVal m (.slice A1 m.nt.args.length d1)) (by simp [results, Tryz.results107, go_sem, *]) rfl ⟨_, rfl, ?_, ?_⟩
 ·refine Ints.weak (ok := fun b => w.heap.size + 1 + 1 ≤ b) (Ints.same (w := w1) (HI.out.weak fun b hb => by simpa using hb) ?_) fun b hb => by omega
  refine ⟨by simp, fun b hb _ => ?_⟩
  repeat (refine (Below.heap_setCell _ _ _ _ (fun e => by first | (have e' : b = w.heap.size := e; omega) | (have e' : b = w.heap.size + 1 := e; omega))).trans ?_)
  rfl
 ·repeat (refine Below.setCell ?_ (by first | (simp; done) | (simp; omega)) _)
  exact HB.out
end Go.Proofs.YtfbeiedhdmndnaaGreatDoor
