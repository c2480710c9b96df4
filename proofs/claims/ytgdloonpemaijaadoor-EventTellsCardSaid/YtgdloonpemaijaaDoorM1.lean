/-
  Messages as plain data; and what it means that a world holds them: readings, cell by cell, that stay where nothing old has turned. No conditions.
-/
import Derived.Test.YtgdloonpemaijaaDoorRows
import Derived.Test.YtgdloonpemaijaaDoorDw
import Derived.WalkKit
import Derived.WalkSpells
import Derived.WalkLawsBesides
import Derived.Deep.QuietTactic
import Derived.BigQuiet
import Derived.Deep.LoopGhost
import Derived.Deep.RegionHeld3
import Derived.Deep.DrawnRows
import Derived.Deep.OwnRows
import Derived.Deep.AppendLies
import Derived.Deep.AppendSrc
import Derived.OwnWalk
import Derived.Laws.StructEq
import Derived.KernelRfl
namespace Go.Proofs.YtgdloonpemaijaaDoor
open Go.RowKit

structure PID where
  f : Int
  n : Int
  c : Int
  deriving DecidableEq, Inhabited
structure PMsg where
  id : PID
  nt : PNte
  deriving DecidableEq, Inhabited
def cmpI (a b : Int) : Int := if a < b then -1 else if b < a then 1 else 0
def or3 (a b c : Int) : Int := if a ≠ 0 then a else if b ≠ 0 then b else c
def cmpD (a b : PID) : Int := or3 (cmpI a.f b.f) (cmpI a.n b.n) (cmpI a.c b.c)
def lessD (a b : PID) : Bool := decide (cmpD a b < 0)
theorem cmpI_lt {a b : Int} : cmpI a b < 0 ↔ a < b := by unfold cmpI; split <;> (try split) <;> omega
theorem cmpI_eq {a b : Int} : cmpI a b = 0 ↔ a = b := by unfold cmpI; split <;> (try split) <;> omega
theorem cmpI_gt {a b : Int} : 0 < cmpI a b ↔ b < a := by unfold cmpI; split <;> (try split) <;> omega
theorem cmpD_lt {a b : PID} : cmpD a b < 0 ↔ a.f < b.f ∨ (a.f = b.f ∧ (a.n < b.n ∨ (a.n = b.n ∧ a.c < b.c))) := by
  have h1 := @cmpI_lt a.f b.f; have h2 := @cmpI_eq a.f b.f; have h3 := @cmpI_lt a.n b.n; have h4 := @cmpI_eq a.n b.n; have h5 := @cmpI_lt a.c b.c
  unfold cmpD or3
  generalize cmpI a.f b.f = p at *
  generalize cmpI a.n b.n = q at *
  generalize cmpI a.c b.c = r at *
  split
  · omega
  · split <;> omega
theorem cmpD_eq {a b : PID} : cmpD a b = 0 ↔ a = b := by
  have h2 := @cmpI_eq a.f b.f; have h4 := @cmpI_eq a.n b.n; have h5 := @cmpI_eq a.c b.c
  have e : a = b ↔ a.f = b.f ∧ a.n = b.n ∧ a.c = b.c := by
    obtain ⟨f, n, c⟩ := a; obtain ⟨f', n', c'⟩ := b; simp
  rw [e]
  unfold cmpD or3
  generalize cmpI a.f b.f = p at *
  generalize cmpI a.n b.n = q at *
  generalize cmpI a.c b.c = r at *
  split
  · omega
  · split <;> omega
theorem lessD_iff {a b : PID} : lessD a b = true ↔ a.f < b.f ∨ (a.f = b.f ∧ (a.n < b.n ∨ (a.n = b.n ∧ a.c < b.c))) := by unfold lessD; rw [decide_eq_true_eq]; exact cmpD_lt

def rMsg (ok : Nat → Prop) (w : World) (b o : Nat) (m : PMsg) : Prop :=
  w.cell? ⟨b, o, none⟩ = some (.int .i64 m.id.f) ∧ w.cell? ⟨b, o + 1, none⟩ = some (.int .i64 m.id.n) ∧ w.cell? ⟨b, o + 2, none⟩ = some (.int .i64 m.id.c) ∧
  w.cell? ⟨b, o + 3, none⟩ = some (.int .i64 m.nt.to) ∧ w.cell? ⟨b, o + 4, none⟩ = some (.int .i64 m.nt.hd) ∧ ∃ v, w.cell? ⟨b, o + 5, none⟩ = some v ∧ Ints ok w v m.nt.args
abbrev Msgs (out inn : Nat → Prop) := Sl 6 (rMsg inn) out
abbrev dV (a : PID) : Value := .agg #[.int .i64 a.f, .int .i64 a.n, .int .i64 a.c]
abbrev mVal (m : PMsg) (c : Value) : Value := .agg #[.int .i64 m.id.f, .int .i64 m.id.n, .int .i64 m.id.c, .int .i64 m.nt.to, .int .i64 m.nt.hd, c]
abbrev mRow (m : PMsg) (c : Value) : List Value := [.int .i64 m.id.f, .int .i64 m.id.n, .int .i64 m.id.c, .int .i64 m.nt.to, .int .i64 m.nt.hd, c]
def MsgV (ok : Nat → Prop) (w : World) (v : Value) (m : PMsg) : Prop := ∃ c, v = mVal m c ∧ Ints ok w c m.nt.args

section
variable {w w' : World} {ok ok' : Nat → Prop} {v : Value} {b o : Nat}

theorem Msgs.same {inn : Nat → Prop} {l : List PMsg} (h : Msgs ok inn w v l) (s : Same ok w w') (t : Same inn w w') : Msgs ok inn w' v l :=
  h.imp (fun _ h => h) s.size fun _ _ _ hk hb ⟨h1, h2, h3, h4, h5, c, h6, h7⟩ => ⟨(s.cell hk hb).trans h1, (s.cell hk hb).trans h2, (s.cell hk hb).trans h3, (s.cell hk hb).trans h4, (s.cell hk hb).trans h5, c, (s.cell hk hb).trans h6, h7.same t⟩
theorem Msgs.below {inn : Nat → Prop} {l : List PMsg} (h : Msgs ok inn w v l) (hb : Below w.heap.size w w') : Msgs ok inn w' v l := h.same (Same.all hb) (Same.all hb)
theorem MsgV.below {x : PMsg} (h : MsgV ok w v x) (hb : Below w.heap.size w w') : MsgV ok w' v x := let ⟨c, h1, h2⟩ := h; ⟨c, h1, h2.below hb⟩
theorem Ints.weak {l : List Int} (h : Ints ok w v l) (k : ∀ b, ok b → ok' b) : Ints ok' w v l := h.imp k (Nat.le_refl _) fun _ _ _ _ _ h => h
theorem Msgs.weak {inn inn' : Nat → Prop} {l : List PMsg} (h : Msgs ok inn w v l) (k : ∀ b, ok b → ok' b) (k' : ∀ b, inn b → inn' b) : Msgs ok' inn' w v l :=
  h.imp k (Nat.le_refl _) fun _ _ _ _ _ ⟨h1, h2, h3, h4, h5, c, h6, h7⟩ => ⟨h1, h2, h3, h4, h5, c, h6, h7.weak k'⟩
theorem Msgs.any2 {inn : Nat → Prop} {l : List PMsg} (h : Msgs ok inn w v l) : Msgs anyB anyB w v l := h.weak (fun _ _ => trivial) (fun _ _ => trivial)

end

theorem ret_i {a b : Int} (h : a = b) : Ending.returned (.int .i64 a) = .returned (.int .i64 b) := by rw [h]
theorem Msgs.cell {out inn : Nat → Prop} {w wr : World} {A : Option Addr} {n c : Nat} {l : List PMsg} (h : Msgs out inn w (.slice A n c) l) (hb : Below w.heap.size w wr) {k : Nat} (hk : k < l.length) :
    ∃ b o x v, A = some ⟨b, o, none⟩ ∧ l[k]? = some x ∧ b < wr.heap.size ∧ wr.cell? ⟨b, o + k * 6, none⟩ = some (.int .i64 x.id.f) ∧ wr.cell? ⟨b, o + k * 6 + 1, none⟩ = some (.int .i64 x.id.n) ∧ wr.cell? ⟨b, o + k * 6 + 2, none⟩ = some (.int .i64 x.id.c) ∧
      wr.cell? ⟨b, o + k * 6 + 3, none⟩ = some (.int .i64 x.nt.to) ∧ wr.cell? ⟨b, o + k * 6 + 4, none⟩ = some (.int .i64 x.nt.hd) ∧ wr.cell? ⟨b, o + k * 6 + 5, none⟩ = some v ∧ Ints inn wr v x.nt.args := by
  obtain ⟨x, hx⟩ := at_lt hk
  obtain ⟨b, o, rfl, _, hlt, hc⟩ := h.at (by omega)
  obtain ⟨h1, h2, h3, h4, h5, v, h6, h7⟩ := hc k x hx
  exact ⟨b, o, x, v, rfl, hx, Nat.lt_of_lt_of_le hlt hb.size, (hb.cell (p := ⟨b, _, none⟩) hlt).trans h1, (hb.cell (p := ⟨b, _, none⟩) hlt).trans h2, (hb.cell (p := ⟨b, _, none⟩) hlt).trans h3, (hb.cell (p := ⟨b, _, none⟩) hlt).trans h4, (hb.cell (p := ⟨b, _, none⟩) hlt).trans h5, (hb.cell (p := ⟨b, _, none⟩) hlt).trans h6, h7.below hb⟩
theorem heap_new2 {w : World} {o : Obj} {n : Nat} (h : w.heap.size = n) : (w.alloc o).heap[n]? = some o := by subst h; exact heap_new _ _
theorem blk3 {b : Nat} {x y z : Value} {t : TypeId} {w : World} (h : w.heap[b]? = some (.cells #[x, y, z] t)) : w.cell? ⟨b, 0, none⟩ = some x ∧ w.cell? ⟨b, 1, none⟩ = some y ∧ w.cell? ⟨b, 2, none⟩ = some z := ⟨by rw [cell_of_row _ _ _ _ _ _ h]; rfl, by rw [cell_of_row _ _ _ _ _ _ h]; rfl, by rw [cell_of_row _ _ _ _ _ _ h]; rfl⟩
theorem blk6 {b : Nat} {v0 v1 v2 v3 v4 v5 : Value} {t : TypeId} {w : World} (h : w.heap[b]? = some (.cells #[v0, v1, v2, v3, v4, v5] t)) : w.cell? ⟨b, 0, none⟩ = some v0 ∧ w.cell? ⟨b, 1, none⟩ = some v1 ∧ w.cell? ⟨b, 2, none⟩ = some v2 ∧ w.cell? ⟨b, 3, none⟩ = some v3 ∧ w.cell? ⟨b, 4, none⟩ = some v4 ∧ w.cell? ⟨b, 5, none⟩ = some v5 :=
  ⟨by rw [cell_of_row _ _ _ _ _ _ h]; rfl, by rw [cell_of_row _ _ _ _ _ _ h]; rfl, by rw [cell_of_row _ _ _ _ _ _ h]; rfl, by rw [cell_of_row _ _ _ _ _ _ h]; rfl, by rw [cell_of_row _ _ _ _ _ _ h]; rfl, by rw [cell_of_row _ _ _ _ _ _ h]; rfl⟩
end Go.Proofs.YtgdloonpemaijaaDoor
