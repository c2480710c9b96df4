/-
  Messages as plain data; and what it means that a world holds them: readings, cell by cell, that stay where nothing old has turned. No conditions.
-/
import Derived.Test.YtjdkbgeehjihfaaRows
import Derived.WalkKit
import Derived.WalkSpells
import Derived.WalkLawsBesides
import Derived.Deep.QuietTactic
import Derived.BigQuiet
import Derived.Deep.LoopGhost
import Derived.Deep.RegionHeld3
import Derived.Deep.DrawnRows
import Derived.Deep.OwnRows
import Derived.Deep.AppendLies
import Derived.Deep.AppendSrc
import Derived.OwnWalk
import Derived.Laws.StructEq
import Derived.KernelRfl
namespace Go.Proofs.Ytjdkbgeehjihfaa
open Go.RowKit

structure PID where
  f : Int
  n : Int
  c : Int
  deriving DecidableEq, Inhabited
structure PNte where
  to : Int
  hd : Int
  args : List Int
  deriving DecidableEq, Inhabited
structure PMsg where
  id : PID
  nt : PNte
  deriving DecidableEq, Inhabited
def cmpI (a b : Int) : Int := if a < b then -1 else if b < a then 1 else 0
def or3 (a b c : Int) : Int := if a ≠ 0 then a else if b ≠ 0 then b else c
def cmpD (a b : PID) : Int := or3 (cmpI a.f b.f) (cmpI a.n b.n) (cmpI a.c b.c)
def lessD (a b : PID) : Bool := decide (cmpD a b < 0)
theorem cmpI_lt {a b : Int} : cmpI a b < 0 ↔ a < b := by unfold cmpI; split <;> (try split) <;> omega
theorem cmpI_eq {a b : Int} : cmpI a b = 0 ↔ a = b := by unfold cmpI; split <;> (try split) <;> omega
theorem cmpI_gt {a b : Int} : 0 < cmpI a b ↔ b < a := by unfold cmpI; split <;> (try split) <;> omega
theorem cmpD_lt {a b : PID} : cmpD a b < 0 ↔ a.f < b.f ∨ (a.f = b.f ∧ (a.n < b.n ∨ (a.n = b.n ∧ a.c < b.c))) := by
  have h1 := @cmpI_lt a.f b.f; have h2 := @cmpI_eq a.f b.f; have h3 := @cmpI_lt a.n b.n; have h4 := @cmpI_eq a.n b.n; have h5 := @cmpI_lt a.c b.c
  unfold cmpD or3
  generalize cmpI a.f b.f = p at *
  generalize cmpI a.n b.n = q at *
  generalize cmpI a.c b.c = r at *
  split
  · omega
  · split <;> omega
theorem cmpD_eq {a b : PID} : cmpD a b = 0 ↔ a = b := by
  have h2 := @cmpI_eq a.f b.f; have h4 := @cmpI_eq a.n b.n; have h5 := @cmpI_eq a.c b.c
  have e : a = b ↔ a.f = b.f ∧ a.n = b.n ∧ a.c = b.c := by
    obtain ⟨f, n, c⟩ := a; obtain ⟨f', n', c'⟩ := b; simp
  rw [e]
  unfold cmpD or3
  generalize cmpI a.f b.f = p at *
  generalize cmpI a.n b.n = q at *
  generalize cmpI a.c b.c = r at *
  split
  · omega
  · split <;> omega
theorem lessD_iff {a b : PID} : lessD a b = true ↔ a.f < b.f ∨ (a.f = b.f ∧ (a.n < b.n ∨ (a.n = b.n ∧ a.c < b.c))) := by unfold lessD; rw [decide_eq_true_eq]; exact cmpD_lt

/-- Are two things one? (A name of its own, that does not unfold by itself.) -/
def eqB {α : Type} [DecidableEq α] (a b : α) : Bool := decide (a = b)
theorem eqB_yes {α : Type} [DecidableEq α] {a b : α} (h : a = b) : eqB a b = true := decide_eq_true h
theorem eqB_no {α : Type} [DecidableEq α] {a b : α} (h : a ≠ b) : eqB a b = false := decide_eq_false h
theorem eqB_self {α : Type} [DecidableEq α] (a : α) : eqB a a = true := eqB_yes rfl

theorem drop_cons {α : Type} {l : List α} {k : Nat} {x : α} (h : l[k]? = some x) : l.drop k = x :: l.drop (k + 1) := by
  obtain ⟨hk, rfl⟩ := List.getElem?_eq_some_iff.1 h
  exact List.drop_eq_getElem_cons hk

theorem at_lt {α : Type} {l : List α} {k : Nat} (h : k < l.length) : ∃ x, l[k]? = some x := ⟨l[k], List.getElem?_eq_getElem h⟩

theorem take_eq {α : Type} {a b : List α} {k : Nat} {x y : α} (h : a.take k = b.take k) (hx : a[k]? = some x) (hy : b[k]? = some y) (e : x = y) : a.take (k + 1) = b.take (k + 1) := by
  rw [List.take_add_one, List.take_add_one, h, hx, hy, e]
theorem take_ne {α : Type} {a b : List α} {k : Nat} {x y : α} (hx : a[k]? = some x) (hy : b[k]? = some y) (e : x ≠ y) : a ≠ b := by
  rintro rfl
  exact e (Option.some.inj (hx.symm.trans hy))
theorem take_all {α : Type} {a b : List α} {k : Nat} (hl : a.length = b.length) (hk : ¬ k < a.length) (h : a.take k = b.take k) : a = b := by
  rwa [List.take_of_length_le (by omega), List.take_of_length_le (by omega)] at h
theorem len_ne {α : Type} {a b : List α} (h : a.length ≠ b.length) : a ≠ b := fun e => h (by rw [e])


/-- The slice v reads, in w, as l: element k stands at k * sz, in a block of which ok says yes. -/
def Sl {α : Type} (sz : Nat) (R : World → Nat → Nat → α → Prop) (ok : Nat → Prop) (w : World) (v : Value) (l : List α) : Prop :=
  ∃ A c, v = .slice A l.length c ∧ (l.length : Int) ≤ 9223372036854775807 ∧ l.length ≤ c ∧ (l = [] ∨ ∃ b o, A = some ⟨b, o, none⟩ ∧ ok b ∧ b < w.heap.size ∧ ∀ k x, l[k]? = some x → R w b (o + k * sz) x)

def rInt (w : World) (b o : Nat) (x : Int) : Prop := w.cell? ⟨b, o, none⟩ = some (.int .i64 x)
abbrev Ints (ok : Nat → Prop) := Sl 1 rInt ok
/-- Any block. -/
def anyB : Nat → Prop := fun _ => True
def rMsg (ok : Nat → Prop) (w : World) (b o : Nat) (m : PMsg) : Prop :=
  w.cell? ⟨b, o, none⟩ = some (.int .i64 m.id.f) ∧ w.cell? ⟨b, o + 1, none⟩ = some (.int .i64 m.id.n) ∧ w.cell? ⟨b, o + 2, none⟩ = some (.int .i64 m.id.c) ∧
  w.cell? ⟨b, o + 3, none⟩ = some (.int .i64 m.nt.to) ∧ w.cell? ⟨b, o + 4, none⟩ = some (.int .i64 m.nt.hd) ∧ ∃ v, w.cell? ⟨b, o + 5, none⟩ = some v ∧ Ints ok w v m.nt.args
abbrev Msgs (out inn : Nat → Prop) := Sl 6 (rMsg inn) out
abbrev dV (a : PID) : Value := .agg #[.int .i64 a.f, .int .i64 a.n, .int .i64 a.c]
def NteV (w : World) (v : Value) (n : PNte) : Prop := ∃ c, v = .agg #[.int .i64 n.to, .int .i64 n.hd, c] ∧ Ints anyB w c n.args
abbrev mVal (m : PMsg) (c : Value) : Value := .agg #[.int .i64 m.id.f, .int .i64 m.id.n, .int .i64 m.id.c, .int .i64 m.nt.to, .int .i64 m.nt.hd, c]
abbrev mRow (m : PMsg) (c : Value) : List Value := [.int .i64 m.id.f, .int .i64 m.id.n, .int .i64 m.id.c, .int .i64 m.nt.to, .int .i64 m.nt.hd, c]
def MsgV (ok : Nat → Prop) (w : World) (v : Value) (m : PMsg) : Prop := ∃ c, v = mVal m c ∧ Ints ok w c m.nt.args

section
variable {w w' : World} {ok ok' : Nat → Prop} {v : Value} {b o : Nat}

theorem Sl.imp {α : Type} {sz : Nat} {R R' : World → Nat → Nat → α → Prop} {l : List α} (h : Sl sz R ok w v l) (hok : ∀ b, ok b → ok' b) (hs : w.heap.size ≤ w'.heap.size)
    (hR : ∀ b o x, ok b → b < w.heap.size → R w b o x → R' w' b o x) : Sl sz R' ok' w' v l := by
  obtain ⟨A, c, rfl, hl, hc', h⟩ := h
  refine ⟨A, c, rfl, hl, hc', ?_⟩
  rcases h with h | ⟨b, o, rfl, hb, hlt, hc⟩
  · exact Or.inl h
  · exact Or.inr ⟨b, o, rfl, hok b hb, by omega, fun k x hx => hR b _ x hb hlt (hc k x hx)⟩

/-- The blocks that ok names are as they were. -/
structure Same (ok : Nat → Prop) (w w' : World) : Prop where
  size : w.heap.size ≤ w'.heap.size
  block : ∀ b, ok b → b < w.heap.size → w'.heap[b]? = w.heap[b]?
theorem Same.cell (h : Same ok w w') {b o : Nat} (hk : ok b) (hb : b < w.heap.size) : w'.cell? ⟨b, o, none⟩ = w.cell? ⟨b, o, none⟩ := World.cell?_of_block (w := w) (h.block b hk hb)
theorem Same.of_below {B : Nat} (h : Below B w w') : Same (fun b => b < B) w w' := ⟨h.size, fun b hb _ => h.block b hb⟩
theorem Same.all (h : Below w.heap.size w w') : Same ok w w' := ⟨h.size, fun b _ hb => h.block b hb⟩
theorem Same.weak (h : Same ok w w') (k : ∀ b, ok' b → ok b) : Same ok' w w' := ⟨h.size, fun b hb hl => h.block b (k b hb) hl⟩

theorem Sl.lt {α : Type} {sz : Nat} {R : World → Nat → Nat → α → Prop} {l : List α} (h : Sl sz R ok w v l) : Sl sz R (fun b => ok b ∧ b < w.heap.size) w v l := by
  obtain ⟨A, c, rfl, hl, hc', h⟩ := h
  refine ⟨A, c, rfl, hl, hc', ?_⟩
  rcases h with h | ⟨b, o, rfl, hb, hlt, hc⟩
  · exact Or.inl h
  · exact Or.inr ⟨b, o, rfl, ⟨hb, hlt⟩, hlt, hc⟩

theorem Sl.any {α : Type} {sz : Nat} {R : World → Nat → Nat → α → Prop} {l : List α} (h : Sl sz R ok w v l) : Sl sz R anyB w v l :=
  h.imp (fun _ _ => trivial) (Nat.le_refl _) fun _ _ _ _ _ h => h

theorem Ints.same {l : List Int} (h : Ints ok w v l) (s : Same ok w w') : Ints ok w' v l :=
  h.imp (fun _ h => h) s.size fun _ _ _ hk hb hr => (s.cell hk hb).trans hr
theorem Msgs.same {inn : Nat → Prop} {l : List PMsg} (h : Msgs ok inn w v l) (s : Same ok w w') (t : Same inn w w') : Msgs ok inn w' v l :=
  h.imp (fun _ h => h) s.size fun _ _ _ hk hb ⟨h1, h2, h3, h4, h5, c, h6, h7⟩ => ⟨(s.cell hk hb).trans h1, (s.cell hk hb).trans h2, (s.cell hk hb).trans h3, (s.cell hk hb).trans h4, (s.cell hk hb).trans h5, c, (s.cell hk hb).trans h6, h7.same t⟩
theorem Ints.below {l : List Int} (h : Ints ok w v l) (hb : Below w.heap.size w w') : Ints ok w' v l := h.same (Same.all hb)
theorem Msgs.below {inn : Nat → Prop} {l : List PMsg} (h : Msgs ok inn w v l) (hb : Below w.heap.size w w') : Msgs ok inn w' v l := h.same (Same.all hb) (Same.all hb)
theorem NteV.below {x : PNte} (h : NteV w v x) (hb : Below w.heap.size w w') : NteV w' v x := let ⟨c, h1, h2⟩ := h; ⟨c, h1, h2.below hb⟩
theorem MsgV.below {x : PMsg} (h : MsgV ok w v x) (hb : Below w.heap.size w w') : MsgV ok w' v x := let ⟨c, h1, h2⟩ := h; ⟨c, h1, h2.below hb⟩
theorem Ints.weak {l : List Int} (h : Ints ok w v l) (k : ∀ b, ok b → ok' b) : Ints ok' w v l := h.imp k (Nat.le_refl _) fun _ _ _ _ _ h => h
theorem Msgs.weak {inn inn' : Nat → Prop} {l : List PMsg} (h : Msgs ok inn w v l) (k : ∀ b, ok b → ok' b) (k' : ∀ b, inn b → inn' b) : Msgs ok' inn' w v l :=
  h.imp k (Nat.le_refl _) fun _ _ _ _ _ ⟨h1, h2, h3, h4, h5, c, h6, h7⟩ => ⟨h1, h2, h3, h4, h5, c, h6, h7.weak k'⟩
theorem Msgs.any2 {inn : Nat → Prop} {l : List PMsg} (h : Msgs ok inn w v l) : Msgs anyB anyB w v l := h.weak (fun _ _ => trivial) (fun _ _ => trivial)

/-- At a place that there is: the address, and what stands there. -/
theorem Sl.at {α : Type} {sz : Nat} {R : World → Nat → Nat → α → Prop} {l : List α} {A : Option Addr} {n c : Nat} (h : Sl sz R ok w (.slice A n c) l) (h0 : 0 < l.length) :
    ∃ b o, A = some ⟨b, o, none⟩ ∧ ok b ∧ b < w.heap.size ∧ ∀ k x, l[k]? = some x → R w b (o + k * sz) x := by
  obtain ⟨A', c', he, hl, _, h⟩ := h
  simp only [Value.slice.injEq] at he
  obtain ⟨rfl, _, _⟩ := he
  rcases h with rfl | h
  · simp at h0
  · exact h
theorem Sl.form {α : Type} {sz : Nat} {R : World → Nat → Nat → α → Prop} {l : List α} (h : Sl sz R ok w v l) : ∃ A c, v = .slice A l.length c ∧ (l.length : Int) ≤ 9223372036854775807 :=
  let ⟨A, c, h1, h2, _⟩ := h; ⟨A, c, h1, h2⟩
theorem Sl.cap {α : Type} {sz : Nat} {R : World → Nat → Nat → α → Prop} {l : List α} {A : Option Addr} {n c : Nat} (h : Sl sz R ok w (.slice A n c) l) : l.length ≤ c := by
  obtain ⟨A', c', he, _, hc, _⟩ := h
  cases he; exact hc
end

theorem bDrewN {B : Nat} {a w : World} (h : Below B a w) (n : Nat) : Below B a (w.drewN n) := ⟨h.os, h.tape, h.output, h.size, h.block⟩
/-- One more new block behind what is as it was. -/
theorem bAlloc {a w : World} (h : Below a.heap.size a w) (o : Obj) : Below a.heap.size a (w.alloc o) := h.alloc h.size o
theorem bTrans {a b c : World} (h : Below a.heap.size a b) (k : Below b.heap.size b c) : Below a.heap.size a c := h.trans (k.mono h.size)
theorem bRefl (w : World) : Below w.heap.size w w := Below.refl _ _
theorem bcell {W w1 : World} (hb : Below W.heap.size W w1) : (∀ b o, b < W.heap.size → w1.cell? ⟨b, o, none⟩ = W.cell? ⟨b, o, none⟩) :=
  fun b o h => hb.cell (p := ⟨b, o, none⟩) h
theorem Ints.cell {ok : Nat → Prop} {w wr : World} {A : Option Addr} {n c : Nat} {l : List Int} (h : Ints ok w (.slice A n c) l) (hb : Below w.heap.size w wr) {k : Nat} (hk : k < l.length) :
    ∃ b o x, A = some ⟨b, o, none⟩ ∧ l[k]? = some x ∧ wr.cell? ⟨b, o + k, none⟩ = some (.int .i64 x) := by
  obtain ⟨x, hx⟩ := at_lt hk
  obtain ⟨b, o, rfl, _, hlt, hc⟩ := h.at (by omega)
  refine ⟨b, o, x, rfl, hx, (hb.cell (p := ⟨b, o + k, none⟩) hlt).trans ?_⟩
  have := hc k x hx
  rwa [Nat.mul_one] at this
theorem ret_b {a b : Bool} (h : a = b) : Ending.returned (.bool a) = .returned (.bool b) := by rw [h]
theorem lt_ne {a b : Nat} (h : a ≠ b) : ((a : Int) != (b : Int)) = true := by simp; omega
theorem lt_eq {a b : Nat} (h : a = b) : ((a : Int) != (b : Int)) = false := by simp [h]
theorem ne_no {a b : Int} (h : a = b) : (a != b) = false := by simp [h]
theorem ne_yes {a b : Int} (h : a ≠ b) : (a != b) = true := by simp [h]
theorem quiet_below {w w' : World} (h : ∃ n, w' = w.drewN n) : Below w.heap.size w w' := by obtain ⟨n, rfl⟩ := h; exact bDrewN (bRefl w) n
theorem quiet_next {w wr : World} (h : ∃ n, wr = w.drewN n) (m : Nat) : ∃ n, wr.drewN m = w.drewN n := by obtain ⟨n, rfl⟩ := h; exact ⟨n + m, by rw [World.drewN_drewN]⟩
theorem quiet_refl (w : World) : ∃ n, w = w.drewN n := ⟨0, rfl⟩
theorem ret_i {a b : Int} (h : a = b) : Ending.returned (.int .i64 a) = .returned (.int .i64 b) := by rw [h]
theorem Msgs.cell {out inn : Nat → Prop} {w wr : World} {A : Option Addr} {n c : Nat} {l : List PMsg} (h : Msgs out inn w (.slice A n c) l) (hb : Below w.heap.size w wr) {k : Nat} (hk : k < l.length) :
    ∃ b o x v, A = some ⟨b, o, none⟩ ∧ l[k]? = some x ∧ b < wr.heap.size ∧ wr.cell? ⟨b, o + k * 6, none⟩ = some (.int .i64 x.id.f) ∧ wr.cell? ⟨b, o + k * 6 + 1, none⟩ = some (.int .i64 x.id.n) ∧ wr.cell? ⟨b, o + k * 6 + 2, none⟩ = some (.int .i64 x.id.c) ∧
      wr.cell? ⟨b, o + k * 6 + 3, none⟩ = some (.int .i64 x.nt.to) ∧ wr.cell? ⟨b, o + k * 6 + 4, none⟩ = some (.int .i64 x.nt.hd) ∧ wr.cell? ⟨b, o + k * 6 + 5, none⟩ = some v ∧ Ints inn wr v x.nt.args := by
  obtain ⟨x, hx⟩ := at_lt hk
  obtain ⟨b, o, rfl, _, hlt, hc⟩ := h.at (by omega)
  obtain ⟨h1, h2, h3, h4, h5, v, h6, h7⟩ := hc k x hx
  exact ⟨b, o, x, v, rfl, hx, Nat.lt_of_lt_of_le hlt hb.size, (hb.cell (p := ⟨b, _, none⟩) hlt).trans h1, (hb.cell (p := ⟨b, _, none⟩) hlt).trans h2, (hb.cell (p := ⟨b, _, none⟩) hlt).trans h3, (hb.cell (p := ⟨b, _, none⟩) hlt).trans h4, (hb.cell (p := ⟨b, _, none⟩) hlt).trans h5, (hb.cell (p := ⟨b, _, none⟩) hlt).trans h6, h7.below hb⟩
theorem undrew {W w1 : World} (h : Below W.drew.heap.size W.drew w1) : Below W.heap.size W w1 := ⟨h.os, h.tape, h.output, h.size, h.block⟩
theorem heap_new (w : World) (o : Obj) : (w.alloc o).heap[w.heap.size]? = some o := by show (w.heap.push o)[w.heap.size]? = _; simp
theorem heap_new2 {w : World} {o : Obj} {n : Nat} (h : w.heap.size = n) : (w.alloc o).heap[n]? = some o := by subst h; exact heap_new _ _
theorem blk3 {b : Nat} {x y z : Value} {t : TypeId} {w : World} (h : w.heap[b]? = some (.cells #[x, y, z] t)) : w.cell? ⟨b, 0, none⟩ = some x ∧ w.cell? ⟨b, 1, none⟩ = some y ∧ w.cell? ⟨b, 2, none⟩ = some z := ⟨by rw [cell_of_row _ _ _ _ _ _ h]; rfl, by rw [cell_of_row _ _ _ _ _ _ h]; rfl, by rw [cell_of_row _ _ _ _ _ _ h]; rfl⟩
theorem blk6 {b : Nat} {v0 v1 v2 v3 v4 v5 : Value} {t : TypeId} {w : World} (h : w.heap[b]? = some (.cells #[v0, v1, v2, v3, v4, v5] t)) : w.cell? ⟨b, 0, none⟩ = some v0 ∧ w.cell? ⟨b, 1, none⟩ = some v1 ∧ w.cell? ⟨b, 2, none⟩ = some v2 ∧ w.cell? ⟨b, 3, none⟩ = some v3 ∧ w.cell? ⟨b, 4, none⟩ = some v4 ∧ w.cell? ⟨b, 5, none⟩ = some v5 :=
  ⟨by rw [cell_of_row _ _ _ _ _ _ h]; rfl, by rw [cell_of_row _ _ _ _ _ _ h]; rfl, by rw [cell_of_row _ _ _ _ _ _ h]; rfl, by rw [cell_of_row _ _ _ _ _ _ h]; rfl, by rw [cell_of_row _ _ _ _ _ _ h]; rfl, by rw [cell_of_row _ _ _ _ _ _ h]; rfl⟩
theorem own_block {w w' : World} {base e size : Nat} {v : Value} {n : Nat} {xs : List Value} (h : w.ownsRow base e size v n xs) (hb : ∀ g, v.ownBlock = some g → g < w.heap.size → w'.heap[g]? = w.heap[g]?) : w'.ownsRow base e size v n xs := by
  obtain ⟨h1, h2⟩ := h
  refine ⟨h1, ?_⟩
  rcases h2 with h2 | ⟨g, cap, cur, rfl, hg, hh, h3⟩
  · exact Or.inl h2
  · exact Or.inr ⟨g, cap, cur, rfl, hg, (hb g rfl (Array.getElem?_eq_some_iff.1 hh).1).trans hh, h3⟩
theorem own_lt {w : World} {base e size : Nat} {v : Value} {n g : Nat} {xs : List Value} (h : w.ownsRow base e size v n xs) (hv : v.ownBlock = some g) : base ≤ g ∧ g < w.heap.size := by
  obtain ⟨h1, h2⟩ := h
  rcases h2 with ⟨rfl, _⟩ | ⟨g', cap, cur, rfl, hg, hh, h3⟩
  · cases hv
  · cases hv; exact ⟨hg, (Array.getElem?_eq_some_iff.1 hh).1⟩

end Go.Proofs.Ytjdkbgeehjihfaa
