/-
  Programs as plain data, and the document's answers on them as plain functions. No conditions. What it means that a world holds a list, a handler, an actor, a note, a program: readings, cell by cell; and that they stay where nothing old has turned. No conditions. What the instructions' own functions, the reference's, and the small helpers answer, in a world that holds the table. No further conditions. What Pops and Puts answer, and the reference's. Condition: for the code's own, the table of the instructions is in the world. Cells of lists, and small facts. No conditions. What Check's own parts answer: of the counts, an instruction, a handler, an actor, a note. Conditions: the table of the instructions is in the world; of an instruction: its handler's Args are 0 to 4, and handlers are few. What Check's own parts answer, more: of the counts, an actor, a note. No further conditions. Depths as plain data: which instructions are reached with how many numbers, when a list of depths is the right one, and when there is none. No conditions. What takes, leaves and follow answer. Conditions: the table of the instructions is in the world; a send names a handler that there is; handlers have 0 to 4 Args.
-/
import Derived.Test.YtfbeiedhdmndnaaGreatDoorRows
import Derived.WalkKit
import Derived.WalkSpells
import Derived.WalkLawsBesides
import Derived.Deep.QuietTactic
import Derived.BigQuiet
import Derived.Deep.LoopGhost
import Derived.Deep.RegionHeld3
import Derived.Deep.DrawnRows
namespace Go.Proofs.YtfbeiedhdmndnaaGreatDoor

structure PIns where
  op : Int
  a : Int
  deriving DecidableEq, Inhabited
structure PHnd where
  args : Int
  code : List PIns
  deriving DecidableEq, Inhabited
structure PAct where
  regs : List Int
  cap : Int
  timer : Int
  armed : Bool
  deriving DecidableEq, Inhabited
structure PNte where
  to : Int
  hd : Int
  args : List Int
  deriving DecidableEq, Inhabited
structure PPrg where
  hs : List PHnd
  acs : List PAct
  bs : List PNte
  fuel : Int
  deriving DecidableEq, Inhabited

/-- Are two things one? (A name of its own, that does not unfold by itself.) -/
def eqB {α : Type} [DecidableEq α] (a b : α) : Bool := decide (a = b)
theorem eqB_yes {α : Type} [DecidableEq α] {a b : α} (h : a = b) : eqB a b = true := decide_eq_true h
theorem eqB_no {α : Type} [DecidableEq α] {a b : α} (h : a ≠ b) : eqB a b = false := decide_eq_false h
theorem eqB_self {α : Type} [DecidableEq α] (a : α) : eqB a a = true := eqB_yes rfl

/-- The first of the answers that is not 0; else 0. -/
def scan {α : Type} (f : α → Int) : List α → Int
  | [] => 0
  | x :: r => if f x = 0 then scan f r else f x

/-- Are the lists one, from place k on, if those ahead are one? -/
theorem drop_cons {α : Type} {l : List α} {k : Nat} {x : α} (h : l[k]? = some x) : l.drop k = x :: l.drop (k + 1) := by
  obtain ⟨hk, rfl⟩ := List.getElem?_eq_some_iff.1 h
  exact List.drop_eq_getElem_cons hk

theorem at_lt {α : Type} {l : List α} {k : Nat} (h : k < l.length) : ∃ x, l[k]? = some x := ⟨l[k], List.getElem?_eq_getElem h⟩

theorem take_eq {α : Type} {a b : List α} {k : Nat} {x y : α} (h : a.take k = b.take k) (hx : a[k]? = some x) (hy : b[k]? = some y) (e : x = y) : a.take (k + 1) = b.take (k + 1) := by
  rw [List.take_add_one, List.take_add_one, h, hx, hy, e]
theorem take_ne {α : Type} {a b : List α} {k : Nat} {x y : α} (hx : a[k]? = some x) (hy : b[k]? = some y) (e : x ≠ y) : a ≠ b := by
  rintro rfl
  exact e (Option.some.inj (hx.symm.trans hy))
theorem take_all {α : Type} {a b : List α} {k : Nat} (hl : a.length = b.length) (hk : ¬ k < a.length) (h : a.take k = b.take k) : a = b := by
  rwa [List.take_of_length_le (by omega), List.take_of_length_le (by omega)] at h
theorem len_ne {α : Type} {a b : List α} (h : a.length ≠ b.length) : a ≠ b := fun e => h (by rw [e])

theorem scan_step {α : Type} {f : α → Int} {l : List α} {k : Nat} {x : α} (h : l[k]? = some x) : scan f (l.drop k) = if f x = 0 then scan f (l.drop (k + 1)) else f x := by rw [drop_cons h]; rfl
theorem scan_end {α : Type} {f : α → Int} {l : List α} {k : Nat} (h : ¬ k < l.length) : scan f (l.drop k) = 0 := by rw [List.drop_eq_nil_of_le (by omega)]; rfl

/-- What the operand of an instruction is (chapter 1): 0 none, 1 number, 2 register, 3 parameter, 4 target, 5 kind. -/
def odL : List Int := [0, 1, 0, 0, 0, 2, 2, 3, 0, 0, 0, 0, 0, 0, 0, 0, 0, 0, 0, 0, 4, 4, 5, 0, 0, 0]
def od (i : Nat) : Int := odL.getD i 0
/-- The row of a number: row 0 of what is no instruction. -/
def at_ (op : Int) : Nat := if 1 ≤ op ∧ op ≤ 25 then op.toNat else 0
def vl (op : Int) : Bool := decide (1 ≤ op ∧ op ≤ 25)
theorem vl_yes {op : Int} (h1 : 1 ≤ op) (h2 : op ≤ 25) : vl op = true := decide_eq_true ⟨h1, h2⟩
theorem vl_no {op : Int} (h : op < 1 ∨ 25 < op) : vl op = false := decide_eq_false (by omega)
theorem vl_iff {op : Int} : vl op = true ↔ 1 ≤ op ∧ op ≤ 25 := by unfold vl; exact decide_eq_true_iff
theorem at_yes {op : Int} (h1 : 1 ≤ op) (h2 : op ≤ 25) : at_ op = op.toNat := by unfold at_; rw [if_pos ⟨h1, h2⟩]
theorem at_no {op : Int} (h : op < 1 ∨ 25 < op) : at_ op = 0 := by unfold at_; rw [if_neg (by omega)]
def opd (op : Int) : Int := od (at_ op)

/-- P3.1, of one of n instructions of a handler of so many args, among so many handlers. -/
def chkI (n args hs : Int) (i : PIns) : Int :=
  if vl i.op = false then 1
  else if opd i.op = 0 then (if i.a = 0 then 0 else 1)
  else if opd i.op = 4 then (if 0 ≤ i.a ∧ i.a ≤ n then 0 else 4)
  else if opd i.op = 2 then (if 0 ≤ i.a ∧ i.a ≤ 7 then 0 else 6)
  else if opd i.op = 3 then (if 0 ≤ i.a ∧ i.a < args then 0 else 6)
  else if opd i.op = 5 then (if 0 ≤ i.a ∧ i.a < hs then 0 else 7)
  else 0
/-- .. of a handler, among so many. -/
def chkH (hs : Int) (h : PHnd) : Int :=
  if 0 ≤ h.args ∧ h.args ≤ 4 then (if h.code.length ≤ 64 then scan (chkI h.code.length h.args hs) h.code else 3) else 1
/-- How many arguments the handler of a number has; -1 where there is none. -/
def argsOf (hs : List PHnd) (k : Int) : Int := if 0 ≤ k then ((hs[k.toNat]?).map (·.args)).getD (-1) else -1
/-- .. of an actor. -/
def chkA (hs : List PHnd) (a : PAct) : Int :=
  if a.regs.length ≤ 8 then
    (if 0 ≤ a.cap ∧ a.cap ≤ 16 then
      (if a.timer = -1 then (if a.armed = true then 1 else 0) else (if (0 ≤ a.timer ∧ a.timer < hs.length) ∧ argsOf hs a.timer = 0 then 0 else 7))
    else 1)
  else 3
/-- .. of a note. -/
def chkN (na : Int) (hs : List PHnd) (n : PNte) : Int :=
  if (0 ≤ n.to ∧ n.to < na) ∧ (0 ≤ n.hd ∧ n.hd < hs.length) then (if (n.args.length : Int) = argsOf hs n.hd then 0 else 1) else 7
/-- .. of the counts. -/
def chkC (p : PPrg) : Int :=
  if p.hs.length ≤ 16 ∧ p.acs.length ≤ 8 ∧ p.bs.length ≤ 16 then (if p.acs.length ≠ 0 ∧ (1 ≤ p.fuel ∧ p.fuel ≤ 256) then 0 else 1) else 3
/-- P3.1. -/
def chk (p : PPrg) : Int :=
  if chkC p = 0 then
    (if scan (chkH p.hs.length) p.hs = 0 then
      (if scan (chkA p.hs) p.acs = 0 then scan (chkN p.acs.length p.hs) p.bs else scan (chkA p.hs) p.acs)
    else scan (chkH p.hs.length) p.hs)
  else chkC p
/-- Is a program looked at? -/
def Small (p : PPrg) : Prop := p.hs.length ≤ 18 ∧ p.acs.length ≤ 10 ∧ p.bs.length ≤ 18 ∧ (∀ h ∈ p.hs, h.code.length ≤ 70) ∧ (∀ a ∈ p.acs, a.regs.length ≤ 10) ∧ (∀ n ∈ p.bs, n.args.length ≤ 6)
instance (p : PPrg) : Decidable (Small p) := by unfold Small; infer_instance
def small (p : PPrg) : Bool := decide (Small p)
end Go.Proofs.YtfbeiedhdmndnaaGreatDoor
namespace Go.Proofs.YtfbeiedhdmndnaaGreatDoor
open Go.RowKit

/-- The slice v reads, in w, as l: element k stands at k * sz, in a block of which ok says yes. -/
def Sl {α : Type} (sz : Nat) (R : World → Nat → Nat → α → Prop) (ok : Nat → Prop) (w : World) (v : Value) (l : List α) : Prop :=
  ∃ A c, v = .slice A l.length c ∧ (l.length : Int) ≤ 9223372036854775807 ∧ l.length ≤ c ∧ (l = [] ∨ ∃ b o, A = some ⟨b, o, none⟩ ∧ ok b ∧ b < w.heap.size ∧ ∀ k x, l[k]? = some x → R w b (o + k * sz) x)

def rInt (w : World) (b o : Nat) (x : Int) : Prop := w.cell? ⟨b, o, none⟩ = some (.int .i64 x)
def rIns (w : World) (b o : Nat) (i : PIns) : Prop := w.cell? ⟨b, o, none⟩ = some (.int .i64 i.op) ∧ w.cell? ⟨b, o + 1, none⟩ = some (.int .i64 i.a)
abbrev Ints (ok : Nat → Prop) := Sl 1 rInt ok
abbrev Code (ok : Nat → Prop) := Sl 2 rIns ok
def rHnd (ok : Nat → Prop) (w : World) (b o : Nat) (h : PHnd) : Prop := w.cell? ⟨b, o, none⟩ = some (.int .i64 h.args) ∧ ∃ v, w.cell? ⟨b, o + 1, none⟩ = some v ∧ Code ok w v h.code
def rAct (ok : Nat → Prop) (w : World) (b o : Nat) (a : PAct) : Prop :=
  (∃ v, w.cell? ⟨b, o, none⟩ = some v ∧ Ints ok w v a.regs) ∧ w.cell? ⟨b, o + 1, none⟩ = some (.int .i64 a.cap) ∧ w.cell? ⟨b, o + 2, none⟩ = some (.int .i64 a.timer) ∧ w.cell? ⟨b, o + 3, none⟩ = some (.bool a.armed)
def rNte (ok : Nat → Prop) (w : World) (b o : Nat) (n : PNte) : Prop :=
  w.cell? ⟨b, o, none⟩ = some (.int .i64 n.to) ∧ w.cell? ⟨b, o + 1, none⟩ = some (.int .i64 n.hd) ∧ ∃ v, w.cell? ⟨b, o + 2, none⟩ = some v ∧ Ints ok w v n.args
/-- Any block. -/
def anyB : Nat → Prop := fun _ => True
abbrev Hnds (out inn : Nat → Prop) := Sl 2 (rHnd inn) out
abbrev Acts (out inn : Nat → Prop) := Sl 4 (rAct inn) out
abbrev Ntes (out inn : Nat → Prop) := Sl 3 (rNte inn) out

def HndV (w : World) (v : Value) (h : PHnd) : Prop := ∃ c, v = .agg #[.int .i64 h.args, c] ∧ Code anyB w c h.code
def ActV (w : World) (v : Value) (a : PAct) : Prop := ∃ c, v = .agg #[c, .int .i64 a.cap, .int .i64 a.timer, .bool a.armed] ∧ Ints anyB w c a.regs
def NteV (w : World) (v : Value) (n : PNte) : Prop := ∃ c, v = .agg #[.int .i64 n.to, .int .i64 n.hd, c] ∧ Ints anyB w c n.args
def PrgV (w : World) (v : Value) (p : PPrg) : Prop :=
  ∃ a b c, v = .agg #[a, b, c, .int .i64 p.fuel] ∧ Hnds anyB anyB w a p.hs ∧ Acts anyB anyB w b p.acs ∧ Ntes anyB anyB w c p.bs

section
variable {w w' : World} {ok ok' : Nat → Prop} {v : Value} {b o : Nat}

theorem Sl.imp {α : Type} {sz : Nat} {R R' : World → Nat → Nat → α → Prop} {l : List α} (h : Sl sz R ok w v l) (hok : ∀ b, ok b → ok' b) (hs : w.heap.size ≤ w'.heap.size)
    (hR : ∀ b o x, ok b → b < w.heap.size → R w b o x → R' w' b o x) : Sl sz R' ok' w' v l := by
  obtain ⟨A, c, rfl, hl, hcp, h⟩ := h
  refine ⟨A, c, rfl, hl, hcp, ?_⟩
  rcases h with h | ⟨b, o, rfl, hb, hlt, hc⟩
  · exact Or.inl h
  · exact Or.inr ⟨b, o, rfl, hok b hb, by omega, fun k x hx => hR b _ x hb hlt (hc k x hx)⟩

/-- The blocks that ok names are as they were. -/
structure Same (ok : Nat → Prop) (w w' : World) : Prop where
  size : w.heap.size ≤ w'.heap.size
  block : ∀ b, ok b → b < w.heap.size → w'.heap[b]? = w.heap[b]?
theorem Same.cell (h : Same ok w w') {b o : Nat} (hk : ok b) (hb : b < w.heap.size) : w'.cell? ⟨b, o, none⟩ = w.cell? ⟨b, o, none⟩ := World.cell?_of_block (w := w) (h.block b hk hb)
theorem Same.all (h : Below w.heap.size w w') : Same ok w w' := ⟨h.size, fun b _ hb => h.block b hb⟩
theorem Same.weak (h : Same ok w w') (k : ∀ b, ok' b → ok b) : Same ok' w w' := ⟨h.size, fun b hb hl => h.block b (k b hb) hl⟩

theorem Sl.lt {α : Type} {sz : Nat} {R : World → Nat → Nat → α → Prop} {l : List α} (h : Sl sz R ok w v l) : Sl sz R (fun b => ok b ∧ b < w.heap.size) w v l := by
  obtain ⟨A, c, rfl, hl, hcp, h⟩ := h
  refine ⟨A, c, rfl, hl, hcp, ?_⟩
  rcases h with h | ⟨b, o, rfl, hb, hlt, hc⟩
  · exact Or.inl h
  · exact Or.inr ⟨b, o, rfl, ⟨hb, hlt⟩, hlt, hc⟩

theorem Sl.any {α : Type} {sz : Nat} {R : World → Nat → Nat → α → Prop} {l : List α} (h : Sl sz R ok w v l) : Sl sz R anyB w v l :=
  h.imp (fun _ _ => trivial) (Nat.le_refl _) fun _ _ _ _ _ h => h

theorem Ints.same {l : List Int} (h : Ints ok w v l) (s : Same ok w w') : Ints ok w' v l :=
  h.imp (fun _ h => h) s.size fun _ _ _ hk hb hr => (s.cell hk hb).trans hr
theorem Code.same {l : List PIns} (h : Code ok w v l) (s : Same ok w w') : Code ok w' v l :=
  h.imp (fun _ h => h) s.size fun _ _ _ hk hb hr => ⟨(s.cell hk hb).trans hr.1, (s.cell hk hb).trans hr.2⟩
theorem Hnds.same {inn : Nat → Prop} {l : List PHnd} (h : Hnds ok inn w v l) (s : Same ok w w') (t : Same inn w w') : Hnds ok inn w' v l :=
  h.imp (fun _ h => h) s.size fun _ _ _ hk hb ⟨h1, c, h2, h3⟩ => ⟨(s.cell hk hb).trans h1, c, (s.cell hk hb).trans h2, h3.same t⟩
theorem Acts.same {inn : Nat → Prop} {l : List PAct} (h : Acts ok inn w v l) (s : Same ok w w') (t : Same inn w w') : Acts ok inn w' v l :=
  h.imp (fun _ h => h) s.size fun _ _ _ hk hb ⟨⟨c, h1, h2⟩, h3, h4, h5⟩ => ⟨⟨c, (s.cell hk hb).trans h1, h2.same t⟩, (s.cell hk hb).trans h3, (s.cell hk hb).trans h4, (s.cell hk hb).trans h5⟩
theorem Ntes.same {inn : Nat → Prop} {l : List PNte} (h : Ntes ok inn w v l) (s : Same ok w w') (t : Same inn w w') : Ntes ok inn w' v l :=
  h.imp (fun _ h => h) s.size fun _ _ _ hk hb ⟨h1, h2, c, h3, h4⟩ => ⟨(s.cell hk hb).trans h1, (s.cell hk hb).trans h2, c, (s.cell hk hb).trans h3, h4.same t⟩

theorem Ints.below {l : List Int} (h : Ints ok w v l) (hb : Below w.heap.size w w') : Ints ok w' v l := h.same (Same.all hb)
theorem Code.below {l : List PIns} (h : Code ok w v l) (hb : Below w.heap.size w w') : Code ok w' v l := h.same (Same.all hb)
theorem Hnds.below {inn : Nat → Prop} {l : List PHnd} (h : Hnds ok inn w v l) (hb : Below w.heap.size w w') : Hnds ok inn w' v l := h.same (Same.all hb) (Same.all hb)
theorem Acts.below {inn : Nat → Prop} {l : List PAct} (h : Acts ok inn w v l) (hb : Below w.heap.size w w') : Acts ok inn w' v l := h.same (Same.all hb) (Same.all hb)
theorem Ntes.below {inn : Nat → Prop} {l : List PNte} (h : Ntes ok inn w v l) (hb : Below w.heap.size w w') : Ntes ok inn w' v l := h.same (Same.all hb) (Same.all hb)
theorem HndV.below {x : PHnd} (h : HndV w v x) (hb : Below w.heap.size w w') : HndV w' v x := let ⟨c, h1, h2⟩ := h; ⟨c, h1, h2.below hb⟩
theorem ActV.below {x : PAct} (h : ActV w v x) (hb : Below w.heap.size w w') : ActV w' v x := let ⟨c, h1, h2⟩ := h; ⟨c, h1, h2.below hb⟩
theorem NteV.below {x : PNte} (h : NteV w v x) (hb : Below w.heap.size w w') : NteV w' v x := let ⟨c, h1, h2⟩ := h; ⟨c, h1, h2.below hb⟩
theorem PrgV.below {x : PPrg} (h : PrgV w v x) (hb : Below w.heap.size w w') : PrgV w' v x := let ⟨a, b, c, h0, h1, h2, h3⟩ := h; ⟨a, b, c, h0, h1.below hb, h2.below hb, h3.below hb⟩

/-- At a place that there is: the address, and what stands there. -/
theorem Sl.at {α : Type} {sz : Nat} {R : World → Nat → Nat → α → Prop} {l : List α} {A : Option Addr} {n c : Nat} (h : Sl sz R ok w (.slice A n c) l) (h0 : 0 < l.length) :
    ∃ b o, A = some ⟨b, o, none⟩ ∧ ok b ∧ b < w.heap.size ∧ ∀ k x, l[k]? = some x → R w b (o + k * sz) x := by
  obtain ⟨A', c', he, hl, _, h⟩ := h
  simp only [Value.slice.injEq] at he
  obtain ⟨rfl, _, _⟩ := he
  rcases h with rfl | h
  · simp at h0
  · exact h
theorem Sl.form {α : Type} {sz : Nat} {R : World → Nat → Nat → α → Prop} {l : List α} (h : Sl sz R ok w v l) : ∃ A c, v = .slice A l.length c ∧ (l.length : Int) ≤ 9223372036854775807 :=
  let ⟨A, c, h1, h2, _⟩ := h; ⟨A, c, h1, h2⟩
theorem Sl.cap {α : Type} {sz : Nat} {R : World → Nat → Nat → α → Prop} {l : List α} {A : Option Addr} {n c : Nat} (h : Sl sz R ok w (.slice A n c) l) : l.length ≤ c := by
  obtain ⟨A', c', he, _, hc, _⟩ := h
  cases he; exact hc
end

theorem bDrewN {B : Nat} {a w : World} (h : Below B a w) (n : Nat) : Below B a (w.drewN n) := ⟨h.os, h.tape, h.output, h.size, h.block⟩
/-- One more new block behind what is as it was. -/
theorem bAlloc {a w : World} (h : Below a.heap.size a w) (o : Obj) : Below a.heap.size a (w.alloc o) := h.alloc h.size o
theorem bTrans {a b c : World} (h : Below a.heap.size a b) (k : Below b.heap.size b c) : Below a.heap.size a c := h.trans (k.mono h.size)
theorem bRefl (w : World) : Below w.heap.size w w := Below.refl _ _
theorem bcell {W w1 : World} (hb : Below W.heap.size W w1) : (∀ b o, b < W.heap.size → w1.cell? ⟨b, o, none⟩ = W.cell? ⟨b, o, none⟩) :=
  fun b o h => hb.cell (p := ⟨b, o, none⟩) h
end Go.Proofs.YtfbeiedhdmndnaaGreatDoor
namespace Go.Proofs.YtfbeiedhdmndnaaGreatDoor
open Go.RowKit

def nmL : List (List UInt8) := [[], [112, 117, 115, 104], [112, 111, 112], [99, 111, 112, 121], [115, 119, 97, 112], [108, 111, 97, 100], [115, 116, 111, 114, 101], [97, 114, 103], [115, 101, 108, 102], [97, 100, 100], [115, 117, 98], [109, 117, 108], [100, 105, 118], [109, 111, 100], [110, 101, 103], [101, 113], [108, 101, 115, 115], [97, 110, 100], [111, 114], [110, 111, 116], [106, 117, 109, 112], [122, 101, 114, 111], [115, 101, 110, 100], [97, 114, 109], [99, 97, 108, 109], [101, 110, 100]]
def poL : List Int := [0, 0, 1, 1, 2, 0, 1, 0, 0, 2, 2, 2, 2, 2, 1, 2, 2, 2, 2, 1, 0, 1, 1, 0, 0, 0]
def puL : List Int := [0, 1, 0, 2, 2, 1, 0, 1, 1, 1, 1, 1, 1, 1, 1, 1, 1, 1, 1, 1, 0, 0, 0, 0, 0, 0]
def nm (i : Nat) : ByteArray := ⟨(nmL.getD i []).toArray⟩
def po (i : Nat) : Int := poL.getD i 0
def pu (i : Nat) : Int := puL.getD i 0

/-- The world holds the table of the instructions. -/
structure Tab (w : World) : Prop where
  name : ∀ i, i < 26 → w.cell? ⟨0, i * 4, none⟩ = some (.string (nm i))
  pops : ∀ i, i < 26 → w.cell? ⟨0, i * 4 + 1, none⟩ = some (.int .i64 (po i))
  puts : ∀ i, i < 26 → w.cell? ⟨0, i * 4 + 2, none⟩ = some (.int .i64 (pu i))
  oper : ∀ i, i < 26 → w.cell? ⟨0, i * 4 + 3, none⟩ = some (.int .i64 (od i))
  held : 0 < w.heap.size

theorem Tab.below {w w' : World} (h : Tab w) (hb : Below w.heap.size w w') : Tab w' :=
  ⟨fun i hi => (hb.cell (p := ⟨0, i * 4, none⟩) h.held).trans (h.name i hi), fun i hi => (hb.cell (p := ⟨0, i * 4 + 1, none⟩) h.held).trans (h.pops i hi),
   fun i hi => (hb.cell (p := ⟨0, i * 4 + 2, none⟩) h.held).trans (h.puts i hi), fun i hi => (hb.cell (p := ⟨0, i * 4 + 3, none⟩) h.held).trans (h.oper i hi), Nat.lt_of_lt_of_le h.held hb.size⟩

theorem ret_bool {a b : Bool} (h : a = b) : Ending.returned (.bool a) = .returned (.bool b) := by rw [h]
theorem ret_int {a b : Int} (h : a = b) : Ending.returned (.int .i64 a) = .returned (.int .i64 b) := by rw [h]

set_option maxHeartbeats 400000 in
theorem valid_any (op : Int) (w : World) : Calls Tryz.prog 172 #[.int .i64 op] w fun e w' => e = .returned (.bool (vl op)) ∧ w' = w := by
  by_cases h : 1 ≤ op
  · go_enter Tryz.func172, Tryz.ntmps172
    go_wp2
    go_ret
    exact ⟨ret_bool (by simp [vl, h]), rfl⟩
  · go_enter Tryz.func172, Tryz.ntmps172
    go_wp2
    go_ret
    exact ⟨ret_bool (by simp [vl]; omega), rfl⟩

/-- Is a number from one to another? -/
def inB (n lo hi : Int) : Bool := decide (lo ≤ n ∧ n ≤ hi)
set_option maxHeartbeats 400000 in
theorem within_any (n lo hi : Int) (w : World) : Calls Tryz.prog 151 #[.int .i64 n, .int .i64 lo, .int .i64 hi] w fun e w' => e = .returned (.bool (inB n lo hi)) ∧ w' = w := by
  by_cases h : lo ≤ n
  · go_enter Tryz.func151, Tryz.ntmps151
    go_wp2
    go_ret
    exact ⟨ret_bool (by simp [inB, h]), rfl⟩
  · go_enter Tryz.func151, Tryz.ntmps151
    go_wp2
    go_ret
    exact ⟨ret_bool (by simp [inB]; omega), rfl⟩

def unl (b : Bool) (e : Int) : Int := if b = true then 0 else e
set_option maxHeartbeats 400000 in
theorem unless_any (b : Bool) (n : Int) (w : World) : Calls Tryz.prog 153 #[.bool b, .int .i64 n] w fun e w' => e = .returned (.int .i64 (unl b n)) ∧ w' = w := by
  cases b
  · go_enter Tryz.func153, Tryz.ntmps153
    go_wp2
    go_ret
    exact ⟨rfl, rfl⟩
  · go_enter Tryz.func153, Tryz.ntmps153
    go_wp2
    go_ret
    exact ⟨rfl, rfl⟩

set_option maxHeartbeats 400000 in
theorem traits_yes (i : Nat) (w : World) (h1 : 1 ≤ i) (h2 : i ≤ 25) (ht : Tab w) :
    Calls Tryz.prog 175 #[.int .i64 (i : Int)] w fun e w' => e = .returned (.agg #[.string (nm i), .int .i64 (po i), .int .i64 (pu i), .int .i64 (od i)]) ∧ Below w.heap.size w w' := by
  have c0 := ht.name i (by omega)
  have c1 := ht.pops i (by omega)
  have c2 := ht.puts i (by omega)
  have c3 := ht.oper i (by omega)
  have c4 := ht.held
  have hv := vl_yes (op := (i : Int)) (by omega) (by omega)
  clear ht
  go_enter Tryz.func175, Tryz.ntmps175
  go_wp2_with (go_at_call 172; refine (valid_any _ _).mono ?_; rintro e w' ⟨rfl, rfl⟩)
  exact bodyPost_ret (v := .agg #[.string (nm i), .int .i64 (po i), .int .i64 (pu i), .int .i64 (od i)]) (by simp [results, Tryz.results175, go_sem]) rfl ⟨rfl, (Below.refl _ _).alloc (Nat.le_refl _) _⟩

set_option maxHeartbeats 400000 in
theorem traits_no (op : Int) (w : World) (h : op < 1 ∨ 25 < op) :
    Calls Tryz.prog 175 #[.int .i64 op] w fun e w' => e = .returned (.agg #[.string (nm 0), .int .i64 (po 0), .int .i64 (pu 0), .int .i64 (od 0)]) ∧ Below w.heap.size w w' := by
  have hv := vl_no h
  go_enter Tryz.func175, Tryz.ntmps175
  go_wp2_with (go_at_call 172; refine (valid_any _ _).mono ?_; rintro e w' ⟨rfl, rfl⟩)
  exact bodyPost_ret (v := .agg #[.string (nm 0), .int .i64 (po 0), .int .i64 (pu 0), .int .i64 (od 0)]) (by simp [results, Tryz.results175, go_sem]; exact ⟨rfl, rfl, rfl, rfl⟩) rfl ⟨rfl, (Below.refl _ _).alloc (Nat.le_refl _) _⟩

theorem traits_any (op : Int) (w : World) (ht : Tab w) :
    Calls Tryz.prog 175 #[.int .i64 op] w fun e w' => e = .returned (.agg #[.string (nm (at_ op)), .int .i64 (po (at_ op)), .int .i64 (pu (at_ op)), .int .i64 (od (at_ op))]) ∧ Below w.heap.size w w' := by
  by_cases h : 1 ≤ op ∧ op ≤ 25
  · obtain ⟨h1, h2⟩ := h
    rw [at_yes h1 h2]
    obtain ⟨i, rfl⟩ := Int.eq_ofNat_of_zero_le (show 0 ≤ op by omega)
    rw [Int.toNat_natCast]
    exact traits_yes i w (by omega) (by omega) ht
  · rw [at_no (by omega)]
    exact traits_no op w (by omega)

theorem field3 (a b c d : Value) (w : World) : (Instr.field 203 (.agg #[a, b, c, d]) 3).run Tryz.prog w = .ok d w := by kernel_rfl

set_option maxHeartbeats 400000 in
theorem oper_any (op : Int) (w : World) (ht : Tab w) :
    Calls Tryz.prog 173 #[.int .i64 op] w fun e w' => e = .returned (.int .i64 (opd op)) ∧ Below w.heap.size w w' := by
  have H : Hid (Tab w) := ht
  have hf := field3
  clear ht
  go_enter Tryz.func173, Tryz.ntmps173
  go_wp2_with (go_at_call 175; refine (traits_any op w H.out).mono ?_; rintro e w' ⟨rfl, hb⟩)
  go_ret
  exact ⟨rfl, by assumption⟩

end Go.Proofs.YtfbeiedhdmndnaaGreatDoor
namespace Go.Proofs.YtfbeiedhdmndnaaGreatDoor
open Go.RowKit

theorem field1 (a b c d : Value) (w : World) : (Instr.field 203 (.agg #[a, b, c, d]) 1).run Tryz.prog w = .ok b w := by kernel_rfl
theorem field2 (a b c d : Value) (w : World) : (Instr.field 203 (.agg #[a, b, c, d]) 2).run Tryz.prog w = .ok c w := by kernel_rfl

set_option maxHeartbeats 400000 in
theorem pops_any (op : Int) (w : World) (ht : Tab w) :
    Calls Tryz.prog 174 #[.int .i64 op] w fun e w' => e = .returned (.int .i64 (po (at_ op))) ∧ Below w.heap.size w w' := by
  have H : Hid (Tab w) := ht
  have hf := field1
  clear ht
  go_enter Tryz.func174, Tryz.ntmps174
  go_wp2_with (go_at_call 175; refine (traits_any op w H.out).mono ?_; rintro e w' ⟨rfl, hb⟩)
  go_ret
  exact ⟨rfl, by assumption⟩

set_option maxHeartbeats 400000 in
theorem puts_any (op : Int) (w : World) (ht : Tab w) :
    Calls Tryz.prog 155 #[.int .i64 op] w fun e w' => e = .returned (.int .i64 (pu (at_ op))) ∧ Below w.heap.size w w' := by
  have H : Hid (Tab w) := ht
  have hf := field2
  clear ht
  go_enter Tryz.func155, Tryz.ntmps155
  go_wp2_with (go_at_call 175; refine (traits_any op w H.out).mono ?_; rintro e w' ⟨rfl, hb⟩)
  go_ret
  exact ⟨rfl, by assumption⟩

end Go.Proofs.YtfbeiedhdmndnaaGreatDoor
namespace Go.Proofs.YtfbeiedhdmndnaaGreatDoor
open Go.RowKit
theorem Ints.cell {ok : Nat → Prop} {w wr : World} {A : Option Addr} {n c : Nat} {l : List Int} (h : Ints ok w (.slice A n c) l) (hb : Below w.heap.size w wr) {k : Nat} (hk : k < l.length) :
    ∃ b o x, A = some ⟨b, o, none⟩ ∧ l[k]? = some x ∧ wr.cell? ⟨b, o + k, none⟩ = some (.int .i64 x) := by
  obtain ⟨x, hx⟩ := at_lt hk
  obtain ⟨b, o, rfl, _, hlt, hc⟩ := h.at (by omega)
  refine ⟨b, o, x, rfl, hx, (hb.cell (p := ⟨b, o + k, none⟩) hlt).trans ?_⟩
  have := hc k x hx
  rwa [Nat.mul_one] at this
theorem Code.cell {ok : Nat → Prop} {w wr : World} {A : Option Addr} {n c : Nat} {l : List PIns} (h : Code ok w (.slice A n c) l) (hb : Below w.heap.size w wr) {k : Nat} (hk : k < l.length) :
    ∃ b o x, A = some ⟨b, o, none⟩ ∧ l[k]? = some x ∧ wr.cell? ⟨b, o + k * 2, none⟩ = some (.int .i64 x.op) ∧ wr.cell? ⟨b, o + k * 2 + 1, none⟩ = some (.int .i64 x.a) := by
  obtain ⟨x, hx⟩ := at_lt hk
  obtain ⟨b, o, rfl, _, hlt, hc⟩ := h.at (by omega)
  exact ⟨b, o, x, rfl, hx, (hb.cell (p := ⟨b, o + k * 2, none⟩) hlt).trans (hc k x hx).1, (hb.cell (p := ⟨b, o + k * 2 + 1, none⟩) hlt).trans (hc k x hx).2⟩
theorem ret_b {a b : Bool} (h : a = b) : Ending.returned (.bool a) = .returned (.bool b) := by rw [h]
theorem lt_ne {a b : Nat} (h : a ≠ b) : ((a : Int) != (b : Int)) = true := by simp; omega
theorem lt_eq {a b : Nat} (h : a = b) : ((a : Int) != (b : Int)) = false := by simp [h]
theorem ne_no {a b : Int} (h : a = b) : (a != b) = false := by simp [h]
theorem ne_yes {a b : Int} (h : a ≠ b) : (a != b) = true := by simp [h]
theorem quiet_below {w w' : World} (h : ∃ n, w' = w.drewN n) : Below w.heap.size w w' := by obtain ⟨n, rfl⟩ := h; exact bDrewN (bRefl w) n
theorem quiet_next {w wr : World} (h : ∃ n, wr = w.drewN n) (m : Nat) : ∃ n, wr.drewN m = w.drewN n := by obtain ⟨n, rfl⟩ := h; exact ⟨n + m, by rw [World.drewN_drewN]⟩
theorem quiet_refl (w : World) : ∃ n, w = w.drewN n := ⟨0, rfl⟩
theorem Hnds.cell {out inn : Nat → Prop} {w wr : World} {A : Option Addr} {n c : Nat} {l : List PHnd} (h : Hnds out inn w (.slice A n c) l) (hb : Below w.heap.size w wr) {k : Nat} (hk : k < l.length) :
    ∃ b o x v, A = some ⟨b, o, none⟩ ∧ l[k]? = some x ∧ b < wr.heap.size ∧ wr.cell? ⟨b, o + k * 2, none⟩ = some (.int .i64 x.args) ∧ wr.cell? ⟨b, o + k * 2 + 1, none⟩ = some v ∧ Code inn wr v x.code := by
  obtain ⟨x, hx⟩ := at_lt hk
  obtain ⟨b, o, rfl, _, hlt, hc⟩ := h.at (by omega)
  obtain ⟨h1, v, h2, h3⟩ := hc k x hx
  exact ⟨b, o, x, v, rfl, hx, Nat.lt_of_lt_of_le hlt hb.size, (hb.cell (p := ⟨b, _, none⟩) hlt).trans h1, (hb.cell (p := ⟨b, _, none⟩) hlt).trans h2, h3.below hb⟩
theorem Acts.cell {out inn : Nat → Prop} {w wr : World} {A : Option Addr} {n c : Nat} {l : List PAct} (h : Acts out inn w (.slice A n c) l) (hb : Below w.heap.size w wr) {k : Nat} (hk : k < l.length) :
    ∃ b o x v, A = some ⟨b, o, none⟩ ∧ l[k]? = some x ∧ b < wr.heap.size ∧ wr.cell? ⟨b, o + k * 4, none⟩ = some v ∧ wr.cell? ⟨b, o + k * 4 + 1, none⟩ = some (.int .i64 x.cap) ∧ wr.cell? ⟨b, o + k * 4 + 2, none⟩ = some (.int .i64 x.timer) ∧ wr.cell? ⟨b, o + k * 4 + 3, none⟩ = some (.bool x.armed) ∧ Ints inn wr v x.regs := by
  obtain ⟨x, hx⟩ := at_lt hk
  obtain ⟨b, o, rfl, _, hlt, hc⟩ := h.at (by omega)
  obtain ⟨⟨v, h1, h2⟩, h3, h4, h5⟩ := hc k x hx
  exact ⟨b, o, x, v, rfl, hx, Nat.lt_of_lt_of_le hlt hb.size, (hb.cell (p := ⟨b, _, none⟩) hlt).trans h1, (hb.cell (p := ⟨b, _, none⟩) hlt).trans h3, (hb.cell (p := ⟨b, _, none⟩) hlt).trans h4, (hb.cell (p := ⟨b, _, none⟩) hlt).trans h5, h2.below hb⟩
theorem Ntes.cell {out inn : Nat → Prop} {w wr : World} {A : Option Addr} {n c : Nat} {l : List PNte} (h : Ntes out inn w (.slice A n c) l) (hb : Below w.heap.size w wr) {k : Nat} (hk : k < l.length) :
    ∃ b o x v, A = some ⟨b, o, none⟩ ∧ l[k]? = some x ∧ b < wr.heap.size ∧ wr.cell? ⟨b, o + k * 3, none⟩ = some (.int .i64 x.to) ∧ wr.cell? ⟨b, o + k * 3 + 1, none⟩ = some (.int .i64 x.hd) ∧ wr.cell? ⟨b, o + k * 3 + 2, none⟩ = some v ∧ Ints inn wr v x.args := by
  obtain ⟨x, hx⟩ := at_lt hk
  obtain ⟨b, o, rfl, _, hlt, hc⟩ := h.at (by omega)
  obtain ⟨h1, h2, v, h3, h4⟩ := hc k x hx
  exact ⟨b, o, x, v, rfl, hx, Nat.lt_of_lt_of_le hlt hb.size, (hb.cell (p := ⟨b, _, none⟩) hlt).trans h1, (hb.cell (p := ⟨b, _, none⟩) hlt).trans h2, (hb.cell (p := ⟨b, _, none⟩) hlt).trans h3, h4.below hb⟩
theorem undrew {W w1 : World} (h : Below W.drew.heap.size W.drew w1) : Below W.heap.size W w1 := ⟨h.os, h.tape, h.output, h.size, h.block⟩
theorem heap_new (w : World) (o : Obj) : (w.alloc o).heap[w.heap.size]? = some o := by show (w.heap.push o)[w.heap.size]? = _; simp
set_option maxHeartbeats 400000 in
theorem alikeI (ok ok' : Nat → Prop) (w : World) (v1 v2 : Value) (a b : List Int) (h1 : Ints ok w v1 a) (h2 : Ints ok' w v2 b) :
    Calls Tryz.prog 24 #[v1, v2] w fun e w' => e = .returned (.bool (eqB a b)) ∧ ∃ n, w' = w.drewN n := by
  obtain ⟨A1, c1, rfl, hl1⟩ := h1.form
  obtain ⟨A2, c2, rfl, hl2⟩ := h2.form
  by_cases hlen : a.length = b.length
  · have HL : Hid (a.length = b.length) := hlen
    have e1 := lt_eq hlen
    clear hlen
    go_enter Tryz.func24, Tryz.ntmps24
    go_wp2
    go_loopg [5] a.length (fun g i5 wr => ∃ k : Nat, g = a.length - k ∧ k ≤ a.length ∧ i5 = .int .i64 k ∧ Hid (a.take k = b.take k) ∧ ∃ n, wr = w.drewN n)
    case atStart => exact ⟨0, rfl, by omega, rfl, rfl, quiet_refl w⟩
    case round =>
      obtain ⟨k, rfl, hk, rfl, ht, hq0⟩ := hrel
      have hb := quiet_below hq0
      have hq : Hid (∃ n, wr = w.drewN n) := hq0
      clear hq0
      by_cases hlt : k < a.length
      · obtain ⟨b1, o1, x, rfl, hx, q1⟩ := h1.cell hb hlt
        obtain ⟨b2, o2, y, rfl, hy, q2⟩ := h2.cell hb (k := k) (by have := HL.out; omega)
        have hlt2 : (k : Int) < b.length := by have := HL.out; omega
        have HX : Hid (a[k]? = some x) := hx
        have HY : Hid (b[k]? = some y) := hy
        clear hx hy
        by_cases hxy : x = y
        · have e2 := ne_no hxy
          have HE : Hid (x = y) := hxy
          clear hxy
          go_wp2
          go_quiet (fail)
          go_wp2
          go_roundg (a.length - (k + 1))
          case measure => omega
          case rel => exact ⟨k + 1, rfl, by omega, by go_num, take_eq ht.out HX.out HY.out HE.out, quiet_next hq _⟩
        · have e2 := ne_yes hxy
          go_wp2
          go_quiet (fail)
          go_wp2
          go_ret
          exact ⟨ret_b (eqB_no (take_ne HX.out HY.out hxy)).symm, quiet_next hq _⟩
      · go_wp2
        go_ret
        exact ⟨ret_b (eqB_yes (take_all HL.out hlt ht.out)).symm, hq.out⟩
  · have e1 := lt_ne hlen
    go_enter Tryz.func24, Tryz.ntmps24
    go_wp2
    go_ret
    exact ⟨ret_b (eqB_no (len_ne hlen)).symm, quiet_refl _⟩
end Go.Proofs.YtfbeiedhdmndnaaGreatDoor
namespace Go.Proofs.YtfbeiedhdmndnaaGreatDoor
open Go.RowKit

section
variable {n args hs : Int} {i : PIns}
theorem chkI_bad (h : vl i.op = false) : 1 = chkI n args hs i := by simp [chkI, h]
theorem chkI_0 (h : vl i.op = true) (o : opd i.op = 0) : unl (i.a == 0) 1 = chkI n args hs i := by simp [chkI, h, o, unl]
theorem chkI_4 (h : vl i.op = true) (o : opd i.op = 4) : unl (inB i.a 0 n) 4 = chkI n args hs i := by simp [chkI, h, o, unl, inB]
theorem chkI_2 (h : vl i.op = true) (o : opd i.op = 2) : unl (inB i.a 0 7) 6 = chkI n args hs i := by simp [chkI, h, o, unl, inB]
theorem lt_sub (a b : Int) : a ≤ b - 1 ↔ a < b := by omega
theorem chkI_3 (h : vl i.op = true) (o : opd i.op = 3) : unl (inB i.a 0 (args - 1)) 6 = chkI n args hs i := by simp [chkI, h, o, unl, inB, lt_sub]
theorem chkI_5 (h : vl i.op = true) (o : opd i.op = 5) : unl (inB i.a 0 (hs - 1)) 7 = chkI n args hs i := by simp [chkI, h, o, unl, inB, lt_sub]
theorem chkI_1 (h : vl i.op = true) (o : opd i.op = 1) : 0 = chkI n args hs i := by simp [chkI, h, o]
theorem od_all : ∀ i : Nat, i < 26 → od i = 0 ∨ od i = 4 ∨ od i = 2 ∨ od i = 3 ∨ od i = 5 ∨ od i = 1 := by decide
theorem opd_all (op : Int) : opd op = 0 ∨ opd op = 4 ∨ opd op = 2 ∨ opd op = 3 ∨ opd op = 5 ∨ opd op = 1 := by
  unfold opd
  by_cases h : 1 ≤ op ∧ op ≤ 25
  · rw [at_yes h.1 h.2]; exact od_all _ (by omega)
  · rw [at_no (by omega)]; exact od_all 0 (by omega)
end

set_option maxHeartbeats 800000 in
theorem instr_any (w : World) (i : PIns) (c : Value) (h : PHnd) (hs : Int) (ht : Tab w) (hc : Code anyB w c h.code) (ha : 0 ≤ h.args) (ha2 : h.args ≤ 4) (hh : 0 ≤ hs) (hh2 : hs ≤ 1000) :
    Calls Tryz.prog 152 #[.agg #[.int .i64 i.op, .int .i64 i.a], .agg #[.int .i64 h.args, c], .int .i64 hs] w fun e w' => e = .returned (.int .i64 (chkI h.code.length h.args hs i)) ∧ Below w.heap.size w w' := by
  have HB : ∀ (x y : Obj), Below w.heap.size w ((w.alloc x).alloc y) := fun x y => bAlloc (bAlloc (bRefl w) x) y
  have HT : Hid (Tab w) := ht
  obtain ⟨A, cc, rfl, hl⟩ := hc.form
  clear ht
  cases hv : vl i.op with
  | false =>
    go_enter Tryz.func152, Tryz.ntmps152
    go_wp2_with (go_at_call 172; refine (valid_any _ _).mono ?_; rintro e w' ⟨rfl, rfl⟩)
    go_ret
    exact ⟨ret_int (chkI_bad hv), HB _ _⟩
  | true =>
    rcases opd_all i.op with ho | ho | ho | ho | ho | ho
    all_goals
      go_enter Tryz.func152, Tryz.ntmps152
      go_wp2_with (first
        | (go_at_call 172; refine (valid_any _ _).mono ?_; rintro e w' ⟨rfl, rfl⟩)
        | (go_at_call 173; refine (oper_any _ _ (HT.out.below (by exact HB _ _))).mono ?_; rintro e w1 ⟨rfl, hb1⟩; have hc1 := bcell hb1)
        | (go_at_call 151; refine (within_any _ _ _ _).mono ?_; rintro e w' ⟨rfl, rfl⟩)
        | (go_at_call 153; refine (unless_any _ _ _).mono ?_; rintro e w' ⟨rfl, rfl⟩))
      go_ret
      first
        | exact ⟨ret_int (chkI_0 hv ho), bTrans (HB _ _) hb1⟩
        | exact ⟨ret_int (chkI_4 hv ho), bTrans (HB _ _) hb1⟩
        | exact ⟨ret_int (chkI_2 hv ho), bTrans (HB _ _) hb1⟩
        | exact ⟨ret_int (chkI_3 hv ho), bTrans (HB _ _) hb1⟩
        | exact ⟨ret_int (chkI_5 hv ho), bTrans (HB _ _) hb1⟩
        | exact ⟨ret_int (chkI_1 hv ho), bTrans (HB _ _) hb1⟩

theorem in_yes {n a b : Int} (h : a ≤ n ∧ n ≤ b) : inB n a b = true := decide_eq_true h
theorem in_no {n a b : Int} (h : ¬ (a ≤ n ∧ n ≤ b)) : inB n a b = false := decide_eq_false h
theorem ne0_no {n : Int} (h : n = 0) : (n != 0) = false := by simp [h]
theorem ne0_yes {n : Int} (h : ¬ n = 0) : (n != 0) = true := by simp [h]

set_option maxHeartbeats 800000 in
theorem hnd_any (w : World) (v : Value) (h : PHnd) (hs : Int) (ht : Tab w) (hv : HndV w v h) (hh : 0 ≤ hs) (hh2 : hs ≤ 1000) :
    Calls Tryz.prog 124 #[v, .int .i64 hs] w fun e w' => e = .returned (.int .i64 (chkH hs h)) ∧ Below w.heap.size w w' := by
  obtain ⟨c, rfl, hc⟩ := hv
  obtain ⟨A, cc, rfl, hl⟩ := hc.form
  have HB : ∀ (x : Obj), Below w.heap.size w (w.alloc x) := fun x => bAlloc (bRefl w) x
  by_cases ha : 0 ≤ h.args ∧ h.args ≤ 4
  · have hi := in_yes ha
    obtain ⟨ha1, ha2⟩ := ha
    by_cases hlen : h.code.length ≤ 64
    · have HR : Hid (chkH hs h = scan (chkI h.code.length h.args hs) (h.code.drop 0)) := by unfold chkH; rw [if_pos ⟨ha1, ha2⟩, if_pos hlen]; rfl
      have HT : Hid (Tab w) := ht
      clear ht
      go_enter Tryz.func124, Tryz.ntmps124
      go_wp2_with (go_at_call 151; refine (within_any _ _ _ _).mono ?_; rintro e w' ⟨rfl, rfl⟩)
      go_loopg [6, 7, 19] h.code.length (fun g i6 i7 i19 wr => ∃ k : Nat, g = h.code.length - k ∧ k ≤ h.code.length ∧ i19 = .int .i64 k ∧ Hid (scan (chkI h.code.length h.args hs) (h.code.drop k) = chkH hs h) ∧ Below (w.heap.size + 1) (w.alloc (.cells #[.int .i64 h.args, .slice A h.code.length cc] 73)) wr)
      case atStart => exact ⟨0, rfl, by omega, rfl, HR.out.symm, Below.refl _ _⟩
      case round =>
        obtain ⟨k, rfl, hk, rfl, hsc, hb⟩ := hrel
        have hb' : Below w.heap.size w wr := bTrans (HB _) (by simpa using hb)
        have hcb : ∀ o, wr.cell? ⟨w.heap.size, o, none⟩ = (w.alloc (.cells #[.int .i64 h.args, .slice A h.code.length cc] 73)).cell? ⟨w.heap.size, o, none⟩ := fun o => hb.cell (p := ⟨w.heap.size, o, none⟩) (Nat.lt_succ_self _)
        have hz : w.heap.size < wr.heap.size := by have := hb.size; simp at this; omega
        by_cases hlt : k < h.code.length
        · obtain ⟨b1, o1, x, rfl, hx, q1, q2⟩ := hc.cell hb' hlt
          have hz1 : b1 < wr.heap.size := by
            obtain ⟨b, o, hA, _, hlt, _⟩ := hc.at (by omega)
            simp at hA
            have := hb'.size
            omega
          have HS : Hid (scan (chkI h.code.length h.args hs) (h.code.drop k) = if chkI h.code.length h.args hs x = 0 then scan (chkI h.code.length h.args hs) (h.code.drop (k + 1)) else chkI h.code.length h.args hs x) := scan_step hx
          clear hx
          by_cases he : chkI h.code.length h.args hs x = 0
          · have he' := ne0_no he
            have HE : Hid (chkI h.code.length h.args hs x = 0) := he
            clear he
            go_wp2_with (go_at_call 152; refine (instr_any _ _ _ h _ (HT.out.below (by exact bAlloc hb' _)) (hc.below (by exact bAlloc hb' _)) ha1 ha2 hh hh2).mono ?_; rintro e w1 ⟨rfl, hb1⟩)
            go_roundg (h.code.length - (k + 1))
            case measure => omega
            case rel => exact ⟨k + 1, rfl, by omega, by go_num, by rw [← hsc.out, HS.out, if_pos HE.out]; rfl, hb.trans (((Below.refl _ _).alloc (by omega) _).trans (hb1.mono (by simp; omega)))⟩
          · have he' := ne0_yes he
            have HE : Hid (¬ chkI h.code.length h.args hs x = 0) := he
            clear he
            go_wp2_with (go_at_call 152; refine (instr_any _ _ _ h _ (HT.out.below (by exact bAlloc hb' _)) (hc.below (by exact bAlloc hb' _)) ha1 ha2 hh hh2).mono ?_; rintro e w1 ⟨rfl, hb1⟩)
            go_ret
            exact ⟨ret_int (by rw [← hsc.out, HS.out, if_neg HE.out]), bTrans (bAlloc hb' _) hb1⟩
        · go_wp2
          go_ret
          exact ⟨ret_int (by rw [← hsc.out, scan_end hlt]), hb'⟩
    · have HR : Hid (3 = chkH hs h) := by unfold chkH; rw [if_pos ⟨ha1, ha2⟩, if_neg hlen]; rfl
      go_enter Tryz.func124, Tryz.ntmps124
      go_wp2_with (go_at_call 151; refine (within_any _ _ _ _).mono ?_; rintro e w' ⟨rfl, rfl⟩)
      go_ret
      exact ⟨ret_int HR.out, HB _⟩
  · have hi := in_no ha
    have HR : Hid (1 = chkH hs h) := by unfold chkH; rw [if_neg ha]; rfl
    go_enter Tryz.func124, Tryz.ntmps124
    go_wp2_with (go_at_call 151; refine (within_any _ _ _ _).mono ?_; rintro e w' ⟨rfl, rfl⟩)
    go_ret
    exact ⟨ret_int HR.out, HB _⟩
end Go.Proofs.YtfbeiedhdmndnaaGreatDoor
namespace Go.Proofs.YtfbeiedhdmndnaaGreatDoor
open Go.RowKit

theorem argsOf_at {hs : List PHnd} {k : Nat} {x : PHnd} (h : hs[k]? = some x) : argsOf hs (k : Int) = x.args := by
  unfold argsOf
  rw [if_pos (by omega), Int.toNat_natCast, h]
  rfl

set_option maxHeartbeats 800000 in
theorem counts_any (w : World) (v : Value) (p : PPrg) (h : PrgV w v p) :
    Calls Tryz.prog 123 #[v] w fun e w' => e = .returned (.int .i64 (chkC p)) ∧ Below w.heap.size w w' := by
  obtain ⟨a, b, c, rfl, h1, h2, h3⟩ := h
  obtain ⟨A1, c1, rfl, _⟩ := h1.form
  obtain ⟨A2, c2, rfl, _⟩ := h2.form
  obtain ⟨A3, c3, rfl, _⟩ := h3.form
  clear h1 h2 h3
  have HB : ∀ (x : Obj), Below w.heap.size w (w.alloc x) := fun x => bAlloc (bRefl w) x
  by_cases e1 : p.hs.length ≤ 16
  · by_cases e2 : p.acs.length ≤ 8
    · by_cases e3 : p.bs.length ≤ 16
      · by_cases e4 : p.acs.length = 0
        · have HR : Hid (1 = chkC p) := by unfold chkC; rw [if_pos ⟨e1, e2, e3⟩, if_neg (fun h => h.1 e4)]; rfl
          have e4' : ((p.acs.length : Int) == 0) = true := by simp; exact List.length_eq_zero_iff.1 e4
          clear e4
          go_enter Tryz.func123, Tryz.ntmps123
          go_wp2
          go_ret
          exact ⟨ret_int HR.out, HB _⟩
        · have e4' : ((p.acs.length : Int) == 0) = false := by simp; exact fun h => e4 (by rw [h]; rfl)
          by_cases e5 : 1 ≤ p.fuel ∧ p.fuel ≤ 256
          · have HR : Hid (0 = chkC p) := by unfold chkC; rw [if_pos ⟨e1, e2, e3⟩, if_pos ⟨e4, e5⟩]; rfl
            have hi := in_yes e5
            clear e4 e5
            go_enter Tryz.func123, Tryz.ntmps123
            go_wp2_with (go_at_call 151; refine (within_any _ _ _ _).mono ?_; rintro e w' ⟨rfl, rfl⟩)
            go_ret
            exact ⟨ret_int HR.out, HB _⟩
          · have HR : Hid (1 = chkC p) := by unfold chkC; rw [if_pos ⟨e1, e2, e3⟩, if_neg (fun h => e5 h.2)]; rfl
            have hi := in_no e5
            clear e4 e5
            go_enter Tryz.func123, Tryz.ntmps123
            go_wp2_with (go_at_call 151; refine (within_any _ _ _ _).mono ?_; rintro e w' ⟨rfl, rfl⟩)
            go_ret
            exact ⟨ret_int HR.out, HB _⟩
      · have HR : Hid (3 = chkC p) := by unfold chkC; rw [if_neg (by omega)]; rfl
        go_enter Tryz.func123, Tryz.ntmps123
        go_wp2
        go_ret
        exact ⟨ret_int HR.out, HB _⟩
    · have HR : Hid (3 = chkC p) := by unfold chkC; rw [if_neg (by omega)]; rfl
      go_enter Tryz.func123, Tryz.ntmps123
      go_wp2
      go_ret
      exact ⟨ret_int HR.out, HB _⟩
  · have HR : Hid (3 = chkC p) := by unfold chkC; rw [if_neg (by omega)]; rfl
    go_enter Tryz.func123, Tryz.ntmps123
    go_wp2
    go_ret
    exact ⟨ret_int HR.out, HB _⟩

set_option maxHeartbeats 800000 in
theorem act_any (w : World) (v vh : Value) (a : PAct) (hs : List PHnd) (hv : ActV w v a) (hh : Hnds anyB anyB w vh hs) :
    Calls Tryz.prog 125 #[v, vh] w fun e w' => e = .returned (.int .i64 (chkA hs a)) ∧ Below w.heap.size w w' := by
  obtain ⟨c, rfl, hc⟩ := hv
  obtain ⟨A, cc, rfl, hl⟩ := hc.form
  obtain ⟨A1, c1, rfl, hl1⟩ := hh.form
  have HB : ∀ (x : Obj), Below w.heap.size w (w.alloc x) := fun x => bAlloc (bRefl w) x
  obtain ⟨regs, cap, timer, armed⟩ := a
  dsimp only at hl hc ⊢
  clear hc
  by_cases e1 : regs.length ≤ 8
  · by_cases e2 : 0 ≤ cap ∧ cap ≤ 16
    · have hi := in_yes e2
      by_cases e3 : timer = -1
      · subst e3
        have HR : Hid (unl (!armed) 1 = chkA hs ⟨regs, cap, -1, armed⟩) := by unfold chkA; rw [if_pos e1, if_pos e2, if_pos rfl]; cases armed <;> rfl
        clear e2
        go_enter Tryz.func125, Tryz.ntmps125
        go_wp2_with (first
          | (go_at_call 151; refine (within_any _ _ _ _).mono ?_; rintro e w' ⟨rfl, rfl⟩)
          | (go_at_call 153; refine (unless_any _ _ _).mono ?_; rintro e w' ⟨rfl, rfl⟩))
        go_ret
        exact ⟨ret_int HR.out, HB _⟩
      · have e3' : (timer == -1) = false := by simp [e3]
        by_cases e4 : 0 ≤ timer ∧ timer < hs.length
        · have hi2 : inB timer 0 ((hs.length : Int) - 1) = true := in_yes (by omega)
          obtain ⟨k, rfl⟩ := Int.eq_ofNat_of_zero_le e4.1
          have hk : k < hs.length := by omega
          obtain ⟨b1, o1, x, v1, rfl, hx, hz1, q1, q2, hv1⟩ := hh.cell (bRefl w) hk
          have HA : Hid (argsOf hs (k : Int) = x.args) := argsOf_at hx
          clear hx
          by_cases e5 : x.args = 0
          · have HR : Hid (0 = chkA hs ⟨regs, cap, (k : Int), armed⟩) := by unfold chkA; rw [if_pos e1, if_pos e2, if_neg e3, if_pos ⟨e4, by rw [HA.out]; exact e5⟩]; rfl
            have e5' := ne0_no e5
            clear e2 e3 e5
            go_enter Tryz.func125, Tryz.ntmps125
            go_wp2_with (go_at_call 151; refine (within_any _ _ _ _).mono ?_; rintro e w' ⟨rfl, rfl⟩)
            go_ret
            exact ⟨ret_int HR.out, HB _⟩
          · have HR : Hid (7 = chkA hs ⟨regs, cap, (k : Int), armed⟩) := by unfold chkA; rw [if_pos e1, if_pos e2, if_neg e3, if_neg (fun h => e5 (by rw [← HA.out]; exact h.2))]; rfl
            have e5' := ne0_yes e5
            clear e2 e3 e5
            go_enter Tryz.func125, Tryz.ntmps125
            go_wp2_with (go_at_call 151; refine (within_any _ _ _ _).mono ?_; rintro e w' ⟨rfl, rfl⟩)
            go_ret
            exact ⟨ret_int HR.out, HB _⟩
        · have hi2 : inB timer 0 ((hs.length : Int) - 1) = false := in_no (by omega)
          have HR : Hid (7 = chkA hs ⟨regs, cap, timer, armed⟩) := by unfold chkA; rw [if_pos e1, if_pos e2, if_neg e3, if_neg (fun h => e4 h.1)]; rfl
          clear e2 e3 e4
          go_enter Tryz.func125, Tryz.ntmps125
          go_wp2_with (go_at_call 151; refine (within_any _ _ _ _).mono ?_; rintro e w' ⟨rfl, rfl⟩)
          go_ret
          exact ⟨ret_int HR.out, HB _⟩
    · have hi := in_no e2
      have HR : Hid (1 = chkA hs ⟨regs, cap, timer, armed⟩) := by unfold chkA; rw [if_pos e1, if_neg e2]; rfl
      clear e2
      go_enter Tryz.func125, Tryz.ntmps125
      go_wp2_with (go_at_call 151; refine (within_any _ _ _ _).mono ?_; rintro e w' ⟨rfl, rfl⟩)
      go_ret
      exact ⟨ret_int HR.out, HB _⟩
  · have HR : Hid (3 = chkA hs ⟨regs, cap, timer, armed⟩) := by unfold chkA; rw [if_neg e1]; rfl
    go_enter Tryz.func125, Tryz.ntmps125
    go_wp2
    go_ret
    exact ⟨ret_int HR.out, HB _⟩

set_option maxHeartbeats 800000 in
theorem nte_any (w : World) (v vp : Value) (n : PNte) (p : PPrg) (hv : NteV w v n) (hp : PrgV w vp p) :
    Calls Tryz.prog 126 #[v, vp] w fun e w' => e = .returned (.int .i64 (chkN p.acs.length p.hs n)) ∧ Below w.heap.size w w' := by
  obtain ⟨c, rfl, hc⟩ := hv
  obtain ⟨A, cc, rfl, hl⟩ := hc.form
  obtain ⟨va, vb, vc, rfl, h1, h2, h3⟩ := hp
  obtain ⟨A1, c1, rfl, hl1⟩ := h1.form
  obtain ⟨A2, c2, rfl, hl2⟩ := h2.form
  obtain ⟨A3, c3, rfl, hl3⟩ := h3.form
  have HB : ∀ (x y : Obj), Below w.heap.size w ((w.alloc x).alloc y) := fun x y => bAlloc (bAlloc (bRefl w) x) y
  obtain ⟨t, d, l⟩ := n
  dsimp only at hl hc ⊢
  clear hc h2 h3
  by_cases e1 : 0 ≤ t ∧ t < p.acs.length
  · have hi1 : inB t 0 ((p.acs.length : Int) - 1) = true := in_yes (by omega)
    by_cases e2 : 0 ≤ d ∧ d < p.hs.length
    · have hi2 : inB d 0 ((p.hs.length : Int) - 1) = true := in_yes (by omega)
      obtain ⟨k, rfl⟩ := Int.eq_ofNat_of_zero_le e2.1
      have hk : k < p.hs.length := by omega
      obtain ⟨b1, o1, x, v1, rfl, hx, hz1, q1, q2, hv1⟩ := h1.cell (bRefl w) hk
      have HA : Hid (argsOf p.hs (k : Int) = x.args) := argsOf_at hx
      have HR : Hid (unl ((l.length : Int) == x.args) 1 = chkN p.acs.length p.hs ⟨t, (k : Int), l⟩) := by
        unfold chkN; rw [if_pos ⟨e1, e2⟩, HA.out]; simp [unl, Hid]
      clear hx e1
      go_enter Tryz.func126, Tryz.ntmps126
      go_wp2_with (go_at_call 151; refine (within_any _ _ _ _).mono ?_; rintro e w' ⟨rfl, rfl⟩)
      go_quiet ((go_at_call 153; exact Calls.quiet_of_same (unless_any _ _ _)))
      go_wp2
      go_ret
      exact ⟨ret_int HR.out, bDrewN (HB _ _) _⟩
    · have hi2 : inB d 0 ((p.hs.length : Int) - 1) = false := in_no (by omega)
      have HR : Hid (7 = chkN p.acs.length p.hs ⟨t, d, l⟩) := by unfold chkN; rw [if_neg (fun h => e2 h.2)]; rfl
      clear e1 e2
      go_enter Tryz.func126, Tryz.ntmps126
      go_wp2_with (go_at_call 151; refine (within_any _ _ _ _).mono ?_; rintro e w' ⟨rfl, rfl⟩)
      go_ret
      exact ⟨ret_int HR.out, HB _ _⟩
  · have hi1 : inB t 0 ((p.acs.length : Int) - 1) = false := in_no (by omega)
    have HR : Hid (7 = chkN p.acs.length p.hs ⟨t, d, l⟩) := by unfold chkN; rw [if_neg (fun h => e1 h.1)]; rfl
    clear e1
    go_enter Tryz.func126, Tryz.ntmps126
    go_wp2_with (go_at_call 151; refine (within_any _ _ _ _).mono ?_; rintro e w' ⟨rfl, rfl⟩)
    go_ret
    exact ⟨ret_int HR.out, HB _ _⟩
end Go.Proofs.YtfbeiedhdmndnaaGreatDoor
namespace Go.Proofs.YtfbeiedhdmndnaaGreatDoor

/-- What an instruction takes: its Pops; of a send the Args of its handler besides. -/
def tk (hs : List PHnd) (i : PIns) : Int := if i.op = 22 then po (at_ i.op) + argsOf hs i.a else po (at_ i.op)
def pt (i : PIns) : Int := pu (at_ i.op)
/-- What it leaves. -/
def lft (hs : List PHnd) (i : PIns) (d : Int) : Int := d - tk hs i + pt i
def okI (hs : List PHnd) (i : PIns) (d : Int) : Prop := tk hs i ≤ d ∧ lft hs i d ≤ 8
instance (hs : List PHnd) (i : PIns) (d : Int) : Decidable (okI hs i d) := by unfold okI; infer_instance
/-- Where it may go on. -/
def nxt (i : PIns) (k : Nat) : List Nat := if i.op = 25 then [] else if i.op = 20 then [i.a.toNat] else if i.op = 21 then [i.a.toNat, k + 1] else [k + 1]

inductive Rch (hs : List PHnd) (code : List PIns) : Nat → Int → Prop
  | start : Rch hs code 0 0
  | step {k : Nat} {d : Int} {i : PIns} {j : Nat} : Rch hs code k d → code[k]? = some i → okI hs i d → j ∈ nxt i k → Rch hs code j (lft hs i d)

def Bad (hs : List PHnd) (code : List PIns) : Prop :=
  (∃ k d i, Rch hs code k d ∧ code[k]? = some i ∧ ¬ okI hs i d) ∨ ∃ k d d', Rch hs code k d ∧ Rch hs code k d' ∧ d ≠ d'
/-- At place k all is done. -/
def Dn (hs : List PHnd) (code : List PIns) (l : List Int) (k : Nat) : Prop :=
  ∀ d i, l[k]? = some d → 0 ≤ d → code[k]? = some i → okI hs i d ∧ ∀ j ∈ nxt i k, l[j]? = some (lft hs i d)
/-- What holds of depths on the way. -/
structure Snd (hs : List PHnd) (code : List PIns) (l : List Int) : Prop where
  len : l.length = code.length + 1
  first : l[0]? = some 0
  sound : ∀ k d, l[k]? = some d → d = -1 ∨ Rch hs code k d
structure Good (hs : List PHnd) (code : List PIns) (l : List Int) : Prop extends Snd hs code l where
  closed : ∀ k, Dn hs code l k

theorem pu_nonneg : ∀ i : Nat, 0 ≤ pu i := by
  intro i
  by_cases h : i < 26
  · have : ∀ i : Nat, i < 26 → 0 ≤ pu i := by decide
    exact this i h
  · have : pu i = 0 := by
      unfold pu puL
      rw [List.getD_eq_getElem?_getD, List.getElem?_eq_none (by simp; omega)]; rfl
    omega
theorem pt_bd (i : PIns) : 0 ≤ pt i ∧ pt i ≤ 2 := by
  refine ⟨pu_nonneg _, ?_⟩
  unfold pt at_
  split
  · rename_i h
    have : ∀ i : Nat, i < 26 → pu i ≤ 2 := by decide
    exact this _ (by omega)
  · decide
theorem po_bd (op : Int) : 0 ≤ po (at_ op) ∧ po (at_ op) ≤ 2 := by
  unfold at_
  split
  · rename_i h
    have : ∀ i : Nat, i < 26 → 0 ≤ po i ∧ po i ≤ 2 := by decide
    exact this _ (by omega)
  · decide
section
variable {hs : List PHnd} {code : List PIns} {l l' : List Int} {k : Nat} {d d' : Int} {i : PIns}
theorem lft_nonneg (h : okI hs i d) : 0 ≤ lft hs i d := by
  have h1 := h.1
  have h2 := (pt_bd i).1
  unfold lft; omega
theorem Rch.nonneg (h : Rch hs code k d) : 0 ≤ d := by
  cases h with
  | start => exact Int.le_refl _
  | step _ _ ho _ => exact lft_nonneg ho
theorem Rch.le (h : Rch hs code k d) : d ≤ 8 := by
  cases h with
  | start => decide
  | step _ _ ho _ => exact ho.2
theorem Good.at (g : Good hs code l) (h : Rch hs code k d) : l[k]? = some d := by
  induction h with
  | start => exact g.first
  | step hr hi ho hj ih => exact (g.closed _ _ _ ih hr.nonneg hi).2 _ hj
theorem Good.not_bad (g : Good hs code l) : ¬ Bad hs code := by
  rintro (⟨k, d, i, hr, hi, hn⟩ | ⟨k, d, d', h1, h2, hn⟩)
  · exact hn (g.closed _ _ _ (g.at hr) hr.nonneg hi).1
  · have := (g.at h1).symm.trans (g.at h2)
    exact hn (Option.some.inj this)
theorem Good.unique (g : Good hs code l) (g' : Good hs code l') : l = l' := by
  refine List.ext_getElem? fun k => ?_
  by_cases hk : k < l.length
  · obtain ⟨x, hx⟩ := at_lt hk
    have hk' : k < l'.length := by rw [g'.len]; rw [g.len] at hk; exact hk
    obtain ⟨y, hy⟩ := at_lt hk'
    rcases g.sound k x hx with h | h
    · rcases g'.sound k y hy with h' | h'
      · rw [hx, hy, h, h']
      · have := g.at h'
        rw [hx] at this
        have e := Option.some.inj this
        have := h'.nonneg
        omega
    · rw [hx, g'.at h]
  · rw [List.getElem?_eq_none (by omega), List.getElem?_eq_none (by rw [g'.len]; rw [g.len] at hk; omega)]
open Classical in
/-- The depths, if there are any. -/
noncomputable def dp (hs : List PHnd) (code : List PIns) : Option (List Int) := if h : ∃ l, Good hs code l then some h.choose else none
theorem Good.dp (g : Good hs code l) : dp hs code = some l := by
  have h : ∃ l, Good hs code l := ⟨l, g⟩
  unfold YtfbeiedhdmndnaaGreatDoor.dp
  rw [dif_pos h, h.choose_spec.unique g]
theorem Bad.dp (b : Bad hs code) : dp hs code = none := by
  unfold YtfbeiedhdmndnaaGreatDoor.dp
  rw [dif_neg (fun ⟨l, g⟩ => g.not_bad b)]
theorem dp_good (h : dp hs code = some l) : Good hs code l := by
  unfold YtfbeiedhdmndnaaGreatDoor.dp at h
  split at h
  · rename_i hx
    exact Option.some.inj h ▸ hx.choose_spec
  · cases h



/-! On the way. -/
theorem Snd.rch (s : Snd hs code l) (h : l[k]? = some d) (h0 : 0 ≤ d) : Rch hs code k d := by
  rcases s.sound k d h with h1 | h1
  · omega
  · exact h1
/-- A place that was not reached is reached now. -/
theorem Snd.set (s : Snd hs code l) (h : l[k]? = some (-1)) (hr : Rch hs code k d) : Snd hs code (l.set k d) := by
  refine ⟨by rw [List.length_set]; exact s.len, ?_, fun j x hx => ?_⟩
  · have hk : k ≠ 0 := by rintro rfl; rw [s.first] at h; cases h
    rw [List.getElem?_set_ne hk]; exact s.first
  · by_cases e : k = j
    · subst e
      rw [List.getElem?_set_self (by exact (List.getElem?_eq_some_iff.1 h).1)] at hx
      exact Or.inr (Option.some.inj hx ▸ hr)
    · rw [List.getElem?_set_ne e] at hx
      exact s.sound j x hx
theorem Dn.set {j : Nat} (s : Dn hs code l j) (h : l[k]? = some (-1)) (hj : k ≠ j) : Dn hs code (l.set k d) j := by
  intro x i hx h0 hi
  rw [List.getElem?_set_ne hj] at hx
  obtain ⟨h1, h2⟩ := s x i hx h0 hi
  refine ⟨h1, fun m hm => ?_⟩
  have h3 := h2 m hm
  have hne : k ≠ m := by
    rintro rfl
    rw [h] at h3
    have := lft_nonneg h1
    have e := Option.some.inj h3
    omega
  rw [List.getElem?_set_ne hne]; exact h3
theorem count_set_less (h : l[k]? = some (-1)) (h0 : 0 ≤ d) : (l.set k d).count (-1) + 1 = l.count (-1) := by
  obtain ⟨hk, he⟩ := List.getElem?_eq_some_iff.1 h
  rw [List.count_set hk, he]
  have h1 : 0 < l.count (-1) := List.count_pos_iff.2 (he ▸ List.getElem_mem hk)
  have h2 : (d == -1) = false := by simp; omega
  rw [h2]
  simp
  omega
end

/-- The walk: what is to be done (t), beside the place that is being done (m of whose ways are done). -/
structure Wk (hs : List PHnd) (code : List PIns) (l : List Int) (t : List Nat) : Prop extends Snd hs code l where
  todo : ∀ k ∈ t, ∃ d, l[k]? = some d ∧ 0 ≤ d
  done : ∀ k, k ∈ t ∨ Dn hs code l k
structure Wm (hs : List PHnd) (code : List PIns) (l : List Int) (t : List Nat) (k : Nat) (d : Int) (i : PIns) (m : Nat) : Prop extends Snd hs code l where
  todo : ∀ k ∈ t, ∃ d, l[k]? = some d ∧ 0 ≤ d
  done : ∀ j, j ∈ t ∨ j = k ∨ Dn hs code l j
  here : l[k]? = some d
  ways : ∀ j ∈ (nxt i k).take m, l[j]? = some (lft hs i d)
section
variable {hs : List PHnd} {code : List PIns} {l l' : List Int} {t : List Nat} {k m : Nat} {d d' : Int} {i : PIns}
theorem Wk.good (h : Wk hs code l []) : Good hs code l := ⟨h.toSnd, fun k => (h.done k).elim (fun h => absurd h (List.not_mem_nil)) id⟩
theorem Wk.begin {hs : List PHnd} {code : List PIns} : Wk hs code ((List.replicate (code.length + 1) (-1)).set 0 0) [0] := by
  have h0 : ((List.replicate (code.length + 1) (-1 : Int)).set 0 0)[0]? = some 0 := by rw [List.getElem?_set_self (by simp)]
  have h1 : ∀ j d, 0 ≠ j → ((List.replicate (code.length + 1) (-1 : Int)).set 0 0)[j]? = some d → d = -1 := fun j d hj h => by
    rw [List.getElem?_set_ne hj, List.getElem?_replicate] at h
    split at h
    · exact (Option.some.inj h).symm
    · cases h
  refine ⟨⟨by simp, h0, fun j d hd => ?_⟩, fun k hk => ?_, fun j => ?_⟩
  · by_cases e : 0 = j
    · subst e; rw [h0] at hd; cases hd; exact Or.inr .start
    · exact Or.inl (h1 j d e hd)
  · rw [List.mem_singleton] at hk; subst hk; exact ⟨0, h0, Int.le_refl _⟩
  · by_cases e : 0 = j
    · exact Or.inl (by simp [e])
    · refine Or.inr fun d i hd h0 _ => ?_
      have := h1 j d e hd
      omega
/-- The last of what is to be done is the end: done. -/
theorem Wk.pop (h : Wk hs code l (t ++ [k])) (hk : code[k]? = none) : Wk hs code l t :=
  ⟨h.toSnd, fun j hj => h.todo j (List.mem_append_left _ hj), fun j => by
    rcases h.done j with hj | hj
    · rcases List.mem_append.1 hj with hj | hj
      · exact Or.inl hj
      · rw [List.mem_singleton] at hj; subst hj
        exact Or.inr fun d i _ _ hi => by rw [hk] at hi; cases hi
    · exact Or.inr hj⟩
theorem Wk.here (h : Wk hs code l (t ++ [k])) : ∃ d, l[k]? = some d ∧ 0 ≤ d := h.todo k (by simp)
theorem Wk.into (h : Wk hs code l (t ++ [k])) (hd : l[k]? = some d) : Wm hs code l t k d i 0 :=
  ⟨h.toSnd, fun j hj => h.todo j (List.mem_append_left _ hj), fun j => by
    rcases h.done j with hj | hj
    · rcases List.mem_append.1 hj with hj | hj
      · exact Or.inl hj
      · exact Or.inr (Or.inl (List.mem_singleton.1 hj))
    · exact Or.inr (Or.inr hj), hd, fun j hj => by simp at hj⟩
theorem take_mem {α : Type} {l : List α} {m : Nat} {x j : α} (h : l[m]? = some x) (hj : j ∈ l.take (m + 1)) : j ∈ l.take m ∨ j = x := by
  rw [List.take_add_one, h] at hj
  simpa using hj
theorem Wm.new {j : Nat} (h : Wm hs code l t k d i m) (h0 : 0 ≤ d) (hi : code[k]? = some i) (ho : okI hs i d) (hj : (nxt i k)[m]? = some j) (hn : l[j]? = some (-1)) :
    Wm hs code (l.set j (lft hs i d)) (t ++ [j]) k d i (m + 1) := by
  have hr : Rch hs code j (lft hs i d) := .step (h.toSnd.rch h.here h0) hi ho (List.mem_of_getElem? hj)
  have hkj : j ≠ k := by rintro rfl; have := h.here; rw [hn] at this; have e := Option.some.inj this; omega
  have hself : (l.set j (lft hs i d))[j]? = some (lft hs i d) := List.getElem?_set_self (List.getElem?_eq_some_iff.1 hn).1
  have hold : ∀ (x : Nat) (y : Int), l[x]? = some y → 0 ≤ y → (l.set j (lft hs i d))[x]? = some y := fun x y hx hy => by
    rw [List.getElem?_set_ne (by rintro rfl; rw [hn] at hx; have e := Option.some.inj hx; omega)]; exact hx
  refine ⟨h.toSnd.set hn hr, fun x hx => ?_, fun x => ?_, hold _ _ h.here h0, fun x hx => ?_⟩
  · rcases List.mem_append.1 hx with hx | hx
    · obtain ⟨y, h1, h2⟩ := h.todo x hx
      exact ⟨y, hold _ _ h1 h2, h2⟩
    · rw [List.mem_singleton] at hx; subst hx; exact ⟨_, hself, lft_nonneg ho⟩
  · by_cases e : j = x
    · exact Or.inl (by simp [e])
    · rcases h.done x with hx | hx | hx
      · exact Or.inl (List.mem_append_left _ hx)
      · exact Or.inr (Or.inl hx)
      · exact Or.inr (Or.inr (hx.set hn e))
  · rcases take_mem hj hx with hx | rfl
    · exact hold _ _ (h.ways x hx) (lft_nonneg ho)
    · exact hself
theorem Wm.old {j : Nat} (h : Wm hs code l t k d i m) (hj : (nxt i k)[m]? = some j) (hn : l[j]? = some (lft hs i d)) : Wm hs code l t k d i (m + 1) :=
  ⟨h.toSnd, h.todo, h.done, h.here, fun x hx => (take_mem hj hx).elim (h.ways x) fun e => e ▸ hn⟩
theorem Wm.two {j : Nat} {x : Int} (h : Wm hs code l t k d i m) (h0 : 0 ≤ d) (hi : code[k]? = some i) (ho : okI hs i d) (hj : (nxt i k)[m]? = some j) (hn : l[j]? = some x) (hx : x ≠ -1) (hne : x ≠ lft hs i d) : Bad hs code :=
  Or.inr ⟨j, x, _, (h.sound j x hn).resolve_left hx, .step (h.toSnd.rch h.here h0) hi ho (List.mem_of_getElem? hj), hne⟩
theorem Wm.bad (h : Wm hs code l t k d i m) (h0 : 0 ≤ d) (hi : code[k]? = some i) (ho : ¬ okI hs i d) : Bad hs code :=
  Or.inl ⟨k, d, i, h.toSnd.rch h.here h0, hi, ho⟩
theorem Wm.out (h : Wm hs code l t k d i m) (hi : code[k]? = some i) (ho : okI hs i d) (hm : (nxt i k).length ≤ m) : Wk hs code l t :=
  ⟨h.toSnd, h.todo, fun j => by
    rcases h.done j with hj | rfl | hj
    · exact Or.inl hj
    · refine Or.inr fun x y hx _ hy => ?_
      rw [h.here] at hx; rw [hi] at hy
      cases hx; cases hy
      refine ⟨ho, fun z hz => h.ways z (by rwa [List.take_of_length_le hm])⟩
    · exact Or.inr hj⟩
end

/-! The reference's way: pass upon pass. -/
/-- In a pass, ahead of place k: `ag`, whether something came new in it. -/
structure Ps (hs : List PHnd) (code : List PIns) (l : List Int) (mo : Int) (ag : Bool) (k : Nat) : Prop extends Snd hs code l where
  done : ag = false → ∀ j, j < k → Dn hs code l j
  big : ag = false → ∀ j d i, j < k → l[j]? = some d → 0 ≤ d → code[j]? = some i → d ≤ mo ∧ lft hs i d ≤ mo
  nn : 0 ≤ mo
  le : mo ≤ 8
  is : mo = 0 ∨ ∃ j d i, Rch hs code j d ∧ code[j]? = some i ∧ okI hs i d ∧ (mo = d ∨ mo = lft hs i d)
/-- At place k, m of whose ways are done. -/
structure Pm (hs : List PHnd) (code : List PIns) (l : List Int) (mo : Int) (ag : Bool) (k : Nat) (d : Int) (i : PIns) (m : Nat) : Prop extends Ps hs code l mo ag k where
  here : l[k]? = some d
  ways : ∀ j ∈ (nxt i k).take m, l[j]? = some (lft hs i d)
  mb : d ≤ mo ∧ lft hs i d ≤ mo
def mx2 (a b : Int) : Int := if a ≤ b then b else a
section
variable {hs : List PHnd} {code : List PIns} {l l' : List Int} {mo : Int} {ag : Bool} {k m : Nat} {d d' : Int} {i : PIns}
theorem Ps.begin {hs : List PHnd} {code : List PIns} : Ps hs code ((List.replicate (code.length + 1) (-1)).set 0 0) 0 false 0 :=
  ⟨Wk.begin.toSnd, fun _ _ hj => absurd hj (Nat.not_lt_zero _), fun _ _ _ _ hj => absurd hj (Nat.not_lt_zero _), Int.le_refl _, by decide, Or.inl rfl⟩
theorem Ps.again (h : Ps hs code l mo ag k) : Ps hs code l mo false 0 :=
  ⟨h.toSnd, fun _ _ hj => absurd hj (Nat.not_lt_zero _), fun _ _ _ _ hj => absurd hj (Nat.not_lt_zero _), h.nn, h.le, h.is⟩
/-- A place that is not reached. -/
theorem Ps.skip (h : Ps hs code l mo ag k) (hd : l[k]? = some d) (h0 : d < 0) : Ps hs code l mo ag (k + 1) :=
  ⟨h.toSnd, fun ha j hj => by
    by_cases e : j = k
    · subst e; intro x i hx h1 _; rw [hd] at hx; cases hx; omega
    · exact h.done ha j (by omega), fun ha j x i hj hx h1 hi => by
    by_cases e : j = k
    · subst e; rw [hd] at hx; cases hx; omega
    · exact h.big ha j x i (by omega) hx h1 hi, h.nn, h.le, h.is⟩
theorem Ps.into {mo' : Int} (h : Ps hs code l mo ag k) (hd : l[k]? = some d) (h0 : 0 ≤ d) (hi : code[k]? = some i) (ho : okI hs i d) (hm1 : mo ≤ mo') (hm2 : d ≤ mo') (hm3 : lft hs i d ≤ mo') (hm : mo' = mo ∨ mo' = d ∨ mo' = lft hs i d) :
    Pm hs code l mo' ag k d i 0 := by
  have hr := h.toSnd.rch hd h0
  refine ⟨⟨h.toSnd, h.done, fun ha j x y hj hx h1 hy => ?_, by have := h.nn; omega, ?_, ?_⟩, hd, fun j hj => by simp at hj, hm2, hm3⟩
  · have := h.big ha j x y hj hx h1 hy
    omega
  · have h1 := h.le
    have h2 := hr.le
    have h3 := ho.2
    rcases hm with e | e | e <;> omega
  · rcases hm with e | e | e
    · rw [e]; exact h.is
    · exact Or.inr ⟨k, d, i, hr, hi, ho, Or.inl e⟩
    · exact Or.inr ⟨k, d, i, hr, hi, ho, Or.inr e⟩
theorem Pm.new {j : Nat} (h : Pm hs code l mo ag k d i m) (h0 : 0 ≤ d) (hi : code[k]? = some i) (ho : okI hs i d) (hj : (nxt i k)[m]? = some j) (hn : l[j]? = some (-1)) :
    Pm hs code (l.set j (lft hs i d)) mo true k d i (m + 1) := by
  have hr : Rch hs code j (lft hs i d) := .step (h.toSnd.rch h.here h0) hi ho (List.mem_of_getElem? hj)
  have hself : (l.set j (lft hs i d))[j]? = some (lft hs i d) := List.getElem?_set_self (List.getElem?_eq_some_iff.1 hn).1
  have hold : ∀ (x : Nat) (y : Int), l[x]? = some y → 0 ≤ y → (l.set j (lft hs i d))[x]? = some y := fun x y hx hy => by
    rw [List.getElem?_set_ne (by rintro rfl; rw [hn] at hx; have e := Option.some.inj hx; omega)]; exact hx
  refine ⟨⟨h.toSnd.set hn hr, (by intro ha; cases ha), (by intro ha; cases ha), h.nn, h.le, h.is⟩, hold _ _ h.here h0, fun x hx => ?_, h.mb⟩
  rcases take_mem hj hx with hx | rfl
  · exact hold _ _ (h.ways x hx) (lft_nonneg ho)
  · exact hself
theorem Pm.old {j : Nat} (h : Pm hs code l mo ag k d i m) (hj : (nxt i k)[m]? = some j) (hn : l[j]? = some (lft hs i d)) : Pm hs code l mo ag k d i (m + 1) :=
  ⟨h.toPs, h.here, fun x hx => (take_mem hj hx).elim (h.ways x) fun e => e ▸ hn, h.mb⟩
theorem Pm.two {j : Nat} {x : Int} (h : Pm hs code l mo ag k d i m) (h0 : 0 ≤ d) (hi : code[k]? = some i) (ho : okI hs i d) (hj : (nxt i k)[m]? = some j) (hn : l[j]? = some x) (hx : x ≠ -1) (hne : x ≠ lft hs i d) : Bad hs code :=
  Or.inr ⟨j, x, _, (h.sound j x hn).resolve_left hx, .step (h.toSnd.rch h.here h0) hi ho (List.mem_of_getElem? hj), hne⟩
theorem Ps.bad (h : Ps hs code l mo ag k) (hd : l[k]? = some d) (h0 : 0 ≤ d) (hi : code[k]? = some i) (ho : ¬ okI hs i d) : Bad hs code :=
  Or.inl ⟨k, d, i, h.toSnd.rch hd h0, hi, ho⟩
theorem Pm.out (h : Pm hs code l mo ag k d i m) (hi : code[k]? = some i) (ho : okI hs i d) (hm : (nxt i k).length ≤ m) : Ps hs code l mo ag (k + 1) :=
  ⟨h.toSnd, fun ha j hj => by
    by_cases e : j = k
    · subst e
      intro x y hx _ hy
      rw [h.here] at hx; rw [hi] at hy
      cases hx; cases hy
      exact ⟨ho, fun z hz => h.ways z (by rwa [List.take_of_length_le hm])⟩
    · exact h.done ha j (by omega), fun ha j x y hj hx h1 hy => by
    by_cases e : j = k
    · subst e
      rw [h.here] at hx; rw [hi] at hy
      cases hx; cases hy
      exact h.mb
    · exact h.big ha j x y (by omega) hx h1 hy, h.nn, h.le, h.is⟩
theorem Ps.good (h : Ps hs code l mo false code.length) : Good hs code l :=
  ⟨h.toSnd, fun k d i hd h0 hi => h.done rfl k (List.getElem?_eq_some_iff.1 hi).1 d i hd h0 hi⟩

/-- The greatest of a list; 0 of none below that. -/
def mxl : List Int → Int
  | [] => -1
  | x :: r => mx2 x (mxl r)
theorem mx2_ge (a b : Int) : a ≤ mx2 a b ∧ b ≤ mx2 a b ∧ (mx2 a b = a ∨ mx2 a b = b) := by unfold mx2; split <;> omega
theorem mxl_ge {l : List Int} {x : Int} (h : x ∈ l) : x ≤ mxl l := by
  induction l with
  | nil => cases h
  | cons y r ih =>
    have := mx2_ge y (mxl r)
    rcases List.mem_cons.1 h with rfl | h
    · exact this.1
    · have := ih h; unfold mxl; omega
theorem mxl_is (l : List Int) : mxl l = -1 ∨ mxl l ∈ l := by
  induction l with
  | nil => exact Or.inl rfl
  | cons y r ih =>
    have := mx2_ge y (mxl r)
    unfold mxl
    rcases this.2.2 with e | e
    · rw [e]; exact Or.inr (by simp)
    · rw [e]; exact ih.imp id (List.mem_cons_of_mem _)
/-- An instruction that goes on nowhere leaves what it found. -/
theorem lft_end (h : i.op = 25) : lft hs i d = d := by
  unfold lft tk pt
  rw [if_neg (by omega), h]
  have h1 : po (at_ 25) = 0 := by decide
  have h2 : pu (at_ 25) = 0 := by decide
  omega
theorem nxt_some (h : i.op ≠ 25) (k : Nat) : ∃ j, j ∈ nxt i k := by
  unfold nxt
  rw [if_neg h]
  split
  · exact ⟨_, List.mem_singleton.2 rfl⟩
  · split
    · exact ⟨_, List.mem_cons_self ..⟩
    · exact ⟨_, List.mem_singleton.2 rfl⟩
theorem Ps.most (h : Ps hs code l mo false code.length) : mo = mxl l := by
  have g := h.good
  have h1 : mo ≤ mxl l := by
    rcases h.is with e | ⟨j, d, i, hr, hi, ho, e⟩
    · rw [e]; exact mxl_ge (List.mem_of_getElem? g.first)
    · have hd := g.at hr
      have hx := mxl_ge (List.mem_of_getElem? hd)
      rcases e with e | e
      · omega
      · by_cases e25 : i.op = 25
        · rw [lft_end e25] at e; omega
        · obtain ⟨j', hj'⟩ := nxt_some e25 j
          have := (g.closed j d i hd hr.nonneg hi).2 j' hj'
          have := mxl_ge (List.mem_of_getElem? this)
          omega
  have h2 : mxl l ≤ mo := by
    have hn := h.nn
    rcases mxl_is l with e | e
    · omega
    · obtain ⟨k, hk⟩ := List.getElem?_of_mem e
      rcases g.sound k _ hk with e1 | hr
      · omega
      · generalize hx : mxl l = x at hk hr ⊢
        cases hr with
        | start => exact hn
        | step hr' hi ho hj =>
          have hd := g.at hr'
          exact (h.big rfl _ _ _ (List.getElem?_eq_some_iff.1 hi).1 hd hr'.nonneg hi).2
  omega
end
end Go.Proofs.YtfbeiedhdmndnaaGreatDoor
namespace Go.Proofs.YtfbeiedhdmndnaaGreatDoor
open Go.RowKit
attribute [local go_sem ↓] Go.wp_at_zero Go.wp_at_succ

/-- What Check took: of the instructions of a handler. -/
structure OkI (hs : List PHnd) (n : Nat) (i : PIns) : Prop where
  vl : vl i.op = true
  tgt : i.op = 20 ∨ i.op = 21 → 0 ≤ i.a ∧ i.a ≤ n
  snd : i.op = 22 → 0 ≤ i.a ∧ i.a < hs.length
theorem wrap_in {x : Int} (h1 : -1000000 ≤ x) (h2 : x ≤ 1000000) : IntKind.i64.wrap x = x := by rw [IntKind.wrap_i64]; omega
def OkH (hs : List PHnd) : Prop := ∀ h ∈ hs, 0 ≤ h.args ∧ h.args ≤ 4

set_option maxHeartbeats 2000000 in
theorem takes_any (w : World) (i : PIns) (vh : Value) (hs : List PHnd) (ht : Tab w) (hh : Hnds anyB anyB w vh hs) (ha : OkH hs) (n : Nat) (hi : OkI hs n i) :
    Calls Tryz.prog 154 #[.agg #[.int .i64 i.op, .int .i64 i.a], vh] w fun e w' => e = .returned (.int .i64 (tk hs i)) ∧ Below w.heap.size w w' := by
  obtain ⟨A, c, rfl, hl⟩ := hh.form
  have HB : ∀ (x : Obj), Below w.heap.size w (w.alloc x) := fun x => bAlloc (bRefl w) x
  have HT : Hid (Tab w) := ht
  have hp := po_bd i.op
  clear ht
  by_cases e : i.op = 22
  · obtain ⟨h1, h2⟩ := hi.snd e
    obtain ⟨k, hk⟩ := Int.eq_ofNat_of_zero_le h1
    obtain ⟨b1, o1, x, v1, rfl, hx, hz1, q1, q2, hv1⟩ := hh.cell (bRefl w) (k := k) (by omega)
    have hxa := ha x (List.mem_of_getElem? hx)
    have HR : Hid (po (at_ i.op) + x.args = tk hs i) := by
      unfold tk; rw [if_pos e, hk, argsOf_at hx]; rfl
    have hk2 : k < hs.length := by omega
    have hz2 : b1 < w.heap.size + 1 := by omega
    have e' : (i.op == 22) = true := by simp [e]
    clear hx hv1 hi hh e h1 h2
    obtain ⟨op, a⟩ := i
    dsimp only at *
    subst hk
    go_enter Tryz.func154, Tryz.ntmps154
    go_wp2
    go_region_held3 (fun w' => w'.cell? ⟨w.heap.size, 0, none⟩ = some (.int .i64 op) ∧ w'.cell? ⟨w.heap.size, 1, none⟩ = some (.int .i64 k) ∧ w'.cell? ⟨b1, o1 + k * 2, none⟩ = some (.int .i64 x.args)) (go_keep)
      (first | (go_at_call 174; refine (pops_any _ _ (HT.out.below (by first | exact HB _ | exact (HB _).drew))).mono ?_; rintro e w1 ⟨rfl, hb1⟩; have hc1 := bcell (undrew hb1)))
    all_goals (go_wp2; go_ret; exact ⟨ret_int ((wrap_in (by omega) (by omega)).trans HR.out), bTrans (HB _) (undrew hb1)⟩)
  · have e' : (i.op == 22) = false := by simp [e]
    have HR : Hid (po (at_ i.op) = tk hs i) := by unfold tk; rw [if_neg e]; rfl
    clear e
    go_enter Tryz.func154, Tryz.ntmps154
    go_wp2_with (go_at_call 174; refine (pops_any _ _ (HT.out.below (by exact HB _))).mono ?_; rintro e w1 ⟨rfl, hb1⟩)
    go_ret
    exact ⟨ret_int HR.out, bTrans (HB _) hb1⟩

theorem tk_bd {hs : List PHnd} {n : Nat} {i : PIns} (ha : OkH hs) (hi : OkI hs n i) : 0 ≤ tk hs i ∧ tk hs i ≤ 6 := by
  have hp := po_bd i.op
  unfold tk
  split
  · rename_i e
    obtain ⟨h1, h2⟩ := hi.snd e
    obtain ⟨k, hk⟩ := Int.eq_ofNat_of_zero_le h1
    obtain ⟨x, hx⟩ := at_lt (l := hs) (k := k) (by omega)
    have := ha x (List.mem_of_getElem? hx)
    rw [hk, argsOf_at hx]
    omega
  · omega

set_option maxHeartbeats 2000000 in
theorem leaves_yes (w : World) (i : PIns) (d : Int) (vh : Value) (hs : List PHnd) (ht : Tab w) (hh : Hnds anyB anyB w vh hs) (ha : OkH hs) (n : Nat) (hi : OkI hs n i) (_h0 : 0 ≤ d) (_h8 : d ≤ 8) (ho : okI hs i d) :
    Calls Tryz.prog 127 #[.agg #[.int .i64 i.op, .int .i64 i.a], .int .i64 d, vh] w fun e w' => e = .returned (.tuple #[.int .i64 (lft hs i d), .bool true]) ∧ Below w.heap.size w w' := by
  have HB : ∀ (x : Obj), Below w.heap.size w (w.alloc x) := fun x => bAlloc (bRefl w) x
  have HT : Hid (Tab w) := ht
  have htk := tk_bd ha hi
  have hpt : 0 ≤ pu (at_ i.op) ∧ pu (at_ i.op) ≤ 2 := pt_bd i
  obtain ⟨A, c, rfl, hl⟩ := hh.form
  clear ht
  have e1 : tk hs i ≤ d := ho.1
  have e2 : d - tk hs i + pu (at_ i.op) ≤ 8 := ho.2
  clear ho
  go_enter Tryz.func127, Tryz.ntmps127
  go_wp2_with (first
    | (go_at_call 154; refine (takes_any _ i _ hs (HT.out.below (by exact HB _)) (hh.below (by exact HB _)) ha n hi).mono ?_; rintro e w1 ⟨rfl, hb1⟩; have hc1 := bcell hb1)
    | (go_at_call 155; refine (puts_any _ _ (HT.out.below (by exact bTrans (HB _) hb1))).mono ?_; rintro e w2 ⟨rfl, hb2⟩))
  go_ret2
  exact ⟨rfl, bTrans (bTrans (HB _) hb1) hb2⟩

set_option maxHeartbeats 2000000 in
theorem leaves_no (w : World) (i : PIns) (d : Int) (vh : Value) (hs : List PHnd) (ht : Tab w) (hh : Hnds anyB anyB w vh hs) (ha : OkH hs) (n : Nat) (hi : OkI hs n i) (h0 : 0 ≤ d) (h8 : d ≤ 8) (ho : ¬ okI hs i d) :
    Calls Tryz.prog 127 #[.agg #[.int .i64 i.op, .int .i64 i.a], .int .i64 d, vh] w fun e w' => e = .returned (.tuple #[.int .i64 (0), .bool false]) ∧ Below w.heap.size w w' := by
  have HB : ∀ (x : Obj), Below w.heap.size w (w.alloc x) := fun x => bAlloc (bRefl w) x
  have HT : Hid (Tab w) := ht
  have htk := tk_bd ha hi
  have hpt : 0 ≤ pu (at_ i.op) ∧ pu (at_ i.op) ≤ 2 := pt_bd i
  obtain ⟨A, c, rfl, hl⟩ := hh.form
  clear ht
  by_cases e1 : tk hs i ≤ d
  · have e2 : ¬ d - tk hs i + pu (at_ i.op) ≤ 8 := fun h => ho ⟨e1, h⟩
    clear ho
    go_enter Tryz.func127, Tryz.ntmps127
    go_wp2_with (first
      | (go_at_call 154; refine (takes_any _ i _ hs (HT.out.below (by exact HB _)) (hh.below (by exact HB _)) ha n hi).mono ?_; rintro e w1 ⟨rfl, hb1⟩; have hc1 := bcell hb1)
      | (go_at_call 155; refine (puts_any _ _ (HT.out.below (by exact bTrans (HB _) hb1))).mono ?_; rintro e w2 ⟨rfl, hb2⟩))
    go_ret2
    exact ⟨rfl, bTrans (bTrans (HB _) hb1) hb2⟩
  · clear ho
    go_enter Tryz.func127, Tryz.ntmps127
    go_wp2_with (first
      | (go_at_call 154; refine (takes_any _ i _ hs (HT.out.below (by exact HB _)) (hh.below (by exact HB _)) ha n hi).mono ?_; rintro e w1 ⟨rfl, hb1⟩; have hc1 := bcell hb1)
      | (go_at_call 155; refine (puts_any _ _ (HT.out.below (by exact bTrans (HB _) hb1))).mono ?_; rintro e w2 ⟨rfl, hb2⟩))
    go_ret2
    exact ⟨rfl, bTrans (bTrans (HB _) hb1) hb2⟩

/-- A list of numbers, in a block of its own that is new. -/
def Fol (B : Nat) (w : World) (v : Value) (l : List Nat) : Prop :=
  ∃ A c, v = .slice A l.length c ∧ l.length ≤ 2 ∧ (l = [] ∨ ∃ b, A = some ⟨b, 0, none⟩ ∧ B ≤ b ∧ b < w.heap.size ∧ ∀ (m j : Nat), l[m]? = some j → w.cell? ⟨b, m, none⟩ = some (.int .i64 (j : Int)))

set_option maxHeartbeats 2000000 in
theorem follow_any (w : World) (i : PIns) (k : Nat) (hs : List PHnd) (n : Nat) (hi : OkI hs n i) (hk : k ≤ 64) :
    Calls Tryz.prog 128 #[.agg #[.int .i64 i.op, .int .i64 i.a], .int .i64 (k : Int)] w fun e w' => ∃ v, e = .returned v ∧ Fol w.heap.size w' v (nxt i k) ∧ Below w.heap.size w w' := by
  have HB : ∀ (x : Obj), Below w.heap.size w (w.alloc x) := fun x => bAlloc (bRefl w) x
  by_cases e1 : i.op = 25
  · have e1' : (i.op == 25) = true := by simp [e1]
    have HN : Hid (nxt i k = []) := by unfold nxt; rw [if_pos e1]; rfl
    clear e1
    go_enter Tryz.func128, Tryz.ntmps128
    go_wp2
    go_ret
    exact ⟨_, rfl, by rw [HN.out]; exact ⟨_, _, rfl, by simp, Or.inl rfl⟩, HB _⟩
  · have e1' : (i.op == 25) = false := by simp [e1]
    by_cases e2 : i.op = 20
    · have e2' : (i.op == 20) = true := by simp [e2]
      obtain ⟨m, hm⟩ := Int.eq_ofNat_of_zero_le (hi.tgt (Or.inl e2)).1
      have HN : Hid (nxt i k = [m]) := by unfold nxt; rw [if_neg e1, if_pos e2, hm]; rfl
      clear e1 e2
      go_enter Tryz.func128, Tryz.ntmps128
      go_wp2
      go_ret
      refine ⟨_, rfl, ?_, bAlloc (HB _) _⟩
      rw [HN.out]
      refine ⟨_, _, rfl, by simp, Or.inr ⟨w.heap.size + 1, rfl, by omega, by simp, fun x j hx => ?_⟩⟩
      match x, hx with
      | 0, hx => simp at hx; subst hx; simp [go_sem]
    · have e2' : (i.op == 20) = false := by simp [e2]
      by_cases e3 : i.op = 21
      · have e3' : (i.op == 21) = true := by simp [e3]
        obtain ⟨m, hm⟩ := Int.eq_ofNat_of_zero_le (hi.tgt (Or.inr e3)).1
        have HN : Hid (nxt i k = [m, k + 1]) := by unfold nxt; rw [if_neg e1, if_neg e2, if_pos e3, hm]; rfl
        clear e1 e2 e3
        go_enter Tryz.func128, Tryz.ntmps128
        go_wp2
        go_ret
        refine ⟨_, rfl, ?_, bAlloc (HB _) _⟩
        rw [HN.out]
        refine ⟨_, _, rfl, by simp, Or.inr ⟨w.heap.size + 1, rfl, by omega, by simp, fun x j hx => ?_⟩⟩
        match x, hx with
        | 0, hx => simp at hx; subst hx; simp [go_sem]
        | 1, hx => simp at hx; subst hx; simp [go_sem]
      · have e3' : (i.op == 21) = false := by simp [e3]
        have HN : Hid (nxt i k = [k + 1]) := by unfold nxt; rw [if_neg e1, if_neg e2, if_neg e3]; rfl
        clear e1 e2 e3
        go_enter Tryz.func128, Tryz.ntmps128
        go_wp2
        go_ret
        refine ⟨_, rfl, ?_, bAlloc (HB _) _⟩
        rw [HN.out]
        refine ⟨_, _, rfl, by simp, Or.inr ⟨w.heap.size + 1, rfl, by omega, by simp, fun x j hx => ?_⟩⟩
        match x, hx with
        | 0, hx => simp at hx; subst hx; simp [go_sem]
end Go.Proofs.YtfbeiedhdmndnaaGreatDoor
namespace Go.Proofs.YtfbeiedhdmndnaaGreatDoor
section
variable {P : Program} {ops : Array Oper} {Q : Exit → Act → World → Prop} {md : Region.Mode} {S : World → Prop}
theorem tKh {i : Nat} {oi : Oper} {v : Value} {fuel : Nat} {listed : Array Bool} {a : Act} {w : World} (hy : YieldsIf P ops S oi v a)
    (h : wpAnyH P md ops Q S fuel (listed.setIfInBounds i true) (a.put oi.dst v) w) (hi : ops[i]? = some oi := by exact rfl) (hs : Region.noSelect ops = true := by kernel_rfl) (hf : Region.free md ops listed i = true := by kernel_rfl)
    (hr : (Region.ready md ops listed).contains i = true := by kernel_rfl) (hQ : ∀ c a w, Q (.panic c) (a.put oi.dst v) w → Q (.panic c) a w := by exact fun _ _ _ h => h) (hS : S w := by assumption) : wpAnyH P md ops Q S (fuel + 1) listed a w :=
  wpAnyH_take hi hs hf hr hQ hy hS h
end
theorem sqA {α : Type} {l : List α} {i : Nat} {a : α} : l.toArray.setIfInBounds i a = (l.set i a).toArray := by simp
theorem sqB {α : Type} {x : α} {l : List α} {a : α} : (x :: l).set 0 a = a :: l := rfl
theorem sqC {α : Type} {x : α} {l : List α} {i : Nat} {a : α} : (x :: l).set (i + 1) a = x :: l.set i a := rfl
end Go.Proofs.YtfbeiedhdmndnaaGreatDoor
