/-
  What it means that a world holds a list, a handler, an actor, a note, a program: readings, cell by cell; and that they stay where nothing old has turned. No conditions.
-/
import Derived.Test.YtgdloonpemaijaaDoorRows
import Derived.Test.YtgdloonpemaijaaDoorPlain
import Derived.WalkKit
import Derived.WalkSpells
import Derived.WalkLawsBesides
namespace Go.Proofs.YtgdloonpemaijaaDoor
open Go.RowKit

/-- The slice v reads, in w, as l: element k stands at k * sz, in a block of which ok says yes. -/
def Sl {α : Type} (sz : Nat) (R : World → Nat → Nat → α → Prop) (ok : Nat → Prop) (w : World) (v : Value) (l : List α) : Prop :=
  ∃ A c, v = .slice A l.length c ∧ (l.length : Int) ≤ 9223372036854775807 ∧ l.length ≤ c ∧ (l = [] ∨ ∃ b o, A = some ⟨b, o, none⟩ ∧ ok b ∧ b < w.heap.size ∧ ∀ k x, l[k]? = some x → R w b (o + k * sz) x)

def rInt (w : World) (b o : Nat) (x : Int) : Prop := w.cell? ⟨b, o, none⟩ = some (.int .i64 x)
def rIns (w : World) (b o : Nat) (i : PIns) : Prop := w.cell? ⟨b, o, none⟩ = some (.int .i64 i.op) ∧ w.cell? ⟨b, o + 1, none⟩ = some (.int .i64 i.a)
abbrev Ints (ok : Nat → Prop) := Sl 1 rInt ok
abbrev Code (ok : Nat → Prop) := Sl 2 rIns ok
def rHnd (ok : Nat → Prop) (w : World) (b o : Nat) (h : PHnd) : Prop := w.cell? ⟨b, o, none⟩ = some (.int .i64 h.args) ∧ ∃ v, w.cell? ⟨b, o + 1, none⟩ = some v ∧ Code ok w v h.code
def rAct (ok : Nat → Prop) (w : World) (b o : Nat) (a : PAct) : Prop :=
  (∃ v, w.cell? ⟨b, o, none⟩ = some v ∧ Ints ok w v a.regs) ∧ w.cell? ⟨b, o + 1, none⟩ = some (.int .i64 a.cap) ∧ w.cell? ⟨b, o + 2, none⟩ = some (.int .i64 a.timer) ∧ w.cell? ⟨b, o + 3, none⟩ = some (.bool a.armed)
def rNte (ok : Nat → Prop) (w : World) (b o : Nat) (n : PNte) : Prop :=
  w.cell? ⟨b, o, none⟩ = some (.int .i64 n.to) ∧ w.cell? ⟨b, o + 1, none⟩ = some (.int .i64 n.hd) ∧ ∃ v, w.cell? ⟨b, o + 2, none⟩ = some v ∧ Ints ok w v n.args
/-- Any block. -/
def anyB : Nat → Prop := fun _ => True
abbrev Hnds (out inn : Nat → Prop) := Sl 2 (rHnd inn) out
abbrev Acts (out inn : Nat → Prop) := Sl 4 (rAct inn) out
abbrev Ntes (out inn : Nat → Prop) := Sl 3 (rNte inn) out

def InsV (v : Value) (i : PIns) : Prop := v = .agg #[.int .i64 i.op, .int .i64 i.a]
def HndV (w : World) (v : Value) (h : PHnd) : Prop := ∃ c, v = .agg #[.int .i64 h.args, c] ∧ Code anyB w c h.code
def ActV (w : World) (v : Value) (a : PAct) : Prop := ∃ c, v = .agg #[c, .int .i64 a.cap, .int .i64 a.timer, .bool a.armed] ∧ Ints anyB w c a.regs
def NteV (w : World) (v : Value) (n : PNte) : Prop := ∃ c, v = .agg #[.int .i64 n.to, .int .i64 n.hd, c] ∧ Ints anyB w c n.args
def PrgV (w : World) (v : Value) (p : PPrg) : Prop :=
  ∃ a b c, v = .agg #[a, b, c, .int .i64 p.fuel] ∧ Hnds anyB anyB w a p.hs ∧ Acts anyB anyB w b p.acs ∧ Ntes anyB anyB w c p.bs

section
variable {w w' : World} {ok ok' : Nat → Prop} {v : Value} {b o : Nat}

theorem Sl.imp {α : Type} {sz : Nat} {R R' : World → Nat → Nat → α → Prop} {l : List α} (h : Sl sz R ok w v l) (hok : ∀ b, ok b → ok' b) (hs : w.heap.size ≤ w'.heap.size)
    (hR : ∀ b o x, ok b → b < w.heap.size → R w b o x → R' w' b o x) : Sl sz R' ok' w' v l := by
  obtain ⟨A, c, rfl, hl, hcp, h⟩ := h
  refine ⟨A, c, rfl, hl, hcp, ?_⟩
  rcases h with h | ⟨b, o, rfl, hb, hlt, hc⟩
  · exact Or.inl h
  · exact Or.inr ⟨b, o, rfl, hok b hb, by omega, fun k x hx => hR b _ x hb hlt (hc k x hx)⟩

/-- The blocks that ok names are as they were. -/
structure Same (ok : Nat → Prop) (w w' : World) : Prop where
  size : w.heap.size ≤ w'.heap.size
  block : ∀ b, ok b → b < w.heap.size → w'.heap[b]? = w.heap[b]?
theorem Same.cell (h : Same ok w w') {b o : Nat} (hk : ok b) (hb : b < w.heap.size) : w'.cell? ⟨b, o, none⟩ = w.cell? ⟨b, o, none⟩ := World.cell?_of_block (w := w) (h.block b hk hb)
theorem Same.of_below {B : Nat} (h : Below B w w') : Same (fun b => b < B) w w' := ⟨h.size, fun b hb _ => h.block b hb⟩
theorem Same.all (h : Below w.heap.size w w') : Same ok w w' := ⟨h.size, fun b _ hb => h.block b hb⟩
theorem Same.weak (h : Same ok w w') (k : ∀ b, ok' b → ok b) : Same ok' w w' := ⟨h.size, fun b hb hl => h.block b (k b hb) hl⟩

theorem Sl.lt {α : Type} {sz : Nat} {R : World → Nat → Nat → α → Prop} {l : List α} (h : Sl sz R ok w v l) : Sl sz R (fun b => ok b ∧ b < w.heap.size) w v l := by
  obtain ⟨A, c, rfl, hl, hcp, h⟩ := h
  refine ⟨A, c, rfl, hl, hcp, ?_⟩
  rcases h with h | ⟨b, o, rfl, hb, hlt, hc⟩
  · exact Or.inl h
  · exact Or.inr ⟨b, o, rfl, ⟨hb, hlt⟩, hlt, hc⟩

theorem Sl.any {α : Type} {sz : Nat} {R : World → Nat → Nat → α → Prop} {l : List α} (h : Sl sz R ok w v l) : Sl sz R anyB w v l :=
  h.imp (fun _ _ => trivial) (Nat.le_refl _) fun _ _ _ _ _ h => h

theorem Ints.same {l : List Int} (h : Ints ok w v l) (s : Same ok w w') : Ints ok w' v l :=
  h.imp (fun _ h => h) s.size fun _ _ _ hk hb hr => (s.cell hk hb).trans hr
theorem Code.same {l : List PIns} (h : Code ok w v l) (s : Same ok w w') : Code ok w' v l :=
  h.imp (fun _ h => h) s.size fun _ _ _ hk hb hr => ⟨(s.cell hk hb).trans hr.1, (s.cell hk hb).trans hr.2⟩
theorem Hnds.same {inn : Nat → Prop} {l : List PHnd} (h : Hnds ok inn w v l) (s : Same ok w w') (t : Same inn w w') : Hnds ok inn w' v l :=
  h.imp (fun _ h => h) s.size fun _ _ _ hk hb ⟨h1, c, h2, h3⟩ => ⟨(s.cell hk hb).trans h1, c, (s.cell hk hb).trans h2, h3.same t⟩
theorem Acts.same {inn : Nat → Prop} {l : List PAct} (h : Acts ok inn w v l) (s : Same ok w w') (t : Same inn w w') : Acts ok inn w' v l :=
  h.imp (fun _ h => h) s.size fun _ _ _ hk hb ⟨⟨c, h1, h2⟩, h3, h4, h5⟩ => ⟨⟨c, (s.cell hk hb).trans h1, h2.same t⟩, (s.cell hk hb).trans h3, (s.cell hk hb).trans h4, (s.cell hk hb).trans h5⟩
theorem Ntes.same {inn : Nat → Prop} {l : List PNte} (h : Ntes ok inn w v l) (s : Same ok w w') (t : Same inn w w') : Ntes ok inn w' v l :=
  h.imp (fun _ h => h) s.size fun _ _ _ hk hb ⟨h1, h2, c, h3, h4⟩ => ⟨(s.cell hk hb).trans h1, (s.cell hk hb).trans h2, c, (s.cell hk hb).trans h3, h4.same t⟩

theorem Ints.below {l : List Int} (h : Ints ok w v l) (hb : Below w.heap.size w w') : Ints ok w' v l := h.same (Same.all hb)
theorem Code.below {l : List PIns} (h : Code ok w v l) (hb : Below w.heap.size w w') : Code ok w' v l := h.same (Same.all hb)
theorem Hnds.below {inn : Nat → Prop} {l : List PHnd} (h : Hnds ok inn w v l) (hb : Below w.heap.size w w') : Hnds ok inn w' v l := h.same (Same.all hb) (Same.all hb)
theorem Acts.below {inn : Nat → Prop} {l : List PAct} (h : Acts ok inn w v l) (hb : Below w.heap.size w w') : Acts ok inn w' v l := h.same (Same.all hb) (Same.all hb)
theorem Ntes.below {inn : Nat → Prop} {l : List PNte} (h : Ntes ok inn w v l) (hb : Below w.heap.size w w') : Ntes ok inn w' v l := h.same (Same.all hb) (Same.all hb)
theorem HndV.below {x : PHnd} (h : HndV w v x) (hb : Below w.heap.size w w') : HndV w' v x := let ⟨c, h1, h2⟩ := h; ⟨c, h1, h2.below hb⟩
theorem ActV.below {x : PAct} (h : ActV w v x) (hb : Below w.heap.size w w') : ActV w' v x := let ⟨c, h1, h2⟩ := h; ⟨c, h1, h2.below hb⟩
theorem NteV.below {x : PNte} (h : NteV w v x) (hb : Below w.heap.size w w') : NteV w' v x := let ⟨c, h1, h2⟩ := h; ⟨c, h1, h2.below hb⟩
theorem PrgV.below {x : PPrg} (h : PrgV w v x) (hb : Below w.heap.size w w') : PrgV w' v x := let ⟨a, b, c, h0, h1, h2, h3⟩ := h; ⟨a, b, c, h0, h1.below hb, h2.below hb, h3.below hb⟩

/-- At a place that there is: the address, and what stands there. -/
theorem Sl.at {α : Type} {sz : Nat} {R : World → Nat → Nat → α → Prop} {l : List α} {A : Option Addr} {n c : Nat} (h : Sl sz R ok w (.slice A n c) l) (h0 : 0 < l.length) :
    ∃ b o, A = some ⟨b, o, none⟩ ∧ ok b ∧ b < w.heap.size ∧ ∀ k x, l[k]? = some x → R w b (o + k * sz) x := by
  obtain ⟨A', c', he, hl, _, h⟩ := h
  simp only [Value.slice.injEq] at he
  obtain ⟨rfl, _, _⟩ := he
  rcases h with rfl | h
  · simp at h0
  · exact h
theorem Sl.form {α : Type} {sz : Nat} {R : World → Nat → Nat → α → Prop} {l : List α} (h : Sl sz R ok w v l) : ∃ A c, v = .slice A l.length c ∧ (l.length : Int) ≤ 9223372036854775807 :=
  let ⟨A, c, h1, h2, _⟩ := h; ⟨A, c, h1, h2⟩
theorem Sl.cap {α : Type} {sz : Nat} {R : World → Nat → Nat → α → Prop} {l : List α} {A : Option Addr} {n c : Nat} (h : Sl sz R ok w (.slice A n c) l) : l.length ≤ c := by
  obtain ⟨A', c', he, _, hc, _⟩ := h
  cases he; exact hc
end

theorem bDrewN {B : Nat} {a w : World} (h : Below B a w) (n : Nat) : Below B a (w.drewN n) := ⟨h.os, h.tape, h.output, h.size, h.block⟩
/-- One more new block behind what is as it was. -/
theorem bAlloc {a w : World} (h : Below a.heap.size a w) (o : Obj) : Below a.heap.size a (w.alloc o) := h.alloc h.size o
theorem bTrans {a b c : World} (h : Below a.heap.size a b) (k : Below b.heap.size b c) : Below a.heap.size a c := h.trans (k.mono h.size)
theorem bRefl (w : World) : Below w.heap.size w w := Below.refl _ _
theorem bcell {W w1 : World} (hb : Below W.heap.size W w1) : (∀ b o, b < W.heap.size → w1.cell? ⟨b, o, none⟩ = W.cell? ⟨b, o, none⟩) :=
  fun b o h => hb.cell (p := ⟨b, o, none⟩) h
end Go.Proofs.YtgdloonpemaijaaDoor
