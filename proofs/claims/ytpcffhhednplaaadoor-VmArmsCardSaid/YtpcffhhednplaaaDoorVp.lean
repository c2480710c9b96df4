/-
  The run's block, when it is made: two orders, one machine. No conditions.
-/
import Derived.Test.YtpcffhhednplaaaDoorVm
import Derived.Laws.CopyOwn
namespace Go.Proofs.YtpcffhhednplaaaDoor
open Go.RowKit

def zsk : List Int := [0, 0, 0, 0, 0, 0, 0, 0]
/-- The cells of a run that begins. -/
def run0 (x : FX) (ar : Bool) : List Value := [x.a1, x.a2, x.a3, .int .i64 x.fuel, .int .i64 x.who, x.va, x.vc, x.vr, .bool ar, .int .i64 x.down, .int .i64 x.sent, .int .i64 x.over, .slice none 0 0, .int .i64 0, .int .i64 0, .int .i64 0, .int .i64 0, .int .i64 0, .int .i64 0, .int .i64 0, .int .i64 0, .int .i64 0, .int .i64 0, .int .i64 0]
theorem run0_rv (x : FX) (ar : Bool) : ∀ i, i < 24 → (run0 x ar)[i]? = some (rv x ar (.slice none 0 0) zsk 0 0 0 i) := by
  intro i hi
  have : i = 0 ∨ i = 1 ∨ i = 2 ∨ i = 3 ∨ i = 4 ∨ i = 5 ∨ i = 6 ∨ i = 7 ∨ i = 8 ∨ i = 9 ∨ i = 10 ∨ i = 11 ∨ i = 12 ∨ i = 13 ∨ i = 14 ∨ i = 15 ∨ i = 16 ∨ i = 17 ∨ i = 18 ∨ i = 19 ∨ i = 20 ∨ i = 21 ∨ i = 22 ∨ i = 23 := by omega
  rcases this with rfl | rfl | rfl | rfl | rfl | rfl | rfl | rfl | rfl | rfl | rfl | rfl | rfl | rfl | rfl | rfl | rfl | rfl | rfl | rfl | rfl | rfl | rfl | rfl <;> rfl
section
variable {w w2 : World} {x : FX} {l : PLoc}
theorem way_a {z : Array Value} (hb : Below w.heap.size w w2) (hc : CL w w2 x.vr l.regs) (h8 : l.regs.length ≤ 8) : RM w w2.heap.size x (.slice none 0 0) [] zsk (ms0 l) ((w2.alloc (.cells z 66)).setRow w2.heap.size (run0 x l.armed).toArray) := by
  have hR : RG w w2.heap.size w2 x.vr l.regs := hc.rg (Nat.le_refl _) h8 (Or.inl (Nat.le_refl _))
  have hh := setRow_heap (w2.alloc (.cells z 66)) w2.heap.size z (run0 x l.armed).toArray 66 (0, 0) (heap_new _ _)
  exact ⟨below_setRow (bAlloc hb _) hb.size _, ⟨_, hh, rfl, fun i hi => by rw [List.getElem?_toArray]; exact run0_rv x l.armed i hi⟩, hb.size, rfl, rfl, by simp [ms0], hR.same fun b e => (setRow_other _ _ _ _ (hR.hb e).2.1).trans ((bAlloc (bRefl w2) _).block b (hR.hb e).2.2), NT.nil _ _ _⟩
theorem way_b {W : World} {z : Array Value} (hW : W.heap.size = w.heap.size + 1) (hWh : W.heap[w.heap.size]? = some (.cells z 66)) (hwW : Below w.heap.size w W) (hb : Below W.heap.size W w2) (hc : CL W w2 x.vr l.regs) (h8 : l.regs.length ≤ 8) :
    RM w w.heap.size x (.slice none 0 0) [] zsk (ms0 l) (w2.setRow w.heap.size (run0 x l.armed).toArray) := by
  have hR : RG w w.heap.size w2 x.vr l.regs := (hc.rg (w0 := w) (by omega) h8 (Or.inr (by omega)))
  have hh := setRow_heap w2 w.heap.size z (run0 x l.armed).toArray 66 (0, 0) ((hb.block _ (by omega)).trans hWh)
  exact ⟨below_setRow (bTrans hwW hb) (Nat.le_refl _) _, ⟨_, hh, rfl, fun i hi => by rw [List.getElem?_toArray]; exact run0_rv x l.armed i hi⟩, Nat.le_refl _, rfl, rfl, by simp [ms0], hR.same fun b e => setRow_other _ _ _ _ (hR.hb e).2.1, NT.nil _ _ _⟩
end
/-- What comes of it, as a value. -/
def ResV (ok : Nat → Prop) (w : World) (v : Value) (r : PRes) : Prop :=
  ∃ cr cn, v = .agg #[cr, .bool r.loc.armed, .int .i64 r.loc.down, .int .i64 r.loc.sent, .int .i64 r.loc.over, cn, .int .i64 r.steps] ∧ Ints ok w cr r.loc.regs ∧ Ntes ok ok w cn r.notes
theorem ResV.below {ok : Nat → Prop} {w w' : World} {v : Value} {r : PRes} (h : ResV ok w v r) (hb : Below w.heap.size w w') : ResV ok w' v r := let ⟨a, b, h1, h2, h3⟩ := h; ⟨a, b, h1, h2.below hb, h3.below hb⟩
end Go.Proofs.YtpcffhhednplaaaDoor
