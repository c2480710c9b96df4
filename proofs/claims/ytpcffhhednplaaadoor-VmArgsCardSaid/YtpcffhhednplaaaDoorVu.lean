/-
  Run. Condition: the table of the instructions is in the world.
-/
import Derived.Test.YtpcffhhednplaaaDoorVp
namespace Go.Proofs.YtpcffhhednplaaaDoor
open Go.RowKit
attribute [local go_sem ↓] Go.wp_at_zero Go.wp_at_succ
theorem may_is (ok oka : Nat → Prop) (w : World) (v vl va : Value) (p : PPrg) (who : Int) (l : PLoc) (h : Int) (args : List Int) (ht : Tab w) (hp : PrgV w v p) (hl : LocV ok w vl l) (ha : Ints oka w va args) (b : Bool) (hb : mayB p who l h args = b) :
    Calls Tryd.prog 13 #[v, .int .i64 who, vl, .int .i64 h, va] w fun e w' => e = .returned (.bool b) ∧ Below w.heap.size w w' := hb ▸ may_any ok oka w v vl va p who l h args ht hp hl ha
theorem blk4 {w : World} {b : Nat} {v0 v1 v2 v3 : Value} {t : TypeId} (h : w.heap[b]? = some (.cells #[v0, v1, v2, v3] t)) :
    w.cell? ⟨b, 0, none⟩ = some v0 ∧ w.cell? ⟨b, 1, none⟩ = some v1 ∧ w.cell? ⟨b, 2, none⟩ = some v2 ∧ w.cell? ⟨b, 3, none⟩ = some v3 ∧ ∀ j, w.frozen? ⟨b, j, none⟩ = false :=
  ⟨by rw [cell_of_row _ _ _ _ _ _ h]; rfl, by rw [cell_of_row _ _ _ _ _ _ h]; rfl, by rw [cell_of_row _ _ _ _ _ _ h]; rfl, by rw [cell_of_row _ _ _ _ _ _ h]; rfl, fun j => by simp [World.frozen?, h]⟩
theorem blk7 {w : World} {b : Nat} {v0 v1 v2 v3 v4 v5 v6 : Value} {t : TypeId} (h : w.heap[b]? = some (.cells #[v0, v1, v2, v3, v4, v5, v6] t)) :
    w.cell? ⟨b, 0, none⟩ = some v0 ∧ w.cell? ⟨b, 1, none⟩ = some v1 ∧ w.cell? ⟨b, 2, none⟩ = some v2 ∧ w.cell? ⟨b, 3, none⟩ = some v3 ∧ w.cell? ⟨b, 4, none⟩ = some v4 ∧ w.cell? ⟨b, 5, none⟩ = some v5 ∧ w.cell? ⟨b, 6, none⟩ = some v6 ∧ ∀ j, w.frozen? ⟨b, j, none⟩ = false :=
  ⟨by rw [cell_of_row _ _ _ _ _ _ h]; rfl, by rw [cell_of_row _ _ _ _ _ _ h]; rfl, by rw [cell_of_row _ _ _ _ _ _ h]; rfl, by rw [cell_of_row _ _ _ _ _ _ h]; rfl, by rw [cell_of_row _ _ _ _ _ _ h]; rfl, by rw [cell_of_row _ _ _ _ _ _ h]; rfl, by rw [cell_of_row _ _ _ _ _ _ h]; rfl, fun j => by simp [World.frozen?, h]⟩

/-- The three boxes of the call: program, state, result. -/
def bx3 (w : World) (x y : Array Value) : World := ((w.alloc (.cells x 26)).alloc (.cells y 29)).alloc (.cells #[.slice none 0 0, .bool false, .int .i64 0, .int .i64 0, .int .i64 0, .slice none 0 0, .int .i64 0] 35)
theorem bx3_below (w : World) (x y : Array Value) : Below w.heap.size w (bx3 w x y) := bAlloc (bAlloc (bAlloc (bRefl w) _) _) _
theorem bx3_size (w : World) (x y : Array Value) : (bx3 w x y).heap.size = w.heap.size + 3 := by simp [bx3]
theorem bx3_0 (w : World) (x y : Array Value) : (bx3 w x y).heap[w.heap.size]? = some (.cells x 26) := by
  unfold bx3
  rw [Below.heap_alloc _ _ _ (by simp; omega), Below.heap_alloc _ _ _ (by simp)]; exact heap_new _ _
theorem bx3_1 (w : World) (x y : Array Value) : (bx3 w x y).heap[w.heap.size + 1]? = some (.cells y 29) := by
  unfold bx3
  rw [Below.heap_alloc _ _ _ (by simp)]; exact heap_new2 (by simp)
theorem bx3_2 (w : World) (x y : Array Value) : (bx3 w x y).heap[w.heap.size + 2]? = some (.cells #[.slice none 0 0, .bool false, .int .i64 0, .int .i64 0, .int .i64 0, .slice none 0 0, .int .i64 0] 35) := by
  unfold bx3
  exact heap_new2 (by simp)

set_option maxHeartbeats 1000000 in
set_option maxRecDepth 100000 in
theorem run_no (ok oka : Nat → Prop) (w : World) (v vl va : Value) (p : PPrg) (who : Int) (l : PLoc) (h : Int) (args : List Int) (ht : Tab w) (hp : PrgV w v p) (hl : LocV ok w vl l) (ha : Ints oka w va args) (hm : ¬ mayP p who l h args) :
    Calls Tryd.prog 16 #[v, .int .i64 who, vl, .int .i64 h, va] w fun e w' => ∃ u, e = .returned u ∧ ResV (fun b => w.heap.size ≤ b) w' u (runP p who l h args) ∧ Below w.heap.size w w' := by
  have HP : Hid (PrgV w v p) := hp
  have HV : Hid (LocV ok w vl l) := hl
  have HA : Hid (Ints oka w va args) := ha
  have HM : Hid (mayB p who l h args = false) := mayB_no hm
  have HR : Hid (runP p who l h args = ⟨⟨[], false, 0, 0, 0⟩, [], 0⟩) := by show _ = _; unfold runP; exact @if_neg _ (Classical.propDecidable _) hm _ _ _
  obtain ⟨v1, v2, v3, rfl, h1, h2, h3⟩ := hp
  obtain ⟨A1, c1, rfl, hl1⟩ := h1.form
  obtain ⟨A2, c2, rfl, hl2⟩ := h2.form
  obtain ⟨A3, c3, rfl, hl3⟩ := h3.form
  obtain ⟨vr, rfl, hr⟩ := hl
  obtain ⟨A4, c4, rfl, hl4⟩ := hr.form
  obtain ⟨A5, c5, rfl, hl5⟩ := ha.form
  have HT : Hid (Tab w) := ht
  clear ht h1 h2 h3 hr ha hm
  go_enter Tryd.func16, Tryd.ntmps16
  go_wp2_with fail
  have HB := bx3_below w #[.slice A1 p.hs.length c1, .slice A2 p.acs.length c2, .slice A3 p.bs.length c3, .int .i64 p.fuel] #[.slice A4 l.regs.length c4, .bool l.armed, .int .i64 l.down, .int .i64 l.sent, .int .i64 l.over]
  refine (may_is ok oka (bx3 w #[.slice A1 p.hs.length c1, .slice A2 p.acs.length c2, .slice A3 p.bs.length c3, .int .i64 p.fuel] #[.slice A4 l.regs.length c4, .bool l.armed, .int .i64 l.down, .int .i64 l.sent, .int .i64 l.over]) _ _ _ p who l h args (HT.out.below HB) (HP.out.below HB) (HV.out.below HB) (HA.out.below HB) _ HM.out).mono ?_
  rintro e w1 ⟨rfl, hb1⟩
  have hs1 := hb1.size
  rw [bx3_size] at hs1
  obtain ⟨x0, x1, x2, x3, x4, x5, x6, xf⟩ := blk7 ((hb1.block _ (by rw [bx3_size]; omega)).trans (bx3_2 w _ _))
  have HB1 : Hid (Below w.heap.size w w1) := bTrans HB hb1
  clear hb1 HB
  have f0 := xf 0
  have f1 := xf 1
  have f2 := xf 2
  have f3 := xf 3
  have f4 := xf 4
  have f5 := xf 5
  have f6 := xf 6
  clear xf
  go_wp2
  refine bodyPost_ret (v := .agg #[.slice none 0 0, .bool false, .int .i64 0, .int .i64 0, .int .i64 0, .slice none 0 0, .int .i64 0]) (by simp [results, Tryd.results16, go_sem, *]) rfl ⟨_, rfl, ?_, ?_⟩
  · rw [HR.out]; exact ⟨_, _, rfl, ⟨_, _, rfl, by simp, Or.inl rfl⟩, ⟨_, _, rfl, by simp, Or.inl rfl⟩⟩
  · repeat (refine Below.setCell ?_ (by first | (simp; done) | (simp; omega)) _)
    exact HB1.out
end Go.Proofs.YtpcffhhednplaaaDoor
