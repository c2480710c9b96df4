/-
  The order of names and of events: compare, Less, Before, Fault. No conditions.
-/
import Derived.Test.YtdgialhigibnlaaDoorI3
namespace Go.Proofs.YtdgialhigibnlaaDoor
open Go.RowKit
attribute [local go_sem ↓] Go.wp_at_zero Go.wp_at_succ
abbrev dV (a : PID) : Value := .agg #[.int .i64 a.f, .int .i64 a.n, .int .i64 a.c]
abbrev eV (x : PEv) : Value := .agg #[.int .i64 x.k, .int .i64 x.id.f, .int .i64 x.id.n, .int .i64 x.id.c, .int .i64 x.who]
theorem cmp_b (a b : Int) (w : World) : Calls Tryd.prog 33 #[.int .i64 a, .int .i64 b] w fun e w' => e = .returned (.int .i64 (cmpI a b)) ∧ Below w.heap.size w w' := (cmp_any a b w).mono fun e w' ⟨h1, h2⟩ => ⟨h1, by rw [h2]; exact bRefl w⟩
theorem or_b (a b c : Int) (w : World) (g : Nat) (h : w.heap[g]? = some (.cells #[.int .i64 a, .int .i64 b, .int .i64 c] 3)) :
    Calls Tryd.prog 32 #[.slice (some ⟨g, 0, none⟩) 3 3] w fun e w' => e = .returned (.int .i64 (or3 a b c)) ∧ Below w.heap.size w w' :=
  (or_any a b c w g (by rw [Lib.cell_of_heap h]; rfl) (by rw [Lib.cell_of_heap h]; rfl) (by rw [Lib.cell_of_heap h]; rfl)).mono fun e w' ⟨h1, h2⟩ => ⟨h1, by rw [h2]; exact bRefl w⟩
theorem blk3 {b : Nat} {x y z : Value} {t : TypeId} {w : World} (h : w.heap[b]? = some (.cells #[x, y, z] t)) : w.cell? ⟨b, 0, none⟩ = some x ∧ w.cell? ⟨b, 1, none⟩ = some y ∧ w.cell? ⟨b, 2, none⟩ = some z := ⟨by rw [Lib.cell_of_heap h]; rfl, by rw [Lib.cell_of_heap h]; rfl, by rw [Lib.cell_of_heap h]; rfl⟩
theorem blk5 {b : Nat} {x y z u v : Value} {t : TypeId} {w : World} (h : w.heap[b]? = some (.cells #[x, y, z, u, v] t)) : w.cell? ⟨b, 0, none⟩ = some x ∧ w.cell? ⟨b, 1, none⟩ = some y ∧ w.cell? ⟨b, 2, none⟩ = some z ∧ w.cell? ⟨b, 3, none⟩ = some u ∧ w.cell? ⟨b, 4, none⟩ = some v := ⟨by rw [Lib.cell_of_heap h]; rfl, by rw [Lib.cell_of_heap h]; rfl, by rw [Lib.cell_of_heap h]; rfl, by rw [Lib.cell_of_heap h]; rfl, by rw [Lib.cell_of_heap h]; rfl⟩
set_option maxHeartbeats 2000000 in
set_option maxRecDepth 100000 in
theorem compare_any (a b : PID) (w : World) : Calls Tryd.prog 29 #[dV a, dV b] w fun e w' => e = .returned (.int .i64 (cmpD a b)) ∧ Below w.heap.size w w' := by
  go_enter Tryd.func29, Tryd.ntmps29
  go_wp2_with fail
  have hA : ((w.alloc (.cells #[.int .i64 a.f, .int .i64 a.n, .int .i64 a.c] 23)).alloc (.cells #[.int .i64 b.f, .int .i64 b.n, .int .i64 b.c] 23)).heap[w.heap.size]? = some (.cells #[.int .i64 a.f, .int .i64 a.n, .int .i64 a.c] 23) := ((bAlloc (bRefl (w.alloc _)) _).block _ (by simp)).trans (heap_new _ _)
  have hB : ((w.alloc (.cells #[.int .i64 a.f, .int .i64 a.n, .int .i64 a.c] 23)).alloc (.cells #[.int .i64 b.f, .int .i64 b.n, .int .i64 b.c] 23)).heap[w.heap.size + 1]? = some (.cells #[.int .i64 b.f, .int .i64 b.n, .int .i64 b.c] 23) := heap_new2 (by simp)
  have HL : Hid (Below w.heap.size w ((w.alloc (.cells #[.int .i64 a.f, .int .i64 a.n, .int .i64 a.c] 23)).alloc (.cells #[.int .i64 b.f, .int .i64 b.n, .int .i64 b.c] 23))) := bAlloc (bAlloc (bRefl _) _) _
  have hs : w.heap.size + 1 < ((w.alloc (.cells #[.int .i64 a.f, .int .i64 a.n, .int .i64 a.c] 23)).alloc (.cells #[.int .i64 b.f, .int .i64 b.n, .int .i64 b.c] 23)).heap.size := by simp
  generalize (w.alloc (.cells #[.int .i64 a.f, .int .i64 a.n, .int .i64 a.c] 23)).alloc (.cells #[.int .i64 b.f, .int .i64 b.n, .int .i64 b.c] 23) = w1 at hA hB HL hs ⊢
  obtain ⟨p0, p1, p2⟩ := blk3 hA
  obtain ⟨q0, q1, q2⟩ := blk3 hB
  have hs0 : w.heap.size < w1.heap.size := by omega
  have hbb : Below w1.heap.size w1 w1 := bRefl w1
  clear hA hB
  go_region_held3 (fun w' => w'.cell? ⟨w.heap.size, 0, none⟩ = some (.int .i64 a.f) ∧ w'.cell? ⟨w.heap.size, 1, none⟩ = some (.int .i64 a.n) ∧ w'.cell? ⟨w.heap.size, 2, none⟩ = some (.int .i64 a.c) ∧ w'.cell? ⟨w.heap.size + 1, 0, none⟩ = some (.int .i64 b.f) ∧ w'.cell? ⟨w.heap.size + 1, 1, none⟩ = some (.int .i64 b.n) ∧ w'.cell? ⟨w.heap.size + 1, 2, none⟩ = some (.int .i64 b.c)) (go_keep)
    (first
      | (go_at_call 33; refine (cmp_b _ _ _).mono ?_; rintro e w2 ⟨rfl, hb2⟩; have hc2 := (by first | exact bcell (undrew hb2) | exact bcell hb2); replace hbb := (by first | exact bTrans hbb (undrew hb2) | exact bTrans hbb hb2); have hz2 := Nat.lt_of_lt_of_le hs0 hbb.size; have hz3 := Nat.lt_of_lt_of_le hs hbb.size)
      | (go_at_call 32; refine (or_b _ _ _ _ _ (by exact heap_new2 (by simp))).mono ?_; rintro e w2 ⟨rfl, hb2⟩; have hc2 := bcell hb2; replace hbb := bTrans (bAlloc hbb _) hb2; have y0 := (hbb.cell (p := ⟨w.heap.size, 0, none⟩) hs0).trans p0; have y1 := (hbb.cell (p := ⟨w.heap.size, 1, none⟩) hs0).trans p1; have y2 := (hbb.cell (p := ⟨w.heap.size, 2, none⟩) hs0).trans p2; have x0 := (hbb.cell (p := ⟨w.heap.size + 1, 0, none⟩) hs).trans q0; have x1 := (hbb.cell (p := ⟨w.heap.size + 1, 1, none⟩) hs).trans q1; have x2 := (hbb.cell (p := ⟨w.heap.size + 1, 2, none⟩) hs).trans q2))
  all_goals
    go_wp2_with fail
    go_ret
    exact ⟨rfl, bTrans HL.out hbb⟩
end Go.Proofs.YtdgialhigibnlaaDoor
