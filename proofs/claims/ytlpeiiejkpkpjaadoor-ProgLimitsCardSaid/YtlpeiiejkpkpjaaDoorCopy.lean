/-
  What Copy answers of a program that is looked at: another one, the same, in new memory of its own. Condition: the program is small.
-/
import Derived.Test.YtlpeiiejkpkpjaaDoorMade
import Derived.Deep.RegionHeld3
import Derived.Deep.DeepCutAuto
import Derived.Deep.DrawnRows
import Derived.Deep.RegionWith
namespace Go.Proofs.YtlpeiiejkpkpjaaDoor
open Go.RowKit
attribute [local go_sem ↓] Go.wp_at_zero Go.wp_at_succ

theorem olds {W w1 : World} (hb : Below W.heap.size W w1) : (∀ b o, b < W.heap.size → w1.cell? ⟨b, o, none⟩ = W.cell? ⟨b, o, none⟩) ∧ (∀ b o, b < W.heap.size → w1.frozen? ⟨b, o, none⟩ = W.frozen? ⟨b, o, none⟩) ∧ (∀ b, b < W.heap.size → b < w1.heap.size) :=
  ⟨fun b o h => hb.cell (p := ⟨b, o, none⟩) h, fun b o h => hb.frozen (p := ⟨b, o, none⟩) h, fun _ h => Nat.lt_of_lt_of_le h hb.size⟩
theorem heap_cell {w : World} {b i : Nat} {c : Array Value} {T : TypeId} {v : Value} (h : w.heap[b]? = some (.cells c T)) (hi : c[i]? = some v) : w.cell? ⟨b, i, none⟩ = some v := by
  simp [World.cell?, h, hi]
theorem heap_frozen {w : World} {b i : Nat} {c : Array Value} {T : TypeId} (h : w.heap[b]? = some (.cells c T)) : w.frozen? ⟨b, i, none⟩ = false := by
  simp [World.frozen?, h]
theorem undrew {W w1 : World} (h : Below W.drew.heap.size W.drew w1) : Below W.heap.size W w1 := ⟨h.os, h.tape, h.output, h.size, h.block⟩

/-- A struct of four cells, stored. -/
def put4 (w : World) (b : Nat) (a0 a1 a2 a3 : Value) : World := (((w.setCell ⟨b, 0, none⟩ a0).setCell ⟨b, 1, none⟩ a1).setCell ⟨b, 2, none⟩ a2).setCell ⟨b, 3, none⟩ a3
theorem put4_heap {w : World} {b : Nat} {a0 a1 a2 a3 z0 z1 z2 z3 : Value} {T : TypeId} (h : w.heap[b]? = some (.cells #[z0, z1, z2, z3] T)) : (put4 w b a0 a1 a2 a3).heap[b]? = some (.cells #[a0, a1, a2, a3] T) := by
  have h1 := setCell_heap (i := 0) (v := a0) h
  have h2 := setCell_heap (i := 1) (v := a1) h1
  have h3 := setCell_heap (i := 2) (v := a2) h2
  have h4 := setCell_heap (i := 3) (v := a3) h3
  exact h4.trans (by simp)
theorem put4_same {w : World} {b : Nat} {a0 a1 a2 a3 : Value} : Same (fun d => d ≠ b) w (put4 w b a0 a1 a2 a3) :=
  (((setCell_same fun _ h => h).trans (setCell_same fun _ h => h)).trans (setCell_same fun _ h => h)).trans (setCell_same fun _ h => h)
theorem put4_below {B : Nat} {a w : World} {b : Nat} {a0 a1 a2 a3 : Value} (h : Below B a w) (hb : B ≤ b) : Below B a (put4 w b a0 a1 a2 a3) :=
  (((h.setCell (p := ⟨b, 0, none⟩) hb _).setCell (p := ⟨b, 1, none⟩) hb _).setCell (p := ⟨b, 2, none⟩) hb _).setCell (p := ⟨b, 3, none⟩) hb _
theorem put4_plain {B : Nat} {w : World} {b : Nat} {a0 a1 a2 a3 : Value} (h : Plain B w) : Plain B (put4 w b a0 a1 a2 a3) := (((h.setCell _ _).setCell _ _).setCell _ _).setCell _ _
theorem put4_size {w : World} {b : Nat} {a0 a1 a2 a3 : Value} : (put4 w b a0 a1 a2 a3).heap.size = w.heap.size := by simp [put4, World.setCell]

/-- The end: the copy is read out into the result. -/
theorem ci_end {w wr : World} {p : PPrg} {bo p1 q1 p2 q2 p3 q3 C : Nat} {A1 A2 A3 : Option Addr} {d1 d2 d3 : Nat} {a0 a1 a2 a3 : Value} (h : CI w p bo p1 q1 p2 q2 p3 q3 C A1 A2 A3 d1 d2 d3 p.hs.length p.acs.length p.bs.length wr) (cb : CB w bo p1 q1 p2 q2 p3 q3 C) :
    PNew w.heap.size (put4 wr (w.heap.size + 1) a0 a1 a2 a3) (.agg #[.slice A1 p.hs.length d1, .slice A2 p.acs.length d2, .slice A3 p.bs.length d3, .int .i64 p.fuel]) p ∧ Below w.heap.size w (put4 wr (w.heap.size + 1) a0 a1 a2 a3) := by
  have s : Same (fun d => d ≠ w.heap.size + 1) wr (put4 wr (w.heap.size + 1) a0 a1 a2 a3) := put4_same
  obtain ⟨c0, c1, c2, c3, c4, c5, c6, c7, c8, c9, c10, c11⟩ := cb
  refine ⟨⟨⟨p1, q1, p2, q2, p3, q3, C, A1, A2, A3, d1, d2, d3, rfl, by omega, c1, c2, c3, c4, c5, c6, ?_, ?_, ?_⟩, put4_plain h.plain⟩, put4_below h.low (by omega)⟩
  · exact Hnds.same (h.hh.all h.n1) (s.weak fun b hb => by unfold In at hb; omega) (s.weak fun b hb => by omega)
  · exact Acts.same (h.ha.all h.n2) (s.weak fun b hb => by unfold In at hb; omega) (s.weak fun b hb => by omega)
  · exact Ntes.same (h.hn.all h.n3) (s.weak fun b hb => by unfold In at hb; omega) (s.weak fun b hb => by omega)

theorem box_cells {w wr : World} {cs : Array Value} {T : TypeId} (hb : Below (w.heap.size + 1) (w.alloc (.cells cs T)) wr) (o : Nat) : wr.cell? ⟨w.heap.size, o, none⟩ = cs[o]? :=
  (hb.cell (p := ⟨w.heap.size, o, none⟩) (Nat.lt_succ_self _)).trans (World.cell?_alloc_new w cs T o)
theorem u_step {w W w1 : World} {x : Obj} (hW : Below (w.heap.size + 1) (w.alloc x) W) (cl : Below W.heap.size W w1) : Below (w.heap.size + 1) (w.alloc x) w1 := hW.trans (cl.mono (by have := hW.size; simpa using this))
theorem u_alloc {w W : World} {x : Obj} (hW : Below (w.heap.size + 1) (w.alloc x) W) (y : Obj) : Below (w.heap.size + 1) (w.alloc x) (W.alloc y) := hW.alloc (by have := hW.size; simpa using this) y
theorem heap_new (w : World) (o : Obj) : (w.alloc o).heap[w.heap.size]? = some o := by show (w.heap.push o)[w.heap.size]? = _; simp

section
variable {w w1 w2 w3 : World} {p : PPrg} {A1 A2 A3 B1 B2 B3 : Option Addr} {c1 c2 c3 d1 d2 d3 : Nat} {cs : Array Value}
/-- What a way through the first statement comes to. -/
def Way (w : World) (p : PPrg) (B1 B2 B3 : Option Addr) (d1 d2 d3 bo : Nat) (wf : World) : Prop := ∃ p1 q1 p2 q2 p3 q3 C, CB w bo p1 q1 p2 q2 p3 q3 C ∧ CI w p bo p1 q1 p2 q2 p3 q3 C B1 B2 B3 d1 d2 d3 0 0 0 wf
theorem way_a (h1 : Hnds anyB anyB w (.slice A1 p.hs.length c1) p.hs) (h2 : Acts anyB anyB w (.slice A2 p.acs.length c2) p.acs) (h3 : Ntes anyB anyB w (.slice A3 p.bs.length c3) p.bs)
    (cl1 : Cloned ((w.alloc (.cells cs 26)).alloc (.cells #[.slice none 0 0, .slice none 0 0, .slice none 0 0, .int .i64 0] 26)).drew A1 p.hs.length 2 31 w1 B1) (cl2 : Cloned w1 A2 p.acs.length 4 41 w2 B2) (cl3 : Cloned w2 A3 p.bs.length 3 43 w3 B3) :
    Way w p B1 B2 B3 d1 d2 d3 w3.heap.size (w3.alloc (.cells #[.slice B1 p.hs.length d1, .slice B2 p.acs.length d2, .slice B3 p.bs.length d3, .int .i64 p.fuel] 26)) := by
  have z1 := cl1.below.size
  have z2 := cl2.below.size
  have z3 := cl3.below.size
  simp at z1
  have hl : Below w.heap.size w w3 := bTrans (bTrans (bTrans (bAlloc (bAlloc (bRefl w) _) _).drew cl1.below) cl2.below) cl3.below
  have hp : Plain w.heap.size w3 := Plain.cloned (Plain.cloned (Plain.cloned ((Plain.alloc (Plain.alloc (Plain.start w) _ _) _ _).drew) cl1) cl2) cl3
  exact ⟨_, _, _, _, _, _, _, ci_mk h1 h2 h3 (Below.refl _ _).drew cl1 (bRefl _) cl2 (bRefl _) cl3 (Same.all (bAlloc (bRefl _) _)) (bAlloc hl _) (hp.alloc _ _) (heap_new _ _) (by omega) (by simp) (Or.inr (by omega)) (Or.inr (by omega)) (Or.inr (by omega))⟩
theorem way_b (h1 : Hnds anyB anyB w (.slice A1 p.hs.length c1) p.hs) (h2 : Acts anyB anyB w (.slice A2 p.acs.length c2) p.acs) (h3 : Ntes anyB anyB w (.slice A3 p.bs.length c3) p.bs)
    (cl1 : Cloned ((w.alloc (.cells cs 26)).alloc (.cells #[.slice none 0 0, .slice none 0 0, .slice none 0 0, .int .i64 0] 26)).drew A1 p.hs.length 2 31 w1 B1) (cl2 : Cloned w1 A2 p.acs.length 4 41 w2 B2) (cl3 : Cloned (w2.alloc (.cells #[.slice none 0 0, .slice none 0 0, .slice none 0 0, .int .i64 0] 26)) A3 p.bs.length 3 43 w3 B3) :
    Way w p B1 B2 B3 d1 d2 d3 w2.heap.size (put4 w3 w2.heap.size (.slice B1 p.hs.length d1) (.slice B2 p.acs.length d2) (.slice B3 p.bs.length d3) (.int .i64 p.fuel)) := by
  have z1 := cl1.below.size
  have z2 := cl2.below.size
  have z3 := cl3.below.size
  simp at z1 z3
  have hl : Below w.heap.size w w3 := bTrans (bAlloc (bTrans (bTrans (bAlloc (bAlloc (bRefl w) _) _).drew cl1.below) cl2.below) _) cl3.below
  have hp : Plain w.heap.size w3 := Plain.cloned (Plain.alloc (Plain.cloned (Plain.cloned ((Plain.alloc (Plain.alloc (Plain.start w) _ _) _ _).drew) cl1) cl2) _ _) cl3
  have ho : w3.heap[w2.heap.size]? = some (.cells #[.slice none 0 0, .slice none 0 0, .slice none 0 0, .int .i64 0] 26) := (cl3.below.block _ (by simp)).trans (heap_new _ _)
  exact ⟨_, _, _, _, _, _, _, ci_mk h1 h2 h3 (Below.refl _ _).drew cl1 (bRefl _) cl2 (bAlloc (bRefl _) _) cl3 put4_same (put4_below hl (by omega)) (put4_plain hp) (put4_heap ho) (by omega) (by rw [put4_size]; omega) (Or.inr (by omega)) (Or.inr (by omega)) (Or.inl (by simp))⟩
theorem way_c (h1 : Hnds anyB anyB w (.slice A1 p.hs.length c1) p.hs) (h2 : Acts anyB anyB w (.slice A2 p.acs.length c2) p.acs) (h3 : Ntes anyB anyB w (.slice A3 p.bs.length c3) p.bs)
    (cl1 : Cloned ((w.alloc (.cells cs 26)).alloc (.cells #[.slice none 0 0, .slice none 0 0, .slice none 0 0, .int .i64 0] 26)).drew A1 p.hs.length 2 31 w1 B1) (cl2 : Cloned (w1.alloc (.cells #[.slice none 0 0, .slice none 0 0, .slice none 0 0, .int .i64 0] 26)) A2 p.acs.length 4 41 w2 B2) (cl3 : Cloned w2 A3 p.bs.length 3 43 w3 B3) :
    Way w p B1 B2 B3 d1 d2 d3 w1.heap.size (put4 w3 w1.heap.size (.slice B1 p.hs.length d1) (.slice B2 p.acs.length d2) (.slice B3 p.bs.length d3) (.int .i64 p.fuel)) := by
  have z1 := cl1.below.size
  have z2 := cl2.below.size
  have z3 := cl3.below.size
  simp at z1 z2
  have hl : Below w.heap.size w w3 := bTrans (bTrans (bAlloc (bTrans (bAlloc (bAlloc (bRefl w) _) _).drew cl1.below) _) cl2.below) cl3.below
  have hp : Plain w.heap.size w3 := Plain.cloned (Plain.cloned (Plain.alloc (Plain.cloned ((Plain.alloc (Plain.alloc (Plain.start w) _ _) _ _).drew) cl1) _ _) cl2) cl3
  have ho : w3.heap[w1.heap.size]? = some (.cells #[.slice none 0 0, .slice none 0 0, .slice none 0 0, .int .i64 0] 26) := (cl3.below.block _ (by omega)).trans ((cl2.below.block _ (by simp)).trans (heap_new _ _))
  exact ⟨_, _, _, _, _, _, _, ci_mk h1 h2 h3 (Below.refl _ _).drew cl1 (bAlloc (bRefl _) _) cl2 (bRefl _) cl3 put4_same (put4_below hl (by omega)) (put4_plain hp) (put4_heap ho) (by omega) (by rw [put4_size]; omega) (Or.inr (by omega)) (Or.inl (by simp)) (Or.inl (by omega))⟩
theorem way_d (h1 : Hnds anyB anyB w (.slice A1 p.hs.length c1) p.hs) (h2 : Acts anyB anyB w (.slice A2 p.acs.length c2) p.acs) (h3 : Ntes anyB anyB w (.slice A3 p.bs.length c3) p.bs)
    (cl1 : Cloned (((w.alloc (.cells cs 26)).alloc (.cells #[.slice none 0 0, .slice none 0 0, .slice none 0 0, .int .i64 0] 26)).alloc (.cells #[.slice none 0 0, .slice none 0 0, .slice none 0 0, .int .i64 0] 26)).drew A1 p.hs.length 2 31 w1 B1) (cl2 : Cloned w1 A2 p.acs.length 4 41 w2 B2) (cl3 : Cloned w2 A3 p.bs.length 3 43 w3 B3) :
    Way w p B1 B2 B3 d1 d2 d3 (w.heap.size + 1 + 1) (put4 w3 (w.heap.size + 1 + 1) (.slice B1 p.hs.length d1) (.slice B2 p.acs.length d2) (.slice B3 p.bs.length d3) (.int .i64 p.fuel)) := by
  have z1 := cl1.below.size
  have z2 := cl2.below.size
  have z3 := cl3.below.size
  simp at z1
  have hl : Below w.heap.size w w3 := bTrans (bTrans (bTrans (bAlloc (bAlloc (bAlloc (bRefl w) _) _) _).drew cl1.below) cl2.below) cl3.below
  have hp : Plain w.heap.size w3 := Plain.cloned (Plain.cloned (Plain.cloned ((Plain.alloc (Plain.alloc (Plain.alloc (Plain.start w) _ _) _ _) _ _).drew) cl1) cl2) cl3
  have ho : w3.heap[w.heap.size + 1 + 1]? = some (.cells #[.slice none 0 0, .slice none 0 0, .slice none 0 0, .int .i64 0] 26) := (cl3.below.block _ (by omega)).trans ((cl2.below.block _ (by omega)).trans ((cl1.below.block _ (by simp)).trans (by
    show (((w.alloc (.cells cs 26)).alloc (.cells #[.slice none 0 0, .slice none 0 0, .slice none 0 0, .int .i64 0] 26)).alloc (.cells #[.slice none 0 0, .slice none 0 0, .slice none 0 0, .int .i64 0] 26)).heap[w.heap.size + 1 + 1]? = _
    have := heap_new ((w.alloc (.cells cs 26)).alloc (.cells #[.slice none 0 0, .slice none 0 0, .slice none 0 0, .int .i64 0] 26)) (.cells #[.slice none 0 0, .slice none 0 0, .slice none 0 0, .int .i64 0] 26)
    simpa using this)))
  exact ⟨_, _, _, _, _, _, _, ci_mk h1 h2 h3 (((Below.refl _ _).alloc (by simp) _).drew) cl1 (bRefl _) cl2 (bRefl _) cl3 put4_same (put4_below hl (by omega)) (put4_plain hp) (put4_heap ho) (by omega) (by rw [put4_size]; omega) (Or.inl (by simp)) (Or.inl (by omega)) (Or.inl (by omega))⟩
end

set_option maxHeartbeats 8000000 in
theorem copy_any (w : World) (v : Value) (p : PPrg) (h : PrgV w v p) (hs : Small p) :
    Calls Tryd.prog 16 #[v] w fun e w' => ∃ v', e = .returned v' ∧ PNew w.heap.size w' v' p ∧ Below w.heap.size w w' := by
  obtain ⟨va, vb, vc, rfl, h1, h2, h3⟩ := h
  obtain ⟨A1, c1, rfl, hl1⟩ := h1.form
  obtain ⟨A2, c2, rfl, hl2⟩ := h2.form
  obtain ⟨A3, c3, rfl, hl3⟩ := h3.form
  obtain ⟨s1, s2, s3, s4, s5, s6⟩ := hs
  have HB : ∀ (x y : Obj), Below w.heap.size w ((w.alloc x).alloc y) := fun x y => bAlloc (bAlloc (bRefl w) x) y
  go_enter Tryd.func16, Tryd.ntmps16
  go_wp2
  go_cut [3] (fun i3 wc => ∃ bo B1 B2 B3 d1 d2 d3, i3 = .pointer (some ⟨bo, 0, none⟩) ∧ Way w p B1 B2 B3 d1 d2 d3 bo wc)
  case first =>
    have H1 : Hid (Hnds anyB anyB w (.slice A1 p.hs.length c1) p.hs) := h1
    have H2 : Hid (Acts anyB anyB w (.slice A2 p.acs.length c2) p.acs) := h2
    have H3 : Hid (Ntes anyB anyB w (.slice A3 p.bs.length c3) p.bs) := h3
    clear h1 h2 h3 s4 s5 s6
    have nn : ¬ w.heap.size + 1 + 1 = w.heap.size := by omega
    have nn' : ¬ w.heap.size = w.heap.size + 1 + 1 := by omega
    have HU : ∀ y, Below (w.heap.size + 1) (w.alloc (.cells #[.slice A1 p.hs.length c1, .slice A2 p.acs.length c2, .slice A3 p.bs.length c3, .int .i64 p.fuel] 26)) ((w.alloc (.cells #[.slice A1 p.hs.length c1, .slice A2 p.acs.length c2, .slice A3 p.bs.length c3, .int .i64 p.fuel] 26)).alloc y) := fun y => (Below.refl _ _).alloc (by simp) y
    have HU2 : ∀ y z, Below (w.heap.size + 1) (w.alloc (.cells #[.slice A1 p.hs.length c1, .slice A2 p.acs.length c2, .slice A3 p.bs.length c3, .int .i64 p.fuel] 26)) (((w.alloc (.cells #[.slice A1 p.hs.length c1, .slice A2 p.acs.length c2, .slice A3 p.bs.length c3, .int .i64 p.fuel] 26)).alloc y).alloc z) := fun y z => (HU y).alloc (by simp) z
    go_region_held3 (fun w' => w'.cell? ⟨w.heap.size, 0, none⟩ = some (.slice A1 p.hs.length c1) ∧ w'.cell? ⟨w.heap.size, 1, none⟩ = some (.slice A2 p.acs.length c2) ∧ w'.cell? ⟨w.heap.size, 2, none⟩ = some (.slice A3 p.bs.length c3) ∧ w'.cell? ⟨w.heap.size, 3, none⟩ = some (.int .i64 p.fuel)) (go_keep)
      (first
        | (go_at_call 35; refine (freshH _ _ _ _ (Sl.there (Rdr.hnd _) (by omega) (H1.out.below (by first | exact (HB _ _).drew | exact (bAlloc (HB _ _) _).drew))) (by omega)).mono ?_; rintro e w1 ⟨B1, d1, rfl, cl1⟩; obtain ⟨hc1, hf1, hz1⟩ := olds cl1.below; have hy1 := cl1.below.size; (try simp at hy1); have y1 : Below w.heap.size w w1 := (by first | exact bTrans (HB _ _).drew cl1.below | exact bTrans (bAlloc (HB _ _) _).drew cl1.below); have x1 : w.heap.size < w1.heap.size := (by omega); have x1' : ¬ w1.heap.size = w.heap.size := (by omega); have u1 : Below (w.heap.size + 1) (w.alloc (.cells #[.slice A1 p.hs.length c1, .slice A2 p.acs.length c2, .slice A3 p.bs.length c3, .int .i64 p.fuel] 26)) w1 := u_step (by first | exact (HU _).drew | exact (HU2 _ _).drew) cl1.below; have v1 := box_cells u1)
        | (go_at_call 36; refine (freshA _ _ _ _ (Sl.there (Rdr.act _) (by omega) (H2.out.below (by first | exact y1 | exact bAlloc y1 _))) (by omega)).mono ?_; rintro e w2 ⟨B2, d2, rfl, cl2⟩; obtain ⟨hc2, hf2, hz2⟩ := olds cl2.below; have hy2 := cl2.below.size; (try simp at hy2); (try (by_cases k2 : w.heap.size + 1 + 1 < w2.heap.size; rotate_left; (exfalso; omega))); (try (by_cases k3 : w1.heap.size < w2.heap.size; rotate_left; (exfalso; omega))); have y2 : Below w.heap.size w w2 := (by first | exact bTrans y1 cl2.below | exact bTrans (bAlloc y1 _) cl2.below); have x2 : w.heap.size < w2.heap.size := (by omega); have x2' : ¬ w2.heap.size = w.heap.size := (by omega); have u2 : Below (w.heap.size + 1) (w.alloc (.cells #[.slice A1 p.hs.length c1, .slice A2 p.acs.length c2, .slice A3 p.bs.length c3, .int .i64 p.fuel] 26)) w2 := u_step (by first | exact u1 | exact u_alloc u1 _) cl2.below; have v2 := box_cells u2)
        | (go_at_call 37; refine (freshN _ _ _ _ (Sl.there (Rdr.nte _) (by omega) (H3.out.below (by first | exact y2 | exact bAlloc y2 _))) (by omega)).mono ?_; rintro e w3 ⟨B3, d3, rfl, cl3⟩; obtain ⟨hc3, hf3, hz3⟩ := olds cl3.below; have hy3 := cl3.below.size; (try simp at hy3); have x3 : w.heap.size < w3.heap.size := (by omega); have x3' : ¬ w3.heap.size = w.heap.size := (by omega); have u3 : Below (w.heap.size + 1) (w.alloc (.cells #[.slice A1 p.hs.length c1, .slice A2 p.acs.length c2, .slice A3 p.bs.length c3, .int .i64 p.fuel] 26)) w3 := u_step (by first | exact u2 | exact u_alloc u2 _) cl3.below; have v3 := box_cells u3))
    all_goals (go_wp2_with fail; go_meet)
    all_goals first
      | exact ⟨_, B1, B2, B3, d1, d2, d3, rfl, way_a H1.out H2.out H3.out cl1 cl2 cl3⟩
      | exact ⟨_, B1, B2, B3, d1, d2, d3, rfl, way_b H1.out H2.out H3.out cl1 cl2 cl3⟩
      | exact ⟨_, B1, B2, B3, d1, d2, d3, rfl, way_c H1.out H2.out H3.out cl1 cl2 cl3⟩
      | exact ⟨_, B1, B2, B3, d1, d2, d3, rfl, way_d H1.out H2.out H3.out cl1 cl2 cl3⟩
  case rest =>
    obtain ⟨bo, B1, B2, B3, d1, d2, d3, rfl, p1, q1, p2, q2, p3, q3, C, cb, ci⟩ := hcut
    clear h1 h2 h3 HB
    have o0 := heap_cell ci.out (i := 0) rfl
    go_wp2
    go_loopg [4, 22] p.hs.length (fun g i4 i22 wr => ∃ k : Nat, g = p.hs.length - k ∧ i22 = .int .i64 k ∧ CI w p bo p1 q1 p2 q2 p3 q3 C B1 B2 B3 d1 d2 d3 k 0 0 wr)
    case atStart => exact ⟨0, rfl, rfl, ci⟩
    case round =>
      clear ci
      obtain ⟨k, rfl, rfl, ci⟩ := hrel
      have o0 := heap_cell ci.out (i := 0) rfl
      have hbo : bo < wr.heap.size := Nat.lt_of_lt_of_le cb.b1 ci.top
      by_cases hlt : k < p.hs.length
      · obtain ⟨b1, oo, x, v1, rfl, hx, hz1, r1, r2, hv1⟩ := ci.hh.cell (bRefl wr) hlt
        obtain ⟨V1, n1, rfl, _⟩ := hv1.form
        have hb1 : w.heap.size ≤ b1 := by
          obtain ⟨b, o, hA, hok, _, _⟩ := ci.hh.at (by omega)
          simp at hA
          have hok' : In p1 q1 b := hok
          unfold In at hok'
          have := cb.a0
          have := cb.a1
          have := cb.a2
          have := cb.a3
          have := cb.a4
          omega
        have hfz : ∀ o, wr.frozen? ⟨b1, o, none⟩ = false := fun o => ci.plain.frozen hb1 hz1
        have hsm : x.code.length ≤ 1000 := by have := s4 x (List.mem_of_getElem? hx); omega
        have HC : Hid (CI w p bo p1 q1 p2 q2 p3 q3 C (some ⟨b1, oo, none⟩) B2 B3 d1 d2 d3 k 0 0 wr) := ci
        have HX : Hid (p.hs[k]? = some x) := hx
        have HV : Hid (Code (inn w C) wr (.slice V1 x.code.length n1) x.code) := hv1
        have HT : Hid (There wr V1 x.code.length 2) := Sl.there Rdr.ins (by omega) hv1
        clear ci hx hv1 s4 s5 s6
        go_wp2
        go_region_with (go_at_call 38; refine (freshC _ _ _ _ (by exact HT.out) hsm).mono ?_; rintro e w1 ⟨D1, m1, rfl, cl1⟩; obtain ⟨hc1, hf1, hy1⟩ := olds (undrew cl1.below))
        all_goals
          go_wp2
          go_roundg (p.hs.length - (k + 1))
          case measure => omega
          case rel => exact ⟨k + 1, rfl, by go_num, HC.out.drew.step1 cb HX.out HV.out cl1⟩
      · obtain rfl : k = p.hs.length := by have := ci.l1; omega
        have o1 := heap_cell ci.out (i := 1) rfl
        go_wp2
        go_loopg [5, 41] p.acs.length (fun g i5 i41 wr => ∃ k : Nat, g = p.acs.length - k ∧ i41 = .int .i64 k ∧ CI w p bo p1 q1 p2 q2 p3 q3 C B1 B2 B3 d1 d2 d3 p.hs.length k 0 wr)
        case atStart => exact ⟨0, rfl, rfl, ci⟩
        case round =>
          clear ci
          obtain ⟨k, rfl, rfl, ci⟩ := hrel
          have o0 := heap_cell ci.out (i := 1) rfl
          have hbo : bo < wr.heap.size := Nat.lt_of_lt_of_le cb.b1 ci.top
          by_cases hlt : k < p.acs.length
          · obtain ⟨b1, oo, x, v1, rfl, hx, hz1, r1, r2, r3, r4, hv1⟩ := ci.ha.cell (bRefl wr) hlt
            obtain ⟨V1, n1, rfl, _⟩ := hv1.form
            have hb1 : w.heap.size ≤ b1 := by
              obtain ⟨b, o, hA, hok, _, _⟩ := ci.ha.at (by omega)
              simp at hA
              have hok' : In p2 q2 b := hok
              unfold In at hok'
              have := cb.a0
              have := cb.a1
              have := cb.a2
              have := cb.a3
              have := cb.a4
              omega
            have hfz : ∀ o, wr.frozen? ⟨b1, o, none⟩ = false := fun o => ci.plain.frozen hb1 hz1
            have hsm : x.regs.length ≤ 1000 := by have := s5 x (List.mem_of_getElem? hx); omega
            have HC : Hid (CI w p bo p1 q1 p2 q2 p3 q3 C B1 (some ⟨b1, oo, none⟩) B3 d1 d2 d3 p.hs.length k 0 wr) := ci
            have HX : Hid (p.acs[k]? = some x) := hx
            have HV : Hid (Ints (inn w C) wr (.slice V1 x.regs.length n1) x.regs) := hv1
            have HT : Hid (There wr V1 x.regs.length 1) := Sl.there Rdr.int (by omega) hv1
            clear ci hx hv1 s4 s5 s6
            go_wp2
            go_region_with (go_at_call 39; refine (freshI _ _ _ _ (by exact HT.out) hsm).mono ?_; rintro e w1 ⟨D1, m1, rfl, cl1⟩; obtain ⟨hc1, hf1, hy1⟩ := olds (undrew cl1.below))
            all_goals
              go_wp2
              go_roundg (p.acs.length - (k + 1))
              case measure => omega
              case rel => exact ⟨k + 1, rfl, by go_num, HC.out.drew.step2 cb HX.out HV.out cl1⟩
          · obtain rfl : k = p.acs.length := by have := ci.l2; omega
            have o1 := heap_cell ci.out (i := 2) rfl
            go_wp2
            go_loopg [6, 60] p.bs.length (fun g i6 i60 wr => ∃ k : Nat, g = p.bs.length - k ∧ i60 = .int .i64 k ∧ CI w p bo p1 q1 p2 q2 p3 q3 C B1 B2 B3 d1 d2 d3 p.hs.length p.acs.length k wr)
            case atStart => exact ⟨0, rfl, rfl, ci⟩
            case round =>
              clear ci
              obtain ⟨k, rfl, rfl, ci⟩ := hrel
              have o0 := heap_cell ci.out (i := 2) rfl
              have hbo : bo < wr.heap.size := Nat.lt_of_lt_of_le cb.b1 ci.top
              by_cases hlt : k < p.bs.length
              · obtain ⟨b1, oo, x, v1, rfl, hx, hz1, r1, r2, r3, hv1⟩ := ci.hn.cell (bRefl wr) hlt
                obtain ⟨V1, n1, rfl, _⟩ := hv1.form
                have hb1 : w.heap.size ≤ b1 := by
                  obtain ⟨b, o, hA, hok, _, _⟩ := ci.hn.at (by omega)
                  simp at hA
                  have hok' : In p3 q3 b := hok
                  unfold In at hok'
                  have := cb.a0
                  have := cb.a1
                  have := cb.a2
                  have := cb.a3
                  have := cb.a4
                  omega
                have hfz : ∀ o, wr.frozen? ⟨b1, o, none⟩ = false := fun o => ci.plain.frozen hb1 hz1
                have hsm : x.args.length ≤ 1000 := by have := s6 x (List.mem_of_getElem? hx); omega
                have HC : Hid (CI w p bo p1 q1 p2 q2 p3 q3 C B1 B2 (some ⟨b1, oo, none⟩) d1 d2 d3 p.hs.length p.acs.length k wr) := ci
                have HX : Hid (p.bs[k]? = some x) := hx
                have HV : Hid (Ints (inn w C) wr (.slice V1 x.args.length n1) x.args) := hv1
                have HT : Hid (There wr V1 x.args.length 1) := Sl.there Rdr.int (by omega) hv1
                clear ci hx hv1 s4 s5 s6
                go_wp2
                go_region_with (go_at_call 39; refine (freshI _ _ _ _ (by exact HT.out) hsm).mono ?_; rintro e w1 ⟨D1, m1, rfl, cl1⟩; obtain ⟨hc1, hf1, hy1⟩ := olds (undrew cl1.below))
                all_goals
                  go_wp2
                  go_roundg (p.bs.length - (k + 1))
                  case measure => omega
                  case rel => exact ⟨k + 1, rfl, by go_num, HC.out.drew.step3 cb HX.out HV.out cl1⟩
              · obtain rfl : k = p.bs.length := by have := ci.l3; omega
                have o1 := heap_cell ci.out (i := 1) rfl
                have o2 := heap_cell ci.out (i := 2) rfl
                have o3 := heap_cell ci.out (i := 3) rfl
                have o00 := heap_cell ci.out (i := 0) rfl
                have r0 := heap_cell ci.res (i := 0) rfl
                have r1 := heap_cell ci.res (i := 1) rfl
                have r2 := heap_cell ci.res (i := 2) rfl
                have r3 := heap_cell ci.res (i := 3) rfl
                have rf : ∀ i, wr.frozen? ⟨w.heap.size + 1, i, none⟩ = false := fun i => heap_frozen ci.res
                have HC : Hid (CI w p bo p1 q1 p2 q2 p3 q3 C B1 B2 B3 d1 d2 d3 p.hs.length p.acs.length p.bs.length wr) := ci
                clear ci s4 s5 s6
                go_wp2
                exact bodyPost_ret (v := .agg #[.slice B1 p.hs.length d1, .slice B2 p.acs.length d2, .slice B3 p.bs.length d3, .int .i64 p.fuel]) (by simp [results, Tryd.results16, go_sem, r0, r1, r2, r3]) rfl ⟨_, rfl, ci_end HC.out cb⟩
end Go.Proofs.YtlpeiiejkpkpjaaDoor
