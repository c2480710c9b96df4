/-
  The program of one handler, as the law makes it; and the fixed examples, that every statement of the stage looks at: all say yes. Condition: the table of the instructions is in the world.
-/
import Derived.Test.YtfkaalgcgbmlpaaDoorFl2
import Derived.Test.YtfkaalgcgbmlpaaDoorCrit
namespace Go.Proofs.YtfkaalgcgbmlpaaDoor
open Go.RowKit
attribute [local go_sem ↓] Go.wp_at_zero Go.wp_at_succ

/-- A block whose cells are known. -/
structure Bx (w : World) (b : Nat) (cs : Array Value) : Prop where
  lt : b < w.heap.size
  cell : ∀ o, w.cell? ⟨b, o, none⟩ = cs[o]?
theorem Bx.below {w w' : World} {b : Nat} {cs : Array Value} (h : Bx w b cs) (hb : Below w.heap.size w w') : Bx w' b cs :=
  ⟨Nat.lt_of_lt_of_le h.lt hb.size, fun o => (hb.cell (p := ⟨b, o, none⟩) h.lt).trans (h.cell o)⟩
theorem Bx.new (w : World) (cs : Array Value) (T : TypeId) : Bx (w.alloc (.cells cs T)) w.heap.size cs := ⟨by simp, fun o => World.cell?_alloc_new w cs T o⟩

theorem sl1 {α : Type} {sz : Nat} {R : World → Nat → Nat → α → Prop} {ok : Nat → Prop} {w : World} {b o c : Nat} {x : α} (hk : ok b) (hb : b < w.heap.size) (h : R w b o x) : Sl sz R ok w (.slice (some ⟨b, o, none⟩) 1 c) [x] :=
  ⟨_, c, rfl, by simp, Or.inr ⟨b, o, rfl, hk, hb, fun k y hy => by
    match k, hy with
    | 0, hy => simp at hy; subst hy; simpa using h⟩⟩

/-- A program's value, laid open. -/
theorem PrgV.open {w : World} {v : Value} {p : PPrg} (h : PrgV w v p) : ∃ A1 A2 A3 c1 c2 c3, v = .agg #[.slice A1 p.hs.length c1, .slice A2 p.acs.length c2, .slice A3 p.bs.length c3, .int .i64 p.fuel] := by
  obtain ⟨va, vb, vc, rfl, h1, h2, h3⟩ := h
  obtain ⟨A1, c1, rfl, _⟩ := h1.form
  obtain ⟨A2, c2, rfl, _⟩ := h2.form
  obtain ⟨A3, c3, rfl, _⟩ := h3.form
  exact ⟨A1, A2, A3, c1, c2, c3, rfl⟩

def hW (w : World) (A : Option Addr) (n c : Nat) : World :=
  (((w.alloc (.cells #[.slice (some ⟨w.heap.size + 1, 0, none⟩) 1 1, .slice (some ⟨w.heap.size + 1 + 1 + 1, 0, none⟩) 1 1, .slice none 0 0, .int .i64 100] 26)).alloc
    (.cells #[.int .i64 0, .slice A n c] 49)).alloc
    (.cells #[.int .i64 0] 3)).alloc
    (.cells #[.slice (some ⟨w.heap.size + 1 + 1, 0, none⟩) 1 1, .int .i64 0, .int .i64 (-1), .bool false] 51)
def hV (w : World) : Value := .agg #[.slice (some ⟨w.heap.size + 1, 0, none⟩) 1 1, .slice (some ⟨w.heap.size + 1 + 1 + 1, 0, none⟩) 1 1, .slice none 0 0, .int .i64 100]
set_option maxHeartbeats 800000 in
theorem handler_exact (w : World) (A : Option Addr) (n c : Nat) : Calls Tryd.prog 18 #[.slice A n c] w fun e w' => e = .returned (hV w) ∧ w' = hW w A n c := by
  go_enter Tryd.func18, Tryd.ntmps18
  go_wp2
  exact bodyPost_ret (v := hV w) (by simp [results, Tryd.results18, go_sem, hV]) rfl ⟨rfl, rfl⟩
theorem hW_below (w : World) (A : Option Addr) (n c : Nat) : Below w.heap.size w (hW w A n c) := bAlloc (bAlloc (bAlloc (bAlloc (bRefl w) _) _) _) _
/-- A program of one handler and one actor of one register, off its cells. -/
theorem mkH {W : World} {bH bA bR cH cA cR : Nat} {v : Value} {code : List PIns} (hc : Code anyB W v code)
    (zH : bH < W.heap.size) (zA : bA < W.heap.size) (zR : bR < W.heap.size)
    (h0 : W.cell? ⟨bH, 0, none⟩ = some (.int .i64 0)) (h1 : W.cell? ⟨bH, 1, none⟩ = some v)
    (t0 : W.cell? ⟨bA, 0, none⟩ = some (.slice (some ⟨bR, 0, none⟩) 1 cR)) (t1 : W.cell? ⟨bA, 1, none⟩ = some (.int .i64 0)) (t2 : W.cell? ⟨bA, 2, none⟩ = some (.int .i64 (-1))) (t3 : W.cell? ⟨bA, 3, none⟩ = some (.bool false))
    (r0 : W.cell? ⟨bR, 0, none⟩ = some (.int .i64 0)) :
    PrgV W (.agg #[.slice (some ⟨bH, 0, none⟩) 1 cH, .slice (some ⟨bA, 0, none⟩) 1 cA, .slice none 0 0, .int .i64 100]) (hP code) :=
  ⟨_, _, _, rfl, sl1 trivial zH ⟨h0, _, h1, hc⟩, sl1 trivial zA ⟨⟨_, t0, sl1 trivial zR r0⟩, t1, t2, t3⟩, sl0⟩
set_option maxHeartbeats 800000 in
theorem hW_reads {w : World} {A : Option Addr} {n c : Nat} {code : List PIns} (h : Code anyB w (.slice A n c) code) : PrgV (hW w A n c) (hV w) (hP code) := by
  apply mkH (bH := w.heap.size + 1) (bA := w.heap.size + 1 + 1 + 1) (bR := w.heap.size + 1 + 1) (h.below (hW_below w A n c))
  all_goals (simp [hW, go_sem]; try rfl)
theorem handler_any (w : World) (v : Value) (code : List PIns) (h : Code anyB w v code) : Calls Tryd.prog 18 #[v] w fun e w' => ∃ A1 A2 c1 c2, e = .returned (.agg #[.slice A1 1 c1, .slice A2 1 c2, .slice none 0 0, .int .i64 100]) ∧ PrgV w' (.agg #[.slice A1 1 c1, .slice A2 1 c2, .slice none 0 0, .int .i64 100]) (hP code) ∧ Below w.heap.size w w' := by
  obtain ⟨A, c, rfl, _⟩ := h.form
  refine (handler_exact w A _ c).mono ?_
  rintro e w' ⟨rfl, rfl⟩
  exact ⟨_, _, _, _, rfl, hW_reads h, hW_below _ _ _ _⟩

section
variable {code : List PIns} {l : List Int}
theorem one_good (hc : chk (hP code) = 0) (g : Good (hP code).hs code l) : fe (hP code) 0 = 0 ∧ fl (hP code) 0 = l ∧ fm (hP code) 0 = mxl l ∧ fc (hP code) = 0 := by
  have h1 : fe (hP code) 0 = 0 := by unfold fe; rw [if_pos hc, if_pos (by simp [hP]), show fcode (hP code) 0 = code from rfl, g.de]
  have h2 : fl (hP code) 0 = l := by unfold fl; rw [if_pos hc, if_pos (by simp [hP]), show fcode (hP code) 0 = code from rfl, g.dl]
  refine ⟨h1, h2, by unfold fm; rw [if_pos h1, h2], ?_⟩
  unfold fc
  rw [if_pos hc]
  show (if de (hP code).hs code = 0 then 0 else de (hP code).hs code) = 0
  rw [g.de]; rfl
theorem one_bad (hc : chk (hP code) = 0) (g : Bad (hP code).hs code) : fe (hP code) 0 = 5 ∧ fl (hP code) 0 = [] ∧ fm (hP code) 0 = -1 ∧ fc (hP code) = 5 := by
  have h1 : fe (hP code) 0 = 5 := by unfold fe; rw [if_pos hc, if_pos (by simp [hP]), show fcode (hP code) 0 = code from rfl, g.de]
  have h2 : fl (hP code) 0 = [] := by unfold fl; rw [if_pos hc, if_pos (by simp [hP]), show fcode (hP code) 0 = code from rfl, g.dl]
  refine ⟨h1, h2, by unfold fm; rw [if_neg (by rw [h1]; decide)], ?_⟩
  unfold fc
  rw [if_pos hc]
  show (if de (hP code).hs code = 0 then 0 else de (hP code).hs code) = 5
  rw [g.de]; rfl
theorem one_none (hc : chk (hP code) = 0) : fe (hP code) 1 = 7 ∧ fm (hP code) 1 = -1 := by
  have h1 : fe (hP code) 1 = 7 := by unfold fe; rw [if_pos hc, if_neg (by simp [hP])]
  exact ⟨h1, by unfold fm; rw [if_neg (by rw [h1]; decide)]⟩
end

/-- What the look at the examples knows while it goes: the program's box, and the first answer. -/
structure AW (w0 w : World) (b : Nat) (P : Array Value) (u : Value) : Prop where
  low : Below w0.heap.size w0 w
  tab : Tab w
  bx : Bx w b P
  prg : PrgV w (.agg P) (hP exC)
  ans : Ints anyB w u [0, 1, 0, 1, 0, 1, 0]
theorem AW.below {w0 w w' : World} {b : Nat} {P : Array Value} {u : Value} (h : AW w0 w b P u) (hb : Below w.heap.size w w') : AW w0 w' b P u :=
  ⟨bTrans h.low hb, h.tab.below hb, h.bx.below hb, h.prg.below hb, h.ans.below hb⟩
theorem seven (w : World) : Ints anyB (w.alloc (.cells #[.int .i64 0, .int .i64 1, .int .i64 0, .int .i64 1, .int .i64 0, .int .i64 1, .int .i64 0] 3)) (.slice (some ⟨w.heap.size, 0, none⟩) 7 7) [0, 1, 0, 1, 0, 1, 0] :=
  ⟨_, 7, rfl, by simp, Or.inr ⟨w.heap.size, 0, rfl, trivial, by simp, fun k x hx => by
    have hk : k < 7 := (List.getElem?_eq_some_iff.1 hx).1
    match k, hk, hx with
    | 0, _, hx | 1, _, hx | 2, _, hx | 3, _, hx | 4, _, hx | 5, _, hx | 6, _, hx => simp at hx; subst hx; simp [rInt, go_sem]⟩⟩
theorem six (w : World) : Code anyB (w.alloc (.cells #[.int .i64 1, .int .i64 1, .int .i64 21, .int .i64 4, .int .i64 1, .int .i64 2, .int .i64 20, .int .i64 5, .int .i64 1, .int .i64 3, .int .i64 2, .int .i64 0] 43)) (.slice (some ⟨w.heap.size, 0, none⟩) 6 6) exC :=
  ⟨_, 6, rfl, by simp [exC], Or.inr ⟨w.heap.size, 0, rfl, trivial, by simp, fun k x hx => by
    have hk : k < 6 := (List.getElem?_eq_some_iff.1 hx).1
    match k, hk, hx with
    | 0, _, hx | 1, _, hx | 2, _, hx | 3, _, hx | 4, _, hx | 5, _, hx => simp [exC] at hx; subst hx; simp [rIns, go_sem]⟩⟩
theorem single (w : World) (op a : Int) : Code anyB (w.alloc (.cells #[.int .i64 op, .int .i64 a] 43)) (.slice (some ⟨w.heap.size, 0, none⟩) 1 1) [⟨op, a⟩] :=
  sl1 trivial (by simp) ⟨by simp [go_sem], by simp [go_sem]⟩

set_option maxHeartbeats 4000000 in
set_option maxRecDepth 100000 in
theorem awake_any (w : World) (ht : Tab w) : Calls Tryd.prog 10 #[] w fun e w' => e = .returned (.bool true) ∧ Below w.heap.size w w' := by
  have HT : Hid (Tab w) := ht
  clear ht
  obtain ⟨g1, g2, g3, g4⟩ := one_good ex_chk ex_good
  obtain ⟨f1, _, _, _⟩ := one_bad pop_chk pop_bad
  obtain ⟨k1, k2⟩ := one_none ex_chk
  have g5 : mxl [0, 1, 0, 1, 0, 1, 0] = 1 := by decide
  rw [g5] at g3
  clear g5
  have g6 := eqB_self [(0 : Int), 1, 0, 1, 0, 1, 0]
  go_enter Tryd.func10, Tryd.ntmps10
  go_wp2_with fail
  refine (handler_any _ _ exC (six w)).mono ?_
  rintro e w1 ⟨A1, A2, c1, c2, rfl, hp1, hb1⟩
  go_wp2_with fail
  refine (depths_any _ _ (hP exC) 0 (HT.out.below (bAlloc (bTrans (bAlloc (bRefl w) _) hb1) _)) (hp1.below (bAlloc (bRefl _) _))).mono ?_
  rintro e w2 ⟨u, rfl, hu, hb2⟩
  rw [g2] at hu
  obtain ⟨Au, cu, rfl, hul⟩ := hu.form
  have aw : AW w w2 w1.heap.size #[.slice A1 1 c1, .slice A2 1 c2, .slice none 0 0, .int .i64 100] (.slice Au 7 cu) :=
    ⟨bTrans (bAlloc (bTrans (bAlloc (bRefl w) _) hb1) _) hb2, HT.out.below (bTrans (bAlloc (bTrans (bAlloc (bRefl w) _) hb1) _) hb2), (Bx.new w1 _ 26).below hb2, hp1.below (bTrans (bAlloc (bRefl _) _) hb2), hu.any⟩
  clear hu hp1 hb1 hb2 hul
  have k0 := aw.bx.cell
  simp only [List.length_cons, List.length_nil]
  go_wp2_with fail
  refine (handler_any _ _ [⟨2, 0⟩] (single w2 2 0)).mono ?_
  rintro e w3 ⟨D1, D2, d1, d2, rfl, hp3, hb3⟩
  have a3 := (aw.below (bAlloc (bRefl w2) _)).below hb3
  clear k0
  go_wp2_with fail
  refine (depths_any _ _ (hP [⟨2, 0⟩]) 0 a3.tab hp3).mono ?_
  rintro e w4 ⟨u4, rfl, hu4, hb4⟩
  obtain ⟨Av, cv, rfl, hvl⟩ := hu4.form
  have a4 := a3.below hb4
  have k4 := a4.bx.cell
  clear hu4 hb4 hb3 hp3 a3 aw
  go_wp2_with fail
  refine (depths_any _ _ (hP exC) 1 a4.tab a4.prg).mono ?_
  rintro e w5 ⟨u5, rfl, hu5, hb5⟩
  obtain ⟨Ax, cx, rfl, hxl⟩ := hu5.form
  have a5 := a4.below hb5
  clear k4 a4 hu5 hb5
  have k5 := a5.bx.cell
  go_wp2_with fail
  refine (alikeI anyB anyB _ _ _ [0, 1, 0, 1, 0, 1, 0] [0, 1, 0, 1, 0, 1, 0] (a5.ans.below (bAlloc (bRefl _) _)) (seven w5)).mono ?_
  rintro e w6 ⟨rfl, hq⟩
  have a6 := (a5.below (bAlloc (bRefl _) _)).below (quiet_below hq)
  clear k5 a5 hq
  have k6 := a6.bx.cell
  go_wp2_with fail
  refine (fcheck_any _ _ (hP exC) a6.tab a6.prg).mono ?_
  rintro e w7 ⟨rfl, hb7⟩
  have a7 := a6.below hb7
  clear k6 a6 hb7
  have k7 := a7.bx.cell
  go_wp2_with fail
  refine (most_any _ _ (hP exC) 0 a7.tab a7.prg).mono ?_
  rintro e w8 ⟨rfl, hb8⟩
  have a8 := a7.below hb8
  clear k7 a7 hb8
  have k8 := a8.bx.cell
  go_wp2_with fail
  refine (most_any _ _ (hP exC) 1 a8.tab a8.prg).mono ?_
  rintro e w9 ⟨rfl, hb9⟩
  have a9 := a8.below hb9
  clear k8 a8 hb9
  go_wp2_with fail
  go_ret
  exact ⟨rfl, a9.low⟩
end Go.Proofs.YtfkaalgcgbmlpaaDoor
