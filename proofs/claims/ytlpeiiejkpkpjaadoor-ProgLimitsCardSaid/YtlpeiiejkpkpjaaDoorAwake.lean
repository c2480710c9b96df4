/-
  The fixed examples that every statement of the stage looks at: all say yes. Condition: the table of the instructions is in the world.
-/
import Derived.Test.YtlpeiiejkpkpjaaDoorCopy
import Derived.Test.YtlpeiiejkpkpjaaDoorChk3
import Derived.Test.YtlpeiiejkpkpjaaDoorPrg
import Derived.Test.YtlpeiiejkpkpjaaDoorOne
namespace Go.Proofs.YtlpeiiejkpkpjaaDoor
open Go.RowKit

/-- A block whose cells are known. -/
structure Bx (w : World) (b : Nat) (cs : Array Value) : Prop where
  lt : b < w.heap.size
  cell : ∀ o, w.cell? ⟨b, o, none⟩ = cs[o]?
theorem Bx.below {w w' : World} {b : Nat} {cs : Array Value} (h : Bx w b cs) (hb : Below w.heap.size w w') : Bx w' b cs :=
  ⟨Nat.lt_of_lt_of_le h.lt hb.size, fun o => (hb.cell (p := ⟨b, o, none⟩) h.lt).trans (h.cell o)⟩
theorem Bx.new (w : World) (cs : Array Value) (T : TypeId) : Bx (w.alloc (.cells cs T)) w.heap.size cs := ⟨by simp, fun o => World.cell?_alloc_new w cs T o⟩

theorem small_one : Small oneP := by unfold oneP; decide
def oneR : PPrg := { oneP with fuel := 0 }
def noP : PPrg := ⟨[], [], [], 0⟩

/-- What the look at the examples knows while it goes. -/
structure AW (w : World) (b1 b2 b3 : Nat) (A1 A2 A3 D1 D2 D3 E1 E2 E3 : Option Addr) (a1 a2 a3 d1 d2 d3 e1 e2 e3 nb no : Nat) (V : Option Addr) (nv : Nat) : Prop where
  tab : Tab w
  x1 : Bx w b1 #[.slice A1 1 a1, .slice A2 1 a2, .slice A3 1 a3, .int .i64 10]
  x2 : Bx w b2 #[.slice D1 1 d1, .slice D2 1 d2, .slice D3 1 d3, .int .i64 10]
  x3 : Bx w b3 #[.slice E1 1 e1, .slice E2 1 e2, .slice E3 1 e3, .int .i64 0]
  p1 : PrgV w (.agg #[.slice A1 1 a1, .slice A2 1 a2, .slice A3 1 a3, .int .i64 10]) oneP
  p2 : PrgV w (.agg #[.slice D1 1 d1, .slice D2 1 d2, .slice D3 1 d3, .int .i64 10]) oneP
  p3 : PrgV w (.agg #[.slice E1 1 e1, .slice E2 1 e2, .slice E3 1 e3, .int .i64 0]) oneR
  nA : A3 = some ⟨nb, no, none⟩
  nlt : nb < w.heap.size
  n0 : w.cell? ⟨nb, no, none⟩ = some (.int .i64 0)
  n1 : w.cell? ⟨nb, no + 1, none⟩ = some (.int .i64 0)
  n2 : w.cell? ⟨nb, no + 2, none⟩ = some (.slice V 1 nv)
  ni : Ints anyB w (.slice V 1 nv) [5]
theorem AW.below {w w' : World} {b1 b2 b3 : Nat} {A1 A2 A3 D1 D2 D3 E1 E2 E3 : Option Addr} {a1 a2 a3 d1 d2 d3 e1 e2 e3 nb no : Nat} {V : Option Addr} {nv : Nat}
    (h : AW w b1 b2 b3 A1 A2 A3 D1 D2 D3 E1 E2 E3 a1 a2 a3 d1 d2 d3 e1 e2 e3 nb no V nv) (hb : Below w.heap.size w w') : AW w' b1 b2 b3 A1 A2 A3 D1 D2 D3 E1 E2 E3 a1 a2 a3 d1 d2 d3 e1 e2 e3 nb no V nv :=
  ⟨h.tab.below hb, h.x1.below hb, h.x2.below hb, h.x3.below hb, h.p1.below hb, h.p2.below hb, h.p3.below hb, h.nA, Nat.lt_of_lt_of_le h.nlt hb.size, (hb.cell (p := ⟨nb, _, none⟩) h.nlt).trans h.n0, (hb.cell (p := ⟨nb, _, none⟩) h.nlt).trans h.n1, (hb.cell (p := ⟨nb, _, none⟩) h.nlt).trans h.n2, h.ni.below hb⟩

theorem f1 : chk oneP = 0 := by decide +kernel
theorem f2 : chk oneR = 1 := by decide +kernel
theorem f3 : eqB oneP oneP = true := by decide +kernel
theorem f4 : eqB oneP oneR = false := by decide +kernel
theorem f5 : sizes oneP.hs = 2 := by decide +kernel
theorem f6 : eqB (PNte.mk 0 0 [5]) ⟨0, 0, [5]⟩ = true := by decide +kernel
theorem f7 : eqB (PNte.mk 0 0 [5]) ⟨0, 0, []⟩ = false := by decide +kernel
theorem f8 : chk noP = 1 := by decide +kernel

/-- A program's value, laid open. -/
theorem PrgV.open {w : World} {v : Value} {p : PPrg} (h : PrgV w v p) : ∃ A1 A2 A3 c1 c2 c3, v = .agg #[.slice A1 p.hs.length c1, .slice A2 p.acs.length c2, .slice A3 p.bs.length c3, .int .i64 p.fuel] := by
  obtain ⟨va, vb, vc, rfl, h1, h2, h3⟩ := h
  obtain ⟨A1, c1, rfl, _⟩ := h1.form
  obtain ⟨A2, c2, rfl, _⟩ := h2.form
  obtain ⟨A3, c3, rfl, _⟩ := h3.form
  exact ⟨A1, A2, A3, c1, c2, c3, rfl⟩

theorem one_note {w : World} {A1 A2 A3 : Option Addr} {a1 a2 a3 : Nat} (h : PrgV w (.agg #[.slice A1 1 a1, .slice A2 1 a2, .slice A3 1 a3, .int .i64 10]) oneP) :
    ∃ nb no V nv, A3 = some ⟨nb, no, none⟩ ∧ nb < w.heap.size ∧ w.cell? ⟨nb, no, none⟩ = some (.int .i64 0) ∧ w.cell? ⟨nb, no + 1, none⟩ = some (.int .i64 0) ∧ w.cell? ⟨nb, no + 2, none⟩ = some (.slice V 1 nv) ∧ Ints anyB w (.slice V 1 nv) [5] := by
  obtain ⟨va, vb, vc, he, h1, h2, h3⟩ := h
  simp only [Value.agg.injEq, Array.mk.injEq, List.cons.injEq] at he
  obtain ⟨_, _, rfl, _⟩ := he
  obtain ⟨b, o, x, v, rfl, hx, hz, q0, q1, q2, q3⟩ := h3.cell (bRefl w) (k := 0) (by decide)
  have hx' : (PNte.mk 0 0 [5]) = x := by simpa [oneP] using hx
  subst hx'
  obtain ⟨V, nv, rfl, _⟩ := q3.form
  exact ⟨b, o, V, nv, rfl, hz, by simpa using q0, by simpa using q1, by simpa using q2, q3⟩
theorem prg_fuel {w : World} {A1 A2 A3 : Option Addr} {a1 a2 a3 : Nat} (h : PrgV w (.agg #[.slice A1 1 a1, .slice A2 1 a2, .slice A3 1 a3, .int .i64 10]) oneP) : PrgV w (.agg #[.slice A1 1 a1, .slice A2 1 a2, .slice A3 1 a3, .int .i64 0]) oneR := by
  obtain ⟨va, vb, vc, he, h1, h2, h3⟩ := h
  simp only [Value.agg.injEq, Array.mk.injEq, List.cons.injEq] at he
  obtain ⟨rfl, rfl, rfl, _⟩ := he
  exact ⟨_, _, _, rfl, h1, h2, h3⟩
theorem no_prg {w : World} : PrgV w (.agg #[.slice none 0 0, .slice none 0 0, .slice none 0 0, .int .i64 0]) noP := ⟨_, _, _, rfl, sl0, sl0, sl0⟩

set_option maxHeartbeats 4000000 in
theorem awake_any (w : World) (ht : Tab w) : Calls Tryd.prog 10 #[] w fun e w' => e = .returned (.bool true) ∧ Below w.heap.size w w' := by
  have HT : Hid (Tab w) := ht
  clear ht
  go_enter Tryd.func10, Tryd.ntmps10
  go_wp2_with fail
  refine (one_any _).mono ?_
  rintro e w1 ⟨v, rfl, hp, hb1⟩
  obtain ⟨A1, A2, A3, a1, a2, a3, hv⟩ := hp.open
  have hv' : v = .agg #[.slice A1 1 a1, .slice A2 1 a2, .slice A3 1 a3, .int .i64 10] := hv
  subst hv'
  clear hv
  have HP : Hid (PrgV w1 (.agg #[.slice A1 1 a1, .slice A2 1 a2, .slice A3 1 a3, .int .i64 10]) oneP) := hp
  clear hp
  go_wp2_with fail
  refine (copy_any _ _ oneP (HP.out.below (by exact bAlloc (bRefl _) _)) small_one).mono ?_
  rintro e w2 ⟨v, rfl, hq, hb2⟩
  have hq := hq.prg
  obtain ⟨D1, D2, D3, d1, d2, d3, hv⟩ := hq.open
  have hv' : v = .agg #[.slice D1 1 d1, .slice D2 1 d2, .slice D3 1 d3, .int .i64 10] := hv
  subst hv'
  clear hv
  have HQ : Hid (PrgV w2 (.agg #[.slice D1 1 d1, .slice D2 1 d2, .slice D3 1 d3, .int .i64 10]) oneP) := hq
  clear hq
  have X1 := (Bx.new w1 #[.slice A1 1 a1, .slice A2 1 a2, .slice A3 1 a3, .int .i64 10] 26).below hb2
  go_wp2_with fail
  refine (one_any _).mono ?_
  rintro e w3 ⟨v, rfl, hr, hb3⟩
  obtain ⟨E1, E2, E3, e1, e2, e3, hv⟩ := hr.open
  have hv' : v = .agg #[.slice E1 1 e1, .slice E2 1 e2, .slice E3 1 e3, .int .i64 10] := hv
  subst hv'
  clear hv
  have HR : Hid (PrgV w3 (.agg #[.slice E1 1 e1, .slice E2 1 e2, .slice E3 1 e3, .int .i64 10]) oneP) := hr
  clear hr
  have B2 : Below w2.heap.size w2 w3 := bTrans (bAlloc (bRefl _) _) hb3
  have B1 : Below w1.heap.size w1 w3 := bTrans (bTrans (bAlloc (bRefl _) _) hb2) B2
  have B0 : Below w.heap.size w w3 := bTrans hb1 B1
  obtain ⟨nb, no, V, nv, rfl, hnl, hn0, hn1, hn2, hni⟩ := one_note (HP.out.below B1)
  have Y1 := X1.below B2
  have Y2 := (Bx.new w2 #[.slice D1 1 d1, .slice D2 1 d2, .slice D3 1 d3, .int .i64 10] 26).below hb3
  have BX := bAlloc (bRefl w3) (.cells #[.slice E1 1 e1, .slice E2 1 e2, .slice E3 1 e3, .int .i64 0] 26)
  have aww3 : AW (w3.alloc (.cells #[.slice E1 1 e1, .slice E2 1 e2, .slice E3 1 e3, .int .i64 0] 26)) w1.heap.size w2.heap.size w3.heap.size A1 A2 (some ⟨nb, no, none⟩) D1 D2 D3 E1 E2 E3 a1 a2 a3 d1 d2 d3 e1 e2 e3 nb no V nv :=
    ⟨HT.out.below (bTrans B0 BX), Y1.below BX, Y2.below BX, Bx.new _ _ _, HP.out.below (bTrans B1 BX), HQ.out.below (bTrans B2 BX), prg_fuel (HR.out.below BX), rfl, Nat.lt_of_lt_of_le hnl BX.size, (BX.cell (p := ⟨nb, _, none⟩) hnl).trans hn0, (BX.cell (p := ⟨nb, _, none⟩) hnl).trans hn1, (BX.cell (p := ⟨nb, _, none⟩) hnl).trans hn2, hni.below BX⟩
  have y1 := Y1.cell
  have y2 := Y2.cell
  have l1 := Y1.lt
  have l2 := Y2.lt
  have g1 := f1
  have g2 := f2
  have g3 := f3
  have g4 := f4
  have g5 := f5
  have g6 := f6
  have g7 := f7
  have g8 := f8
  go_wp2_with fail
  refine (check_any _ _ oneP aww3.tab aww3.p1).mono ?_
  rintro e w4 ⟨rfl, hw4⟩
  have aww4 := aww3.below hw4
  have c1w4 := aww4.x1.cell
  have c2w4 := aww4.x2.cell
  have c3w4 := aww4.x3.cell
  have n0w4 := aww4.n0
  have n1w4 := aww4.n1
  have n2w4 := aww4.n2
  have z1w4 := aww4.nlt
  go_wp2_with fail
  refine (check_any _ _ oneR aww4.tab aww4.p3).mono ?_
  rintro e w5 ⟨rfl, hw5⟩
  have aww5 := aww4.below hw5
  have c1w5 := aww5.x1.cell
  have c2w5 := aww5.x2.cell
  have c3w5 := aww5.x3.cell
  have n0w5 := aww5.n0
  have n1w5 := aww5.n1
  have n2w5 := aww5.n2
  have z1w5 := aww5.nlt
  go_wp2_with fail
  refine (same_any _ _ _ oneP oneP aww5.p1 aww5.p2).mono ?_
  rintro e w6 ⟨rfl, hw6⟩
  have aww6 := aww5.below hw6
  have c1w6 := aww6.x1.cell
  have c2w6 := aww6.x2.cell
  have c3w6 := aww6.x3.cell
  have n0w6 := aww6.n0
  have n1w6 := aww6.n1
  have n2w6 := aww6.n2
  have z1w6 := aww6.nlt
  go_wp2_with fail
  refine (same_any _ _ _ oneP oneR aww6.p1 aww6.p3).mono ?_
  rintro e w7 ⟨rfl, hw7⟩
  have aww7 := aww6.below hw7
  have c1w7 := aww7.x1.cell
  have c2w7 := aww7.x2.cell
  have c3w7 := aww7.x3.cell
  have n0w7 := aww7.n0
  have n1w7 := aww7.n1
  have n2w7 := aww7.n2
  have z1w7 := aww7.nlt
  go_wp2_with fail
  refine (size_any _ _ oneP aww7.p1 small_one.2.2.2.1 small_one.1).mono ?_
  rintro e w8 ⟨rfl, hw8⟩
  have aww8 := aww7.below hw8
  have c1w8 := aww8.x1.cell
  have c2w8 := aww8.x2.cell
  have c3w8 := aww8.x3.cell
  have n0w8 := aww8.n0
  have n1w8 := aww8.n1
  have n2w8 := aww8.n2
  have z1w8 := aww8.nlt
  go_wp2_with fail
  refine (sameNote _ _ _ ⟨0, 0, [5]⟩ ⟨0, 0, [5]⟩ ⟨_, rfl, aww8.ni.below (by exact bAlloc (bRefl _) _)⟩ ⟨_, rfl, sl1 trivial (by simp) (by simp [rInt, go_sem])⟩).mono ?_
  rintro e w9 ⟨rfl, hw9⟩
  have aww9 := aww8.below (bTrans (bAlloc (bRefl _) _) hw9)
  have c1w9 := aww9.x1.cell
  have c2w9 := aww9.x2.cell
  have c3w9 := aww9.x3.cell
  have n0w9 := aww9.n0
  have n1w9 := aww9.n1
  have n2w9 := aww9.n2
  have z1w9 := aww9.nlt
  go_wp2_with fail
  refine (sameNote _ _ _ ⟨0, 0, [5]⟩ ⟨0, 0, []⟩ ⟨_, rfl, aww9.ni⟩ ⟨_, rfl, sl0⟩).mono ?_
  rintro e w10 ⟨rfl, hw10⟩
  have aww10 := aww9.below hw10
  have c1w10 := aww10.x1.cell
  have c2w10 := aww10.x2.cell
  have c3w10 := aww10.x3.cell
  have n0w10 := aww10.n0
  have n1w10 := aww10.n1
  have n2w10 := aww10.n2
  have z1w10 := aww10.nlt
  go_wp2_with fail
  refine (check_any _ _ noP aww10.tab no_prg).mono ?_
  rintro e w11 ⟨rfl, hw11⟩
  go_wp2_with fail
  go_ret
  exact ⟨rfl, bTrans (bTrans (bTrans (bTrans (bTrans (bTrans (bTrans (bTrans (bTrans B0 BX) hw4) hw5) hw6) hw7) hw8) (bTrans (bAlloc (bRefl _) _) hw9)) hw10) hw11⟩
end Go.Proofs.YtlpeiiejkpkpjaaDoor
