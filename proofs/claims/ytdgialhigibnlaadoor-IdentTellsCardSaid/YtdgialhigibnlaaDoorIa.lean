/-
  What the document fixes. Condition: what it reads is there.
-/
import Derived.Test.YtdgialhigibnlaaDoorI9
namespace Go.Proofs.YtdgialhigibnlaaDoor
open Go.RowKit
attribute [local go_sem ↓] Go.wp_at_zero Go.wp_at_succ eq6 eq10
def tA : List UInt8 := [45, 49, 46, 50, 46, 48]
def tB : List UInt8 := [45, 49, 46, 50]
def tC : List UInt8 := [100, 101, 108, 105, 118, 101, 114, 32, 45, 49, 46, 50, 46, 48]
def tD : List UInt8 := [100, 101, 108, 105, 118, 101, 114, 32, 49]
def aI : PID := ⟨-1, 2, 0⟩
def aE : PEv := ⟨1, aI, 0⟩
theorem rgI : RgD aI := ⟨⟨by decide, by decide⟩, ⟨by decide, by decide⟩, ⟨by decide, by decide⟩⟩
theorem rgE1 : RgE aE := ⟨⟨by decide, by decide⟩, rgI, rg0⟩
theorem tA_is : tid aI = tA := by decide +kernel
theorem pA : prsD tA = some aI := by rw [← tA_is]; exact prsD_tid rgI
theorem pB : prsD tB = none := by decide +kernel
theorem tC_is : nameE aE = tC := by decide +kernel
theorem pC : prsE tC = some aE := by rw [← tC_is]; exact prsE_name rgE1 (by rw [tC_is]; decide)
theorem pD : prsE tD = none := by decide +kernel
theorem nE : nameE ⟨5, id0, 3⟩ = [99, 114, 97, 115, 104, 32, 51] := by decide +kernel
theorem parse1 (w : World) (he : Env w) : Calls Tryd.prog 9 #[.string ⟨#[45, 49, 46, 50, 46, 48]⟩] w fun e w' => e = .returned (.tuple #[.agg #[.int .i64 (-1), .int .i64 2, .int .i64 0], .int .i64 0]) ∧ Below w.heap.size w w' := by
  have := parse_any tA w (by decide) he
  rw [(pd_some pA).1, (pd_some pA).2] at this
  exact this
theorem parse2 (w : World) (he : Env w) : Calls Tryd.prog 9 #[.string ⟨#[45, 49, 46, 50]⟩] w fun e w' => e = .returned (.tuple #[.agg #[.int .i64 0, .int .i64 0, .int .i64 0], .int .i64 2]) ∧ Below w.heap.size w w' := by
  have := parse_any tB w (by decide) he
  rw [(pd_none pB).1, (pd_none pB).2] at this
  exact this
theorem event1 (w : World) (he : Env w) : Calls Tryd.prog 11 #[.string ⟨#[100, 101, 108, 105, 118, 101, 114, 32, 45, 49, 46, 50, 46, 48]⟩] w fun e w' => e = .returned (.tuple #[.agg #[.int .i64 1, .int .i64 (-1), .int .i64 2, .int .i64 0, .int .i64 0], .int .i64 0]) ∧ Below w.heap.size w w' := by
  have := event_any tC w (by decide) he
  rw [(ev_some pC).1, (ev_some pC).2] at this
  exact this
theorem event2 (w : World) (he : Env w) : Calls Tryd.prog 11 #[.string ⟨#[100, 101, 108, 105, 118, 101, 114, 32, 49]⟩] w fun e w' => e = .returned (.tuple #[.agg #[.int .i64 0, .int .i64 0, .int .i64 0, .int .i64 0, .int .i64 0], .int .i64 2]) ∧ Below w.heap.size w w' := by
  have := event_any tD w (by decide) he
  rw [(ev_none pD).1, (ev_none pD).2] at this
  exact this
theorem text1 (w : World) (he : Env w) : Calls Tryd.prog 15 #[.agg #[.int .i64 (-1), .int .i64 2, .int .i64 0]] w fun e w' => e = .returned (.string ⟨#[45, 49, 46, 50, 46, 48]⟩) ∧ Below w.heap.size w w' := by
  have := text_any aI w rgI he
  rw [tA_is] at this
  exact this
theorem name1 (w : World) (he : Env w) : Calls Tryd.prog 19 #[.agg #[.int .i64 5, .int .i64 0, .int .i64 0, .int .i64 0, .int .i64 3]] w fun e w' => e = .returned (.string ⟨#[99, 114, 97, 115, 104, 32, 51]⟩) ∧ Below w.heap.size w w' := by
  have := name_any ⟨5, id0, 3⟩ w ⟨⟨by decide, by decide⟩, rgd0, ⟨by decide, by decide⟩⟩ he
  rw [nE] at this
  exact this
theorem less1 (w : World) : Calls Tryd.prog 13 #[.agg #[.int .i64 (-1), .int .i64 2, .int .i64 0], .agg #[.int .i64 0, .int .i64 0, .int .i64 0]] w fun e w' => e = .returned (.bool true) ∧ Below w.heap.size w w' := less_any aI id0 w
theorem less2 (w : World) : Calls Tryd.prog 13 #[.agg #[.int .i64 (-1), .int .i64 2, .int .i64 0], .agg #[.int .i64 (-1), .int .i64 2, .int .i64 0]] w fun e w' => e = .returned (.bool false) ∧ Below w.heap.size w w' := less_any aI aI w
theorem bef1 (w : World) : Calls Tryd.prog 17 #[.agg #[.int .i64 1, .int .i64 0, .int .i64 0, .int .i64 0, .int .i64 0], .agg #[.int .i64 2, .int .i64 0, .int .i64 0, .int .i64 0, .int .i64 0]] w fun e w' => e = .returned (.bool true) ∧ Below w.heap.size w w' := before_any ⟨1, id0, 0⟩ ⟨2, id0, 0⟩ w
theorem flt1 (w : World) : Calls Tryd.prog 21 #[.agg #[.int .i64 5, .int .i64 0, .int .i64 0, .int .i64 0, .int .i64 0]] w fun e w' => e = .returned (.bool true) ∧ Below w.heap.size w w' := fault_any ⟨5, id0, 0⟩ w
theorem flt2 (w : World) : Calls Tryd.prog 21 #[.agg #[.int .i64 1, .int .i64 0, .int .i64 0, .int .i64 0, .int .i64 0]] w fun e w' => e = .returned (.bool false) ∧ Below w.heap.size w w' := fault_any ⟨1, id0, 0⟩ w
/-- The boxes that are read at the end. -/
structure AW (w : World) (i p v : Nat) (W : World) : Prop where
  low : Below w.heap.size w W
  hi : W.heap[i]? = some (.cells #[.int .i64 (-1), .int .i64 2, .int .i64 0] 23)
  hp : W.heap[p]? = some (.cells #[.int .i64 (-1), .int .i64 2, .int .i64 0] 23)
  hv : W.heap[v]? = some (.cells #[.int .i64 1, .int .i64 (-1), .int .i64 2, .int .i64 0, .int .i64 0] 25)
theorem AW.below {w W W' : World} {i p v : Nat} (h : AW w i p v W) (hb : Below W.heap.size W W') : AW w i p v W' :=
  ⟨bTrans h.low hb, (hb.block _ (Array.getElem?_eq_some_iff.1 h.hi).1).trans h.hi, (hb.block _ (Array.getElem?_eq_some_iff.1 h.hp).1).trans h.hp, (hb.block _ (Array.getElem?_eq_some_iff.1 h.hv).1).trans h.hv⟩
theorem blk_old {w : World} {b : Nat} {o x : Obj} (h : w.heap[b]? = some x) : (w.alloc o).heap[b]? = some x := ((bAlloc (bRefl w) o).block _ (Array.getElem?_eq_some_iff.1 h).1).trans h
set_option maxHeartbeats 4000000 in
set_option maxRecDepth 100000 in
theorem awake_any (w : World) (he : Env w) :
    Calls Tryd.prog 8 #[] w fun e w' => e = .returned (.bool true) ∧ Below w.heap.size w w' := by
  have HE : Hid (Env w) := he
  have hgD := gD
  have hgE := gE
  have s1 : sameD ⟨-1, 2, 0⟩ ⟨-1, 2, 0⟩ = true := by decide
  have s2 : sameE ⟨1, ⟨-1, 2, 0⟩, 0⟩ ⟨1, ⟨-1, 2, 0⟩, 0⟩ = true := by decide
  clear he
  go_enter Tryd.func8, Tryd.ntmps8
  go_wp2_with fail
  refine (parse1 (w.alloc (.cells #[.int .i64 (-1), .int .i64 2, .int .i64 0] 23)) (HE.out.below (bAlloc (bRefl w) _))).mono ?_
  rintro e w1 ⟨rfl, hb1⟩
  have L1 : Hid (Below w.heap.size w (w1.alloc (.cells #[.int .i64 (-1), .int .i64 2, .int .i64 0] 23))) := bAlloc (bTrans (bAlloc (bRefl w) _) hb1) _
  have hi1 : w1.heap[w.heap.size]? = some (.cells #[.int .i64 (-1), .int .i64 2, .int .i64 0] 23) := (hb1.block _ (by simp)).trans (heap_new _ _)
  have HI1 : Hid ((w1.alloc (.cells #[.int .i64 (-1), .int .i64 2, .int .i64 0] 23)).heap[w.heap.size]? = some (.cells #[.int .i64 (-1), .int .i64 2, .int .i64 0] 23)) := blk_old hi1
  have HP1 : Hid ((w1.alloc (.cells #[.int .i64 (-1), .int .i64 2, .int .i64 0] 23)).heap[w1.heap.size]? = some (.cells #[.int .i64 (-1), .int .i64 2, .int .i64 0] 23)) := heap_new _ _
  clear hb1 hi1
  go_wp2_with fail
  refine (parse2 (w1.alloc (.cells #[.int .i64 (-1), .int .i64 2, .int .i64 0] 23)) (HE.out.below L1.out)).mono ?_
  rintro e w2 ⟨rfl, hb2⟩
  have L2 : Hid (Below w.heap.size w (w2.alloc (.cells #[.int .i64 0, .int .i64 0, .int .i64 0] 23))) := bAlloc (bTrans L1.out hb2) _
  have HI2 : Hid ((w2.alloc (.cells #[.int .i64 0, .int .i64 0, .int .i64 0] 23)).heap[w.heap.size]? = some (.cells #[.int .i64 (-1), .int .i64 2, .int .i64 0] 23)) := blk_old ((hb2.block _ (Array.getElem?_eq_some_iff.1 HI1.out).1).trans HI1.out)
  have HP2 : Hid ((w2.alloc (.cells #[.int .i64 0, .int .i64 0, .int .i64 0] 23)).heap[w1.heap.size]? = some (.cells #[.int .i64 (-1), .int .i64 2, .int .i64 0] 23)) := blk_old ((hb2.block _ (Array.getElem?_eq_some_iff.1 HP1.out).1).trans HP1.out)
  clear hb2 L1 HI1 HP1
  go_wp2_with fail
  refine (event1 (w2.alloc (.cells #[.int .i64 0, .int .i64 0, .int .i64 0] 23)) (HE.out.below L2.out)).mono ?_
  rintro e w3 ⟨rfl, hb3⟩
  have L3 : Hid (Below w.heap.size w (w3.alloc (.cells #[.int .i64 1, .int .i64 (-1), .int .i64 2, .int .i64 0, .int .i64 0] 25))) := bAlloc (bTrans L2.out hb3) _
  have HI3 : Hid ((w3.alloc (.cells #[.int .i64 1, .int .i64 (-1), .int .i64 2, .int .i64 0, .int .i64 0] 25)).heap[w.heap.size]? = some (.cells #[.int .i64 (-1), .int .i64 2, .int .i64 0] 23)) := blk_old ((hb3.block _ (Array.getElem?_eq_some_iff.1 HI2.out).1).trans HI2.out)
  have HP3 : Hid ((w3.alloc (.cells #[.int .i64 1, .int .i64 (-1), .int .i64 2, .int .i64 0, .int .i64 0] 25)).heap[w1.heap.size]? = some (.cells #[.int .i64 (-1), .int .i64 2, .int .i64 0] 23)) := blk_old ((hb3.block _ (Array.getElem?_eq_some_iff.1 HP2.out).1).trans HP2.out)
  have HV3 : Hid ((w3.alloc (.cells #[.int .i64 1, .int .i64 (-1), .int .i64 2, .int .i64 0, .int .i64 0] 25)).heap[w3.heap.size]? = some (.cells #[.int .i64 1, .int .i64 (-1), .int .i64 2, .int .i64 0, .int .i64 0] 25)) := heap_new _ _
  clear hb3 L2 HI2 HP2
  go_wp2_with fail
  refine (event2 (w3.alloc (.cells #[.int .i64 1, .int .i64 (-1), .int .i64 2, .int .i64 0, .int .i64 0] 25)) (HE.out.below L3.out)).mono ?_
  rintro e w4 ⟨rfl, hb4⟩
  have A0 : AW w w.heap.size w1.heap.size w3.heap.size (w3.alloc (.cells #[.int .i64 1, .int .i64 (-1), .int .i64 2, .int .i64 0, .int .i64 0] 25)) := ⟨L3.out, HI3.out, HP3.out, HV3.out⟩
  have A4 : AW w w.heap.size w1.heap.size w3.heap.size (w4.alloc (.cells #[.int .i64 0, .int .i64 0, .int .i64 0, .int .i64 0, .int .i64 0] 25)) := (A0.below hb4).below (bAlloc (bRefl _) _)
  clear hb4 L3 HI3 HP3 HV3 A0
  obtain ⟨i0, i1, i2⟩ := blk3 A4.hi
  have HA4 : Hid (AW w w.heap.size w1.heap.size w3.heap.size (w4.alloc (.cells #[.int .i64 0, .int .i64 0, .int .i64 0, .int .i64 0, .int .i64 0] 25))) := A4
  clear A4
  go_wp2_with fail
  refine (text1 (w4.alloc (.cells #[.int .i64 0, .int .i64 0, .int .i64 0, .int .i64 0, .int .i64 0] 25)) (HE.out.below HA4.out.low)).mono ?_
  rintro e w5 ⟨rfl, hb5⟩
  have HA5 : Hid (AW w w.heap.size w1.heap.size w3.heap.size w5) := HA4.out.below hb5
  clear hb5 HA4 i0 i1 i2
  obtain ⟨i0, i1, i2⟩ := blk3 HA5.out.hi
  obtain ⟨p0, p1, p2⟩ := blk3 HA5.out.hp
  obtain ⟨v0, v1, v2, v3, v4⟩ := blk5 HA5.out.hv
  go_wp2_with fail
  refine (name1 w5 (HE.out.below HA5.out.low)).mono ?_
  rintro e w6 ⟨rfl, hb6⟩
  have HA6 : Hid (AW w w.heap.size w1.heap.size w3.heap.size w6) := HA5.out.below hb6
  clear hb6 HA5 i0 i1 i2 p0 p1 p2 v0 v1 v2 v3 v4
  obtain ⟨i0, i1, i2⟩ := blk3 HA6.out.hi
  go_wp2_with fail
  refine (less1 w6).mono ?_
  rintro e w7 ⟨rfl, hb7⟩
  have HA7 : Hid (AW w w.heap.size w1.heap.size w3.heap.size w7) := HA6.out.below hb7
  clear hb7 HA6 i0 i1 i2
  obtain ⟨i0, i1, i2⟩ := blk3 HA7.out.hi
  go_wp2_with fail
  refine (less2 w7).mono ?_
  rintro e w8 ⟨rfl, hb8⟩
  have HA8 : Hid (AW w w.heap.size w1.heap.size w3.heap.size w8) := HA7.out.below hb8
  clear hb8 HA7 i0 i1 i2
  go_wp2_with fail
  refine (bef1 w8).mono ?_
  rintro e w9 ⟨rfl, hb9⟩
  go_wp2_with fail
  refine (flt1 w9).mono ?_
  rintro e w10 ⟨rfl, hb10⟩
  go_wp2_with fail
  refine (flt2 w10).mono ?_
  rintro e w11 ⟨rfl, hb11⟩
  go_wp2_with fail
  go_ret
  exact ⟨rfl, bTrans (bTrans (bTrans HA8.out.low hb9) hb10) hb11⟩
end Go.Proofs.YtdgialhigibnlaaDoor
