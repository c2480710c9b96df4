/-
  What FlowTells answers of any program and number: true; and nothing old has turned. Condition: the table of the instructions is in the world.
-/
import Derived.Test.YtfkaalgcgbmlpaaDoorRTl
import Derived.Test.YtfkaalgcgbmlpaaDoorSmall
import Derived.Test.YtfkaalgcgbmlpaaDoorAw
namespace Go.Proofs.YtfkaalgcgbmlpaaDoor
open Go.RowKit
attribute [local go_sem ↓] Go.wp_at_zero Go.wp_at_succ

/-- What the law knows of the program while it goes. -/
structure TG (w0 w : World) (b : Nat) (P : Array Value) (p : PPrg) : Prop where
  low : Below w0.heap.size w0 w
  tab : Tab w
  bx : Bx w b P
  pp : PrgV w (.agg P) p
theorem TG.below {w0 w w' : World} {b : Nat} {P : Array Value} {p : PPrg} (h : TG w0 w b P p) (hb : Below w.heap.size w w') : TG w0 w' b P p :=
  ⟨bTrans h.low hb, h.tab.below hb, h.bx.below hb, h.pp.below hb⟩
theorem TG.drew {w0 w : World} {b : Nat} {P : Array Value} {p : PPrg} (h : TG w0 w b P p) : TG w0 w.drew b P p := h.below (bRefl w).drew

theorem fe_chk {p : PPrg} {h : Int} (e : chk p ≠ 0) : fe p h = chk p ∧ fl p h = [] ∧ fm p h = -1 := by
  have h1 : fe p h = chk p := by unfold fe; rw [if_neg e]
  exact ⟨h1, by unfold fl; rw [if_neg e], by unfold fm; rw [if_neg (by rw [h1]; exact e)]⟩

set_option maxHeartbeats 8000000 in
set_option maxRecDepth 100000 in
theorem tells_all (w : World) (ht : Tab w) (v : Value) (p : PPrg) (h : Int) (h1 : PrgV w v p) :
    Calls Tryd.prog 3 #[v, .int .i64 h] w fun e w' => e = .returned (.bool true) ∧ Below w.heap.size w w' := by
  obtain ⟨A1, A2, A3, c1, c2, c3, rfl⟩ := h1.open
  have tg : TG w (w.alloc (.cells #[.slice A1 p.hs.length c1, .slice A2 p.acs.length c2, .slice A3 p.bs.length c3, .int .i64 p.fuel] 26)) w.heap.size #[.slice A1 p.hs.length c1, .slice A2 p.acs.length c2, .slice A3 p.bs.length c3, .int .i64 p.fuel] p :=
    ⟨bAlloc (bRefl w) _, ht.below (bAlloc (bRefl w) _), Bx.new w _ 26, h1.below (bAlloc (bRefl w) _)⟩
  clear ht h1
  cases s1 : small p with
  | false =>
    go_enter Tryd.func3, Tryd.ntmps3
    go_wp2_with fail
    refine (small_any _ _ p tg.pp).mono ?_
    rintro e w1 ⟨rfl, hb1⟩
    have t1 := tg.below hb1
    go_wp2_with fail
    refine (awake_any _ t1.tab).mono ?_
    rintro e w2 ⟨rfl, hb2⟩
    go_wp2_with fail
    go_ret
    exact ⟨rfl, bTrans t1.low hb2⟩
  | true =>
    go_enter Tryd.func3, Tryd.ntmps3
    go_wp2_with fail
    refine (small_any _ _ p tg.pp).mono ?_
    rintro e w1 ⟨rfl, hb1⟩
    have t1 := tg.below hb1
    clear tg hb1
    have k1 := t1.bx.cell
    go_wp2_with fail
    refine (depths_any _ _ p h t1.tab t1.pp).mono ?_
    rintro e w2 ⟨u, rfl, hu, hb2⟩
    obtain ⟨Au, cu, rfl, hul⟩ := hu.form
    have t2 := t1.below hb2
    clear t1 hb2 k1
    have k2 := t2.bx.cell
    have HU2 : Hid (Ints anyB w2 (.slice Au (fl p h).length cu) (fl p h)) := hu.any
    clear hu
    go_wp2_with fail
    refine (most_any _ _ p h t2.tab t2.pp).mono ?_
    rintro e w3 ⟨rfl, hb3⟩
    have t3 := t2.below hb3
    have HU3 : Hid (Ints anyB w3 (.slice Au (fl p h).length cu) (fl p h)) := HU2.out.below hb3
    clear t2 hb3 k2 HU2
    have k3 := t3.bx.cell
    go_wp2_with fail
    refine (rcheck_any _ _ p t3.pp).mono ?_
    rintro e w4 ⟨rfl, hb4⟩
    have tf := t3.below hb4
    have HU4 : Hid (Ints anyB w4 (.slice Au (fl p h).length cu) (fl p h)) := HU3.out.below hb4
    clear t3 hb4 k3 HU3
    have c1' := tf.bx.cell
    have td := tf.drew
    have hbb : Below w4.heap.size w4 w4 := bRefl w4
    go_wp2_with fail
    go_region_held3 (fun w' => w'.cell? ⟨w.heap.size, 0, none⟩ = some (.slice A1 p.hs.length c1) ∧ w'.cell? ⟨w.heap.size, 1, none⟩ = some (.slice A2 p.acs.length c2) ∧ w'.cell? ⟨w.heap.size, 2, none⟩ = some (.slice A3 p.bs.length c3) ∧ w'.cell? ⟨w.heap.size, 3, none⟩ = some (.int .i64 p.fuel)) (go_keep)
      (first
        | (go_at_call 14; refine (fcheck_any _ _ p (by first | exact td.tab | exact tf.tab) (by first | exact td.pp | exact tf.pp)).mono ?_; rintro e w' ⟨rfl, hb⟩; replace tf := (by first | exact td.below hb | exact tf.below hb); replace hbb := (by first | exact bTrans hbb (undrew hb) | exact bTrans hbb hb); have c1' := tf.bx.cell)
        | (go_at_call 15; refine (rflow_any _ _ p (by first | exact td.pp | exact tf.pp)).mono ?_; rintro e w' ⟨rfl, hb⟩; replace tf := (by first | exact td.below hb | exact tf.below hb); replace hbb := (by first | exact bTrans hbb (undrew hb) | exact bTrans hbb hb); have c1' := tf.bx.cell))
    all_goals
      clear td
      by_cases e0 : chk p = 0
      · have e0' := ne0_no e0
        have HC : Hid (chk p = 0) := e0
        have ge := eqB_self (fl p h)
        clear e0
        go_wp2_with fail
        refine (rdepths_any _ _ p h tf.pp HC.out).mono ?_
        rintro e w7 ⟨u7, rfl, hu7, hb7⟩
        obtain ⟨Av, cv, rfl, hvl⟩ := hu7.form
        have t7 := tf.below hb7
        have HU7 : Hid (Ints anyB w7 (.slice Au (fl p h).length cu) (fl p h)) := HU4.out.below (bTrans hbb hb7)
        clear tf hb7 hbb c1'
        go_wp2_with fail
        refine (alikeI anyB anyB _ _ _ _ _ HU7.out hu7).mono ?_
        rintro e w8 ⟨rfl, hq⟩
        have t8 := t7.below (quiet_below hq)
        clear t7 hq
        go_wp2_with fail
        refine (awake_any _ t8.tab).mono ?_
        rintro e w9 ⟨rfl, hb9⟩
        go_wp2_with fail
        go_ret
        exact ⟨rfl, bTrans t8.low hb9⟩
      · have e0' := ne0_yes e0
        obtain ⟨g1, g2, g3⟩ := fe_chk (h := h) e0
        have g4 : (fl p h).length = 0 := by rw [g2]; rfl
        clear e0 g2
        go_wp2_with fail
        refine (awake_any _ tf.tab).mono ?_
        rintro e w9 ⟨rfl, hb9⟩
        go_wp2_with fail
        go_ret
        exact ⟨rfl, bTrans tf.low hb9⟩
end Go.Proofs.YtfkaalgcgbmlpaaDoor
