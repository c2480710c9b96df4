/-
  What the document fixes. Condition: the table of the instructions is in the world. From the row's condition (the listed variables read as they are laid) to the variables' cells. No conditions. world.Copy: another one, in new memory. Condition: the world is not too great. What the reference's Run leans on. No conditions. What the reference's Ints, SameNote and SameNotes answer: whether they are one. No conditions.
-/
import Derived.Test.YtfbeiedhdmndnaaDoorQk7
import Derived.Test.YtfbeiedhdmndnaaDoorQk1
import Derived.ProofKit
import Derived.LaidMore
import Derived.OpenShut
import Derived.HandedShaped
import Derived.Handed
import Derived.Shelf.Vars
import Derived.Lib.SmallJoins
import Derived.Lib.LaidTab
import Derived.Stop.Joined
import Derived.Stop.LaidErr
import Derived.Test.YtfbeiedhdmndnaaDoorQk5
namespace Go.Proofs.YtfbeiedhdmndnaaDoor
open Go.RowKit
attribute [local go_sem ↓] Go.wp_at_zero Go.wp_at_succ
/-- A program in a box of the law's own. -/
structure PB (w : World) (b : Nat) (v1 v2 : Option Addr) (c1 c2 : Nat) (fuel : Int) (code : List PIns) (wc : World) : Prop where
  low : Below w.heap.size w wc
  base : w.heap.size ≤ b
  box : wc.heap[b]? = some (.cells #[.slice v1 1 c1, .slice v2 2 c2, .slice none 0 0, .int .i64 fuel] 26)
  pv : PrgV wc (.agg #[.slice v1 1 c1, .slice v2 2 c2, .slice none 0 0, .int .i64 fuel]) (onePV fuel code)
  tab : Tab wc
theorem PB.below {w wc w' : World} {b c1 c2 : Nat} {v1 v2 : Option Addr} {fuel : Int} {code : List PIns} (h : PB w b v1 v2 c1 c2 fuel code wc) (hb : Below wc.heap.size wc w') : PB w b v1 v2 c1 c2 fuel code w' :=
  ⟨bTrans h.low hb, h.base, (hb.block _ (Array.getElem?_eq_some_iff.1 h.box).1).trans h.box, h.pv.below hb, h.tab.below hb⟩
theorem PB.lt {w wc : World} {b c1 c2 : Nat} {v1 v2 : Option Addr} {fuel : Int} {code : List PIns} (h : PB w b v1 v2 c1 c2 fuel code wc) : b < wc.heap.size := (Array.getElem?_eq_some_iff.1 h.box).1
theorem RB.lt {W wc : World} {b c cn : Nat} {r : PRes} {A An : Option Addr} (h : RB W b r A c An cn wc) : b < wc.heap.size := (Array.getElem?_eq_some_iff.1 h.box).1
theorem code_lit2 (w : World) (l : List PIns) {B : Nat} (hB : w.heap.size = B) (hl : l.length ≤ 1000) : Code anyB (w.alloc (.cells (cv l).toArray 68)) (.slice (some ⟨B, 0, none⟩) l.length l.length) l := hB ▸ code_lit w l hl
theorem s15 {w6 w' : World} {b2 b3 b4 b5 bp : Nat} {t0 t1 t2 t3 t4 t5 t6 t7 t8 t9 t10 t11 t12 t13 t14 : Value} (z2 : b2 < w6.heap.size) (z3 : b3 < w6.heap.size) (z4 : b4 < w6.heap.size) (z5 : b5 < w6.heap.size) (zp : bp < w6.heap.size) (h : w6.cell? ⟨b2, 0, none⟩ = some (t0) ∧ w6.cell? ⟨b2, 1, none⟩ = some (t1) ∧ w6.cell? ⟨b2, 3, none⟩ = some (t2) ∧ w6.cell? ⟨b2, 5, none⟩ = some (t3) ∧ w6.cell? ⟨b2, 6, none⟩ = some (t4) ∧ w6.cell? ⟨b3, 2, none⟩ = some (t5) ∧ w6.cell? ⟨b3, 6, none⟩ = some (t6) ∧ w6.cell? ⟨b4, 2, none⟩ = some (t7) ∧ w6.cell? ⟨b4, 6, none⟩ = some (t8) ∧ w6.cell? ⟨b5, 2, none⟩ = some (t9) ∧ w6.cell? ⟨b5, 5, none⟩ = some (t10) ∧ w6.cell? ⟨bp, 0, none⟩ = some (t11) ∧ w6.cell? ⟨bp, 1, none⟩ = some (t12) ∧ w6.cell? ⟨bp, 2, none⟩ = some (t13) ∧ w6.cell? ⟨bp, 3, none⟩ = some (t14)) (hb : Below w6.heap.size w6 w') :
    w'.cell? ⟨b2, 0, none⟩ = some (t0) ∧ w'.cell? ⟨b2, 1, none⟩ = some (t1) ∧ w'.cell? ⟨b2, 3, none⟩ = some (t2) ∧ w'.cell? ⟨b2, 5, none⟩ = some (t3) ∧ w'.cell? ⟨b2, 6, none⟩ = some (t4) ∧ w'.cell? ⟨b3, 2, none⟩ = some (t5) ∧ w'.cell? ⟨b3, 6, none⟩ = some (t6) ∧ w'.cell? ⟨b4, 2, none⟩ = some (t7) ∧ w'.cell? ⟨b4, 6, none⟩ = some (t8) ∧ w'.cell? ⟨b5, 2, none⟩ = some (t9) ∧ w'.cell? ⟨b5, 5, none⟩ = some (t10) ∧ w'.cell? ⟨bp, 0, none⟩ = some (t11) ∧ w'.cell? ⟨bp, 1, none⟩ = some (t12) ∧ w'.cell? ⟨bp, 2, none⟩ = some (t13) ∧ w'.cell? ⟨bp, 3, none⟩ = some (t14) := by
  obtain ⟨h0, h1, h2, h3, h4, h5, h6, h7, h8, h9, h10, h11, h12, h13, h14⟩ := h
  exact ⟨(hb.cell (p := ⟨b2, 0, none⟩) z2).trans h0, (hb.cell (p := ⟨b2, 1, none⟩) z2).trans h1, (hb.cell (p := ⟨b2, 3, none⟩) z2).trans h2, (hb.cell (p := ⟨b2, 5, none⟩) z2).trans h3, (hb.cell (p := ⟨b2, 6, none⟩) z2).trans h4, (hb.cell (p := ⟨b3, 2, none⟩) z3).trans h5, (hb.cell (p := ⟨b3, 6, none⟩) z3).trans h6, (hb.cell (p := ⟨b4, 2, none⟩) z4).trans h7, (hb.cell (p := ⟨b4, 6, none⟩) z4).trans h8, (hb.cell (p := ⟨b5, 2, none⟩) z5).trans h9, (hb.cell (p := ⟨b5, 5, none⟩) z5).trans h10, (hb.cell (p := ⟨bp, 0, none⟩) zp).trans h11, (hb.cell (p := ⟨bp, 1, none⟩) zp).trans h12, (hb.cell (p := ⟨bp, 2, none⟩) zp).trans h13, (hb.cell (p := ⟨bp, 3, none⟩) zp).trans h14⟩
/-- Run, with what comes of it known. -/
theorem run_is (ok : Nat → Prop) (w : World) (v vl : Value) (p : PPrg) (who : Int) (l : PLoc) (r : PRes) (e : runP p who l 0 [] = r) (ht : Tab w) (hp : PrgV w v p) (hl : LocV ok w vl l) :
    Calls Tryd.prog 11 #[v, .int .i64 who, vl, .int .i64 0, .slice none 0 0] w fun e w' => ∃ A c An cn, e = .returned (.agg #[.slice A r.loc.regs.length c, .bool r.loc.armed, .int .i64 r.loc.down, .int .i64 r.loc.sent, .int .i64 r.loc.over, .slice An r.notes.length cn, .int .i64 r.steps]) ∧ Ints (fun b => w.heap.size ≤ b) w' (.slice A r.loc.regs.length c) r.loc.regs ∧ Ntes (fun b => w.heap.size ≤ b) (fun b => w.heap.size ≤ b) w' (.slice An r.notes.length cn) r.notes ∧ Below w.heap.size w w' := by
  subst e
  refine (run_any ok anyB w v vl _ p who l 0 [] ht hp hl sl0).mono ?_
  rintro e w' ⟨u, rfl, hr, hb⟩
  obtain ⟨A, c, An, cn, rfl, h1, h2⟩ := hr.form
  exact ⟨A, c, An, cn, rfl, h1, h2, hb⟩
theorem may_v (ok : Nat → Prop) (w : World) (v vl : Value) (p : PPrg) (who : Int) (l : PLoc) (b : Bool) (e : mayBV p who l 0 [] = b) (ht : Tab w) (hp : PrgV w v p) (hl : LocV ok w vl l) :
    Calls Tryd.prog 8 #[v, .int .i64 who, vl, .int .i64 0, .slice none 0 0] w fun e w' => e = .returned (.bool b) ∧ Below w.heap.size w w' := may_is ok anyB w v vl _ p who l 0 [] ht hp hl sl0 b e

set_option maxHeartbeats 8000000 in
set_option maxRecDepth 100000 in
theorem awake_anyV (w : World) (ht : Tab w) :
    Calls Tryd.prog 7 #[] w fun e w' => e = .returned (.bool true) ∧ Below w.heap.size w w' := by
  have HT : Hid (Tab w) := ht
  clear ht
  go_enter Tryd.func7, Tryd.ntmps7
  go_wp2_with fail
  refine (mk1_any anyB _ 10 _ k1 (by exact code_lit w k1 (by decide))).mono ?_
  rintro e w1 ⟨v1, c1, v2, c2, rfl, hp1, hb1⟩
  have hl1 : Below w.heap.size w w1 := bTrans (bAlloc (bRefl w) _) hb1
  have hP : PB w w1.heap.size v1 v2 c1 c2 10 k1 (w1.alloc (.cells #[.slice v1 1 c1, .slice v2 2 c2, .slice none 0 0, .int .i64 10] 26)) := ⟨bAlloc hl1 _, hl1.size, heap_new _ _, hp1.below (bAlloc (bRefl _) _), HT.out.below (bAlloc hl1 _)⟩
  obtain ⟨bp, hbp⟩ : ∃ bp, bp = w1.heap.size := ⟨_, rfl⟩
  go_wp2_with fail
  rw [← hbp] at hP ⊢
  obtain ⟨W, hW⟩ : ∃ W, W = w1.alloc (.cells #[.slice v1 1 c1, .slice v2 2 c2, .slice none 0 0, .int .i64 10] 26) := ⟨_, rfl⟩
  rw [← hW] at hP ⊢
  have HP : Hid (PB w bp v1 v2 c1 c2 10 k1 W) := hP
  obtain ⟨p0, p1, p2, p3, _⟩ := blk4V hP.box
  have hpl := hP.lt
  clear hP hp1 hb1 hl1 hW hbp
  go_cut [2] (fun i2 wc => ∃ b A c An cn, i2 = .pointer (some ⟨b, 0, none⟩) ∧ Hid (RB W b r1 A c An cn wc))
  case first =>
    have hn : ¬ W.heap.size = bp := by omega
    have hn' : ¬ bp = W.heap.size := by omega
    go_region_held3 (fun w' => w'.cell? ⟨bp, 0, none⟩ = some (.slice v1 1 c1) ∧ w'.cell? ⟨bp, 1, none⟩ = some (.slice v2 2 c2) ∧ w'.cell? ⟨bp, 2, none⟩ = some (.slice none 0 0) ∧ w'.cell? ⟨bp, 3, none⟩ = some (.int .i64 10)) (go_keep)
      (first
        | (go_at_call 22; refine (local_any W.drew (7) (0)).mono ?_; rintro e w2 ⟨Al, rfl, hl2, hb2⟩; have hbl : Below W.heap.size W w2 := undrew hb2; have hs2 := hbl.size; have hm : ¬ w2.heap.size = bp := (by omega); have hm' : ¬ bp = w2.heap.size := (by omega); have z0 := (hbl.cell (p := ⟨bp, 0, none⟩) hpl).trans p0; have z1 := (hbl.cell (p := ⟨bp, 1, none⟩) hpl).trans p1; have z2 := (hbl.cell (p := ⟨bp, 2, none⟩) hpl).trans p2; have z3 := (hbl.cell (p := ⟨bp, 3, none⟩) hpl).trans p3)
        | (go_at_call 22; refine (local_any (W.alloc (.cells #[.slice none 0 0, .bool false, .int .i64 0, .int .i64 0, .int .i64 0, .slice none 0 0, .int .i64 0] 35)).drew (7) (0)).mono ?_; rintro e w2 ⟨Al, rfl, hl2, hb2⟩; have hbl : Below W.heap.size W w2 := bTrans (bAlloc (bRefl W) _).drew hb2; have hzz : w2.heap[W.heap.size]? = some (.cells #[.slice none 0 0, .bool false, .int .i64 0, .int .i64 0, .int .i64 0, .slice none 0 0, .int .i64 0] 35) := (hb2.block _ (by simp)).trans (heap_new W _); have hs2 := hb2.size; (try simp at hs2); obtain ⟨y0, y1, y2, y3, y4, y5, y6, yf⟩ := blk7 hzz; have yz : W.heap.size < w2.heap.size := (by omega); have z0 := (hbl.cell (p := ⟨bp, 0, none⟩) hpl).trans p0; have z1 := (hbl.cell (p := ⟨bp, 1, none⟩) hpl).trans p1; have z2 := (hbl.cell (p := ⟨bp, 2, none⟩) hpl).trans p2; have z3 := (hbl.cell (p := ⟨bp, 3, none⟩) hpl).trans p3)
        | (go_at_call 11; refine (run_is _ w2 _ _ (onePV 10 k1) 0 (locP (7) (0)) r1 e1V (HP.out.tab.below hbl) (HP.out.pv.below hbl) hl2).mono ?_; rintro e w3 ⟨A3, d3, B3, g3, rfl, i1, i2, hb3⟩; have hbr : Below W.heap.size W w3 := bTrans hbl hb3; have hs3 := hb3.size; have z0 := (hbr.cell (p := ⟨bp, 0, none⟩) hpl).trans p0; have z1 := (hbr.cell (p := ⟨bp, 1, none⟩) hpl).trans p1; have z2 := (hbr.cell (p := ⟨bp, 2, none⟩) hpl).trans p2; have z3 := (hbr.cell (p := ⟨bp, 3, none⟩) hpl).trans p3; have hy7 := bcell hb3; have hf7 : ∀ b o, b < w2.heap.size → w3.frozen? ⟨b, o, none⟩ = w2.frozen? ⟨b, o, none⟩ := (fun b o h => World.frozen?_of_block (hb3.block b h)); have hm3 : ¬ w3.heap.size = bp := (by omega); have hm3' : ¬ bp = w3.heap.size := (by omega))
        | (go_at_call 11; refine (run_is _ (w2.alloc (.cells #[.slice none 0 0, .bool false, .int .i64 0, .int .i64 0, .int .i64 0, .slice none 0 0, .int .i64 0] 35)) _ _ (onePV 10 k1) 0 (locP (7) (0)) r1 e1V (HP.out.tab.below (bAlloc hbl _)) (HP.out.pv.below (bAlloc hbl _)) (hl2.below (bAlloc (bRefl _) _))).mono ?_; rintro e w3 ⟨A3, d3, B3, g3, rfl, i1, i2, hb3⟩; have hbr : Below W.heap.size W w3 := bTrans (bAlloc hbl _) hb3; have hbls := hbl.size; have hlt2 : w2.heap.size < (w2.alloc (.cells #[.slice none 0 0, .bool false, .int .i64 0, .int .i64 0, .int .i64 0, .slice none 0 0, .int .i64 0] 35)).heap.size := (by simp); have hs3 := hb3.size; (try simp at hs3); have hzz : w3.heap[w2.heap.size]? = some (.cells #[.slice none 0 0, .bool false, .int .i64 0, .int .i64 0, .int .i64 0, .slice none 0 0, .int .i64 0] 35) := (hb3.block _ (by simp)).trans (heap_new w2 _); obtain ⟨y0, y1, y2, y3, y4, y5, y6, yf⟩ := blk7 hzz; have z0 := (hbr.cell (p := ⟨bp, 0, none⟩) hpl).trans p0; have z1 := (hbr.cell (p := ⟨bp, 1, none⟩) hpl).trans p1; have z2 := (hbr.cell (p := ⟨bp, 2, none⟩) hpl).trans p2; have z3 := (hbr.cell (p := ⟨bp, 3, none⟩) hpl).trans p3))
    all_goals (go_wp2_with fail; go_meet)
    all_goals first
      | with_reducible exact ⟨_, _, _, _, _, rfl, hid_mkV (rb_c hbr i1 i2)⟩
      | with_reducible exact ⟨_, _, _, _, _, rfl, hid_mkV (rb_a hbr (Nat.le_refl _) yz ((hb3.block _ yz).trans hzz) i1 i2)⟩
      | with_reducible exact ⟨_, _, _, _, _, rfl, hid_mkV (rb_a hbr hbls hlt2 hzz i1 i2)⟩
  case rest =>
    obtain ⟨b2, A2, d2, B2, g2, rfl, hR⟩ := hcut
    have T2 : Hid (Tab wc) := (HP.out.below hR.out.low).tab
    clear p0 p1 p2 p3
    go_wp2_with fail
    refine (mk1_any anyB _ 10 _ k2 (by exact code_lit2 (wc) k2 (by simp) (by decide))).mono ?_
    rintro e w31 ⟨u31, x31, u32, x32, rfl, hp3, hb31⟩
    have hlo31 : Below (wc).heap.size (wc) w31 := bTrans (bAlloc (bRefl _) _) hb31
    go_wp2_with fail
    refine (local_any _ 1 2).mono ?_
    rintro e w32 ⟨Al3, rfl, hl3, hb32⟩
    have hlo32 : Below (wc).heap.size (wc) w32 := bTrans hlo31 hb32
    go_wp2_with fail
    refine (run_is _ _ _ _ (onePV 10 k2) 0 (locP 1 2) r2 e2V (T2.out.below hlo32) (hp3.below hb32) hl3).mono ?_
    rintro e w33 ⟨A3, d3, B3, g3, rfl, i31, i32, hb33⟩
    have hlo33 : Below (wc).heap.size (wc) w33 := bTrans hlo32 hb33
    have H3 : Hid (RB (wc) w33.heap.size r2 A3 d3 B3 g3 (w33.alloc (.cells #[.slice A3 r2.loc.regs.length d3, .bool r2.loc.armed, .int .i64 r2.loc.down, .int .i64 r2.loc.sent, .int .i64 r2.loc.over, .slice B3 r2.notes.length g3, .int .i64 r2.steps] 35))) := rb_c hlo33 i31 i32
    have M3 : Hid (Below (wc).heap.size (wc) w33) := hlo33
    have L3 : Hid (Below (wc).heap.size (wc) (w33.alloc (.cells #[.slice A3 r2.loc.regs.length d3, .bool r2.loc.armed, .int .i64 r2.loc.down, .int .i64 r2.loc.sent, .int .i64 r2.loc.over, .slice B3 r2.notes.length g3, .int .i64 r2.steps] 35))) := bAlloc hlo33 _
    have T3 : Hid (Tab (w33.alloc (.cells #[.slice A3 r2.loc.regs.length d3, .bool r2.loc.armed, .int .i64 r2.loc.down, .int .i64 r2.loc.sent, .int .i64 r2.loc.over, .slice B3 r2.notes.length g3, .int .i64 r2.steps] 35))) := T2.out.below L3.out
    have s3 : (wc).heap.size ≤ w33.heap.size := hlo33.size
    clear hp3 hb31 hb32 hb33 i31 i32 hl3 hlo31 hlo32 hlo33
    go_wp2_with fail
    refine (mk1_any anyB _ 10 _ k3 (by exact code_lit2 (w33.alloc (.cells #[.slice A3 r2.loc.regs.length d3, .bool r2.loc.armed, .int .i64 r2.loc.down, .int .i64 r2.loc.sent, .int .i64 r2.loc.over, .slice B3 r2.notes.length g3, .int .i64 r2.steps] 35)) k3 (by simp) (by decide))).mono ?_
    rintro e w41 ⟨u41, x41, u42, x42, rfl, hp4, hb41⟩
    have hlo41 : Below (w33.alloc (.cells #[.slice A3 r2.loc.regs.length d3, .bool r2.loc.armed, .int .i64 r2.loc.down, .int .i64 r2.loc.sent, .int .i64 r2.loc.over, .slice B3 r2.notes.length g3, .int .i64 r2.steps] 35)).heap.size (w33.alloc (.cells #[.slice A3 r2.loc.regs.length d3, .bool r2.loc.armed, .int .i64 r2.loc.down, .int .i64 r2.loc.sent, .int .i64 r2.loc.over, .slice B3 r2.notes.length g3, .int .i64 r2.steps] 35)) w41 := bTrans (bAlloc (bRefl _) _) hb41
    go_wp2_with fail
    refine (local_any _ 1 2).mono ?_
    rintro e w42 ⟨Al4, rfl, hl4, hb42⟩
    have hlo42 : Below (w33.alloc (.cells #[.slice A3 r2.loc.regs.length d3, .bool r2.loc.armed, .int .i64 r2.loc.down, .int .i64 r2.loc.sent, .int .i64 r2.loc.over, .slice B3 r2.notes.length g3, .int .i64 r2.steps] 35)).heap.size (w33.alloc (.cells #[.slice A3 r2.loc.regs.length d3, .bool r2.loc.armed, .int .i64 r2.loc.down, .int .i64 r2.loc.sent, .int .i64 r2.loc.over, .slice B3 r2.notes.length g3, .int .i64 r2.steps] 35)) w42 := bTrans hlo41 hb42
    go_wp2_with fail
    refine (run_is _ _ _ _ (onePV 10 k3) 0 (locP 1 2) r3 e3V (T3.out.below hlo42) (hp4.below hb42) hl4).mono ?_
    rintro e w43 ⟨A4, d4, B4, g4, rfl, i41, i42, hb43⟩
    have hlo43 : Below (w33.alloc (.cells #[.slice A3 r2.loc.regs.length d3, .bool r2.loc.armed, .int .i64 r2.loc.down, .int .i64 r2.loc.sent, .int .i64 r2.loc.over, .slice B3 r2.notes.length g3, .int .i64 r2.steps] 35)).heap.size (w33.alloc (.cells #[.slice A3 r2.loc.regs.length d3, .bool r2.loc.armed, .int .i64 r2.loc.down, .int .i64 r2.loc.sent, .int .i64 r2.loc.over, .slice B3 r2.notes.length g3, .int .i64 r2.steps] 35)) w43 := bTrans hlo42 hb43
    have H4 : Hid (RB (w33.alloc (.cells #[.slice A3 r2.loc.regs.length d3, .bool r2.loc.armed, .int .i64 r2.loc.down, .int .i64 r2.loc.sent, .int .i64 r2.loc.over, .slice B3 r2.notes.length g3, .int .i64 r2.steps] 35)) w43.heap.size r3 A4 d4 B4 g4 (w43.alloc (.cells #[.slice A4 r3.loc.regs.length d4, .bool r3.loc.armed, .int .i64 r3.loc.down, .int .i64 r3.loc.sent, .int .i64 r3.loc.over, .slice B4 r3.notes.length g4, .int .i64 r3.steps] 35))) := rb_c hlo43 i41 i42
    have M4 : Hid (Below (w33.alloc (.cells #[.slice A3 r2.loc.regs.length d3, .bool r2.loc.armed, .int .i64 r2.loc.down, .int .i64 r2.loc.sent, .int .i64 r2.loc.over, .slice B3 r2.notes.length g3, .int .i64 r2.steps] 35)).heap.size (w33.alloc (.cells #[.slice A3 r2.loc.regs.length d3, .bool r2.loc.armed, .int .i64 r2.loc.down, .int .i64 r2.loc.sent, .int .i64 r2.loc.over, .slice B3 r2.notes.length g3, .int .i64 r2.steps] 35)) w43) := hlo43
    have L4 : Hid (Below (w33.alloc (.cells #[.slice A3 r2.loc.regs.length d3, .bool r2.loc.armed, .int .i64 r2.loc.down, .int .i64 r2.loc.sent, .int .i64 r2.loc.over, .slice B3 r2.notes.length g3, .int .i64 r2.steps] 35)).heap.size (w33.alloc (.cells #[.slice A3 r2.loc.regs.length d3, .bool r2.loc.armed, .int .i64 r2.loc.down, .int .i64 r2.loc.sent, .int .i64 r2.loc.over, .slice B3 r2.notes.length g3, .int .i64 r2.steps] 35)) (w43.alloc (.cells #[.slice A4 r3.loc.regs.length d4, .bool r3.loc.armed, .int .i64 r3.loc.down, .int .i64 r3.loc.sent, .int .i64 r3.loc.over, .slice B4 r3.notes.length g4, .int .i64 r3.steps] 35))) := bAlloc hlo43 _
    have T4 : Hid (Tab (w43.alloc (.cells #[.slice A4 r3.loc.regs.length d4, .bool r3.loc.armed, .int .i64 r3.loc.down, .int .i64 r3.loc.sent, .int .i64 r3.loc.over, .slice B4 r3.notes.length g4, .int .i64 r3.steps] 35))) := T3.out.below L4.out
    have s4 : (w33.alloc (.cells #[.slice A3 r2.loc.regs.length d3, .bool r2.loc.armed, .int .i64 r2.loc.down, .int .i64 r2.loc.sent, .int .i64 r2.loc.over, .slice B3 r2.notes.length g3, .int .i64 r2.steps] 35)).heap.size ≤ w43.heap.size := hlo43.size
    clear hp4 hb41 hb42 hb43 i41 i42 hl4 hlo41 hlo42 hlo43
    go_wp2_with fail
    refine (mk1_any anyB _ 10 _ k4 (by exact code_lit2 (w43.alloc (.cells #[.slice A4 r3.loc.regs.length d4, .bool r3.loc.armed, .int .i64 r3.loc.down, .int .i64 r3.loc.sent, .int .i64 r3.loc.over, .slice B4 r3.notes.length g4, .int .i64 r3.steps] 35)) k4 (by simp) (by decide))).mono ?_
    rintro e w51 ⟨u51, x51, u52, x52, rfl, hp5, hb51⟩
    have hlo51 : Below (w43.alloc (.cells #[.slice A4 r3.loc.regs.length d4, .bool r3.loc.armed, .int .i64 r3.loc.down, .int .i64 r3.loc.sent, .int .i64 r3.loc.over, .slice B4 r3.notes.length g4, .int .i64 r3.steps] 35)).heap.size (w43.alloc (.cells #[.slice A4 r3.loc.regs.length d4, .bool r3.loc.armed, .int .i64 r3.loc.down, .int .i64 r3.loc.sent, .int .i64 r3.loc.over, .slice B4 r3.notes.length g4, .int .i64 r3.steps] 35)) w51 := bTrans (bAlloc (bRefl _) _) hb51
    go_wp2_with fail
    refine (local_any _ 1 2).mono ?_
    rintro e w52 ⟨Al5, rfl, hl5, hb52⟩
    have hlo52 : Below (w43.alloc (.cells #[.slice A4 r3.loc.regs.length d4, .bool r3.loc.armed, .int .i64 r3.loc.down, .int .i64 r3.loc.sent, .int .i64 r3.loc.over, .slice B4 r3.notes.length g4, .int .i64 r3.steps] 35)).heap.size (w43.alloc (.cells #[.slice A4 r3.loc.regs.length d4, .bool r3.loc.armed, .int .i64 r3.loc.down, .int .i64 r3.loc.sent, .int .i64 r3.loc.over, .slice B4 r3.notes.length g4, .int .i64 r3.steps] 35)) w52 := bTrans hlo51 hb52
    go_wp2_with fail
    refine (run_is _ _ _ _ (onePV 10 k4) 0 (locP 1 2) r4 e4V (T4.out.below hlo52) (hp5.below hb52) hl5).mono ?_
    rintro e w53 ⟨A5, d5, B5, g5, rfl, i51, i52, hb53⟩
    have hlo53 : Below (w43.alloc (.cells #[.slice A4 r3.loc.regs.length d4, .bool r3.loc.armed, .int .i64 r3.loc.down, .int .i64 r3.loc.sent, .int .i64 r3.loc.over, .slice B4 r3.notes.length g4, .int .i64 r3.steps] 35)).heap.size (w43.alloc (.cells #[.slice A4 r3.loc.regs.length d4, .bool r3.loc.armed, .int .i64 r3.loc.down, .int .i64 r3.loc.sent, .int .i64 r3.loc.over, .slice B4 r3.notes.length g4, .int .i64 r3.steps] 35)) w53 := bTrans hlo52 hb53
    have H5 : Hid (RB (w43.alloc (.cells #[.slice A4 r3.loc.regs.length d4, .bool r3.loc.armed, .int .i64 r3.loc.down, .int .i64 r3.loc.sent, .int .i64 r3.loc.over, .slice B4 r3.notes.length g4, .int .i64 r3.steps] 35)) w53.heap.size r4 A5 d5 B5 g5 (w53.alloc (.cells #[.slice A5 r4.loc.regs.length d5, .bool r4.loc.armed, .int .i64 r4.loc.down, .int .i64 r4.loc.sent, .int .i64 r4.loc.over, .slice B5 r4.notes.length g5, .int .i64 r4.steps] 35))) := rb_c hlo53 i51 i52
    have M5 : Hid (Below (w43.alloc (.cells #[.slice A4 r3.loc.regs.length d4, .bool r3.loc.armed, .int .i64 r3.loc.down, .int .i64 r3.loc.sent, .int .i64 r3.loc.over, .slice B4 r3.notes.length g4, .int .i64 r3.steps] 35)).heap.size (w43.alloc (.cells #[.slice A4 r3.loc.regs.length d4, .bool r3.loc.armed, .int .i64 r3.loc.down, .int .i64 r3.loc.sent, .int .i64 r3.loc.over, .slice B4 r3.notes.length g4, .int .i64 r3.steps] 35)) w53) := hlo53
    have L5 : Hid (Below (w43.alloc (.cells #[.slice A4 r3.loc.regs.length d4, .bool r3.loc.armed, .int .i64 r3.loc.down, .int .i64 r3.loc.sent, .int .i64 r3.loc.over, .slice B4 r3.notes.length g4, .int .i64 r3.steps] 35)).heap.size (w43.alloc (.cells #[.slice A4 r3.loc.regs.length d4, .bool r3.loc.armed, .int .i64 r3.loc.down, .int .i64 r3.loc.sent, .int .i64 r3.loc.over, .slice B4 r3.notes.length g4, .int .i64 r3.steps] 35)) (w53.alloc (.cells #[.slice A5 r4.loc.regs.length d5, .bool r4.loc.armed, .int .i64 r4.loc.down, .int .i64 r4.loc.sent, .int .i64 r4.loc.over, .slice B5 r4.notes.length g5, .int .i64 r4.steps] 35))) := bAlloc hlo53 _
    have T5 : Hid (Tab (w53.alloc (.cells #[.slice A5 r4.loc.regs.length d5, .bool r4.loc.armed, .int .i64 r4.loc.down, .int .i64 r4.loc.sent, .int .i64 r4.loc.over, .slice B5 r4.notes.length g5, .int .i64 r4.steps] 35))) := T4.out.below L5.out
    have s5 : (w43.alloc (.cells #[.slice A4 r3.loc.regs.length d4, .bool r3.loc.armed, .int .i64 r3.loc.down, .int .i64 r3.loc.sent, .int .i64 r3.loc.over, .slice B4 r3.notes.length g4, .int .i64 r3.steps] 35)).heap.size ≤ w53.heap.size := hlo53.size
    clear hp5 hb51 hb52 hb53 i51 i52 hl5 hlo51 hlo52 hlo53
    obtain ⟨b3, hb3⟩ : ∃ b, b = w33.heap.size := ⟨_, rfl⟩
    obtain ⟨b4, hb4⟩ : ∃ b, b = w43.heap.size := ⟨_, rfl⟩
    obtain ⟨b5, hb5⟩ : ∃ b, b = w53.heap.size := ⟨_, rfl⟩
    have Q2 := ((hR.out.below L3.out).below L4.out).below L5.out
    have Q3 := (H3.out.below L4.out).below L5.out
    have Q4 := H4.out.below L5.out
    have Q5 := H5.out
    have QP := (((HP.out.below hR.out.low).below L3.out).below L4.out).below L5.out
    go_wp2_with fail
    rw [← hb3] at Q3
    rw [← hb4] at Q4
    rw [← hb5] at Q5
    rw [← hb3, ← hb4, ← hb5]
    obtain ⟨w6, hw6⟩ : ∃ W, W = w53.alloc (.cells #[.slice A5 r4.loc.regs.length d5, .bool r4.loc.armed, .int .i64 r4.loc.down, .int .i64 r4.loc.sent, .int .i64 r4.loc.over, .slice B5 r4.notes.length g5, .int .i64 r4.steps] 35) := ⟨_, rfl⟩
    rw [← hw6] at Q2 Q3 Q4 Q5 QP ⊢
    obtain ⟨f0, f1, _, f2, _, f3, f4, _⟩ := blk7 Q2.box
    obtain ⟨_, _, f5, _, _, _, f6, _⟩ := blk7 Q3.box
    obtain ⟨_, _, f7, _, _, _, f8, _⟩ := blk7 Q4.box
    obtain ⟨_, _, f9, _, _, f10, _, _⟩ := blk7 Q5.box
    obtain ⟨f11, f12, f13, f14, _⟩ := blk4V QP.box
    have zb2 := Q2.lt
    have zb3 := Q3.lt
    have zb4 := Q4.lt
    have zb5 := Q5.lt
    have zbp := QP.lt
    have HQ2 : Hid (Ints anyB w6 (.slice A2 r1.loc.regs.length d2) r1.loc.regs) := Q2.regs
    have HQP : Hid (PB w bp v1 v2 c1 c2 10 k1 w6) := QP
    have HS : Hid (∀ w', Below w6.heap.size w6 w' → w'.cell? ⟨b2, 0, none⟩ = some (.slice A2 r1.loc.regs.length d2) ∧ w'.cell? ⟨b2, 1, none⟩ = some (.bool r1.loc.armed) ∧ w'.cell? ⟨b2, 3, none⟩ = some (.int .i64 r1.loc.sent) ∧ w'.cell? ⟨b2, 5, none⟩ = some (.slice B2 r1.notes.length g2) ∧ w'.cell? ⟨b2, 6, none⟩ = some (.int .i64 r1.steps) ∧ w'.cell? ⟨b3, 2, none⟩ = some (.int .i64 r2.loc.down) ∧ w'.cell? ⟨b3, 6, none⟩ = some (.int .i64 r2.steps) ∧ w'.cell? ⟨b4, 2, none⟩ = some (.int .i64 r3.loc.down) ∧ w'.cell? ⟨b4, 6, none⟩ = some (.int .i64 r3.steps) ∧ w'.cell? ⟨b5, 2, none⟩ = some (.int .i64 r4.loc.down) ∧ w'.cell? ⟨b5, 5, none⟩ = some (.slice B5 r4.notes.length g5) ∧ w'.cell? ⟨bp, 0, none⟩ = some (.slice v1 1 c1) ∧ w'.cell? ⟨bp, 1, none⟩ = some (.slice v2 2 c2) ∧ w'.cell? ⟨bp, 2, none⟩ = some (.slice none 0 0) ∧ w'.cell? ⟨bp, 3, none⟩ = some (.int .i64 10)) := fun w' hb => s15 zb2 zb3 zb4 zb5 zbp ⟨f0, f1, f2, f3, f4, f5, f6, f7, f8, f9, f10, f11, f12, f13, f14⟩ hb
    have hm1 := m1
    have hm2 := m2
    have g01 : r1.loc.armed = true := rfl
    have g02 : r1.loc.sent = 1 := rfl
    have g03 : r1.notes.length = 1 := rfl
    have g04 : r1.steps = 7 := rfl
    have g05 : r2.loc.down = 2 := rfl
    have g06 : r2.steps = 10 := rfl
    have g07 : r3.loc.down = 3 := rfl
    have g08 : r3.steps = 3 := rfl
    have g09 : r4.loc.down = 4 := rfl
    have g10 : r4.notes.length = 0 := rfl
    have eq1 : eqB r1.loc.regs [7, 14] = true := by decide
    clear Q2 Q3 Q4 Q5 QP hR H3 H4 H5 L3 L4 L5 M3 M4 M5 T2 T3 T4 T5 HP hw6 hb3 hb4 hb5 s3 s4 s5 zb2 zb3 zb4 zb5 zbp f0 f1 f2 f3 f4 f5 f6 f7 f8 f9 f10 f11 f12 f13 f14
    dsimp only [List.append]
    go_region_held3 (fun w' => w'.cell? ⟨b2, 0, none⟩ = some (.slice A2 r1.loc.regs.length d2) ∧ w'.cell? ⟨b2, 1, none⟩ = some (.bool r1.loc.armed) ∧ w'.cell? ⟨b2, 3, none⟩ = some (.int .i64 r1.loc.sent) ∧ w'.cell? ⟨b2, 5, none⟩ = some (.slice B2 r1.notes.length g2) ∧ w'.cell? ⟨b2, 6, none⟩ = some (.int .i64 r1.steps) ∧ w'.cell? ⟨b3, 2, none⟩ = some (.int .i64 r2.loc.down) ∧ w'.cell? ⟨b3, 6, none⟩ = some (.int .i64 r2.steps) ∧ w'.cell? ⟨b4, 2, none⟩ = some (.int .i64 r3.loc.down) ∧ w'.cell? ⟨b4, 6, none⟩ = some (.int .i64 r3.steps) ∧ w'.cell? ⟨b5, 2, none⟩ = some (.int .i64 r4.loc.down) ∧ w'.cell? ⟨b5, 5, none⟩ = some (.slice B5 r4.notes.length g5) ∧ w'.cell? ⟨bp, 0, none⟩ = some (.slice v1 1 c1) ∧ w'.cell? ⟨bp, 1, none⟩ = some (.slice v2 2 c2) ∧ w'.cell? ⟨bp, 2, none⟩ = some (.slice none 0 0) ∧ w'.cell? ⟨bp, 3, none⟩ = some (.int .i64 10)) (first | with_reducible exact HS.out _ (bRefl _) | with_reducible exact HS.out _ (bRefl _).drew | with_reducible exact HS.out _ (bAlloc (bRefl _) _).drew | with_reducible exact HS.out _ (bAlloc (bRefl _).drew _) | with_reducible exact HS.out _ hX)
      (first
        | (go_at_call 23; refine (alikeI anyB anyB _ _ _ r1.loc.regs [7, 14] (HQ2.out.below (by first | exact (bAlloc (bRefl _) _).drew | exact bAlloc (bRefl _).drew _)) (by exact sl2 trivial (by simp) (by simp [rInt]) (by simp [rInt]))).mono ?_; rw [eq1]; rintro e w7 ⟨rfl, hq7⟩; have hX : Below w6.heap.size w6 w7 := bTrans (by first | exact (bAlloc (bRefl _) _).drew | exact bAlloc (bRefl _).drew _) (quiet_below hq7); clear hq7)
        | (go_at_call 22; refine (local_any _ 0 0).mono ?_; rintro e w8 ⟨Al, rfl, hl8, hb8⟩; replace hX := bTrans hX hb8; clear hb8)
        | (go_at_call 8; refine (may_v _ _ _ _ (onePV 10 k1) _ (locP 0 0) _ rfl (HQP.out.tab.below hX) (HQP.out.pv.below hX) hl8).mono ?_; rintro e w9 ⟨rfl, hb9⟩; replace hX := bTrans hX hb9; clear hb9))
    all_goals
      go_wp2_with fail
      go_ret
      exact ⟨rfl, bTrans HQP.out.low hX⟩
end Go.Proofs.YtfbeiedhdmndnaaDoor
namespace Go.Proofs.YtfbeiedhdmndnaaDoor
open Go.ChangeShapes Go.WideShapes Go.ChangeAt Go.RowKit

theorem one_of {α : Type} {l : List α} {k : Nat} {a : α} (h : (l.drop k).take 1 = [a]) : l[k]? = some a := by
  have := congrArg (·[0]?) h
  simpa [List.getElem?_take, List.getElem?_drop] using this
theorem own : ownKnob Tryd.prog.godebug = none := by kernel_rfl
def nmAt (k : Nat) : String := (Rows.vmRunsRow.laid.map (·.1)).getD k ""
theorem gTab : Tryd.prog.globalNamed (nmAt 0) = some 0 := by kernel_rfl
theorem tTab : (Tryd.prog.globals[0]?).map (·.type) = some 166 := by kernel_rfl
theorem cells3 : Tryd.prog.cellsOf 3 = 1 := by kernel_rfl
theorem cellsT : Tryd.prog.cellsOf 154 = 4 := by kernel_rfl
theorem cellsTb : Tryd.prog.cellsOf 166 = 104 := by kernel_rfl
theorem cells9 : Tryd.prog.cellsOf 9 = 1 := by kernel_rfl
/-- The datum, row by row. -/
def rowD (i : Nat) : DataW Unit := .agg [.lit (.string (nmL.getD i [])), .lit (.int .i64 (po i)), .lit (.int .i64 (pu i)), .lit (.int .i64 (od i))]
theorem table_rows : (Rows.laid_gavotte_ops_table : DataW Unit) = .agg ((List.range 26).map rowD) := by kernel_rfl

theorem four_of {α : Type} {l : List α} {i j : Nat} {a : α} (hj : j < 4) (h : ((l.drop (i * 4)).take 4)[j]? = some a) : l[i * 4 + j]? = some a := by
  rw [List.getElem?_take, if_pos hj, List.getElem?_drop] at h
  exact h

theorem str_of {s : ByteArray} {l : List UInt8} (h : l = s.data.toList) : s = ⟨l.toArray⟩ := by
  subst h
  rfl

theorem tab_of {rest : List (String × DataW Unit)} {W : World} (h : laidMet Tryd.prog ((nmAt 0, Rows.laid_gavotte_ops_table) :: rest) W) : Tab W := by
  obtain ⟨ps, ⟨g0, t0, cs0, f0, p0, q0, hg0, ht0, hv0, hd0, _, _⟩, _, _⟩ := h
  obtain rfl := Option.some.inj (gTab.symm.trans hg0)
  obtain rfl := Option.some.inj (tTab.symm.trans ht0)
  obtain ⟨xs, m, rfl, hx, hlen, hn, hel⟩ := DataW.trod_array Tryd.underlying166 hd0
  rw [table_rows] at hx
  simp only [Prod.mk.injEq, DataW.agg.injEq] at hx
  have key : ∀ i, i < 26 → cs0[i * 4]? = some (.string (nm i)) ∧ cs0[i * 4 + 1]? = some (.int .i64 (po i)) ∧ cs0[i * 4 + 2]? = some (.int .i64 (pu i)) ∧ cs0[i * 4 + 3]? = some (.int .i64 (od i)) := by
    intro i hi
    have he := hel i hi
    have hxi : (xs.map (·.1))[i]? = some (rowD i) := by rw [← hx.1]; simp [hi]
    rw [List.getElem?_map] at hxi
    obtain ⟨x, hx1, hx2⟩ := Option.map_eq_some_iff.1 hxi
    rw [hx1, cellsT] at he
    obtain ⟨y0, y1, y2, y3, n, hy, _, e0, e1, e2, e3⟩ := Go.Joins.trod_struct4 Tryd.underlying154 he
    rw [hy] at hx2
    simp only [rowD, DataW.agg.injEq, List.cons.injEq, and_true] at hx2
    obtain ⟨r0, r1, r2, r3⟩ := hx2
    rw [cells9] at e0
    rw [cells3] at e1 e2 e3
    obtain ⟨s, c0, rfl, _⟩ := DataW.trod_string Tryd.underlying9 e0
    obtain ⟨a, c1, rfl, _⟩ := DataW.trod_int Tryd.underlying3 e1
    obtain ⟨b, c2, rfl, _⟩ := DataW.trod_int Tryd.underlying3 e2
    obtain ⟨c, c3, rfl, _⟩ := DataW.trod_int Tryd.underlying3 e3
    simp only [DataW.lit.injEq, Lit.string.injEq, Lit.int.injEq, true_and] at r0 r1 r2 r3
    obtain rfl := r1
    obtain rfl := r2
    obtain rfl := r3
    have hs : s = nm i := str_of r0.symm
    subst hs
    have d0 := four_of (j := 0) (by decide) (one_of c0)
    have d1 := four_of (j := 1) (by decide) (one_of c1)
    have d2 := four_of (j := 2) (by decide) (one_of c2)
    have d3 := four_of (j := 3) (by decide) (one_of c3)
    simp only [Array.getElem?_toList] at d0 d1 d2 d3
    exact ⟨d0, d1, d2, d3⟩
  have look := fun k => World.var?_cell hg0 hv0 k
  have first : W.cell? ⟨0, 0 * 4, none⟩ = some (.string (nm 0)) := (look (0 * 4)).trans (key 0 (by decide)).1
  refine ⟨fun i hi => (look _).trans (key i hi).1, fun i hi => (look _).trans (key i hi).2.1, fun i hi => (look _).trans (key i hi).2.2.1, fun i hi => (look _).trans (key i hi).2.2.2, ?_⟩
  apply Classical.byContradiction
  intro hz
  have : W.heap[0]? = none := by rw [Array.getElem?_eq_none]; omega
  simp [World.cell?, this] at first


def laidE : List (String × DataW Unit) := [(nmAt 0, Rows.laid_gavotte_ops_table)]
theorem of_laidE {W : World} (h : laidMetH Tryd.prog laidE W) : Tab W := by
  rw [MakeChecks.laidMetH_plain _ _ _ (by kernel_rfl)] at h
  exact tab_of h
/-- The wrap of a row that lists variables, the world's shape kept. -/
theorem handed_both {H : Type} {enc : TypeId × Value → H} {a : Assume} {C : Checked} {os : Os} {f : FuncId} {fn : Func} {s : ChangeSpec} {conds : List PathCond} {apart fresh handsOn again : Bool} {X : World → Array Value → Prop}
    (hX : ∀ (w w' : World) (args : Array Value), w.heap = w'.heap → X w args → X w' args)
    (own : ownKnob C.prog.godebug = none) (started : os.Started) (noInit : C.prog.inits.idxOf? f = none) (hfn : C.prog.funcs[f]? = some fn)
    (witness : ∃ (w : World) (tape : Tape) (i : Input), w.os = os ∧ (w.forCall tape i).Shaped C.prog ∧ i.vars = [] ∧ Input.okWide C.prog (w.forCall tape i) .any w.heap.size f i ∧
      ((s.pre enc C.prog fn conds apart (w.forCall tape i).memory i.args ∧ X (w.forCall tape i).memory i.args) ∧ sizedMet enc C.prog fn (OpenSpec.ofChange s) apart (w.forCall tape i).memory i.args) ∧ a.holds C.prog (lone (Frame.enter C.prog f i.args .normal) [] (w.forCall tape i)))
    (contract : ∀ (W : World) (base : Nat) (args : Array Value) (ds gs : List (DataW H)) (before : List MemPlace),
      (∀ (j : Nat) t v, fn.params[j]? = some t → args[j]? = some v → Value.okWide C.prog W .any base t v) →
      DataW.Whole enc C.prog fn.params.toList s.vars apart W args.toList ds gs before → X W args → W.ShapedOpen C.prog →
      Calls C.prog f args W fun e W' => ∃ v, e = .returned v ∧ s.post enc C.prog fn apart fresh handsOn again W args v W') :
    ReturnsInHanded a C os f .any (fun w args => (s.pre enc C.prog fn conds apart w args ∧ X w args) ∧ sizedMet enc C.prog fn (OpenSpec.ofChange s) apart w args) (s.post enc C.prog fn apart fresh handsOn again) := by
  refine returnsInHanded_of_calls own started noInit witness fun w tape i _ hsh _ hok hpre _ => ?_
  obtain ⟨_, _, _, fn', hfn', _, _, _, _, hval⟩ := hok
  cases Option.some.inj (hfn'.symm.trans hfn)
  obtain ⟨⟨⟨ds, gs, before, hw, _⟩, hx⟩, _⟩ := hpre
  refine (contract (w.forCall tape i) w.heap.size i.args ds gs before hval (DataW.Whole.of_heap (w' := w.forCall tape i) (by rfl) hw) (hX _ _ _ (by rfl) hx) hsh).mono fun e W' ⟨v, he, hp⟩ => ?_
  subst he
  exact ChangeSpec.post_blind hp

theorem door_metE (os : Os) (args : Array Value) : laidMetH Tryd.prog laidE ((World.doorLaid Tryd.prog 400 os).forCall (fun _ _ => 0) ⟨#[], args, []⟩).memory :=
  laidMetH_of_parts3 (fuel := 8) (laidMet_of_run' 8 (by kernel_rfl) (by kernel_rfl)) (by kernel_rfl) (by kernel_rfl)
end Go.Proofs.YtfbeiedhdmndnaaDoor
namespace Go.Proofs.YtfbeiedhdmndnaaDoor
open Go.RowKit
set_option maxHeartbeats 4000000 in
set_option maxRecDepth 100000 in
theorem copyW_any (w : World) (v : Value) (x : PWld) (h : WldV w v x) (hs : SmW x) :
    Calls Tryd.prog 16 #[v] w fun e w' => ∃ a m lo hi, e = .returned (wVal x.used a m) ∧ WN w.heap.size lo hi w' a m x ∧ Below w.heap.size w w' := by
  obtain ⟨va, vm, rfl, h1, h2⟩ := h
  obtain ⟨A1, c1, rfl, hl1⟩ := h1.form
  obtain ⟨A2, c2, rfl, hl2⟩ := h2.form
  have HS := hid_mk hs
  have s1 : x.acts.length ≤ 1000 := by have := hs.n; omega
  clear hs
  go_enter Tryd.func16, Tryd.ntmps16
  go_wp2
  go_cut [3] (fun i3 wc => ∃ bo lo hi a m, i3 = .pointer (some ⟨bo, 0, none⟩) ∧ CW w x bo lo hi a m wc)
  case first =>
    have H1 := hid_mk h1.ltIn
    have H2 := hid_mk h2
    have hA := (two_new w (.cells #[.slice A1 x.acts.length c1, .slice A2 x.mail.length c2, .int .i64 x.used.drop, .int .i64 x.used.dup, .int .i64 x.used.time, .int .i64 x.used.crash] 45) (.cells #[.slice none 0 0, .slice none 0 0, .int .i64 0, .int .i64 0, .int .i64 0, .int .i64 0] 45))
    have HL : Below w.heap.size w ((w.alloc (.cells #[.slice A1 x.acts.length c1, .slice A2 x.mail.length c2, .int .i64 x.used.drop, .int .i64 x.used.dup, .int .i64 x.used.time, .int .i64 x.used.crash] 45)).alloc (.cells #[.slice none 0 0, .slice none 0 0, .int .i64 0, .int .i64 0, .int .i64 0, .int .i64 0] 45)) := bAlloc (bAlloc (bRefl _) _) _
    generalize ((w.alloc (.cells #[.slice A1 x.acts.length c1, .slice A2 x.mail.length c2, .int .i64 x.used.drop, .int .i64 x.used.dup, .int .i64 x.used.time, .int .i64 x.used.crash] 45)).alloc (.cells #[.slice none 0 0, .slice none 0 0, .int .i64 0, .int .i64 0, .int .i64 0, .int .i64 0] 45)) = w0 at hA HL ⊢
    obtain ⟨p0, p1, p2, p3, p4, p5⟩ := blk6 hA.1
    have hz0 : w.heap.size < w0.heap.size := by have := hA.2.2; omega
    have hbb := HL
    have nn : ¬ w.heap.size = w0.heap.size := by omega
    have nn' : ¬ w0.heap.size = w.heap.size := by omega
    have hz0' : w.heap.size < w0.heap.size + 1 := by omega
    have HR0 := hid_mk hA.2.1
    have HZ0 := hid_mk hA.2.2
    clear h1 h2 hA
    go_region_held3 (fun w' => w'.cell? ⟨w.heap.size, 0, none⟩ = some (.slice A1 x.acts.length c1) ∧ w'.cell? ⟨w.heap.size, 1, none⟩ = some (.slice A2 x.mail.length c2) ∧ w'.cell? ⟨w.heap.size, 2, none⟩ = some (.int .i64 x.used.drop) ∧ w'.cell? ⟨w.heap.size, 3, none⟩ = some (.int .i64 x.used.dup) ∧ w'.cell? ⟨w.heap.size, 4, none⟩ = some (.int .i64 x.used.time) ∧ w'.cell? ⟨w.heap.size, 5, none⟩ = some (.int .i64 x.used.crash)) (go_keep)
      (first
        | (go_at_call 34; refine (freshL_any anyB (fun b => b < w.heap.size) _ _ x.acts (H1.out.below (by first | exact hbb | exact hbb.drew | exact bAlloc hbb _ | exact (bAlloc hbb _).drew | exact bAlloc hbb.drew _)) s1).mono ?_; rintro e w1 ⟨u1, rfl, lf, hb1⟩; obtain ⟨D1, e1, rfl, hd1, hd2⟩ := lf; obtain ⟨hc1, hf1, hy1⟩ := (by first | exact olds (undrew hb1) | exact olds hb1); have hj1 := hb1.size; have HF1 := hid_mk (show LF _ _ _ _ _ from ⟨D1, e1, rfl, hd1, hd2⟩); have HB1 := hid_mk hb1; replace hbb := bTrans (by first | exact hbb | exact hbb.drew | exact bAlloc hbb _ | exact (bAlloc hbb _).drew | exact bAlloc hbb.drew _) hb1; have x1 : w.heap.size < w1.heap.size := (by (try simp at hj1); omega); have n1 : ¬ w.heap.size = w1.heap.size := (by omega); have x1' : w.heap.size < w1.heap.size + 1 := (by omega); have n1' : ¬ w1.heap.size = w.heap.size := (by omega); clear hd1 hd2 hb1)
        | (go_at_call 35; refine (copy_any _ _ x.mail (H2.out.below (by first | exact hbb | exact hbb.drew | exact bAlloc hbb _ | exact (bAlloc hbb _).drew | exact bAlloc hbb.drew _)) (by have := HS.out.mail; omega) HS.out.args).mono ?_; rintro e w2 ⟨u2, rfl, mf, hb2⟩; obtain ⟨D2, e2, rfl, _⟩ := mf.form; obtain ⟨hc2, hf2, hy2⟩ := (by first | exact olds (undrew hb2) | exact olds hb2); have hj2 := hb2.size; have HM2 := hid_mk mf.within; have HB2 := hid_mk hb2; replace hbb := bTrans (by first | exact hbb | exact hbb.drew | exact bAlloc hbb _ | exact (bAlloc hbb _).drew | exact bAlloc hbb.drew _) hb2; have x2 : w.heap.size < w2.heap.size := (by (try simp at hj2); omega); have n2 : ¬ w.heap.size = w2.heap.size := (by omega); have x2' : w.heap.size < w2.heap.size + 1 := (by omega); have n2' : ¬ w2.heap.size = w.heap.size := (by omega); clear mf hb2))
    all_goals (go_wp2_with fail; go_meet)
    all_goals first
      | with_reducible exact ⟨_, _, _, _, _, rfl, way_a HL HR0.out HZ0.out HF1.out HB1.out HM2.out HB2.out⟩
      | with_reducible exact ⟨_, _, _, _, _, rfl, way_b HL HR0.out HZ0.out HF1.out HB1.out HM2.out HB2.out⟩
      | with_reducible exact ⟨_, _, _, _, _, rfl, way_c HL HR0.out HZ0.out HF1.out HB1.out HM2.out HB2.out⟩
  case rest =>
    obtain ⟨bo, lo, hi, a, m, rfl, hcw⟩ := hcut
    obtain ⟨A, c, rfl, hck⟩ := hcw.start
    obtain ⟨B, d, rfl, _⟩ := hck.lm.form
    clear h1 h2 hcw
    obtain ⟨o0, o1, o2, o3, o4, o5⟩ := blk6 hck.box
    go_wp2
    go_loopg [4, 17] x.acts.length (fun g i4 i17 wr => ∃ k : Nat, g = x.acts.length - k ∧ i17 = .int .i64 k ∧ CK w x bo lo hi k A c (.slice B x.mail.length d) wr)
    case atStart => exact ⟨0, rfl, rfl, hck⟩
    case round =>
      clear hck o0 o1 o2 o3 o4 o5
      obtain ⟨k, rfl, rfl, ck⟩ := hrel
      obtain ⟨o0, o1, o2, o3, o4, o5⟩ := blk6 ck.box
      have hbo : bo < wr.heap.size := (Array.getElem?_eq_some_iff.1 ck.box).1
      by_cases hlt : k < x.acts.length
      · obtain ⟨y, hy⟩ := at_lt hlt
        obtain ⟨g, rfl, hg, hgb, hr⟩ : ∃ g, A = some ⟨g, 0, none⟩ ∧ Qa (w.heap.size + 2) lo hi g ∧ g ≠ bo ∧ LR g (fun j b => b ≠ g ∧ (j < k → Qa (w.heap.size + 2) lo hi b)) wr x.acts := by
          rcases ck.la with ⟨e, _⟩ | h
          · rw [e] at hlt; simp at hlt
          · exact h
        obtain ⟨⟨v, r0, r0'⟩, r1, r2, r3, r4⟩ := hr.rd k y hy
        obtain ⟨V, n, rfl, _⟩ := r0'.form
        have hfz : ∀ o, wr.frozen? ⟨g, o, none⟩ = false := hr.frozen
        have hgl : g < wr.heap.size := hr.lt
        have hsm : y.regs.length ≤ 1000 := HS.out.regs y (List.mem_of_getElem? hy)
        have CKk := hid_mk ck
        have HY := hid_mk hy
        have HV := hid_mk r0'
        clear ck hy r0' hr hg
        go_wp2
        go_region_with (go_at_call 32; refine (freshI_any _ _ _ y.regs (HV.out.below (by first | exact (bRefl _).drew | exact bRefl _)) hsm).mono ?_; rintro e w1 ⟨D1, m1, rfl, hi1, hb1⟩; obtain ⟨hc1, hf1, hy1⟩ := olds (undrew hb1))
        all_goals
          go_wp2
          go_roundg (x.acts.length - (k + 1))
          case measure => omega
          case rel => exact ⟨k + 1, rfl, by go_num, CKk.out.next HY.out hi1 hb1⟩
      · have HW := hid_mk (ck.done hlt)
        have HLo := hid_mk ck.low
        obtain ⟨y0, y1, y2, y3, y4, y5⟩ := blk6 ck.res
        have fz : ∀ o, wr.frozen? ⟨w.heap.size + 1, o, none⟩ = false := fun o => heap_frozen ck.res
        have HRs := hid_mk ck.res
        clear ck
        go_wp2
        refine bodyPost_ret (v := wVal x.used (.slice A x.acts.length c) (.slice B x.mail.length d)) (by simp [results, Tryd.results16, go_sem, y0, y1, y2, y3, y4, y5]) rfl ⟨_, _, lo, hi, rfl, (HW.out.far put6_same (by omega)).mono (by omega), put6_below HLo.out (by omega)⟩
end Go.Proofs.YtfbeiedhdmndnaaDoor
namespace Go.Proofs.YtfbeiedhdmndnaaDoor
open Go.RowKit
theorem put7_same {w : World} {b : Nat} {a0 a1 a2 a3 a4 a5 a6 : Value} : Same (fun d => d ≠ b) w (put7 w b a0 a1 a2 a3 a4 a5 a6) :=
  ((((((setCell_same fun _ h => h).trans (setCell_same fun _ h => h)).trans (setCell_same fun _ h => h)).trans (setCell_same fun _ h => h)).trans (setCell_same fun _ h => h)).trans (setCell_same fun _ h => h)).trans (setCell_same fun _ h => h)
end Go.Proofs.YtfbeiedhdmndnaaDoor
namespace Go.Proofs.YtfbeiedhdmndnaaDoor
open Go.RowKit
attribute [local go_sem ↓] Go.wp_at_zero Go.wp_at_succ
set_option maxHeartbeats 400000 in
theorem eqB_nteV (a b : PNte) : eqB a b = (decide (a.to = b.to) && decide (a.hd = b.hd) && eqB a.args b.args) := by
  obtain ⟨t, d, l⟩ := a
  obtain ⟨t', d', l'⟩ := b
  simp [eqB]
  rw [Bool.eq_iff_iff]; simp [and_assoc]
set_option maxHeartbeats 400000 in
set_option maxHeartbeats 4000000 in
theorem rSameNotes (w : World) (v1 v2 : Value) (a b : List PNte) (h1 : Ntes anyB anyB w v1 a) (h2 : Ntes anyB anyB w v2 b) :
    Calls Tryd.prog 27 #[v1, v2] w fun e w' => e = .returned (.bool (eqB a b)) ∧ Below w.heap.size w w' := by
  obtain ⟨A1, c1, rfl, hl1⟩ := h1.form
  obtain ⟨A2, c2, rfl, hl2⟩ := h2.form
  by_cases hlen : a.length = b.length
  · have HL : Hid (a.length = b.length) := hlen
    have e1 := lt_eq hlen
    clear hlen
    go_enter Tryd.func27, Tryd.ntmps27
    go_wp2
    go_loopg [5] a.length (fun g i5 wr => ∃ k : Nat, g = a.length - k ∧ k ≤ a.length ∧ i5 = .int .i64 k ∧ Hid (a.take k = b.take k) ∧ Below w.heap.size w wr)
    case atStart => exact ⟨0, rfl, by omega, rfl, rfl, bRefl w⟩
    case round =>
      obtain ⟨k, rfl, hk, rfl, ht, hb⟩ := hrel
      by_cases hlt : k < a.length
      · obtain ⟨b1, o1, x, v1, rfl, hx, hz1, q1, q2, q3, hv1⟩ := h1.cell hb hlt
        obtain ⟨b2, o2, y, v2, rfl, hy, hz2, s1, s2, s3, hv2⟩ := h2.cell hb (k := k) (by have := HL.out; omega)
        obtain ⟨V1, n1, rfl, _⟩ := hv1.form
        obtain ⟨V2, n2, rfl, _⟩ := hv2.form
        have hlt2 : (k : Int) < b.length := by have := HL.out; omega
        have HX : Hid (a[k]? = some x) := hx
        have HY : Hid (b[k]? = some y) := hy
        clear hx hy
        by_cases hxy : x = y
        · have e2 := eqB_yes hxy
          have HE : Hid (x = y) := hxy
          clear hxy
          go_wp2
          go_region_held3 (fun w' => w'.cell? ⟨b1, o1 + k * 3, none⟩ = some (.int .i64 x.to) ∧ w'.cell? ⟨b1, o1 + k * 3 + 1, none⟩ = some (.int .i64 x.hd) ∧ w'.cell? ⟨b1, o1 + k * 3 + 2, none⟩ = some (.slice V1 x.args.length n1) ∧ w'.cell? ⟨b2, o2 + k * 3, none⟩ = some (.int .i64 y.to) ∧ w'.cell? ⟨b2, o2 + k * 3 + 1, none⟩ = some (.int .i64 y.hd) ∧ w'.cell? ⟨b2, o2 + k * 3 + 2, none⟩ = some (.slice V2 y.args.length n2)) (go_keep)
            (first | (go_at_call 51; refine (rSameNote _ _ _ x y ⟨_, rfl, (hv1.below (by exact (bRefl _).drew)).any⟩ ⟨_, rfl, (hv2.below (by exact (bRefl _).drew)).any⟩).mono ?_; rintro e w1 ⟨rfl, hb1⟩; have hc1 := bcell (undrew hb1)))
          go_wp2
          go_roundg (a.length - (k + 1))
          case measure => omega
          case rel => exact ⟨k + 1, rfl, by omega, by go_num, take_eq ht.out HX.out HY.out HE.out, bTrans hb (undrew hb1)⟩
        · have e2 := eqB_no hxy
          have HE : Hid (x ≠ y) := hxy
          clear hxy
          go_wp2
          go_region_held3 (fun w' => w'.cell? ⟨b1, o1 + k * 3, none⟩ = some (.int .i64 x.to) ∧ w'.cell? ⟨b1, o1 + k * 3 + 1, none⟩ = some (.int .i64 x.hd) ∧ w'.cell? ⟨b1, o1 + k * 3 + 2, none⟩ = some (.slice V1 x.args.length n1) ∧ w'.cell? ⟨b2, o2 + k * 3, none⟩ = some (.int .i64 y.to) ∧ w'.cell? ⟨b2, o2 + k * 3 + 1, none⟩ = some (.int .i64 y.hd) ∧ w'.cell? ⟨b2, o2 + k * 3 + 2, none⟩ = some (.slice V2 y.args.length n2)) (go_keep)
            (first | (go_at_call 51; refine (rSameNote _ _ _ x y ⟨_, rfl, (hv1.below (by exact (bRefl _).drew)).any⟩ ⟨_, rfl, (hv2.below (by exact (bRefl _).drew)).any⟩).mono ?_; rintro e w1 ⟨rfl, hb1⟩; have hc1 := bcell (undrew hb1)))
          go_wp2
          go_ret
          exact ⟨ret_b (eqB_no (take_ne HX.out HY.out HE.out)).symm, bTrans hb (undrew hb1)⟩
      · go_wp2
        go_ret
        exact ⟨ret_b (eqB_yes (take_all HL.out hlt ht.out)).symm, hb⟩
  · have e1 := lt_ne hlen
    go_enter Tryd.func27, Tryd.ntmps27
    go_wp2
    go_ret
    exact ⟨ret_b (eqB_no (len_ne hlen)).symm, bRefl _⟩
end Go.Proofs.YtfbeiedhdmndnaaDoor
