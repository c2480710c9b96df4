/-
  What the document fixes. Condition: the table of the instructions is in the world.
-/
import Derived.Test.YtpcffhhednplaaaDoorVk
namespace Go.Proofs.YtpcffhhednplaaaDoor
open Go.RowKit
attribute [local go_sem ↓] Go.wp_at_zero Go.wp_at_succ
/-- A program in a box of the law's own. -/
structure PB (w : World) (b : Nat) (v1 v2 : Option Addr) (c1 c2 : Nat) (fuel : Int) (code : List PIns) (wc : World) : Prop where
  low : Below w.heap.size w wc
  base : w.heap.size ≤ b
  box : wc.heap[b]? = some (.cells #[.slice v1 1 c1, .slice v2 2 c2, .slice none 0 0, .int .i64 fuel] 26)
  pv : PrgV wc (.agg #[.slice v1 1 c1, .slice v2 2 c2, .slice none 0 0, .int .i64 fuel]) (oneP fuel code)
  tab : Tab wc
theorem PB.below {w wc w' : World} {b c1 c2 : Nat} {v1 v2 : Option Addr} {fuel : Int} {code : List PIns} (h : PB w b v1 v2 c1 c2 fuel code wc) (hb : Below wc.heap.size wc w') : PB w b v1 v2 c1 c2 fuel code w' :=
  ⟨bTrans h.low hb, h.base, (hb.block _ (Array.getElem?_eq_some_iff.1 h.box).1).trans h.box, h.pv.below hb, h.tab.below hb⟩
theorem PB.lt {w wc : World} {b c1 c2 : Nat} {v1 v2 : Option Addr} {fuel : Int} {code : List PIns} (h : PB w b v1 v2 c1 c2 fuel code wc) : b < wc.heap.size := (Array.getElem?_eq_some_iff.1 h.box).1
theorem RB.lt {W wc : World} {b c cn : Nat} {r : PRes} {A An : Option Addr} (h : RB W b r A c An cn wc) : b < wc.heap.size := (Array.getElem?_eq_some_iff.1 h.box).1
theorem code_lit2 (w : World) (l : List PIns) {B : Nat} (hB : w.heap.size = B) (hl : l.length ≤ 1000) : Code anyB (w.alloc (.cells (cv l).toArray 41)) (.slice (some ⟨B, 0, none⟩) l.length l.length) l := hB ▸ code_lit w l hl
theorem s15 {w6 w' : World} {b2 b3 b4 b5 bp : Nat} {t0 t1 t2 t3 t4 t5 t6 t7 t8 t9 t10 t11 t12 t13 t14 : Value} (z2 : b2 < w6.heap.size) (z3 : b3 < w6.heap.size) (z4 : b4 < w6.heap.size) (z5 : b5 < w6.heap.size) (zp : bp < w6.heap.size) (h : w6.cell? ⟨b2, 0, none⟩ = some (t0) ∧ w6.cell? ⟨b2, 1, none⟩ = some (t1) ∧ w6.cell? ⟨b2, 3, none⟩ = some (t2) ∧ w6.cell? ⟨b2, 5, none⟩ = some (t3) ∧ w6.cell? ⟨b2, 6, none⟩ = some (t4) ∧ w6.cell? ⟨b3, 2, none⟩ = some (t5) ∧ w6.cell? ⟨b3, 6, none⟩ = some (t6) ∧ w6.cell? ⟨b4, 2, none⟩ = some (t7) ∧ w6.cell? ⟨b4, 6, none⟩ = some (t8) ∧ w6.cell? ⟨b5, 2, none⟩ = some (t9) ∧ w6.cell? ⟨b5, 5, none⟩ = some (t10) ∧ w6.cell? ⟨bp, 0, none⟩ = some (t11) ∧ w6.cell? ⟨bp, 1, none⟩ = some (t12) ∧ w6.cell? ⟨bp, 2, none⟩ = some (t13) ∧ w6.cell? ⟨bp, 3, none⟩ = some (t14)) (hb : Below w6.heap.size w6 w') :
    w'.cell? ⟨b2, 0, none⟩ = some (t0) ∧ w'.cell? ⟨b2, 1, none⟩ = some (t1) ∧ w'.cell? ⟨b2, 3, none⟩ = some (t2) ∧ w'.cell? ⟨b2, 5, none⟩ = some (t3) ∧ w'.cell? ⟨b2, 6, none⟩ = some (t4) ∧ w'.cell? ⟨b3, 2, none⟩ = some (t5) ∧ w'.cell? ⟨b3, 6, none⟩ = some (t6) ∧ w'.cell? ⟨b4, 2, none⟩ = some (t7) ∧ w'.cell? ⟨b4, 6, none⟩ = some (t8) ∧ w'.cell? ⟨b5, 2, none⟩ = some (t9) ∧ w'.cell? ⟨b5, 5, none⟩ = some (t10) ∧ w'.cell? ⟨bp, 0, none⟩ = some (t11) ∧ w'.cell? ⟨bp, 1, none⟩ = some (t12) ∧ w'.cell? ⟨bp, 2, none⟩ = some (t13) ∧ w'.cell? ⟨bp, 3, none⟩ = some (t14) := by
  obtain ⟨h0, h1, h2, h3, h4, h5, h6, h7, h8, h9, h10, h11, h12, h13, h14⟩ := h
  exact ⟨(hb.cell (p := ⟨b2, 0, none⟩) z2).trans h0, (hb.cell (p := ⟨b2, 1, none⟩) z2).trans h1, (hb.cell (p := ⟨b2, 3, none⟩) z2).trans h2, (hb.cell (p := ⟨b2, 5, none⟩) z2).trans h3, (hb.cell (p := ⟨b2, 6, none⟩) z2).trans h4, (hb.cell (p := ⟨b3, 2, none⟩) z3).trans h5, (hb.cell (p := ⟨b3, 6, none⟩) z3).trans h6, (hb.cell (p := ⟨b4, 2, none⟩) z4).trans h7, (hb.cell (p := ⟨b4, 6, none⟩) z4).trans h8, (hb.cell (p := ⟨b5, 2, none⟩) z5).trans h9, (hb.cell (p := ⟨b5, 5, none⟩) z5).trans h10, (hb.cell (p := ⟨bp, 0, none⟩) zp).trans h11, (hb.cell (p := ⟨bp, 1, none⟩) zp).trans h12, (hb.cell (p := ⟨bp, 2, none⟩) zp).trans h13, (hb.cell (p := ⟨bp, 3, none⟩) zp).trans h14⟩
/-- Run, with what comes of it known. -/
theorem run_is (ok : Nat → Prop) (w : World) (v vl : Value) (p : PPrg) (who : Int) (l : PLoc) (r : PRes) (e : runP p who l 0 [] = r) (ht : Tab w) (hp : PrgV w v p) (hl : LocV ok w vl l) :
    Calls Tryd.prog 16 #[v, .int .i64 who, vl, .int .i64 0, .slice none 0 0] w fun e w' => ∃ A c An cn, e = .returned (.agg #[.slice A r.loc.regs.length c, .bool r.loc.armed, .int .i64 r.loc.down, .int .i64 r.loc.sent, .int .i64 r.loc.over, .slice An r.notes.length cn, .int .i64 r.steps]) ∧ Ints (fun b => w.heap.size ≤ b) w' (.slice A r.loc.regs.length c) r.loc.regs ∧ Ntes (fun b => w.heap.size ≤ b) (fun b => w.heap.size ≤ b) w' (.slice An r.notes.length cn) r.notes ∧ Below w.heap.size w w' := by
  subst e
  refine (run_any ok anyB w v vl _ p who l 0 [] ht hp hl sl0).mono ?_
  rintro e w' ⟨u, rfl, hr, hb⟩
  obtain ⟨A, c, An, cn, rfl, h1, h2⟩ := hr.form
  exact ⟨A, c, An, cn, rfl, h1, h2, hb⟩
theorem may_v (ok : Nat → Prop) (w : World) (v vl : Value) (p : PPrg) (who : Int) (l : PLoc) (b : Bool) (e : mayB p who l 0 [] = b) (ht : Tab w) (hp : PrgV w v p) (hl : LocV ok w vl l) :
    Calls Tryd.prog 13 #[v, .int .i64 who, vl, .int .i64 0, .slice none 0 0] w fun e w' => e = .returned (.bool b) ∧ Below w.heap.size w w' := may_is ok anyB w v vl _ p who l 0 [] ht hp hl sl0 b e

set_option maxHeartbeats 8000000 in
set_option maxRecDepth 100000 in
theorem awake_any (w : World) (ht : Tab w) :
    Calls Tryd.prog 12 #[] w fun e w' => e = .returned (.bool true) ∧ Below w.heap.size w w' := by
  have HT : Hid (Tab w) := ht
  clear ht
  go_enter Tryd.func12, Tryd.ntmps12
  go_wp2_with fail
  refine (mk1_any anyB _ 10 _ k1 (by exact code_lit w k1 (by decide))).mono ?_
  rintro e w1 ⟨v1, c1, v2, c2, rfl, hp1, hb1⟩
  have hl1 : Below w.heap.size w w1 := bTrans (bAlloc (bRefl w) _) hb1
  have hP : PB w w1.heap.size v1 v2 c1 c2 10 k1 (w1.alloc (.cells #[.slice v1 1 c1, .slice v2 2 c2, .slice none 0 0, .int .i64 10] 26)) := ⟨bAlloc hl1 _, hl1.size, heap_new _ _, hp1.below (bAlloc (bRefl _) _), HT.out.below (bAlloc hl1 _)⟩
  obtain ⟨bp, hbp⟩ : ∃ bp, bp = w1.heap.size := ⟨_, rfl⟩
  go_wp2_with fail
  rw [← hbp] at hP ⊢
  obtain ⟨W, hW⟩ : ∃ W, W = w1.alloc (.cells #[.slice v1 1 c1, .slice v2 2 c2, .slice none 0 0, .int .i64 10] 26) := ⟨_, rfl⟩
  rw [← hW] at hP ⊢
  have HP : Hid (PB w bp v1 v2 c1 c2 10 k1 W) := hP
  obtain ⟨p0, p1, p2, p3, _⟩ := blk4 hP.box
  have hpl := hP.lt
  clear hP hp1 hb1 hl1 hW hbp
  go_cut [2] (fun i2 wc => ∃ b A c An cn, i2 = .pointer (some ⟨b, 0, none⟩) ∧ Hid (RB W b r1 A c An cn wc))
  case first =>
    have hn : ¬ W.heap.size = bp := by omega
    have hn' : ¬ bp = W.heap.size := by omega
    go_region_held3 (fun w' => w'.cell? ⟨bp, 0, none⟩ = some (.slice v1 1 c1) ∧ w'.cell? ⟨bp, 1, none⟩ = some (.slice v2 2 c2) ∧ w'.cell? ⟨bp, 2, none⟩ = some (.slice none 0 0) ∧ w'.cell? ⟨bp, 3, none⟩ = some (.int .i64 10)) (go_keep)
      (first
        | (go_at_call 19; refine (local_any W.drew (7) (0)).mono ?_; rintro e w2 ⟨Al, rfl, hl2, hb2⟩; have hbl : Below W.heap.size W w2 := undrew hb2; have hs2 := hbl.size; have hm : ¬ w2.heap.size = bp := (by omega); have hm' : ¬ bp = w2.heap.size := (by omega); have z0 := (hbl.cell (p := ⟨bp, 0, none⟩) hpl).trans p0; have z1 := (hbl.cell (p := ⟨bp, 1, none⟩) hpl).trans p1; have z2 := (hbl.cell (p := ⟨bp, 2, none⟩) hpl).trans p2; have z3 := (hbl.cell (p := ⟨bp, 3, none⟩) hpl).trans p3)
        | (go_at_call 19; refine (local_any (W.alloc (.cells #[.slice none 0 0, .bool false, .int .i64 0, .int .i64 0, .int .i64 0, .slice none 0 0, .int .i64 0] 35)).drew (7) (0)).mono ?_; rintro e w2 ⟨Al, rfl, hl2, hb2⟩; have hbl : Below W.heap.size W w2 := bTrans (bAlloc (bRefl W) _).drew hb2; have hzz : w2.heap[W.heap.size]? = some (.cells #[.slice none 0 0, .bool false, .int .i64 0, .int .i64 0, .int .i64 0, .slice none 0 0, .int .i64 0] 35) := (hb2.block _ (by simp)).trans (heap_new W _); have hs2 := hb2.size; (try simp at hs2); obtain ⟨y0, y1, y2, y3, y4, y5, y6, yf⟩ := blk7 hzz; have yz : W.heap.size < w2.heap.size := (by omega); have z0 := (hbl.cell (p := ⟨bp, 0, none⟩) hpl).trans p0; have z1 := (hbl.cell (p := ⟨bp, 1, none⟩) hpl).trans p1; have z2 := (hbl.cell (p := ⟨bp, 2, none⟩) hpl).trans p2; have z3 := (hbl.cell (p := ⟨bp, 3, none⟩) hpl).trans p3)
        | (go_at_call 16; refine (run_is _ w2 _ _ (oneP 10 k1) 0 (locP (7) (0)) r1 e1 (HP.out.tab.below hbl) (HP.out.pv.below hbl) hl2).mono ?_; rintro e w3 ⟨A3, d3, B3, g3, rfl, i1, i2, hb3⟩; have hbr : Below W.heap.size W w3 := bTrans hbl hb3; have hs3 := hb3.size; have z0 := (hbr.cell (p := ⟨bp, 0, none⟩) hpl).trans p0; have z1 := (hbr.cell (p := ⟨bp, 1, none⟩) hpl).trans p1; have z2 := (hbr.cell (p := ⟨bp, 2, none⟩) hpl).trans p2; have z3 := (hbr.cell (p := ⟨bp, 3, none⟩) hpl).trans p3; have hy7 := bcell hb3; have hf7 : ∀ b o, b < w2.heap.size → w3.frozen? ⟨b, o, none⟩ = w2.frozen? ⟨b, o, none⟩ := (fun b o h => World.frozen?_of_block (hb3.block b h)); have hm3 : ¬ w3.heap.size = bp := (by omega); have hm3' : ¬ bp = w3.heap.size := (by omega))
        | (go_at_call 16; refine (run_is _ (w2.alloc (.cells #[.slice none 0 0, .bool false, .int .i64 0, .int .i64 0, .int .i64 0, .slice none 0 0, .int .i64 0] 35)) _ _ (oneP 10 k1) 0 (locP (7) (0)) r1 e1 (HP.out.tab.below (bAlloc hbl _)) (HP.out.pv.below (bAlloc hbl _)) (hl2.below (bAlloc (bRefl _) _))).mono ?_; rintro e w3 ⟨A3, d3, B3, g3, rfl, i1, i2, hb3⟩; have hbr : Below W.heap.size W w3 := bTrans (bAlloc hbl _) hb3; have hbls := hbl.size; have hlt2 : w2.heap.size < (w2.alloc (.cells #[.slice none 0 0, .bool false, .int .i64 0, .int .i64 0, .int .i64 0, .slice none 0 0, .int .i64 0] 35)).heap.size := (by simp); have hs3 := hb3.size; (try simp at hs3); have hzz : w3.heap[w2.heap.size]? = some (.cells #[.slice none 0 0, .bool false, .int .i64 0, .int .i64 0, .int .i64 0, .slice none 0 0, .int .i64 0] 35) := (hb3.block _ (by simp)).trans (heap_new w2 _); obtain ⟨y0, y1, y2, y3, y4, y5, y6, yf⟩ := blk7 hzz; have z0 := (hbr.cell (p := ⟨bp, 0, none⟩) hpl).trans p0; have z1 := (hbr.cell (p := ⟨bp, 1, none⟩) hpl).trans p1; have z2 := (hbr.cell (p := ⟨bp, 2, none⟩) hpl).trans p2; have z3 := (hbr.cell (p := ⟨bp, 3, none⟩) hpl).trans p3))
    all_goals (go_wp2_with fail; go_meet)
    all_goals first
      | with_reducible exact ⟨_, _, _, _, _, rfl, hid_mk (rb_c hbr i1 i2)⟩
      | with_reducible exact ⟨_, _, _, _, _, rfl, hid_mk (rb_a hbr (Nat.le_refl _) yz ((hb3.block _ yz).trans hzz) i1 i2)⟩
      | with_reducible exact ⟨_, _, _, _, _, rfl, hid_mk (rb_a hbr hbls hlt2 hzz i1 i2)⟩
  case rest =>
    obtain ⟨b2, A2, d2, B2, g2, rfl, hR⟩ := hcut
    have T2 : Hid (Tab wc) := (HP.out.below hR.out.low).tab
    clear p0 p1 p2 p3
    go_wp2_with fail
    refine (mk1_any anyB _ 10 _ k2 (by exact code_lit2 (wc) k2 (by simp) (by decide))).mono ?_
    rintro e w31 ⟨u31, x31, u32, x32, rfl, hp3, hb31⟩
    have hlo31 : Below (wc).heap.size (wc) w31 := bTrans (bAlloc (bRefl _) _) hb31
    go_wp2_with fail
    refine (local_any _ 1 2).mono ?_
    rintro e w32 ⟨Al3, rfl, hl3, hb32⟩
    have hlo32 : Below (wc).heap.size (wc) w32 := bTrans hlo31 hb32
    go_wp2_with fail
    refine (run_is _ _ _ _ (oneP 10 k2) 0 (locP 1 2) r2 e2 (T2.out.below hlo32) (hp3.below hb32) hl3).mono ?_
    rintro e w33 ⟨A3, d3, B3, g3, rfl, i31, i32, hb33⟩
    have hlo33 : Below (wc).heap.size (wc) w33 := bTrans hlo32 hb33
    have H3 : Hid (RB (wc) w33.heap.size r2 A3 d3 B3 g3 (w33.alloc (.cells #[.slice A3 r2.loc.regs.length d3, .bool r2.loc.armed, .int .i64 r2.loc.down, .int .i64 r2.loc.sent, .int .i64 r2.loc.over, .slice B3 r2.notes.length g3, .int .i64 r2.steps] 35))) := rb_c hlo33 i31 i32
    have M3 : Hid (Below (wc).heap.size (wc) w33) := hlo33
    have L3 : Hid (Below (wc).heap.size (wc) (w33.alloc (.cells #[.slice A3 r2.loc.regs.length d3, .bool r2.loc.armed, .int .i64 r2.loc.down, .int .i64 r2.loc.sent, .int .i64 r2.loc.over, .slice B3 r2.notes.length g3, .int .i64 r2.steps] 35))) := bAlloc hlo33 _
    have T3 : Hid (Tab (w33.alloc (.cells #[.slice A3 r2.loc.regs.length d3, .bool r2.loc.armed, .int .i64 r2.loc.down, .int .i64 r2.loc.sent, .int .i64 r2.loc.over, .slice B3 r2.notes.length g3, .int .i64 r2.steps] 35))) := T2.out.below L3.out
    have s3 : (wc).heap.size ≤ w33.heap.size := hlo33.size
    clear hp3 hb31 hb32 hb33 i31 i32 hl3 hlo31 hlo32 hlo33
    go_wp2_with fail
    refine (mk1_any anyB _ 10 _ k3 (by exact code_lit2 (w33.alloc (.cells #[.slice A3 r2.loc.regs.length d3, .bool r2.loc.armed, .int .i64 r2.loc.down, .int .i64 r2.loc.sent, .int .i64 r2.loc.over, .slice B3 r2.notes.length g3, .int .i64 r2.steps] 35)) k3 (by simp) (by decide))).mono ?_
    rintro e w41 ⟨u41, x41, u42, x42, rfl, hp4, hb41⟩
    have hlo41 : Below (w33.alloc (.cells #[.slice A3 r2.loc.regs.length d3, .bool r2.loc.armed, .int .i64 r2.loc.down, .int .i64 r2.loc.sent, .int .i64 r2.loc.over, .slice B3 r2.notes.length g3, .int .i64 r2.steps] 35)).heap.size (w33.alloc (.cells #[.slice A3 r2.loc.regs.length d3, .bool r2.loc.armed, .int .i64 r2.loc.down, .int .i64 r2.loc.sent, .int .i64 r2.loc.over, .slice B3 r2.notes.length g3, .int .i64 r2.steps] 35)) w41 := bTrans (bAlloc (bRefl _) _) hb41
    go_wp2_with fail
    refine (local_any _ 1 2).mono ?_
    rintro e w42 ⟨Al4, rfl, hl4, hb42⟩
    have hlo42 : Below (w33.alloc (.cells #[.slice A3 r2.loc.regs.length d3, .bool r2.loc.armed, .int .i64 r2.loc.down, .int .i64 r2.loc.sent, .int .i64 r2.loc.over, .slice B3 r2.notes.length g3, .int .i64 r2.steps] 35)).heap.size (w33.alloc (.cells #[.slice A3 r2.loc.regs.length d3, .bool r2.loc.armed, .int .i64 r2.loc.down, .int .i64 r2.loc.sent, .int .i64 r2.loc.over, .slice B3 r2.notes.length g3, .int .i64 r2.steps] 35)) w42 := bTrans hlo41 hb42
    go_wp2_with fail
    refine (run_is _ _ _ _ (oneP 10 k3) 0 (locP 1 2) r3 e3 (T3.out.below hlo42) (hp4.below hb42) hl4).mono ?_
    rintro e w43 ⟨A4, d4, B4, g4, rfl, i41, i42, hb43⟩
    have hlo43 : Below (w33.alloc (.cells #[.slice A3 r2.loc.regs.length d3, .bool r2.loc.armed, .int .i64 r2.loc.down, .int .i64 r2.loc.sent, .int .i64 r2.loc.over, .slice B3 r2.notes.length g3, .int .i64 r2.steps] 35)).heap.size (w33.alloc (.cells #[.slice A3 r2.loc.regs.length d3, .bool r2.loc.armed, .int .i64 r2.loc.down, .int .i64 r2.loc.sent, .int .i64 r2.loc.over, .slice B3 r2.notes.length g3, .int .i64 r2.steps] 35)) w43 := bTrans hlo42 hb43
    have H4 : Hid (RB (w33.alloc (.cells #[.slice A3 r2.loc.regs.length d3, .bool r2.loc.armed, .int .i64 r2.loc.down, .int .i64 r2.loc.sent, .int .i64 r2.loc.over, .slice B3 r2.notes.length g3, .int .i64 r2.steps] 35)) w43.heap.size r3 A4 d4 B4 g4 (w43.alloc (.cells #[.slice A4 r3.loc.regs.length d4, .bool r3.loc.armed, .int .i64 r3.loc.down, .int .i64 r3.loc.sent, .int .i64 r3.loc.over, .slice B4 r3.notes.length g4, .int .i64 r3.steps] 35))) := rb_c hlo43 i41 i42
    have M4 : Hid (Below (w33.alloc (.cells #[.slice A3 r2.loc.regs.length d3, .bool r2.loc.armed, .int .i64 r2.loc.down, .int .i64 r2.loc.sent, .int .i64 r2.loc.over, .slice B3 r2.notes.length g3, .int .i64 r2.steps] 35)).heap.size (w33.alloc (.cells #[.slice A3 r2.loc.regs.length d3, .bool r2.loc.armed, .int .i64 r2.loc.down, .int .i64 r2.loc.sent, .int .i64 r2.loc.over, .slice B3 r2.notes.length g3, .int .i64 r2.steps] 35)) w43) := hlo43
    have L4 : Hid (Below (w33.alloc (.cells #[.slice A3 r2.loc.regs.length d3, .bool r2.loc.armed, .int .i64 r2.loc.down, .int .i64 r2.loc.sent, .int .i64 r2.loc.over, .slice B3 r2.notes.length g3, .int .i64 r2.steps] 35)).heap.size (w33.alloc (.cells #[.slice A3 r2.loc.regs.length d3, .bool r2.loc.armed, .int .i64 r2.loc.down, .int .i64 r2.loc.sent, .int .i64 r2.loc.over, .slice B3 r2.notes.length g3, .int .i64 r2.steps] 35)) (w43.alloc (.cells #[.slice A4 r3.loc.regs.length d4, .bool r3.loc.armed, .int .i64 r3.loc.down, .int .i64 r3.loc.sent, .int .i64 r3.loc.over, .slice B4 r3.notes.length g4, .int .i64 r3.steps] 35))) := bAlloc hlo43 _
    have T4 : Hid (Tab (w43.alloc (.cells #[.slice A4 r3.loc.regs.length d4, .bool r3.loc.armed, .int .i64 r3.loc.down, .int .i64 r3.loc.sent, .int .i64 r3.loc.over, .slice B4 r3.notes.length g4, .int .i64 r3.steps] 35))) := T3.out.below L4.out
    have s4 : (w33.alloc (.cells #[.slice A3 r2.loc.regs.length d3, .bool r2.loc.armed, .int .i64 r2.loc.down, .int .i64 r2.loc.sent, .int .i64 r2.loc.over, .slice B3 r2.notes.length g3, .int .i64 r2.steps] 35)).heap.size ≤ w43.heap.size := hlo43.size
    clear hp4 hb41 hb42 hb43 i41 i42 hl4 hlo41 hlo42 hlo43
    go_wp2_with fail
    refine (mk1_any anyB _ 10 _ k4 (by exact code_lit2 (w43.alloc (.cells #[.slice A4 r3.loc.regs.length d4, .bool r3.loc.armed, .int .i64 r3.loc.down, .int .i64 r3.loc.sent, .int .i64 r3.loc.over, .slice B4 r3.notes.length g4, .int .i64 r3.steps] 35)) k4 (by simp) (by decide))).mono ?_
    rintro e w51 ⟨u51, x51, u52, x52, rfl, hp5, hb51⟩
    have hlo51 : Below (w43.alloc (.cells #[.slice A4 r3.loc.regs.length d4, .bool r3.loc.armed, .int .i64 r3.loc.down, .int .i64 r3.loc.sent, .int .i64 r3.loc.over, .slice B4 r3.notes.length g4, .int .i64 r3.steps] 35)).heap.size (w43.alloc (.cells #[.slice A4 r3.loc.regs.length d4, .bool r3.loc.armed, .int .i64 r3.loc.down, .int .i64 r3.loc.sent, .int .i64 r3.loc.over, .slice B4 r3.notes.length g4, .int .i64 r3.steps] 35)) w51 := bTrans (bAlloc (bRefl _) _) hb51
    go_wp2_with fail
    refine (local_any _ 1 2).mono ?_
    rintro e w52 ⟨Al5, rfl, hl5, hb52⟩
    have hlo52 : Below (w43.alloc (.cells #[.slice A4 r3.loc.regs.length d4, .bool r3.loc.armed, .int .i64 r3.loc.down, .int .i64 r3.loc.sent, .int .i64 r3.loc.over, .slice B4 r3.notes.length g4, .int .i64 r3.steps] 35)).heap.size (w43.alloc (.cells #[.slice A4 r3.loc.regs.length d4, .bool r3.loc.armed, .int .i64 r3.loc.down, .int .i64 r3.loc.sent, .int .i64 r3.loc.over, .slice B4 r3.notes.length g4, .int .i64 r3.steps] 35)) w52 := bTrans hlo51 hb52
    go_wp2_with fail
    refine (run_is _ _ _ _ (oneP 10 k4) 0 (locP 1 2) r4 e4 (T4.out.below hlo52) (hp5.below hb52) hl5).mono ?_
    rintro e w53 ⟨A5, d5, B5, g5, rfl, i51, i52, hb53⟩
    have hlo53 : Below (w43.alloc (.cells #[.slice A4 r3.loc.regs.length d4, .bool r3.loc.armed, .int .i64 r3.loc.down, .int .i64 r3.loc.sent, .int .i64 r3.loc.over, .slice B4 r3.notes.length g4, .int .i64 r3.steps] 35)).heap.size (w43.alloc (.cells #[.slice A4 r3.loc.regs.length d4, .bool r3.loc.armed, .int .i64 r3.loc.down, .int .i64 r3.loc.sent, .int .i64 r3.loc.over, .slice B4 r3.notes.length g4, .int .i64 r3.steps] 35)) w53 := bTrans hlo52 hb53
    have H5 : Hid (RB (w43.alloc (.cells #[.slice A4 r3.loc.regs.length d4, .bool r3.loc.armed, .int .i64 r3.loc.down, .int .i64 r3.loc.sent, .int .i64 r3.loc.over, .slice B4 r3.notes.length g4, .int .i64 r3.steps] 35)) w53.heap.size r4 A5 d5 B5 g5 (w53.alloc (.cells #[.slice A5 r4.loc.regs.length d5, .bool r4.loc.armed, .int .i64 r4.loc.down, .int .i64 r4.loc.sent, .int .i64 r4.loc.over, .slice B5 r4.notes.length g5, .int .i64 r4.steps] 35))) := rb_c hlo53 i51 i52
    have M5 : Hid (Below (w43.alloc (.cells #[.slice A4 r3.loc.regs.length d4, .bool r3.loc.armed, .int .i64 r3.loc.down, .int .i64 r3.loc.sent, .int .i64 r3.loc.over, .slice B4 r3.notes.length g4, .int .i64 r3.steps] 35)).heap.size (w43.alloc (.cells #[.slice A4 r3.loc.regs.length d4, .bool r3.loc.armed, .int .i64 r3.loc.down, .int .i64 r3.loc.sent, .int .i64 r3.loc.over, .slice B4 r3.notes.length g4, .int .i64 r3.steps] 35)) w53) := hlo53
    have L5 : Hid (Below (w43.alloc (.cells #[.slice A4 r3.loc.regs.length d4, .bool r3.loc.armed, .int .i64 r3.loc.down, .int .i64 r3.loc.sent, .int .i64 r3.loc.over, .slice B4 r3.notes.length g4, .int .i64 r3.steps] 35)).heap.size (w43.alloc (.cells #[.slice A4 r3.loc.regs.length d4, .bool r3.loc.armed, .int .i64 r3.loc.down, .int .i64 r3.loc.sent, .int .i64 r3.loc.over, .slice B4 r3.notes.length g4, .int .i64 r3.steps] 35)) (w53.alloc (.cells #[.slice A5 r4.loc.regs.length d5, .bool r4.loc.armed, .int .i64 r4.loc.down, .int .i64 r4.loc.sent, .int .i64 r4.loc.over, .slice B5 r4.notes.length g5, .int .i64 r4.steps] 35))) := bAlloc hlo53 _
    have T5 : Hid (Tab (w53.alloc (.cells #[.slice A5 r4.loc.regs.length d5, .bool r4.loc.armed, .int .i64 r4.loc.down, .int .i64 r4.loc.sent, .int .i64 r4.loc.over, .slice B5 r4.notes.length g5, .int .i64 r4.steps] 35))) := T4.out.below L5.out
    have s5 : (w43.alloc (.cells #[.slice A4 r3.loc.regs.length d4, .bool r3.loc.armed, .int .i64 r3.loc.down, .int .i64 r3.loc.sent, .int .i64 r3.loc.over, .slice B4 r3.notes.length g4, .int .i64 r3.steps] 35)).heap.size ≤ w53.heap.size := hlo53.size
    clear hp5 hb51 hb52 hb53 i51 i52 hl5 hlo51 hlo52 hlo53
    obtain ⟨b3, hb3⟩ : ∃ b, b = w33.heap.size := ⟨_, rfl⟩
    obtain ⟨b4, hb4⟩ : ∃ b, b = w43.heap.size := ⟨_, rfl⟩
    obtain ⟨b5, hb5⟩ : ∃ b, b = w53.heap.size := ⟨_, rfl⟩
    have Q2 := ((hR.out.below L3.out).below L4.out).below L5.out
    have Q3 := (H3.out.below L4.out).below L5.out
    have Q4 := H4.out.below L5.out
    have Q5 := H5.out
    have QP := (((HP.out.below hR.out.low).below L3.out).below L4.out).below L5.out
    go_wp2_with fail
    rw [← hb3] at Q3
    rw [← hb4] at Q4
    rw [← hb5] at Q5
    rw [← hb3, ← hb4, ← hb5]
    obtain ⟨w6, hw6⟩ : ∃ W, W = w53.alloc (.cells #[.slice A5 r4.loc.regs.length d5, .bool r4.loc.armed, .int .i64 r4.loc.down, .int .i64 r4.loc.sent, .int .i64 r4.loc.over, .slice B5 r4.notes.length g5, .int .i64 r4.steps] 35) := ⟨_, rfl⟩
    rw [← hw6] at Q2 Q3 Q4 Q5 QP ⊢
    obtain ⟨f0, f1, _, f2, _, f3, f4, _⟩ := blk7 Q2.box
    obtain ⟨_, _, f5, _, _, _, f6, _⟩ := blk7 Q3.box
    obtain ⟨_, _, f7, _, _, _, f8, _⟩ := blk7 Q4.box
    obtain ⟨_, _, f9, _, _, f10, _, _⟩ := blk7 Q5.box
    obtain ⟨f11, f12, f13, f14, _⟩ := blk4 QP.box
    have zb2 := Q2.lt
    have zb3 := Q3.lt
    have zb4 := Q4.lt
    have zb5 := Q5.lt
    have zbp := QP.lt
    have HQ2 : Hid (Ints anyB w6 (.slice A2 r1.loc.regs.length d2) r1.loc.regs) := Q2.regs
    have HQP : Hid (PB w bp v1 v2 c1 c2 10 k1 w6) := QP
    have HS : Hid (∀ w', Below w6.heap.size w6 w' → w'.cell? ⟨b2, 0, none⟩ = some (.slice A2 r1.loc.regs.length d2) ∧ w'.cell? ⟨b2, 1, none⟩ = some (.bool r1.loc.armed) ∧ w'.cell? ⟨b2, 3, none⟩ = some (.int .i64 r1.loc.sent) ∧ w'.cell? ⟨b2, 5, none⟩ = some (.slice B2 r1.notes.length g2) ∧ w'.cell? ⟨b2, 6, none⟩ = some (.int .i64 r1.steps) ∧ w'.cell? ⟨b3, 2, none⟩ = some (.int .i64 r2.loc.down) ∧ w'.cell? ⟨b3, 6, none⟩ = some (.int .i64 r2.steps) ∧ w'.cell? ⟨b4, 2, none⟩ = some (.int .i64 r3.loc.down) ∧ w'.cell? ⟨b4, 6, none⟩ = some (.int .i64 r3.steps) ∧ w'.cell? ⟨b5, 2, none⟩ = some (.int .i64 r4.loc.down) ∧ w'.cell? ⟨b5, 5, none⟩ = some (.slice B5 r4.notes.length g5) ∧ w'.cell? ⟨bp, 0, none⟩ = some (.slice v1 1 c1) ∧ w'.cell? ⟨bp, 1, none⟩ = some (.slice v2 2 c2) ∧ w'.cell? ⟨bp, 2, none⟩ = some (.slice none 0 0) ∧ w'.cell? ⟨bp, 3, none⟩ = some (.int .i64 10)) := fun w' hb => s15 zb2 zb3 zb4 zb5 zbp ⟨f0, f1, f2, f3, f4, f5, f6, f7, f8, f9, f10, f11, f12, f13, f14⟩ hb
    have hm1 := m1
    have hm2 := m2
    have g01 : r1.loc.armed = true := rfl
    have g02 : r1.loc.sent = 1 := rfl
    have g03 : r1.notes.length = 1 := rfl
    have g04 : r1.steps = 7 := rfl
    have g05 : r2.loc.down = 2 := rfl
    have g06 : r2.steps = 10 := rfl
    have g07 : r3.loc.down = 3 := rfl
    have g08 : r3.steps = 3 := rfl
    have g09 : r4.loc.down = 4 := rfl
    have g10 : r4.notes.length = 0 := rfl
    have eq1 : eqB r1.loc.regs [7, 14] = true := by decide
    clear Q2 Q3 Q4 Q5 QP hR H3 H4 H5 L3 L4 L5 M3 M4 M5 T2 T3 T4 T5 HP hw6 hb3 hb4 hb5 s3 s4 s5 zb2 zb3 zb4 zb5 zbp f0 f1 f2 f3 f4 f5 f6 f7 f8 f9 f10 f11 f12 f13 f14
    dsimp only [List.append]
    go_region_held3 (fun w' => w'.cell? ⟨b2, 0, none⟩ = some (.slice A2 r1.loc.regs.length d2) ∧ w'.cell? ⟨b2, 1, none⟩ = some (.bool r1.loc.armed) ∧ w'.cell? ⟨b2, 3, none⟩ = some (.int .i64 r1.loc.sent) ∧ w'.cell? ⟨b2, 5, none⟩ = some (.slice B2 r1.notes.length g2) ∧ w'.cell? ⟨b2, 6, none⟩ = some (.int .i64 r1.steps) ∧ w'.cell? ⟨b3, 2, none⟩ = some (.int .i64 r2.loc.down) ∧ w'.cell? ⟨b3, 6, none⟩ = some (.int .i64 r2.steps) ∧ w'.cell? ⟨b4, 2, none⟩ = some (.int .i64 r3.loc.down) ∧ w'.cell? ⟨b4, 6, none⟩ = some (.int .i64 r3.steps) ∧ w'.cell? ⟨b5, 2, none⟩ = some (.int .i64 r4.loc.down) ∧ w'.cell? ⟨b5, 5, none⟩ = some (.slice B5 r4.notes.length g5) ∧ w'.cell? ⟨bp, 0, none⟩ = some (.slice v1 1 c1) ∧ w'.cell? ⟨bp, 1, none⟩ = some (.slice v2 2 c2) ∧ w'.cell? ⟨bp, 2, none⟩ = some (.slice none 0 0) ∧ w'.cell? ⟨bp, 3, none⟩ = some (.int .i64 10)) (first | with_reducible exact HS.out _ (bRefl _) | with_reducible exact HS.out _ (bRefl _).drew | with_reducible exact HS.out _ (bAlloc (bRefl _) _).drew | with_reducible exact HS.out _ (bAlloc (bRefl _).drew _) | with_reducible exact HS.out _ hX)
      (first
        | (go_at_call 20; refine (alikeI anyB anyB _ _ _ r1.loc.regs [7, 14] (HQ2.out.below (by first | exact (bAlloc (bRefl _) _).drew | exact bAlloc (bRefl _).drew _)) (by exact sl2 trivial (by simp) (by simp [rInt]) (by simp [rInt]))).mono ?_; rw [eq1]; rintro e w7 ⟨rfl, hq7⟩; have hX : Below w6.heap.size w6 w7 := bTrans (by first | exact (bAlloc (bRefl _) _).drew | exact bAlloc (bRefl _).drew _) (quiet_below hq7); clear hq7)
        | (go_at_call 19; refine (local_any _ 0 0).mono ?_; rintro e w8 ⟨Al, rfl, hl8, hb8⟩; replace hX := bTrans hX hb8; clear hb8)
        | (go_at_call 13; refine (may_v _ _ _ _ (oneP 10 k1) _ (locP 0 0) _ rfl (HQP.out.tab.below hX) (HQP.out.pv.below hX) hl8).mono ?_; rintro e w9 ⟨rfl, hb9⟩; replace hX := bTrans hX hb9; clear hb9))
    all_goals
      go_wp2_with fail
      go_ret
      exact ⟨rfl, bTrans HQP.out.low hX⟩
end Go.Proofs.YtpcffhhednplaaaDoor
