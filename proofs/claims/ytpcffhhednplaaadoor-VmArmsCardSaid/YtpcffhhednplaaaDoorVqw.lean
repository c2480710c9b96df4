/-
  The sixth law of chapter 6. Condition: the table of the instructions is in the world.
-/
import Derived.Test.YtpcffhhednplaaaDoorVz
import Derived.Test.YtpcffhhednplaaaDoorVq
import Derived.Test.YtpcffhhednplaaaDoorVfw
namespace Go.Proofs.YtpcffhhednplaaaDoor
open Go.RowKit
attribute [local go_sem ↓] Go.wp_at_zero Go.wp_at_succ
def rBool (w : World) (b o : Nat) (x : Bool) : Prop := w.cell? ⟨b, o, none⟩ = some (.bool x)
abbrev Bls (ok : Nat → Prop) := Sl 1 rBool ok
theorem Bls.cell {ok : Nat → Prop} {w wr : World} {A : Option Addr} {n c : Nat} {l : List Bool} (h : Bls ok w (.slice A n c) l) (hb : Below w.heap.size w wr) {k : Nat} (hk : k < l.length) :
    ∃ b o x, A = some ⟨b, o, none⟩ ∧ l[k]? = some x ∧ wr.cell? ⟨b, o + k, none⟩ = some (.bool x) := by
  obtain ⟨x, hx⟩ := at_lt hk
  obtain ⟨b, o, rfl, _, hlt, hc⟩ := h.at (by omega)
  refine ⟨b, o, x, rfl, hx, (hb.cell (p := ⟨b, o + k, none⟩) hlt).trans ?_⟩
  have := hc k x hx
  rwa [Nat.mul_one] at this
/-- A state in a box of the law's own. -/
structure LB (w : World) (b : Nat) (Al : Option Addr) (was : Bool) (wc : World) : Prop where
  low : Below w.heap.size w wc
  box : wc.heap[b]? = some (.cells #[.slice Al 2 2, .bool was, .int .i64 0, .int .i64 0, .int .i64 0] 29)
  lv : LocV anyB wc (.agg #[.slice Al 2 2, .bool was, .int .i64 0, .int .i64 0, .int .i64 0]) (locA was)
  tab : Tab wc
theorem LB.lt {w wc : World} {b : Nat} {Al : Option Addr} {was : Bool} (h : LB w b Al was wc) : b < wc.heap.size := (Array.getElem?_eq_some_iff.1 h.box).1
theorem lb_mk {ok : Nat → Prop} {w w1 : World} {Al : Option Addr} {was : Bool} (hl1 : Below w.heap.size w w1) (hlv : LocV ok w1 (.agg #[.slice Al 2 2, .bool false, .int .i64 0, .int .i64 0, .int .i64 0]) (locP 1 2)) (ht : Tab w) :
    LB w w1.heap.size Al was (w1.alloc (.cells #[.slice Al 2 2, .bool was, .int .i64 0, .int .i64 0, .int .i64 0] 29)) := by
  have hb : Below w1.heap.size w1 (w1.alloc (.cells #[.slice Al 2 2, .bool was, .int .i64 0, .int .i64 0, .int .i64 0] 29)) := bAlloc (bRefl _) _
  obtain ⟨c, e, h2⟩ := hlv
  have e' : Value.slice Al 2 2 = c := by
    simp only [Value.agg.injEq] at e
    exact (List.cons.inj (Array.mk.inj e)).1
  refine ⟨bTrans hl1 hb, heap_new _ _, ⟨.slice Al 2 2, rfl, ?_⟩, ht.below (bTrans hl1 hb)⟩
  have h3 : Ints anyB w1 (.slice Al 2 2) [1, 2] := by rw [e']; exact h2.any
  exact h3.below hb
theorem arms_out (w : World) (v : Value) (was : Bool) (who : Int) (l : List Bool) (ht : Tab w) (hv : Bls anyB w v l) (hl : 40 < l.length) :
    Calls Tryd.prog 8 #[v, .bool was, .int .i64 who] w fun e w' => e = .returned (.bool true) ∧ Below w.heap.size w w' := by
  obtain ⟨Au, cu, rfl, hul⟩ := hv.form
  have HT : Hid (Tab w) := ht
  clear ht hv
  have hl' : (40 : Int) < l.length := by omega
  go_enter Tryd.func8, Tryd.ntmps8
  go_wp2_with (go_at_call 12; refine (awake_any _ HT.out).mono ?_; rintro e w1 ⟨rfl, hb1⟩)
  go_ret
  exact ⟨rfl, hb1⟩
set_option maxHeartbeats 4000000 in
set_option maxRecDepth 100000 in
theorem arms_in0 (w : World) (v : Value) (was : Bool) (who : Int) (l : List Bool) (ht : Tab w) (hv : Bls anyB w v l) (hl : l.length ≤ 40) (hk : rnd who 2 = 0) :
    Calls Tryd.prog 8 #[v, .bool was, .int .i64 who] w fun e w' => e = .returned (.bool true) ∧ Below w.heap.size w w' := by
  obtain ⟨Au, cu, rfl, hul⟩ := hv.form
  have HT : Hid (Tab w) := ht
  have HU : Hid (Bls anyB w (.slice Au l.length cu) l) := hv
  have HL : Hid (l.length ≤ 40) := hl
  clear ht hv
  have hl' : ¬ (40 : Int) < l.length := by omega
  obtain ⟨R0, hR0⟩ : ∃ R, runP (oneP 100 (aC l)) 0 (locA was) 0 [] = R := ⟨_, rfl⟩
  have HR0 : Hid (runP (oneP 100 (aC l)) 0 (locA was) 0 [] = R0) := hR0
  clear hR0
  go_enter Tryd.func8, Tryd.ntmps8
  go_wp2_with (go_at_call 22; refine (round_any _ _ _ (by decide) (by decide)).mono ?_; rw [hk]; rintro e w' ⟨rfl, hww⟩; replace hww := hww.symm; subst hww)
  go_loopg [7, 8, 10] l.length (fun g i7 i8 i10 wr => ∃ (j : Nat) (a : Bool), g = l.length - j ∧ j ≤ l.length ∧ i10 = .int .i64 j ∧ i8 = .bool a ∧ Hid (a = aw true was (l.take j)) ∧ Hid (CO w i7 (aC (l.take j)) wr))
  case atStart => exact ⟨0, was, rfl, by omega, rfl, rfl, rfl, CO.nil w⟩
  case round =>
    obtain ⟨j, a, rfl, hj, rfl, rfl, ha, hd⟩ := hrel
    obtain ⟨A, c, rfl⟩ := hd.out.formN j (by rw [aC_len, List.length_take, Nat.min_eq_left hj])
    by_cases hg : j < l.length
    · obtain ⟨b1, o1, b, rfl, hb, q1⟩ := HU.out.cell hd.out.low hg
      have HB : Hid (l[j]? = some b) := hb
      have HS : Hid (aw true was (l.take (j + 1)) = if b then aw true was (l.take j) || true else false) := aw_step hb
      clear hb
      have hlen : (aC (l.take j)).length = j := by rw [aC_len, List.length_take, Nat.min_eq_left hj]
      have HLn : Hid ((aC (l.take j)).length = j) := hlen
      clear hlen
      cases b with
      | true =>
        cases a with
        | true =>
          go_wp2_with (at_builtin; refine appC rfl _ _ rfl [⟨23, 0⟩] wr.heap.size (j + 1) 1 (hd.out.below (bAlloc (bRefl _) _)) rfl rfl rfl (by rw [HLn.out]) (by decide) (heap_new2 rfl) (by rw [HLn.out]; omega) ?_)
          intro g cap w2 hcw hgr
          have HN : Hid (CO w (.slice (some ⟨g, 0, none⟩) (j + 1) cap) (aC (l.take (j + 1))) w2) := by show CO _ _ _ _; rw [← aC_step HB.out]; exact hcw
          clear hcw hgr hd
          go_wp2_with fail
          go_roundg (l.length - (j + 1))
          case measure => omega
          case rel => exact ⟨j + 1, true, rfl, by omega, by go_num, rfl, by show _ = _; rw [HS.out, ← ha.out]; rfl, HN⟩
        | false =>
          go_wp2_with (at_builtin; refine appC rfl _ _ rfl [⟨23, 0⟩] wr.heap.size (j + 1) 1 (hd.out.below (bAlloc (bRefl _) _)) rfl rfl rfl (by rw [HLn.out]) (by decide) (heap_new2 rfl) (by rw [HLn.out]; omega) ?_)
          intro g cap w2 hcw hgr
          have HN : Hid (CO w (.slice (some ⟨g, 0, none⟩) (j + 1) cap) (aC (l.take (j + 1))) w2) := by show CO _ _ _ _; rw [← aC_step HB.out]; exact hcw
          clear hcw hgr hd
          go_wp2_with fail
          go_roundg (l.length - (j + 1))
          case measure => omega
          case rel => exact ⟨j + 1, true, rfl, by omega, by go_num, rfl, by show _ = _; rw [HS.out, ← ha.out]; rfl, HN⟩
      | false =>
        go_wp2_with (at_builtin; refine appC rfl _ _ rfl [⟨24, 0⟩] wr.heap.size (j + 1) 1 (hd.out.below (bAlloc (bRefl _) _)) rfl rfl rfl (by rw [HLn.out]) (by decide) (heap_new2 rfl) (by rw [HLn.out]; omega) ?_)
        intro g cap w2 hcw hgr
        have HN : Hid (CO w (.slice (some ⟨g, 0, none⟩) (j + 1) cap) (aC (l.take (j + 1))) w2) := by show CO _ _ _ _; rw [← aC_step HB.out]; exact hcw
        clear hcw hgr hd
        go_wp2_with fail
        go_roundg (l.length - (j + 1))
        case measure => omega
        case rel => exact ⟨j + 1, false, rfl, by omega, by go_num, rfl, by show _ = _; rw [HS.out]; rfl, HN⟩
    · have e : j = l.length := by omega
      have HA : Hid (a = aw true was l) := by have := ha.out; rw [e, List.take_length] at this; exact this
      have HC0 : Hid (CO w (.slice A j c) (aC l) wr) := by have := hd.out; rw [show l.take j = l by rw [e, List.take_length]] at this; exact this
      clear ha hd hg hj
      have hjl : (j : Int) = l.length := by omega
      clear e
      go_wp2_with fail
      refine (local_any _ 1 2).mono ?_
      rintro e w1 ⟨Al0, rfl, hlv, hb1⟩
      have hl1 : Below w.heap.size w w1 := bTrans HC0.out.low hb1
      go_wp2_with fail
      have L5 : Hid (LB w w1.heap.size (some Al0) was (w1.alloc (.cells #[.slice (some Al0) 2 2, .bool was, .int .i64 0, .int .i64 0, .int .i64 0] 29))) := lb_mk hl1 hlv HT.out
      have C5 : Hid (Code anyB (w1.alloc (.cells #[.slice (some Al0) 2 2, .bool was, .int .i64 0, .int .i64 0, .int .i64 0] 29)) (.slice A j c) (aC l)) := Code.below (HC0.out.cd (by rw [aC_len]; have := HL.out; omega)) (bTrans hb1 (bAlloc (bRefl _) _))
      obtain ⟨bx, hbx⟩ : ∃ bx, bx = w1.heap.size := ⟨_, rfl⟩
      rw [← hbx] at L5 ⊢
      obtain ⟨W, hW⟩ : ∃ W, W = w1.alloc (.cells #[.slice (some Al0) 2 2, .bool was, .int .i64 0, .int .i64 0, .int .i64 0] 29) := ⟨_, rfl⟩
      rw [← hW] at L5 C5 ⊢
      have HC : Hid (Code anyB W (.slice A j c) (aC l)) := C5
      have HV : Hid (LocV anyB W (.agg #[.slice (some Al0) 2 2, .bool was, .int .i64 0, .int .i64 0, .int .i64 0]) (locA was)) := L5.out.lv
      have HT2 : Hid (Tab W) := L5.out.tab
      have HLo : Hid (Below w.heap.size w W) := L5.out.low
      obtain ⟨p0, p1, p2, p3, p4, _⟩ := blk5 L5.out.box
      have hxl : bx < W.heap.size := L5.out.lt
      clear L5 C5 hlv hb1 hl1 hW hbx HC0
      go_cut [12] (fun i2 wc => ∃ b A c An cn, i2 = .pointer (some ⟨b, 0, none⟩) ∧ Hid (RB W b R0 A c An cn wc))
      case first =>
        have hn : ¬ W.heap.size = bx := by omega
        have hn' : ¬ bx = W.heap.size := by omega
        go_region_held3 (fun w' => w'.cell? ⟨bx, 0, none⟩ = some (.slice (some Al0) 2 2) ∧ w'.cell? ⟨bx, 1, none⟩ = some (.bool was) ∧ w'.cell? ⟨bx, 2, none⟩ = some (.int .i64 0) ∧ w'.cell? ⟨bx, 3, none⟩ = some (.int .i64 0) ∧ w'.cell? ⟨bx, 4, none⟩ = some (.int .i64 0)) (go_keep)
          (first
            | (go_at_call 18; refine (mk1_any anyB W.drew 100 _ (aC l) (by exact HC.out.below (bRefl W).drew)).mono ?_; rintro e w2 ⟨v1, c1, v2, c2, rfl, hp2, hb2⟩; have hbl : Below W.heap.size W w2 := undrew hb2; have hs2 := hbl.size; have hm : ¬ w2.heap.size = bx := (by omega); have hm' : ¬ bx = w2.heap.size := (by omega); have z0 := (hbl.cell (p := ⟨bx, 0, none⟩) hxl).trans p0; have z1 := (hbl.cell (p := ⟨bx, 1, none⟩) hxl).trans p1; have z2 := (hbl.cell (p := ⟨bx, 2, none⟩) hxl).trans p2; have z3 := (hbl.cell (p := ⟨bx, 3, none⟩) hxl).trans p3; have z4 := (hbl.cell (p := ⟨bx, 4, none⟩) hxl).trans p4)
            | (go_at_call 18; refine (mk1_any anyB (W.alloc (.cells #[.slice none 0 0, .bool false, .int .i64 0, .int .i64 0, .int .i64 0, .slice none 0 0, .int .i64 0] 35)).drew 100 _ (aC l) (by exact HC.out.below (bAlloc (bRefl W) _).drew)).mono ?_; rintro e w2 ⟨v1, c1, v2, c2, rfl, hp2, hb2⟩; have hbl : Below W.heap.size W w2 := bTrans (bAlloc (bRefl W) _).drew hb2; have hzz : w2.heap[W.heap.size]? = some (.cells #[.slice none 0 0, .bool false, .int .i64 0, .int .i64 0, .int .i64 0, .slice none 0 0, .int .i64 0] 35) := (hb2.block _ (by simp)).trans (heap_new W _); have hs2 := hb2.size; (try simp at hs2); obtain ⟨y0, y1, y2, y3, y4, y5, y6, yf⟩ := blk7 hzz; have yz : W.heap.size < w2.heap.size := (by omega); have z0 := (hbl.cell (p := ⟨bx, 0, none⟩) hxl).trans p0; have z1 := (hbl.cell (p := ⟨bx, 1, none⟩) hxl).trans p1; have z2 := (hbl.cell (p := ⟨bx, 2, none⟩) hxl).trans p2; have z3 := (hbl.cell (p := ⟨bx, 3, none⟩) hxl).trans p3; have z4 := (hbl.cell (p := ⟨bx, 4, none⟩) hxl).trans p4)
            | (go_at_call 16; refine (run_is _ w2 _ _ (oneP 100 (aC l)) 0 (locA was) R0 HR0.out (HT2.out.below hbl) hp2 (HV.out.below hbl)).mono ?_; rintro e w3 ⟨A3, d3, B3, g3, rfl, i1, i2, hb3⟩; have hbr : Below W.heap.size W w3 := bTrans hbl hb3; have hs3 := hb3.size; have z0 := (hbr.cell (p := ⟨bx, 0, none⟩) hxl).trans p0; have z1 := (hbr.cell (p := ⟨bx, 1, none⟩) hxl).trans p1; have z2 := (hbr.cell (p := ⟨bx, 2, none⟩) hxl).trans p2; have z3 := (hbr.cell (p := ⟨bx, 3, none⟩) hxl).trans p3; have z4 := (hbr.cell (p := ⟨bx, 4, none⟩) hxl).trans p4; have hy7 := bcell hb3; have hf7 : ∀ b o, b < w2.heap.size → w3.frozen? ⟨b, o, none⟩ = w2.frozen? ⟨b, o, none⟩ := (fun b o h => World.frozen?_of_block (hb3.block b h)); have hm3 : ¬ w3.heap.size = bx := (by omega); have hm3' : ¬ bx = w3.heap.size := (by omega))
            | (go_at_call 16; refine (run_is _ (w2.alloc (.cells #[.slice none 0 0, .bool false, .int .i64 0, .int .i64 0, .int .i64 0, .slice none 0 0, .int .i64 0] 35)) _ _ (oneP 100 (aC l)) 0 (locA was) R0 HR0.out (HT2.out.below (bAlloc hbl _)) (hp2.below (bAlloc (bRefl _) _)) (HV.out.below (bAlloc hbl _))).mono ?_; rintro e w3 ⟨A3, d3, B3, g3, rfl, i1, i2, hb3⟩; have hbr : Below W.heap.size W w3 := bTrans (bAlloc hbl _) hb3; have hbls := hbl.size; have hlt2 : w2.heap.size < (w2.alloc (.cells #[.slice none 0 0, .bool false, .int .i64 0, .int .i64 0, .int .i64 0, .slice none 0 0, .int .i64 0] 35)).heap.size := (by simp); have hs3 := hb3.size; (try simp at hs3); have hzz : w3.heap[w2.heap.size]? = some (.cells #[.slice none 0 0, .bool false, .int .i64 0, .int .i64 0, .int .i64 0, .slice none 0 0, .int .i64 0] 35) := (hb3.block _ (by simp)).trans (heap_new w2 _); obtain ⟨y0, y1, y2, y3, y4, y5, y6, yf⟩ := blk7 hzz; have z0 := (hbr.cell (p := ⟨bx, 0, none⟩) hxl).trans p0; have z1 := (hbr.cell (p := ⟨bx, 1, none⟩) hxl).trans p1; have z2 := (hbr.cell (p := ⟨bx, 2, none⟩) hxl).trans p2; have z3 := (hbr.cell (p := ⟨bx, 3, none⟩) hxl).trans p3; have z4 := (hbr.cell (p := ⟨bx, 4, none⟩) hxl).trans p4))
        all_goals (go_wp2_with fail; go_meet)
        all_goals first
          | with_reducible exact ⟨_, _, _, _, _, rfl, hid_mk (rb_c hbr i1 i2)⟩
          | with_reducible exact ⟨_, _, _, _, _, rfl, hid_mk (rb_a hbr (Nat.le_refl _) yz ((hb3.block _ yz).trans hzz) i1 i2)⟩
          | with_reducible exact ⟨_, _, _, _, _, rfl, hid_mk (rb_a hbr hbls hlt2 hzz i1 i2)⟩
      case rest =>
        obtain ⟨b2, A2, d2, B2, g2, rfl, hR⟩ := hcut
        have T2 : Hid (Tab wc) := HT2.out.below hR.out.low
        have L2 : Hid (Below w.heap.size w wc) := bTrans HLo.out hR.out.low
        clear p0 p1 p2 p3 p4
        obtain rfl : R0 = raE true was l := HR0.out.symm.trans (eaE HL.out (by decide) rfl)
        obtain ⟨_, f1, f2, _, _, _, f6, _⟩ := blk7 hR.out.box
        have F1 : wc.cell? ⟨b2, 1, none⟩ = some (.bool a) := by rw [HA.out]; exact f1
        have F2 : wc.cell? ⟨b2, 2, none⟩ = some (.int .i64 0) := f2
        have F6 : wc.cell? ⟨b2, 6, none⟩ = some (.int .i64 (l.length : Int)) := f6
        clear f1 f2 f6 hR HR0
        go_wp2_with (go_at_call 12; refine (awake_any _ T2.out).mono ?_; rintro e w9 ⟨rfl, hb9⟩)
        go_ret
        exact ⟨rfl, bTrans L2.out hb9⟩
set_option maxHeartbeats 4000000 in
set_option maxRecDepth 100000 in
theorem arms_in1 (w : World) (v : Value) (was : Bool) (who : Int) (l : List Bool) (ht : Tab w) (hv : Bls anyB w v l) (hl : l.length ≤ 40) (hk : rnd who 2 = 1) :
    Calls Tryd.prog 8 #[v, .bool was, .int .i64 who] w fun e w' => e = .returned (.bool true) ∧ Below w.heap.size w w' := by
  obtain ⟨Au, cu, rfl, hul⟩ := hv.form
  have HT : Hid (Tab w) := ht
  have HU : Hid (Bls anyB w (.slice Au l.length cu) l) := hv
  have HL : Hid (l.length ≤ 40) := hl
  clear ht hv
  have hl' : ¬ (40 : Int) < l.length := by omega
  obtain ⟨R0, hR0⟩ : ∃ R, runP (oneP 100 (aC l)) 1 (locA was) 0 [] = R := ⟨_, rfl⟩
  have HR0 : Hid (runP (oneP 100 (aC l)) 1 (locA was) 0 [] = R0) := hR0
  clear hR0
  go_enter Tryd.func8, Tryd.ntmps8
  go_wp2_with (go_at_call 22; refine (round_any _ _ _ (by decide) (by decide)).mono ?_; rw [hk]; rintro e w' ⟨rfl, hww⟩; replace hww := hww.symm; subst hww)
  go_loopg [7, 8, 10] l.length (fun g i7 i8 i10 wr => ∃ (j : Nat) (a : Bool), g = l.length - j ∧ j ≤ l.length ∧ i10 = .int .i64 j ∧ i8 = .bool a ∧ Hid (a = aw false was (l.take j)) ∧ Hid (CO w i7 (aC (l.take j)) wr))
  case atStart => exact ⟨0, was, rfl, by omega, rfl, rfl, rfl, CO.nil w⟩
  case round =>
    obtain ⟨j, a, rfl, hj, rfl, rfl, ha, hd⟩ := hrel
    obtain ⟨A, c, rfl⟩ := hd.out.formN j (by rw [aC_len, List.length_take, Nat.min_eq_left hj])
    by_cases hg : j < l.length
    · obtain ⟨b1, o1, b, rfl, hb, q1⟩ := HU.out.cell hd.out.low hg
      have HB : Hid (l[j]? = some b) := hb
      have HS : Hid (aw false was (l.take (j + 1)) = if b then aw false was (l.take j) || false else false) := aw_step hb
      clear hb
      have hlen : (aC (l.take j)).length = j := by rw [aC_len, List.length_take, Nat.min_eq_left hj]
      have HLn : Hid ((aC (l.take j)).length = j) := hlen
      clear hlen
      cases b with
      | true =>
        cases a with
        | true =>
          go_wp2_with (at_builtin; refine appC rfl _ _ rfl [⟨23, 0⟩] wr.heap.size (j + 1) 1 (hd.out.below (bAlloc (bRefl _) _)) rfl rfl rfl (by rw [HLn.out]) (by decide) (heap_new2 rfl) (by rw [HLn.out]; omega) ?_)
          intro g cap w2 hcw hgr
          have HN : Hid (CO w (.slice (some ⟨g, 0, none⟩) (j + 1) cap) (aC (l.take (j + 1))) w2) := by show CO _ _ _ _; rw [← aC_step HB.out]; exact hcw
          clear hcw hgr hd
          go_wp2_with fail
          go_roundg (l.length - (j + 1))
          case measure => omega
          case rel => exact ⟨j + 1, true, rfl, by omega, by go_num, rfl, by show _ = _; rw [HS.out, ← ha.out]; rfl, HN⟩
        | false =>
          go_wp2_with (at_builtin; refine appC rfl _ _ rfl [⟨23, 0⟩] wr.heap.size (j + 1) 1 (hd.out.below (bAlloc (bRefl _) _)) rfl rfl rfl (by rw [HLn.out]) (by decide) (heap_new2 rfl) (by rw [HLn.out]; omega) ?_)
          intro g cap w2 hcw hgr
          have HN : Hid (CO w (.slice (some ⟨g, 0, none⟩) (j + 1) cap) (aC (l.take (j + 1))) w2) := by show CO _ _ _ _; rw [← aC_step HB.out]; exact hcw
          clear hcw hgr hd
          go_wp2_with fail
          go_roundg (l.length - (j + 1))
          case measure => omega
          case rel => exact ⟨j + 1, false, rfl, by omega, by go_num, rfl, by show _ = _; rw [HS.out, ← ha.out]; rfl, HN⟩
      | false =>
        go_wp2_with (at_builtin; refine appC rfl _ _ rfl [⟨24, 0⟩] wr.heap.size (j + 1) 1 (hd.out.below (bAlloc (bRefl _) _)) rfl rfl rfl (by rw [HLn.out]) (by decide) (heap_new2 rfl) (by rw [HLn.out]; omega) ?_)
        intro g cap w2 hcw hgr
        have HN : Hid (CO w (.slice (some ⟨g, 0, none⟩) (j + 1) cap) (aC (l.take (j + 1))) w2) := by show CO _ _ _ _; rw [← aC_step HB.out]; exact hcw
        clear hcw hgr hd
        go_wp2_with fail
        go_roundg (l.length - (j + 1))
        case measure => omega
        case rel => exact ⟨j + 1, false, rfl, by omega, by go_num, rfl, by show _ = _; rw [HS.out]; rfl, HN⟩
    · have e : j = l.length := by omega
      have HA : Hid (a = aw false was l) := by have := ha.out; rw [e, List.take_length] at this; exact this
      have HC0 : Hid (CO w (.slice A j c) (aC l) wr) := by have := hd.out; rw [show l.take j = l by rw [e, List.take_length]] at this; exact this
      clear ha hd hg hj
      have hjl : (j : Int) = l.length := by omega
      clear e
      go_wp2_with fail
      refine (local_any _ 1 2).mono ?_
      rintro e w1 ⟨Al0, rfl, hlv, hb1⟩
      have hl1 : Below w.heap.size w w1 := bTrans HC0.out.low hb1
      go_wp2_with fail
      have L5 : Hid (LB w w1.heap.size (some Al0) was (w1.alloc (.cells #[.slice (some Al0) 2 2, .bool was, .int .i64 0, .int .i64 0, .int .i64 0] 29))) := lb_mk hl1 hlv HT.out
      have C5 : Hid (Code anyB (w1.alloc (.cells #[.slice (some Al0) 2 2, .bool was, .int .i64 0, .int .i64 0, .int .i64 0] 29)) (.slice A j c) (aC l)) := Code.below (HC0.out.cd (by rw [aC_len]; have := HL.out; omega)) (bTrans hb1 (bAlloc (bRefl _) _))
      obtain ⟨bx, hbx⟩ : ∃ bx, bx = w1.heap.size := ⟨_, rfl⟩
      rw [← hbx] at L5 ⊢
      obtain ⟨W, hW⟩ : ∃ W, W = w1.alloc (.cells #[.slice (some Al0) 2 2, .bool was, .int .i64 0, .int .i64 0, .int .i64 0] 29) := ⟨_, rfl⟩
      rw [← hW] at L5 C5 ⊢
      have HC : Hid (Code anyB W (.slice A j c) (aC l)) := C5
      have HV : Hid (LocV anyB W (.agg #[.slice (some Al0) 2 2, .bool was, .int .i64 0, .int .i64 0, .int .i64 0]) (locA was)) := L5.out.lv
      have HT2 : Hid (Tab W) := L5.out.tab
      have HLo : Hid (Below w.heap.size w W) := L5.out.low
      obtain ⟨p0, p1, p2, p3, p4, _⟩ := blk5 L5.out.box
      have hxl : bx < W.heap.size := L5.out.lt
      clear L5 C5 hlv hb1 hl1 hW hbx HC0
      go_cut [12] (fun i2 wc => ∃ b A c An cn, i2 = .pointer (some ⟨b, 0, none⟩) ∧ Hid (RB W b R0 A c An cn wc))
      case first =>
        have hn : ¬ W.heap.size = bx := by omega
        have hn' : ¬ bx = W.heap.size := by omega
        go_region_held3 (fun w' => w'.cell? ⟨bx, 0, none⟩ = some (.slice (some Al0) 2 2) ∧ w'.cell? ⟨bx, 1, none⟩ = some (.bool was) ∧ w'.cell? ⟨bx, 2, none⟩ = some (.int .i64 0) ∧ w'.cell? ⟨bx, 3, none⟩ = some (.int .i64 0) ∧ w'.cell? ⟨bx, 4, none⟩ = some (.int .i64 0)) (go_keep)
          (first
            | (go_at_call 18; refine (mk1_any anyB W.drew 100 _ (aC l) (by exact HC.out.below (bRefl W).drew)).mono ?_; rintro e w2 ⟨v1, c1, v2, c2, rfl, hp2, hb2⟩; have hbl : Below W.heap.size W w2 := undrew hb2; have hs2 := hbl.size; have hm : ¬ w2.heap.size = bx := (by omega); have hm' : ¬ bx = w2.heap.size := (by omega); have z0 := (hbl.cell (p := ⟨bx, 0, none⟩) hxl).trans p0; have z1 := (hbl.cell (p := ⟨bx, 1, none⟩) hxl).trans p1; have z2 := (hbl.cell (p := ⟨bx, 2, none⟩) hxl).trans p2; have z3 := (hbl.cell (p := ⟨bx, 3, none⟩) hxl).trans p3; have z4 := (hbl.cell (p := ⟨bx, 4, none⟩) hxl).trans p4)
            | (go_at_call 18; refine (mk1_any anyB (W.alloc (.cells #[.slice none 0 0, .bool false, .int .i64 0, .int .i64 0, .int .i64 0, .slice none 0 0, .int .i64 0] 35)).drew 100 _ (aC l) (by exact HC.out.below (bAlloc (bRefl W) _).drew)).mono ?_; rintro e w2 ⟨v1, c1, v2, c2, rfl, hp2, hb2⟩; have hbl : Below W.heap.size W w2 := bTrans (bAlloc (bRefl W) _).drew hb2; have hzz : w2.heap[W.heap.size]? = some (.cells #[.slice none 0 0, .bool false, .int .i64 0, .int .i64 0, .int .i64 0, .slice none 0 0, .int .i64 0] 35) := (hb2.block _ (by simp)).trans (heap_new W _); have hs2 := hb2.size; (try simp at hs2); obtain ⟨y0, y1, y2, y3, y4, y5, y6, yf⟩ := blk7 hzz; have yz : W.heap.size < w2.heap.size := (by omega); have z0 := (hbl.cell (p := ⟨bx, 0, none⟩) hxl).trans p0; have z1 := (hbl.cell (p := ⟨bx, 1, none⟩) hxl).trans p1; have z2 := (hbl.cell (p := ⟨bx, 2, none⟩) hxl).trans p2; have z3 := (hbl.cell (p := ⟨bx, 3, none⟩) hxl).trans p3; have z4 := (hbl.cell (p := ⟨bx, 4, none⟩) hxl).trans p4)
            | (go_at_call 16; refine (run_is _ w2 _ _ (oneP 100 (aC l)) 1 (locA was) R0 HR0.out (HT2.out.below hbl) hp2 (HV.out.below hbl)).mono ?_; rintro e w3 ⟨A3, d3, B3, g3, rfl, i1, i2, hb3⟩; have hbr : Below W.heap.size W w3 := bTrans hbl hb3; have hs3 := hb3.size; have z0 := (hbr.cell (p := ⟨bx, 0, none⟩) hxl).trans p0; have z1 := (hbr.cell (p := ⟨bx, 1, none⟩) hxl).trans p1; have z2 := (hbr.cell (p := ⟨bx, 2, none⟩) hxl).trans p2; have z3 := (hbr.cell (p := ⟨bx, 3, none⟩) hxl).trans p3; have z4 := (hbr.cell (p := ⟨bx, 4, none⟩) hxl).trans p4; have hy7 := bcell hb3; have hf7 : ∀ b o, b < w2.heap.size → w3.frozen? ⟨b, o, none⟩ = w2.frozen? ⟨b, o, none⟩ := (fun b o h => World.frozen?_of_block (hb3.block b h)); have hm3 : ¬ w3.heap.size = bx := (by omega); have hm3' : ¬ bx = w3.heap.size := (by omega))
            | (go_at_call 16; refine (run_is _ (w2.alloc (.cells #[.slice none 0 0, .bool false, .int .i64 0, .int .i64 0, .int .i64 0, .slice none 0 0, .int .i64 0] 35)) _ _ (oneP 100 (aC l)) 1 (locA was) R0 HR0.out (HT2.out.below (bAlloc hbl _)) (hp2.below (bAlloc (bRefl _) _)) (HV.out.below (bAlloc hbl _))).mono ?_; rintro e w3 ⟨A3, d3, B3, g3, rfl, i1, i2, hb3⟩; have hbr : Below W.heap.size W w3 := bTrans (bAlloc hbl _) hb3; have hbls := hbl.size; have hlt2 : w2.heap.size < (w2.alloc (.cells #[.slice none 0 0, .bool false, .int .i64 0, .int .i64 0, .int .i64 0, .slice none 0 0, .int .i64 0] 35)).heap.size := (by simp); have hs3 := hb3.size; (try simp at hs3); have hzz : w3.heap[w2.heap.size]? = some (.cells #[.slice none 0 0, .bool false, .int .i64 0, .int .i64 0, .int .i64 0, .slice none 0 0, .int .i64 0] 35) := (hb3.block _ (by simp)).trans (heap_new w2 _); obtain ⟨y0, y1, y2, y3, y4, y5, y6, yf⟩ := blk7 hzz; have z0 := (hbr.cell (p := ⟨bx, 0, none⟩) hxl).trans p0; have z1 := (hbr.cell (p := ⟨bx, 1, none⟩) hxl).trans p1; have z2 := (hbr.cell (p := ⟨bx, 2, none⟩) hxl).trans p2; have z3 := (hbr.cell (p := ⟨bx, 3, none⟩) hxl).trans p3; have z4 := (hbr.cell (p := ⟨bx, 4, none⟩) hxl).trans p4))
        all_goals (go_wp2_with fail; go_meet)
        all_goals first
          | with_reducible exact ⟨_, _, _, _, _, rfl, hid_mk (rb_c hbr i1 i2)⟩
          | with_reducible exact ⟨_, _, _, _, _, rfl, hid_mk (rb_a hbr (Nat.le_refl _) yz ((hb3.block _ yz).trans hzz) i1 i2)⟩
          | with_reducible exact ⟨_, _, _, _, _, rfl, hid_mk (rb_a hbr hbls hlt2 hzz i1 i2)⟩
      case rest =>
        obtain ⟨b2, A2, d2, B2, g2, rfl, hR⟩ := hcut
        have T2 : Hid (Tab wc) := HT2.out.below hR.out.low
        have L2 : Hid (Below w.heap.size w wc) := bTrans HLo.out hR.out.low
        clear p0 p1 p2 p3 p4
        obtain rfl : R0 = raE false was l := HR0.out.symm.trans (eaE HL.out (by decide) rfl)
        obtain ⟨_, f1, f2, _, _, _, f6, _⟩ := blk7 hR.out.box
        have F1 : wc.cell? ⟨b2, 1, none⟩ = some (.bool a) := by rw [HA.out]; exact f1
        have F2 : wc.cell? ⟨b2, 2, none⟩ = some (.int .i64 0) := f2
        have F6 : wc.cell? ⟨b2, 6, none⟩ = some (.int .i64 (l.length : Int)) := f6
        clear f1 f2 f6 hR HR0
        go_wp2_with (go_at_call 12; refine (awake_any _ T2.out).mono ?_; rintro e w9 ⟨rfl, hb9⟩)
        go_ret
        exact ⟨rfl, bTrans L2.out hb9⟩
theorem arms_any (w : World) (v : Value) (was : Bool) (who : Int) (l : List Bool) (ht : Tab w) (hv : Bls anyB w v l) :
    Calls Tryd.prog 8 #[v, .bool was, .int .i64 who] w fun e w' => e = .returned (.bool true) ∧ Below w.heap.size w w' := by
  by_cases hl : 40 < l.length
  · exact arms_out w v was who l ht hv hl
  · obtain ⟨h1, h2⟩ := rnd_bd who (n := 2) (by decide)
    rcases (by omega : rnd who 2 = 0 ∨ rnd who 2 = 1) with h | h
    · exact arms_in0 w v was who l ht hv (by omega) h
    · exact arms_in1 w v was who l ht hv (by omega) h
end Go.Proofs.YtpcffhhednplaaaDoor
