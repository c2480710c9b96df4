/-
 The reference's CheckWorld of chapter 9, where a message may not be. No conditions.
-/
import Derived.Test.YtgdloonpemaijaaDoorCl
namespace Go.Proofs.YtgdloonpemaijaaDoor
open Go.RowKit
theorem chkW_m {p : PPrg} {x : PWld} {i : Nat} {m : PMsg} (hm : x.mail[i]? = some m) (h : chkNt p m.nt = false ∨ chkD x m.id = false) : false = chkW p x := by
 have : chkM p x = false := by
  unfold chkM
  rw [Bool.and_eq_false_iff]
  left
  rw [Bool.eq_false_iff]
  intro ha
  have := List.all_eq_true.1 ha m (List.mem_of_getElem? hm)
  rw [Bool.and_eq_true] at this
  rcases h with h | h
  ·rw [h] at this; cases this.1
  ·rw [h] at this; cases this.2
 unfold chkW; rw [this]; simp
theorem chkN_no {p : PPrg} {n : PNte} (h : chkN p.acs.length p.hs n ≠ 0) : chkNt p n = false := by
 rw [Bool.eq_false_iff]
 intro hc
 unfold chkNt at hc
 simp only [Bool.and_eq_true] at hc
 have t1 := inB_iff.1 hc.1
 have t2 := inB_iff.1 hc.2.1
 have t3 : (n.args.length : Int) = argsOf p.hs n.hd := by have := hc.2.2; simpa using this
 apply h
 unfold chkN
 rw [if_pos ⟨⟨by omega, by omega⟩, by omega, by omega⟩, if_pos t3]
theorem chkN_yes {p : PPrg} {n : PNte} (h : chkN p.acs.length p.hs n = 0) : chkNt p n = true := by
 unfold chkN at h
 by_cases e : (0 ≤ n.to ∧ n.to < (p.acs.length : Int)) ∧ (0 ≤ n.hd ∧ n.hd < (p.hs.length : Int))
 ·rw [if_pos e] at h
  by_cases e2 : (n.args.length : Int) = argsOf p.hs n.hd
  ·unfold chkNt
   rw [in_yes (by omega), in_yes (by omega)]
   simp [e2]
  ·rw [if_neg e2] at h; cases h
 ·rw [if_neg e] at h; cases h
theorem cd_6 {x : PWld} {d : PID} (h : d.f = -1) (hn : 16 ≤ d.n) : chkD x d = false := by
 unfold chkD
 have hs : sentP x d.f = 16 := by unfold sentP; rw [if_pos h]
 rw [hs, show wrap64 (16 - 1) = 15 from IntWalk.wrap64_in _ ⟨by omega, by omega⟩, in_no2 (n := d.n) (by omega)]; simp
theorem cd_7 {x : PWld} {d : PID} {s : Int} (hs : sentP x d.f = s) (hb : 0 ≤ s ∧ s ≤ 2199023255551) (hn : s ≤ d.n) : chkD x d = false := by
 unfold chkD
 rw [hs, IntWalk.wrap64_in _ ⟨by omega, by omega⟩, in_no2 (n := d.n) (by omega)]; simp
theorem cd_ok1 {x : PWld} {d : PID} (h : d.f = -1) (hn : 0 ≤ d.n ∧ d.n < 16) (hc : 0 ≤ d.c) (hd : d.c ≤ x.used.dup) : chkD x d = true := by
 unfold chkD
 have hs : sentP x d.f = 16 := by unfold sentP; rw [if_pos h]
 rw [hs, show wrap64 (16 - 1) = 15 from IntWalk.wrap64_in _ ⟨by omega, by omega⟩, in_yes (n := d.f) (by omega), in_yes (n := d.n) (by omega), in_yes (n := d.c) (by omega)]; rfl
theorem cd_ok2 {x : PWld} {d : PID} {s : Int} (h0 : 0 ≤ d.f) (h1 : d.f < x.acts.length) (hs : sentP x d.f = s) (hb : 0 ≤ s ∧ s ≤ 2199023255551) (hn0 : 0 ≤ d.n) (hn : d.n < s) (hc : 0 ≤ d.c) (hd : d.c ≤ x.used.dup) : chkD x d = true := by
 unfold chkD
 rw [hs, IntWalk.wrap64_in _ ⟨by omega, by omega⟩, in_yes (n := d.f) (by omega), in_yes (n := d.n) (by omega), in_yes (n := d.c) (by omega)]; rfl
theorem chkW_u {p : PPrg} {x : PWld} (hf : fc p = 0) (hl : x.acts.length = p.acs.length) (ha : ∀ (j : Nat) (l : PLoc) (a : PAct), x.acts[j]? = some l → p.acs[j]? = some a → chkLoc a l = true) (hm : ∀ (j : Nat) (m : PMsg), x.mail[j]? = some m → chkNt p m.nt = true ∧ chkD x m.id = true) (hs : srt x.mail = true) : chkUsed x.used = chkW p x := by
 have h1 : chkAs p x.acts = true := by
  unfold chkAs
  refine decide_eq_true ⟨hl, fun i hi => ?_⟩
  obtain ⟨y, hy⟩ := at_lt hi
  obtain ⟨a, haa⟩ := at_lt (l := p.acs) (k := i) (by rw [← hl]; exact hi)
  rw [List.getD_eq_getElem?_getD, List.getD_eq_getElem?_getD, hy, haa]
  exact ha i y a hy haa
 have h2 : chkM p x = true := by
  unfold chkM
  rw [hs, Bool.and_true, List.all_eq_true]
  intro m hmm
  obtain ⟨j, hj⟩ := List.getElem?_of_mem hmm
  obtain ⟨h3, h4⟩ := hm j m hj
  rw [h3, h4]; rfl
 unfold chkW
 rw [h1, h2, hf]
 simp
theorem cd_1 {x : PWld} {d : PID} (h : d.f < -1) : chkD x d = false := by unfold chkD; rw [in_no2 (n := d.f) (by omega)]; rfl
theorem cd_2 {x : PWld} {d : PID} (h : (x.acts.length : Int) ≤ d.f) : chkD x d = false := by unfold chkD; rw [in_no2 (n := d.f) (by omega)]; rfl
theorem cd_3 {x : PWld} {d : PID} (h : d.n < 0) : chkD x d = false := by unfold chkD; rw [in_no2 (n := d.n) (by omega)]; simp
theorem cd_4 {x : PWld} {d : PID} (h : d.c < 0) : chkD x d = false := by unfold chkD; rw [in_no2 (n := d.c) (by omega)]; simp
theorem cd_5 {x : PWld} {d : PID} (h : x.used.dup < d.c) : chkD x d = false := by unfold chkD; rw [in_no2 (n := d.c) (by omega)]; simp
set_option maxHeartbeats 16000000 in
set_option maxRecDepth 100000 in
theorem rcw_m (w : World) (vp vw : Value) (p : PPrg) (x : PWld) (hp : PrgV w vp p) (hx : WldV w vw x) (hf : fc p = 0) (hl : x.acts.length = p.acs.length) (hs : srt x.mail = true) (hgood : ∀ (j : Nat) (l : PLoc) (a : PAct), x.acts[j]? = some l → p.acs[j]? = some a → chkLoc a l = true) (hbad : ∃ (j : Nat) (m : PMsg), x.mail[j]? = some m ∧ (chkNt p m.nt = false ∨ chkD x m.id = false)) :
  Calls Tryd.prog 75 #[vp, vw] w fun e w' => e = .returned (.bool (chkW p x)) ∧ Below w.heap.size w w' := by
 have HP := hid_mk hp
 have HX := hid_mk hx
 obtain ⟨vh, vb, vc, rfl, h1, h2, h3⟩ := hp
 obtain ⟨A1, c1, rfl, _⟩ := h1.form
 obtain ⟨A2, c2, rfl, _⟩ := h2.form
 obtain ⟨A3, c3, rfl, _⟩ := h3.form
 obtain ⟨va, vm, rfl, g1, g2⟩ := hx
 obtain ⟨B1, d1, rfl, _⟩ := g1.form
 obtain ⟨B2, d2, rfl, _⟩ := g2.form
 have HG1 := hid_mk g1
 have HG2 := hid_mk g2
 have HH2 := hid_mk h2
 have hl' : ((x.acts.length : Int) != (p.acs.length : Int)) = false := lt_eq hl
 have HLEN := hid_mk hl
 have HBAD := hid_mk hbad
 have HGOOD := hid_mk hgood
 clear hl hbad hgood
 clear h1 h2 h3 g1 g2
 go_enter Tryd.func75, Tryd.ntmps75
 go_wp2_with fail
 have k0 : ((w.alloc (.cells #[.slice A1 p.hs.length c1, .slice A2 p.acs.length c2, .slice A3 p.bs.length c3, .int .i64 p.fuel] 26)).alloc (.cells #[.slice B1 x.acts.length d1, .slice B2 x.mail.length d2, .int .i64 x.used.drop, .int .i64 x.used.dup, .int .i64 x.used.time, .int .i64 x.used.crash] 44)).heap[w.heap.size]? = some (.cells #[.slice A1 p.hs.length c1, .slice A2 p.acs.length c2, .slice A3 p.bs.length c3, .int .i64 p.fuel] 26) := boxAt (heap_new w (.cells #[.slice A1 p.hs.length c1, .slice A2 p.acs.length c2, .slice A3 p.bs.length c3, .int .i64 p.fuel] 26)) (bAlloc (bRefl _) _)
 have k1 : ((w.alloc (.cells #[.slice A1 p.hs.length c1, .slice A2 p.acs.length c2, .slice A3 p.bs.length c3, .int .i64 p.fuel] 26)).alloc (.cells #[.slice B1 x.acts.length d1, .slice B2 x.mail.length d2, .int .i64 x.used.drop, .int .i64 x.used.dup, .int .i64 x.used.time, .int .i64 x.used.crash] 44)).heap[w.heap.size + 1]? = some (.cells #[.slice B1 x.acts.length d1, .slice B2 x.mail.length d2, .int .i64 x.used.drop, .int .i64 x.used.dup, .int .i64 x.used.time, .int .i64 x.used.crash] 44) := heap_new2 (by simp)
 have HL : Hid (Below w.heap.size w ((w.alloc (.cells #[.slice A1 p.hs.length c1, .slice A2 p.acs.length c2, .slice A3 p.bs.length c3, .int .i64 p.fuel] 26)).alloc (.cells #[.slice B1 x.acts.length d1, .slice B2 x.mail.length d2, .int .i64 x.used.drop, .int .i64 x.used.dup, .int .i64 x.used.time, .int .i64 x.used.crash] 44))) := bAlloc (bAlloc (bRefl _) _) _
 generalize ((w.alloc (.cells #[.slice A1 p.hs.length c1, .slice A2 p.acs.length c2, .slice A3 p.bs.length c3, .int .i64 p.fuel] 26)).alloc (.cells #[.slice B1 x.acts.length d1, .slice B2 x.mail.length d2, .int .i64 x.used.drop, .int .i64 x.used.dup, .int .i64 x.used.time, .int .i64 x.used.crash] 44)) = w1 at k0 k1 HL ⊢
 refine (rflow_any _ _ p (HP.out.below HL.out)).mono ?_
 rintro e w2 ⟨rfl, hb2⟩
 replace k0 := boxAt k0 hb2
 replace k1 := boxAt k1 hb2
 have HL2 := hid_mk (bTrans HL.out hb2)
 clear hb2 HL
 obtain ⟨p0, p1, p2, p3⟩ := blk4 k0
 obtain ⟨x0, x1, x2, x3, x4, x5⟩ := blk6 k1
 go_wp2_with fail
 refine (rsorted_any _ _ x.mail (HG2.out.below HL2.out)).mono ?_
 rintro e w3 ⟨rfl, hb3⟩
 replace k0 := boxAt k0 hb3
 replace k1 := boxAt k1 hb3
 have HL3 := hid_mk (bTrans HL2.out hb3)
 clear hb3 HL2 p0 p1 p2 p3 x0 x1 x2 x3 x4 x5
 have K0 := hid_mk k0
 have K1 := hid_mk k1
 clear k0 k1
 obtain ⟨p0, p1, p2, p3⟩ := blk4 K0.out
 obtain ⟨x0, x1, x2, x3, x4, x5⟩ := blk6 K1.out
 go_wp2
 clear p0 p1 p2 p3 x0 x1 x2 x3 x4 x5
 go_loopg [5] x.acts.length (fun g i5 wr => ∃ i : Nat, g = x.acts.length - i ∧ i ≤ x.acts.length ∧ i5 = .int .i64 (i : Int) ∧ Hid (Below w3.heap.size w3 wr) ∧ Hid (∀ j l a, j < i → x.acts[j]? = some l → p.acs[j]? = some a → chkLoc a l = true))
 case atStart => exact ⟨0, rfl, by omega, rfl, bRefl _, fun j l a hj => by omega⟩
 case round =>
  obtain ⟨i, rfl, hi, rfl, hbw, ht⟩ := hrel
  by_cases hlt : i < x.acts.length
  ·obtain ⟨ba, oa, l, vl, rfl, hlx, hz, q1, q2, q3, q4, q5, hv⟩ := HG1.out.cell (bTrans HL3.out hbw.out) hlt
   obtain ⟨A6, c6, rfl, _⟩ := hv.form
   obtain ⟨b2, o2, a, v2, rfl, hax, hz2, r1, r2, r3, r4, hv2⟩ := HH2.out.cell (bTrans HL3.out hbw.out) (k := i) (by have := HLEN.out; omega)
   obtain ⟨A7, c7, rfl, _⟩ := hv2.form
   have y0 := boxAt K0.out hbw.out
   have y1 := boxAt K1.out hbw.out
   obtain ⟨p0, p1, p2, p3⟩ := blk4 y0
   obtain ⟨x0, x1, x2, x3, x4, x5⟩ := blk6 y1
   have z0 := (Array.getElem?_eq_some_iff.1 y0).1
   have z1 := (Array.getElem?_eq_some_iff.1 y1).1
   have hltI : (i : Int) < x.acts.length := by omega
   have hlp : i < p.acs.length := by have := HLEN.out; omega
   have hlpI : (i : Int) < p.acs.length := by omega
   have hi0 : (0 : Int) ≤ i := by omega
   have HLX := hid_mk hlx
   have HAX := hid_mk hax
   clear hv hv2 hlx hax y0 y1
   go_wp2
   have hk6 := heap_new wr (.cells #[.slice A6 l.regs.length c6, .bool l.armed, .int .i64 l.down, .int .i64 l.sent, .int .i64 l.over] 29)
   have hb6 : Below wr.heap.size wr (wr.alloc (.cells #[.slice A6 l.regs.length c6, .bool l.armed, .int .i64 l.down, .int .i64 l.sent, .int .i64 l.over] 29)) := bAlloc (bRefl _) _
   replace p1 := (hb6.cell (p := ⟨w.heap.size, 1, none⟩) z0).trans p1
   replace r1 := (hb6.cell (p := ⟨b2, _, none⟩) hz2).trans r1
   replace r3 := (hb6.cell (p := ⟨b2, _, none⟩) hz2).trans r3
   have HB6 := hid_mk (bTrans hbw.out hb6)
   have HB7 := hid_mk (bTrans (bTrans HL3.out hbw.out) hb6)
   clear p0 p2 p3 x0 x1 x2 x3 x4 x5 q1 q2 q3 q4 q5 r2 r4
   generalize (wr.alloc (.cells #[.slice A6 l.regs.length c6, .bool l.armed, .int .i64 l.down, .int .i64 l.sent, .int .i64 l.over] 29)) = w6 at p1 r1 r3 hk6 HB6 HB7 ⊢
   obtain ⟨l0, l1, l2, l3, l4⟩ := blk5 hk6
   clear hk6 hb6
   by_cases g0 : l.regs.length = a.regs.length
   ·have n0 : ((l.regs.length : Int) != (a.regs.length : Int)) = false := lt_eq g0
    by_cases g1 : l.down < 0
    ·have m0 : decide (l.down < 0) = true := decide_eq_true g1
     exact absurd (HGOOD.out i l a HLX.out HAX.out) (by rw [cl_1 g1]; decide)
    ·have m0 : decide (l.down < 0) = false := decide_eq_false g1
     by_cases g2 : 4 < l.down
     ·have m1 : decide (4 < l.down) = true := decide_eq_true g2
      exact absurd (HGOOD.out i l a HLX.out HAX.out) (by rw [cl_2 g2]; decide)
     ·have m1 : decide (4 < l.down) = false := decide_eq_false g2
      by_cases g3 : l.sent < 0
      ·have m2 : decide (l.sent < 0) = true := decide_eq_true g3
       exact absurd (HGOOD.out i l a HLX.out HAX.out) (by rw [cl_3 g3]; decide)
      ·have m2 : decide (l.sent < 0) = false := decide_eq_false g3
       by_cases g4 : 2199023255552 ≤ l.sent
       ·have m3 : decide (2199023255552 ≤ l.sent) = true := decide_eq_true g4
        exact absurd (HGOOD.out i l a HLX.out HAX.out) (by rw [cl_4 g4]; decide)
       ·have m3 : decide (2199023255552 ≤ l.sent) = false := decide_eq_false g4
        by_cases g5 : l.over < 0
        ·have m4 : decide (l.over < 0) = true := decide_eq_true g5
         exact absurd (HGOOD.out i l a HLX.out HAX.out) (by rw [cl_5 g5]; decide)
        ·have m4 : decide (l.over < 0) = false := decide_eq_false g5
         by_cases g6 : 2199023255552 ≤ l.over
         ·have m5 : decide (2199023255552 ≤ l.over) = true := decide_eq_true g6
          exact absurd (HGOOD.out i l a HLX.out HAX.out) (by rw [cl_6 g6]; decide)
         ·have m5 : decide (2199023255552 ≤ l.over) = false := decide_eq_false g6
          cases g7 : l.armed with
          | false =>
           have HCK : Hid (chkLoc a l = true) := cl_ok g0 g1 g2 g3 g4 g5 g6 (Or.inl g7)
           rw [g7] at l1
           clear g0 g1 g2 g3 g4 g5 g6
           go_quiet (fail)
           go_wp2
           go_roundg (x.acts.length - (i + 1))
           case measure => omega
           case rel => exact ⟨i + 1, rfl, by omega, by first | rfl | go_num, bTrans HB6.out (quiet_below ⟨_, rfl⟩), fun j y b hj hy hb => by
             by_cases ej : j = i
             ·subst ej; have h1 := HLX.out; have h2 := HAX.out; rw [hy] at h1; rw [hb] at h2; cases h1; cases h2; exact HCK.out
             ·exact ht.out j y b (by omega) hy hb⟩
          | true =>
           by_cases g8 : a.timer = -1
           ·have m8 : (a.timer == -1) = true := beq_iff_eq.2 g8
            rw [g7] at l1
            exact absurd (HGOOD.out i l a HLX.out HAX.out) (by rw [cl_7 g7 g8]; decide)
           ·have m8 : (a.timer == -1) = false := beq_eq_false_iff_ne.2 g8
            have HCK : Hid (chkLoc a l = true) := cl_ok g0 g1 g2 g3 g4 g5 g6 (Or.inr g8)
            rw [g7] at l1
            clear g0 g1 g2 g3 g4 g5 g6 g8
            go_quiet (fail)
            go_wp2
            go_roundg (x.acts.length - (i + 1))
            case measure => omega
            case rel => exact ⟨i + 1, rfl, by omega, by first | rfl | go_num, bTrans HB6.out (quiet_below ⟨_, rfl⟩), fun j y b hj hy hb => by
              by_cases ej : j = i
              ·subst ej; have h1 := HLX.out; have h2 := HAX.out; rw [hy] at h1; rw [hb] at h2; cases h1; cases h2; exact HCK.out
              ·exact ht.out j y b (by omega) hy hb⟩
   ·have n0 : ((l.regs.length : Int) != (a.regs.length : Int)) = true := lt_ne g0
    exact absurd (HGOOD.out i l a HLX.out HAX.out) (by rw [cl_0 g0]; decide)
  ·obtain rfl : i = x.acts.length := by omega
   have HAC := hid_mk ht
   have y0 := boxAt K0.out hbw.out
   have y1 := boxAt K1.out hbw.out
   obtain ⟨x0, x1, x2, x3, x4, x5⟩ := blk6 y1
   obtain ⟨wo, hwo⟩ : ∃ wo, wo = wr := ⟨wr, rfl⟩
   subst hwo
   have HBO := hid_mk hbw.out
   clear hbw ht y0
   go_wp2
   clear x0 x1 x2 x3 x4 x5 y1
   go_loopg [7] x.mail.length (fun g i7 wr => ∃ i : Nat, g = x.mail.length - i ∧ i ≤ x.mail.length ∧ i7 = .int .i64 (i : Int) ∧ Hid (Below w3.heap.size w3 wr) ∧ Hid (∀ j m, j < i → x.mail[j]? = some m → chkNt p m.nt = true ∧ chkD x m.id = true))
   case atStart => exact ⟨0, rfl, by omega, rfl, HBO.out, fun j m hj => by omega⟩
   case round =>
    obtain ⟨i, rfl, hi2, rfl, hbw, ht⟩ := hrel
    have y0 := boxAt K0.out hbw.out
    have y1 := boxAt K1.out hbw.out
    obtain ⟨x0, x1, x2, x3, x4, x5⟩ := blk6 y1
    have z0 := (Array.getElem?_eq_some_iff.1 y0).1
    have z1 := (Array.getElem?_eq_some_iff.1 y1).1
    by_cases hlt2 : i < x.mail.length
    ·obtain ⟨bm, om, m, vm2, rfl, hmx, hzm, c0, c1', c2', c3', c4', c5', hvi⟩ := HG2.out.cell (bTrans HL3.out hbw.out) hlt2
     obtain ⟨A6, c6, rfl, _⟩ := hvi.form
     have hltI2 : (i : Int) < x.mail.length := by omega
     have hi0 : (0 : Int) ≤ i := by omega
     have HMX := hid_mk hmx
     have HVI := hid_mk hvi
     have HBr := hid_mk (bTrans HL3.out hbw.out)
     clear hmx hvi
     go_wp2
     have hk6 := heap_new wr (.cells #[.int .i64 m.id.f, .int .i64 m.id.n, .int .i64 m.id.c] 56)
     have hb6 : Below wr.heap.size wr (wr.alloc (.cells #[.int .i64 m.id.f, .int .i64 m.id.n, .int .i64 m.id.c] 56)) := bAlloc (bRefl _) _
     have HY0 := hid_mk (boxAt y0 hb6)
     have HY1 := hid_mk (boxAt y1 hb6)
     have HK6 := hid_mk hk6
     replace c3' := (hb6.cell (p := ⟨bm, _, none⟩) hzm).trans c3'
     replace c4' := (hb6.cell (p := ⟨bm, _, none⟩) hzm).trans c4'
     replace c5' := (hb6.cell (p := ⟨bm, _, none⟩) hzm).trans c5'
     have hzm6 := Nat.lt_of_lt_of_le hzm hb6.size
     have HB6 := hid_mk (bTrans hbw.out hb6)
     have HB7 := hid_mk (bTrans HBr.out hb6)
     have HNT : Hid (NteV (wr.alloc (.cells #[.int .i64 m.id.f, .int .i64 m.id.n, .int .i64 m.id.c] 56)) (.agg #[.int .i64 m.nt.to, .int .i64 m.nt.hd, .slice A6 m.nt.args.length c6]) m.nt) := ⟨_, rfl, HVI.out.below hb6⟩
     have HP6 := hid_mk (HP.out.below HB7.out)
     clear c0 c1' c2' hk6 y0 y1 x0 x1 x2 x3 x4 x5
     generalize (wr.alloc (.cells #[.int .i64 m.id.f, .int .i64 m.id.n, .int .i64 m.id.c] 56)) = w6 at HY0 HY1 HK6 c3' c4' c5' hzm6 HB6 HB7 HNT HP6 ⊢
     clear hb6
     have HS1 : Hid (∀ w', Below w6.heap.size w6 w' → w'.cell? ⟨w.heap.size, 0, none⟩ = some (.slice A1 p.hs.length c1) ∧ w'.cell? ⟨w.heap.size, 1, none⟩ = some (.slice A2 p.acs.length c2) ∧ w'.cell? ⟨w.heap.size, 2, none⟩ = some (.slice A3 p.bs.length c3) ∧ w'.cell? ⟨w.heap.size, 3, none⟩ = some (.int .i64 p.fuel) ∧ w'.cell? ⟨w.heap.size + 1, 0, none⟩ = some (.slice B1 x.acts.length d1) ∧ w'.cell? ⟨w.heap.size + 1, 1, none⟩ = some (.slice (some ⟨bm, om, none⟩) x.mail.length d2) ∧ w'.cell? ⟨w.heap.size + 1, 3, none⟩ = some (.int .i64 x.used.dup) ∧ w'.cell? ⟨bm, om + i * 6 + 3, none⟩ = some (.int .i64 m.nt.to) ∧ w'.cell? ⟨bm, om + i * 6 + 4, none⟩ = some (.int .i64 m.nt.hd) ∧ w'.cell? ⟨bm, om + i * 6 + 5, none⟩ = some (.slice A6 m.nt.args.length c6) ∧ w'.cell? ⟨wr.heap.size, 0, none⟩ = some (.int .i64 m.id.f) ∧ w'.cell? ⟨wr.heap.size, 1, none⟩ = some (.int .i64 m.id.n) ∧ w'.cell? ⟨wr.heap.size, 2, none⟩ = some (.int .i64 m.id.c)) := fun w' hb => by
      obtain ⟨a0, a1, a2, a3⟩ := blk4 (boxAt HY0.out hb)
      obtain ⟨b0, b1, _, b3, _⟩ := blk6 (boxAt HY1.out hb)
      obtain ⟨f0, f1, f2⟩ := blk3 (boxAt HK6.out hb)
      exact ⟨a0, a1, a2, a3, b0, b1, b3, (hb.cell (p := ⟨bm, _, none⟩) hzm6).trans c3', (hb.cell (p := ⟨bm, _, none⟩) hzm6).trans c4', (hb.cell (p := ⟨bm, _, none⟩) hzm6).trans c5', f0, f1, f2⟩
     clear c3' c4' c5'
     have hbb : Below w6.heap.size w6 w6 := bRefl _
     obtain ⟨s0, s1, s2, s3, s4, s5, s6, s7, s8, s9, sa, sb, sc⟩ := HS1.out w6 hbb
     by_cases g0 : chkN p.acs.length p.hs m.nt = 0
     ·have e0 : (chkN p.acs.length p.hs m.nt != 0) = false := ne_no g0
      by_cases g1 : m.id.f < -1
      ·have e1 : decide (m.id.f < -1) = true := decide_eq_true g1
       have HR : Hid (false = chkW p x) := chkW_m HMX.out (Or.inr (cd_1 g1))
       clear g0 g1 ht
       refine wp_region_held_drew (S := fun w' => w'.cell? ⟨w.heap.size, 0, none⟩ = some (.slice A1 p.hs.length c1) ∧ w'.cell? ⟨w.heap.size, 1, none⟩ = some (.slice A2 p.acs.length c2) ∧ w'.cell? ⟨w.heap.size, 2, none⟩ = some (.slice A3 p.bs.length c3) ∧ w'.cell? ⟨w.heap.size, 3, none⟩ = some (.int .i64 p.fuel) ∧ w'.cell? ⟨w.heap.size + 1, 0, none⟩ = some (.slice B1 x.acts.length d1) ∧ w'.cell? ⟨w.heap.size + 1, 1, none⟩ = some (.slice (some ⟨bm, om, none⟩) x.mail.length d2) ∧ w'.cell? ⟨w.heap.size + 1, 3, none⟩ = some (.int .i64 x.used.dup) ∧ w'.cell? ⟨bm, om + i * 6 + 3, none⟩ = some (.int .i64 m.nt.to) ∧ w'.cell? ⟨bm, om + i * 6 + 4, none⟩ = some (.int .i64 m.nt.hd) ∧ w'.cell? ⟨bm, om + i * 6 + 5, none⟩ = some (.slice A6 m.nt.args.length c6) ∧ w'.cell? ⟨wr.heap.size, 0, none⟩ = some (.int .i64 m.id.f) ∧ w'.cell? ⟨wr.heap.size, 1, none⟩ = some (.int .i64 m.id.n) ∧ w'.cell? ⟨wr.heap.size, 2, none⟩ = some (.int .i64 m.id.c)) (by kernel_rfl) ?_ (fun hHeld => ?_)
       ·exact HS1.out _ (by first | exact hbb | exact hbb.drew)
       refine wpAnyH_take (i := 0) (oi := ⟨some 107, .load 26 (.tmp 2), 26, "world.go:238", #[], none⟩) (v := ?_) rfl (by kernel_rfl) (by kernel_rfl) (by kernel_rfl) (fun _ _ _ h => h) (Or.inl ⟨by rfl, ?_⟩) (by assumption) ?_
       rotate_left
       ·intro w hSw
        try dsimp only at hSw
        go_simp
        try with_reducible rfl
       try simp only [Act.put, List.setIfInBounds_toArray, List.set_cons_zero, List.set_cons_succ]
       refine wpAnyH_take (i := 1) (oi := ⟨some 108, .fieldAddr 44 (.tmp 3) 1, 0, "world.go:238", #[], none⟩) (v := ?_) rfl (by kernel_rfl) (by kernel_rfl) (by kernel_rfl) (fun _ _ _ h => h) (Or.inl ⟨by rfl, ?_⟩) (by assumption) ?_
       rotate_left
       ·intro w hSw
        try dsimp only at hSw
        go_simp
        try with_reducible rfl
       try simp only [Act.put, List.setIfInBounds_toArray, List.set_cons_zero, List.set_cons_succ]
       refine wpAnyH_take (i := 2) (oi := ⟨some 109, .load 40 (.tmp 108), 40, "world.go:238", #[⟨1, .data⟩], none⟩) (v := ?_) rfl (by kernel_rfl) (by kernel_rfl) (by kernel_rfl) (fun _ _ _ h => h) (Or.inl ⟨by rfl, ?_⟩) (by assumption) ?_
       rotate_left
       ·intro w hSw
        try dsimp only at hSw
        go_simp
        try with_reducible rfl
       try simp only [Act.put, List.setIfInBounds_toArray, List.set_cons_zero, List.set_cons_succ]
       refine wpAnyH_take (i := 3) (oi := ⟨some 110, .move (.tmp 7), 3, "world.go:238", #[], none⟩) (v := ?_) rfl (by kernel_rfl) (by kernel_rfl) (by kernel_rfl) (fun _ _ _ h => h) (Or.inl ⟨by rfl, ?_⟩) (by assumption) ?_
       rotate_left
       ·intro w hSw
        try dsimp only at hSw
        go_simp
        try with_reducible rfl
       try simp only [Act.put, List.setIfInBounds_toArray, List.set_cons_zero, List.set_cons_succ]
       refine wpAnyH_take (i := 4) (oi := ⟨some 111, .indexAddr 40 (.tmp 109) (.tmp 110), 0, "world.go:238", #[⟨2, .data⟩, ⟨3, .data⟩], none⟩) (v := ?_) rfl (by kernel_rfl) (by kernel_rfl) (by kernel_rfl) (fun _ _ _ h => h) (Or.inl ⟨by rfl, ?_⟩) (by assumption) ?_
       rotate_left
       ·intro w hSw
        try dsimp only at hSw
        go_simp
        try with_reducible rfl
       try simp only [Act.put, List.setIfInBounds_toArray, List.set_cons_zero, List.set_cons_succ]
       refine wpAnyH_take (i := 5) (oi := ⟨some 112, .fieldAddr 58 (.tmp 111) 1, 0, "world.go:238", #[⟨4, .data⟩], none⟩) (v := ?_) rfl (by kernel_rfl) (by kernel_rfl) (by kernel_rfl) (fun _ _ _ h => h) (Or.inl ⟨by rfl, ?_⟩) (by assumption) ?_
       rotate_left
       ·intro w hSw
        try dsimp only at hSw
        go_simp
        try with_reducible rfl
       try simp only [Act.put, List.setIfInBounds_toArray, List.set_cons_zero, List.set_cons_succ]
       refine wpAnyH_take (i := 6) (oi := ⟨some 113, .load 54 (.tmp 112), 54, "world.go:238", #[⟨5, .data⟩], none⟩) (v := ?_) rfl (by kernel_rfl) (by kernel_rfl) (by kernel_rfl) (fun _ _ _ h => h) (Or.inl ⟨by rfl, ?_⟩) (by assumption) ?_
       rotate_left
       ·intro w hSw
        try dsimp only at hSw
        go_simp
        try with_reducible rfl
       try simp only [Act.put, List.setIfInBounds_toArray, List.set_cons_zero, List.set_cons_succ]
       refine wpAnyH_ready (rs := [7]) (by kernel_rfl) (by simp) ?_
       refine AllReadyH.cons (o := ⟨some 114, .call { callee := .value (.func 112), args := #[.tmp 107, .tmp 113], argTypes := #[26, 54] }, 3, "world.go:238", #[⟨0, .data⟩, ⟨6, .data⟩], none⟩) rfl (fun K hK => ?_) AllReadyH.nil
       go_simp
       (go_at_call 112; refine (rnte_any _ _ _ m.nt p (HNT.out.below (by first | exact hbb | exact hbb.drew)) (HP6.out.below (by first | exact hbb | exact hbb.drew))).mono ?_; rintro e w7 ⟨rfl, hb7⟩; replace hbb := bTrans (by first | exact hbb | exact hbb.drew) hb7; clear hb7)
       try (go_wp2_with fail)
       refine hK.out _ _ ?_ (fun hHeld => ?_)
       ·exact HS1.out _ (by first | exact hbb | exact hbb.drew)
       clear hK K
       try simp only [Act.put, List.setIfInBounds_toArray, List.set_cons_zero, List.set_cons_succ]
       refine wpAnyH_take (i := 8) (oi := ⟨some 115, .binOp .neq 3 (.tmp 114) (.const (.int .i64 0)) 3, 4, "world.go:238", #[⟨7, .data⟩], none⟩) (v := ?_) rfl (by kernel_rfl) (by kernel_rfl) (by kernel_rfl) (fun _ _ _ h => h) (Or.inl ⟨by rfl, ?_⟩) (by assumption) ?_
       rotate_left
       ·intro w hSw
        try dsimp only at hSw
        go_simp
        try with_reducible rfl
       try simp only [Act.put, List.setIfInBounds_toArray, List.set_cons_zero, List.set_cons_succ]
       refine wpAnyH_take (i := 9) (oi := ⟨some 116, .move (.tmp 115), 4, "world.go:238", #[⟨8, .data⟩, ⟨7, .chain⟩], none⟩) (v := ?_) rfl (by kernel_rfl) (by kernel_rfl) (by kernel_rfl) (fun _ _ _ h => h) (Or.inl ⟨by rfl, ?_⟩) (by assumption) ?_
       rotate_left
       ·intro w hSw
        try dsimp only at hSw
        go_simp
        try with_reducible rfl
       try simp only [Act.put, List.setIfInBounds_toArray, List.set_cons_zero, List.set_cons_succ]
       refine wpAnyH_take (i := 10) (oi := ⟨some 117, .fieldAddr 56 (.tmp 8) 0, 0, "world.go:238", #[⟨9, .guard⟩], some (9, false)⟩) (v := ?_) rfl (by kernel_rfl) (by kernel_rfl) (by kernel_rfl) (fun _ _ _ h => h) (Or.inl ⟨by rfl, ?_⟩) (by assumption) ?_
       rotate_left
       ·intro w hSw
        try dsimp only at hSw
        go_simp
        try with_reducible rfl
       try simp only [Act.put, List.setIfInBounds_toArray, List.set_cons_zero, List.set_cons_succ]
       refine wpAnyH_take (i := 11) (oi := ⟨some 118, .load 3 (.tmp 117), 3, "world.go:238", #[⟨10, .data⟩, ⟨9, .guard⟩], some (9, false)⟩) (v := ?_) rfl (by kernel_rfl) (by kernel_rfl) (by kernel_rfl) (fun _ _ _ h => h) (Or.inl ⟨by rfl, ?_⟩) (by assumption) ?_
       rotate_left
       ·intro w hSw
        try dsimp only at hSw
        go_simp
        try with_reducible rfl
       try simp only [Act.put, List.setIfInBounds_toArray, List.set_cons_zero, List.set_cons_succ]
       refine wpAnyH_take (i := 12) (oi := ⟨some 119, .binOp .lss 3 (.tmp 118) (.const (.int .i64 (-1))) 3, 4, "world.go:238", #[⟨11, .data⟩, ⟨9, .guard⟩], some (9, false)⟩) (v := ?_) rfl (by kernel_rfl) (by kernel_rfl) (by kernel_rfl) (fun _ _ _ h => h) (Or.inl ⟨by rfl, ?_⟩) (by assumption) ?_
       rotate_left
       ·intro w hSw
        try dsimp only at hSw
        go_simp
        try with_reducible rfl
       try simp only [Act.put, List.setIfInBounds_toArray, List.set_cons_zero, List.set_cons_succ]
       refine wpAnyH_take (i := 13) (oi := ⟨some 120, .pick (.tmp 116) (.const (.bool true)) (.tmp 119), 4, "world.go:238", #[⟨9, .data⟩, ⟨12, .data⟩], none⟩) (v := ?_) rfl (by kernel_rfl) (by kernel_rfl) (by kernel_rfl) (fun _ _ _ h => h) (Or.inl ⟨by rfl, ?_⟩) (by assumption) ?_
       rotate_left
       ·intro w hSw
        try dsimp only at hSw
        go_simp
        try with_reducible rfl
       try simp only [Act.put, List.setIfInBounds_toArray, List.set_cons_zero, List.set_cons_succ]
       refine wpAnyH_take (i := 14) (oi := ⟨some 121, .move (.tmp 120), 4, "world.go:238", #[⟨13, .data⟩, ⟨9, .chain⟩], none⟩) (v := ?_) rfl (by kernel_rfl) (by kernel_rfl) (by kernel_rfl) (fun _ _ _ h => h) (Or.inl ⟨by rfl, ?_⟩) (by assumption) ?_
       rotate_left
       ·intro w hSw
        try dsimp only at hSw
        go_simp
        try with_reducible rfl
       try simp only [Act.put, List.setIfInBounds_toArray, List.set_cons_zero, List.set_cons_succ]
       refine wpAnyH_take (i := 15) (oi := ⟨some 122, .fieldAddr 56 (.tmp 8) 0, 0, "world.go:238", #[⟨14, .guard⟩], some (14, false)⟩) (v := undef) rfl (by kernel_rfl) (by kernel_rfl) (by kernel_rfl) (fun _ _ _ h => h) (Or.inr ⟨by rfl, rfl⟩) (by assumption) ?_
       try simp only [Act.put, List.setIfInBounds_toArray, List.set_cons_zero, List.set_cons_succ]
       refine wpAnyH_take (i := 16) (oi := ⟨some 123, .load 3 (.tmp 122), 3, "world.go:238", #[⟨15, .data⟩, ⟨14, .guard⟩], some (14, false)⟩) (v := undef) rfl (by kernel_rfl) (by kernel_rfl) (by kernel_rfl) (fun _ _ _ h => h) (Or.inr ⟨by rfl, rfl⟩) (by assumption) ?_
       try simp only [Act.put, List.setIfInBounds_toArray, List.set_cons_zero, List.set_cons_succ]
       refine wpAnyH_take (i := 17) (oi := ⟨some 124, .fieldAddr 44 (.tmp 3) 0, 0, "world.go:238", #[⟨14, .guard⟩], some (14, false)⟩) (v := undef) rfl (by kernel_rfl) (by kernel_rfl) (by kernel_rfl) (fun _ _ _ h => h) (Or.inr ⟨by rfl, rfl⟩) (by assumption) ?_
       try simp only [Act.put, List.setIfInBounds_toArray, List.set_cons_zero, List.set_cons_succ]
       refine wpAnyH_take (i := 18) (oi := ⟨some 125, .load 39 (.tmp 124), 39, "world.go:238", #[⟨17, .data⟩, ⟨14, .guard⟩], some (14, false)⟩) (v := undef) rfl (by kernel_rfl) (by kernel_rfl) (by kernel_rfl) (fun _ _ _ h => h) (Or.inr ⟨by rfl, rfl⟩) (by assumption) ?_
       try simp only [Act.put, List.setIfInBounds_toArray, List.set_cons_zero, List.set_cons_succ]
       refine wpAnyH_take (i := 19) (oi := ⟨some 126, .call { callee := .builtin .len, args := #[.tmp 125], argTypes := #[39] }, 3, "world.go:238", #[⟨18, .data⟩, ⟨14, .guard⟩], some (14, false)⟩) (v := undef) rfl (by kernel_rfl) (by kernel_rfl) (by kernel_rfl) (fun _ _ _ h => h) (Or.inr ⟨by rfl, rfl⟩) (by assumption) ?_
       try simp only [Act.put, List.setIfInBounds_toArray, List.set_cons_zero, List.set_cons_succ]
       refine wpAnyH_take (i := 20) (oi := ⟨some 127, .binOp .geq 3 (.tmp 123) (.tmp 126) 3, 4, "world.go:238", #[⟨16, .data⟩, ⟨19, .data⟩, ⟨14, .guard⟩], some (14, false)⟩) (v := undef) rfl (by kernel_rfl) (by kernel_rfl) (by kernel_rfl) (fun _ _ _ h => h) (Or.inr ⟨by rfl, rfl⟩) (by assumption) ?_
       try simp only [Act.put, List.setIfInBounds_toArray, List.set_cons_zero, List.set_cons_succ]
       refine wpAnyH_take (i := 21) (oi := ⟨some 128, .pick (.tmp 121) (.const (.bool true)) (.tmp 127), 4, "world.go:238", #[⟨14, .data⟩, ⟨20, .data⟩], none⟩) (v := ?_) rfl (by kernel_rfl) (by kernel_rfl) (by kernel_rfl) (fun _ _ _ h => h) (Or.inl ⟨by rfl, ?_⟩) (by assumption) ?_
       rotate_left
       ·intro w hSw
        try dsimp only at hSw
        go_simp
        try with_reducible rfl
       try simp only [Act.put, List.setIfInBounds_toArray, List.set_cons_zero, List.set_cons_succ]
       refine wpAnyH_take (i := 22) (oi := ⟨some 129, .move (.tmp 128), 4, "world.go:238", #[⟨21, .data⟩, ⟨14, .chain⟩], none⟩) (v := ?_) rfl (by kernel_rfl) (by kernel_rfl) (by kernel_rfl) (fun _ _ _ h => h) (Or.inl ⟨by rfl, ?_⟩) (by assumption) ?_
       rotate_left
       ·intro w hSw
        try dsimp only at hSw
        go_simp
        try with_reducible rfl
       try simp only [Act.put, List.setIfInBounds_toArray, List.set_cons_zero, List.set_cons_succ]
       refine wpAnyH_take (i := 23) (oi := ⟨some 130, .fieldAddr 56 (.tmp 8) 1, 0, "world.go:238", #[⟨22, .guard⟩], some (22, false)⟩) (v := undef) rfl (by kernel_rfl) (by kernel_rfl) (by kernel_rfl) (fun _ _ _ h => h) (Or.inr ⟨by rfl, rfl⟩) (by assumption) ?_
       try simp only [Act.put, List.setIfInBounds_toArray, List.set_cons_zero, List.set_cons_succ]
       refine wpAnyH_take (i := 24) (oi := ⟨some 131, .load 3 (.tmp 130), 3, "world.go:238", #[⟨23, .data⟩, ⟨22, .guard⟩], some (22, false)⟩) (v := undef) rfl (by kernel_rfl) (by kernel_rfl) (by kernel_rfl) (fun _ _ _ h => h) (Or.inr ⟨by rfl, rfl⟩) (by assumption) ?_
       try simp only [Act.put, List.setIfInBounds_toArray, List.set_cons_zero, List.set_cons_succ]
       refine wpAnyH_take (i := 25) (oi := ⟨some 132, .binOp .lss 3 (.tmp 131) (.const (.int .i64 0)) 3, 4, "world.go:238", #[⟨24, .data⟩, ⟨22, .guard⟩], some (22, false)⟩) (v := undef) rfl (by kernel_rfl) (by kernel_rfl) (by kernel_rfl) (fun _ _ _ h => h) (Or.inr ⟨by rfl, rfl⟩) (by assumption) ?_
       try simp only [Act.put, List.setIfInBounds_toArray, List.set_cons_zero, List.set_cons_succ]
       refine wpAnyH_take (i := 26) (oi := ⟨some 133, .pick (.tmp 129) (.const (.bool true)) (.tmp 132), 4, "world.go:238", #[⟨22, .data⟩, ⟨25, .data⟩], none⟩) (v := ?_) rfl (by kernel_rfl) (by kernel_rfl) (by kernel_rfl) (fun _ _ _ h => h) (Or.inl ⟨by rfl, ?_⟩) (by assumption) ?_
       rotate_left
       ·intro w hSw
        try dsimp only at hSw
        go_simp
        try with_reducible rfl
       try simp only [Act.put, List.setIfInBounds_toArray, List.set_cons_zero, List.set_cons_succ]
       refine wpAnyH_take (i := 27) (oi := ⟨some 134, .move (.tmp 133), 4, "world.go:238", #[⟨26, .data⟩, ⟨22, .chain⟩], none⟩) (v := ?_) rfl (by kernel_rfl) (by kernel_rfl) (by kernel_rfl) (fun _ _ _ h => h) (Or.inl ⟨by rfl, ?_⟩) (by assumption) ?_
       rotate_left
       ·intro w hSw
        try dsimp only at hSw
        go_simp
        try with_reducible rfl
       try simp only [Act.put, List.setIfInBounds_toArray, List.set_cons_zero, List.set_cons_succ]
       refine wpAnyH_take (i := 28) (oi := ⟨some 135, .fieldAddr 56 (.tmp 8) 2, 0, "world.go:238", #[⟨27, .guard⟩], some (27, false)⟩) (v := undef) rfl (by kernel_rfl) (by kernel_rfl) (by kernel_rfl) (fun _ _ _ h => h) (Or.inr ⟨by rfl, rfl⟩) (by assumption) ?_
       try simp only [Act.put, List.setIfInBounds_toArray, List.set_cons_zero, List.set_cons_succ]
       refine wpAnyH_take (i := 29) (oi := ⟨some 136, .load 3 (.tmp 135), 3, "world.go:238", #[⟨28, .data⟩, ⟨27, .guard⟩], some (27, false)⟩) (v := undef) rfl (by kernel_rfl) (by kernel_rfl) (by kernel_rfl) (fun _ _ _ h => h) (Or.inr ⟨by rfl, rfl⟩) (by assumption) ?_
       try simp only [Act.put, List.setIfInBounds_toArray, List.set_cons_zero, List.set_cons_succ]
       refine wpAnyH_take (i := 30) (oi := ⟨some 137, .binOp .lss 3 (.tmp 136) (.const (.int .i64 0)) 3, 4, "world.go:238", #[⟨29, .data⟩, ⟨27, .guard⟩], some (27, false)⟩) (v := undef) rfl (by kernel_rfl) (by kernel_rfl) (by kernel_rfl) (fun _ _ _ h => h) (Or.inr ⟨by rfl, rfl⟩) (by assumption) ?_
       try simp only [Act.put, List.setIfInBounds_toArray, List.set_cons_zero, List.set_cons_succ]
       refine wpAnyH_take (i := 31) (oi := ⟨some 138, .pick (.tmp 134) (.const (.bool true)) (.tmp 137), 4, "world.go:238", #[⟨27, .data⟩, ⟨30, .data⟩], none⟩) (v := ?_) rfl (by kernel_rfl) (by kernel_rfl) (by kernel_rfl) (fun _ _ _ h => h) (Or.inl ⟨by rfl, ?_⟩) (by assumption) ?_
       rotate_left
       ·intro w hSw
        try dsimp only at hSw
        go_simp
        try with_reducible rfl
       try simp only [Act.put, List.setIfInBounds_toArray, List.set_cons_zero, List.set_cons_succ]
       refine wpAnyH_take (i := 32) (oi := ⟨some 139, .move (.tmp 138), 4, "world.go:238", #[⟨31, .data⟩, ⟨27, .chain⟩], none⟩) (v := ?_) rfl (by kernel_rfl) (by kernel_rfl) (by kernel_rfl) (fun _ _ _ h => h) (Or.inl ⟨by rfl, ?_⟩) (by assumption) ?_
       rotate_left
       ·intro w hSw
        try dsimp only at hSw
        go_simp
        try with_reducible rfl
       try simp only [Act.put, List.setIfInBounds_toArray, List.set_cons_zero, List.set_cons_succ]
       refine wpAnyH_take (i := 33) (oi := ⟨some 140, .fieldAddr 56 (.tmp 8) 2, 0, "world.go:238", #[⟨32, .guard⟩], some (32, false)⟩) (v := undef) rfl (by kernel_rfl) (by kernel_rfl) (by kernel_rfl) (fun _ _ _ h => h) (Or.inr ⟨by rfl, rfl⟩) (by assumption) ?_
       try simp only [Act.put, List.setIfInBounds_toArray, List.set_cons_zero, List.set_cons_succ]
       refine wpAnyH_take (i := 34) (oi := ⟨some 141, .load 3 (.tmp 140), 3, "world.go:238", #[⟨33, .data⟩, ⟨32, .guard⟩], some (32, false)⟩) (v := undef) rfl (by kernel_rfl) (by kernel_rfl) (by kernel_rfl) (fun _ _ _ h => h) (Or.inr ⟨by rfl, rfl⟩) (by assumption) ?_
       try simp only [Act.put, List.setIfInBounds_toArray, List.set_cons_zero, List.set_cons_succ]
       refine wpAnyH_take (i := 35) (oi := ⟨some 142, .fieldAddr 44 (.tmp 3) 2, 0, "world.go:238", #[⟨32, .guard⟩], some (32, false)⟩) (v := undef) rfl (by kernel_rfl) (by kernel_rfl) (by kernel_rfl) (fun _ _ _ h => h) (Or.inr ⟨by rfl, rfl⟩) (by assumption) ?_
       try simp only [Act.put, List.setIfInBounds_toArray, List.set_cons_zero, List.set_cons_succ]
       refine wpAnyH_take (i := 36) (oi := ⟨some 143, .fieldAddr 42 (.tmp 142) 1, 0, "world.go:238", #[⟨35, .data⟩, ⟨32, .guard⟩], some (32, false)⟩) (v := undef) rfl (by kernel_rfl) (by kernel_rfl) (by kernel_rfl) (fun _ _ _ h => h) (Or.inr ⟨by rfl, rfl⟩) (by assumption) ?_
       try simp only [Act.put, List.setIfInBounds_toArray, List.set_cons_zero, List.set_cons_succ]
       refine wpAnyH_take (i := 37) (oi := ⟨some 144, .load 3 (.tmp 143), 3, "world.go:238", #[⟨36, .data⟩, ⟨32, .guard⟩], some (32, false)⟩) (v := undef) rfl (by kernel_rfl) (by kernel_rfl) (by kernel_rfl) (fun _ _ _ h => h) (Or.inr ⟨by rfl, rfl⟩) (by assumption) ?_
       try simp only [Act.put, List.setIfInBounds_toArray, List.set_cons_zero, List.set_cons_succ]
       refine wpAnyH_take (i := 38) (oi := ⟨some 145, .binOp .gtr 3 (.tmp 141) (.tmp 144) 3, 4, "world.go:238", #[⟨34, .data⟩, ⟨37, .data⟩, ⟨32, .guard⟩], some (32, false)⟩) (v := undef) rfl (by kernel_rfl) (by kernel_rfl) (by kernel_rfl) (fun _ _ _ h => h) (Or.inr ⟨by rfl, rfl⟩) (by assumption) ?_
       try simp only [Act.put, List.setIfInBounds_toArray, List.set_cons_zero, List.set_cons_succ]
       refine wpAnyH_take (i := 39) (oi := ⟨some 146, .pick (.tmp 139) (.const (.bool true)) (.tmp 145), 4, "world.go:238", #[⟨32, .data⟩, ⟨38, .data⟩], none⟩) (v := ?_) rfl (by kernel_rfl) (by kernel_rfl) (by kernel_rfl) (fun _ _ _ h => h) (Or.inl ⟨by rfl, ?_⟩) (by assumption) ?_
       rotate_left
       ·intro w hSw
        try dsimp only at hSw
        go_simp
        try with_reducible rfl
       try simp only [Act.put, List.setIfInBounds_toArray, List.set_cons_zero, List.set_cons_succ]
       refine wpAnyH_done (by kernel_rfl) ?_ _
       go_wp2_with fail
       go_ret
       exact ⟨ret_b HR.out, bTrans HB7.out (by first | exact hbb | exact hbb.drew)⟩
      ·have e1 : decide (m.id.f < -1) = false := decide_eq_false g1
       by_cases g2 : (x.acts.length : Int) ≤ m.id.f
       ·have e2 : decide ((x.acts.length : Int) ≤ m.id.f) = true := decide_eq_true g2
        have HR : Hid (false = chkW p x) := chkW_m HMX.out (Or.inr (cd_2 g2))
        clear g0 g1 g2 ht
        refine wp_region_held_drew (S := fun w' => w'.cell? ⟨w.heap.size, 0, none⟩ = some (.slice A1 p.hs.length c1) ∧ w'.cell? ⟨w.heap.size, 1, none⟩ = some (.slice A2 p.acs.length c2) ∧ w'.cell? ⟨w.heap.size, 2, none⟩ = some (.slice A3 p.bs.length c3) ∧ w'.cell? ⟨w.heap.size, 3, none⟩ = some (.int .i64 p.fuel) ∧ w'.cell? ⟨w.heap.size + 1, 0, none⟩ = some (.slice B1 x.acts.length d1) ∧ w'.cell? ⟨w.heap.size + 1, 1, none⟩ = some (.slice (some ⟨bm, om, none⟩) x.mail.length d2) ∧ w'.cell? ⟨w.heap.size + 1, 3, none⟩ = some (.int .i64 x.used.dup) ∧ w'.cell? ⟨bm, om + i * 6 + 3, none⟩ = some (.int .i64 m.nt.to) ∧ w'.cell? ⟨bm, om + i * 6 + 4, none⟩ = some (.int .i64 m.nt.hd) ∧ w'.cell? ⟨bm, om + i * 6 + 5, none⟩ = some (.slice A6 m.nt.args.length c6) ∧ w'.cell? ⟨wr.heap.size, 0, none⟩ = some (.int .i64 m.id.f) ∧ w'.cell? ⟨wr.heap.size, 1, none⟩ = some (.int .i64 m.id.n) ∧ w'.cell? ⟨wr.heap.size, 2, none⟩ = some (.int .i64 m.id.c)) (by kernel_rfl) ?_ (fun hHeld => ?_)
        ·exact HS1.out _ (by first | exact hbb | exact hbb.drew)
        refine wpAnyH_take (i := 0) (oi := ⟨some 107, .load 26 (.tmp 2), 26, "world.go:238", #[], none⟩) (v := ?_) rfl (by kernel_rfl) (by kernel_rfl) (by kernel_rfl) (fun _ _ _ h => h) (Or.inl ⟨by rfl, ?_⟩) (by assumption) ?_
        rotate_left
        ·intro w hSw
         try dsimp only at hSw
         go_simp
         try with_reducible rfl
        try simp only [Act.put, List.setIfInBounds_toArray, List.set_cons_zero, List.set_cons_succ]
        refine wpAnyH_take (i := 1) (oi := ⟨some 108, .fieldAddr 44 (.tmp 3) 1, 0, "world.go:238", #[], none⟩) (v := ?_) rfl (by kernel_rfl) (by kernel_rfl) (by kernel_rfl) (fun _ _ _ h => h) (Or.inl ⟨by rfl, ?_⟩) (by assumption) ?_
        rotate_left
        ·intro w hSw
         try dsimp only at hSw
         go_simp
         try with_reducible rfl
        try simp only [Act.put, List.setIfInBounds_toArray, List.set_cons_zero, List.set_cons_succ]
        refine wpAnyH_take (i := 2) (oi := ⟨some 109, .load 40 (.tmp 108), 40, "world.go:238", #[⟨1, .data⟩], none⟩) (v := ?_) rfl (by kernel_rfl) (by kernel_rfl) (by kernel_rfl) (fun _ _ _ h => h) (Or.inl ⟨by rfl, ?_⟩) (by assumption) ?_
        rotate_left
        ·intro w hSw
         try dsimp only at hSw
         go_simp
         try with_reducible rfl
        try simp only [Act.put, List.setIfInBounds_toArray, List.set_cons_zero, List.set_cons_succ]
        refine wpAnyH_take (i := 3) (oi := ⟨some 110, .move (.tmp 7), 3, "world.go:238", #[], none⟩) (v := ?_) rfl (by kernel_rfl) (by kernel_rfl) (by kernel_rfl) (fun _ _ _ h => h) (Or.inl ⟨by rfl, ?_⟩) (by assumption) ?_
        rotate_left
        ·intro w hSw
         try dsimp only at hSw
         go_simp
         try with_reducible rfl
        try simp only [Act.put, List.setIfInBounds_toArray, List.set_cons_zero, List.set_cons_succ]
        refine wpAnyH_take (i := 4) (oi := ⟨some 111, .indexAddr 40 (.tmp 109) (.tmp 110), 0, "world.go:238", #[⟨2, .data⟩, ⟨3, .data⟩], none⟩) (v := ?_) rfl (by kernel_rfl) (by kernel_rfl) (by kernel_rfl) (fun _ _ _ h => h) (Or.inl ⟨by rfl, ?_⟩) (by assumption) ?_
        rotate_left
        ·intro w hSw
         try dsimp only at hSw
         go_simp
         try with_reducible rfl
        try simp only [Act.put, List.setIfInBounds_toArray, List.set_cons_zero, List.set_cons_succ]
        refine wpAnyH_take (i := 5) (oi := ⟨some 112, .fieldAddr 58 (.tmp 111) 1, 0, "world.go:238", #[⟨4, .data⟩], none⟩) (v := ?_) rfl (by kernel_rfl) (by kernel_rfl) (by kernel_rfl) (fun _ _ _ h => h) (Or.inl ⟨by rfl, ?_⟩) (by assumption) ?_
        rotate_left
        ·intro w hSw
         try dsimp only at hSw
         go_simp
         try with_reducible rfl
        try simp only [Act.put, List.setIfInBounds_toArray, List.set_cons_zero, List.set_cons_succ]
        refine wpAnyH_take (i := 6) (oi := ⟨some 113, .load 54 (.tmp 112), 54, "world.go:238", #[⟨5, .data⟩], none⟩) (v := ?_) rfl (by kernel_rfl) (by kernel_rfl) (by kernel_rfl) (fun _ _ _ h => h) (Or.inl ⟨by rfl, ?_⟩) (by assumption) ?_
        rotate_left
        ·intro w hSw
         try dsimp only at hSw
         go_simp
         try with_reducible rfl
        try simp only [Act.put, List.setIfInBounds_toArray, List.set_cons_zero, List.set_cons_succ]
        refine wpAnyH_ready (rs := [7]) (by kernel_rfl) (by simp) ?_
        refine AllReadyH.cons (o := ⟨some 114, .call { callee := .value (.func 112), args := #[.tmp 107, .tmp 113], argTypes := #[26, 54] }, 3, "world.go:238", #[⟨0, .data⟩, ⟨6, .data⟩], none⟩) rfl (fun K hK => ?_) AllReadyH.nil
        go_simp
        (go_at_call 112; refine (rnte_any _ _ _ m.nt p (HNT.out.below (by first | exact hbb | exact hbb.drew)) (HP6.out.below (by first | exact hbb | exact hbb.drew))).mono ?_; rintro e w7 ⟨rfl, hb7⟩; replace hbb := bTrans (by first | exact hbb | exact hbb.drew) hb7; clear hb7)
        try (go_wp2_with fail)
        refine hK.out _ _ ?_ (fun hHeld => ?_)
        ·exact HS1.out _ (by first | exact hbb | exact hbb.drew)
        clear hK K
        try simp only [Act.put, List.setIfInBounds_toArray, List.set_cons_zero, List.set_cons_succ]
        refine wpAnyH_take (i := 8) (oi := ⟨some 115, .binOp .neq 3 (.tmp 114) (.const (.int .i64 0)) 3, 4, "world.go:238", #[⟨7, .data⟩], none⟩) (v := ?_) rfl (by kernel_rfl) (by kernel_rfl) (by kernel_rfl) (fun _ _ _ h => h) (Or.inl ⟨by rfl, ?_⟩) (by assumption) ?_
        rotate_left
        ·intro w hSw
         try dsimp only at hSw
         go_simp
         try with_reducible rfl
        try simp only [Act.put, List.setIfInBounds_toArray, List.set_cons_zero, List.set_cons_succ]
        refine wpAnyH_take (i := 9) (oi := ⟨some 116, .move (.tmp 115), 4, "world.go:238", #[⟨8, .data⟩, ⟨7, .chain⟩], none⟩) (v := ?_) rfl (by kernel_rfl) (by kernel_rfl) (by kernel_rfl) (fun _ _ _ h => h) (Or.inl ⟨by rfl, ?_⟩) (by assumption) ?_
        rotate_left
        ·intro w hSw
         try dsimp only at hSw
         go_simp
         try with_reducible rfl
        try simp only [Act.put, List.setIfInBounds_toArray, List.set_cons_zero, List.set_cons_succ]
        refine wpAnyH_take (i := 10) (oi := ⟨some 117, .fieldAddr 56 (.tmp 8) 0, 0, "world.go:238", #[⟨9, .guard⟩], some (9, false)⟩) (v := ?_) rfl (by kernel_rfl) (by kernel_rfl) (by kernel_rfl) (fun _ _ _ h => h) (Or.inl ⟨by rfl, ?_⟩) (by assumption) ?_
        rotate_left
        ·intro w hSw
         try dsimp only at hSw
         go_simp
         try with_reducible rfl
        try simp only [Act.put, List.setIfInBounds_toArray, List.set_cons_zero, List.set_cons_succ]
        refine wpAnyH_take (i := 11) (oi := ⟨some 118, .load 3 (.tmp 117), 3, "world.go:238", #[⟨10, .data⟩, ⟨9, .guard⟩], some (9, false)⟩) (v := ?_) rfl (by kernel_rfl) (by kernel_rfl) (by kernel_rfl) (fun _ _ _ h => h) (Or.inl ⟨by rfl, ?_⟩) (by assumption) ?_
        rotate_left
        ·intro w hSw
         try dsimp only at hSw
         go_simp
         try with_reducible rfl
        try simp only [Act.put, List.setIfInBounds_toArray, List.set_cons_zero, List.set_cons_succ]
        refine wpAnyH_take (i := 12) (oi := ⟨some 119, .binOp .lss 3 (.tmp 118) (.const (.int .i64 (-1))) 3, 4, "world.go:238", #[⟨11, .data⟩, ⟨9, .guard⟩], some (9, false)⟩) (v := ?_) rfl (by kernel_rfl) (by kernel_rfl) (by kernel_rfl) (fun _ _ _ h => h) (Or.inl ⟨by rfl, ?_⟩) (by assumption) ?_
        rotate_left
        ·intro w hSw
         try dsimp only at hSw
         go_simp
         try with_reducible rfl
        try simp only [Act.put, List.setIfInBounds_toArray, List.set_cons_zero, List.set_cons_succ]
        refine wpAnyH_take (i := 13) (oi := ⟨some 120, .pick (.tmp 116) (.const (.bool true)) (.tmp 119), 4, "world.go:238", #[⟨9, .data⟩, ⟨12, .data⟩], none⟩) (v := ?_) rfl (by kernel_rfl) (by kernel_rfl) (by kernel_rfl) (fun _ _ _ h => h) (Or.inl ⟨by rfl, ?_⟩) (by assumption) ?_
        rotate_left
        ·intro w hSw
         try dsimp only at hSw
         go_simp
         try with_reducible rfl
        try simp only [Act.put, List.setIfInBounds_toArray, List.set_cons_zero, List.set_cons_succ]
        refine wpAnyH_take (i := 14) (oi := ⟨some 121, .move (.tmp 120), 4, "world.go:238", #[⟨13, .data⟩, ⟨9, .chain⟩], none⟩) (v := ?_) rfl (by kernel_rfl) (by kernel_rfl) (by kernel_rfl) (fun _ _ _ h => h) (Or.inl ⟨by rfl, ?_⟩) (by assumption) ?_
        rotate_left
        ·intro w hSw
         try dsimp only at hSw
         go_simp
         try with_reducible rfl
        try simp only [Act.put, List.setIfInBounds_toArray, List.set_cons_zero, List.set_cons_succ]
        refine wpAnyH_take (i := 15) (oi := ⟨some 122, .fieldAddr 56 (.tmp 8) 0, 0, "world.go:238", #[⟨14, .guard⟩], some (14, false)⟩) (v := ?_) rfl (by kernel_rfl) (by kernel_rfl) (by kernel_rfl) (fun _ _ _ h => h) (Or.inl ⟨by rfl, ?_⟩) (by assumption) ?_
        rotate_left
        ·intro w hSw
         try dsimp only at hSw
         go_simp
         try with_reducible rfl
        try simp only [Act.put, List.setIfInBounds_toArray, List.set_cons_zero, List.set_cons_succ]
        refine wpAnyH_take (i := 16) (oi := ⟨some 123, .load 3 (.tmp 122), 3, "world.go:238", #[⟨15, .data⟩, ⟨14, .guard⟩], some (14, false)⟩) (v := ?_) rfl (by kernel_rfl) (by kernel_rfl) (by kernel_rfl) (fun _ _ _ h => h) (Or.inl ⟨by rfl, ?_⟩) (by assumption) ?_
        rotate_left
        ·intro w hSw
         try dsimp only at hSw
         go_simp
         try with_reducible rfl
        try simp only [Act.put, List.setIfInBounds_toArray, List.set_cons_zero, List.set_cons_succ]
        refine wpAnyH_take (i := 17) (oi := ⟨some 124, .fieldAddr 44 (.tmp 3) 0, 0, "world.go:238", #[⟨14, .guard⟩], some (14, false)⟩) (v := ?_) rfl (by kernel_rfl) (by kernel_rfl) (by kernel_rfl) (fun _ _ _ h => h) (Or.inl ⟨by rfl, ?_⟩) (by assumption) ?_
        rotate_left
        ·intro w hSw
         try dsimp only at hSw
         go_simp
         try with_reducible rfl
        try simp only [Act.put, List.setIfInBounds_toArray, List.set_cons_zero, List.set_cons_succ]
        refine wpAnyH_take (i := 18) (oi := ⟨some 125, .load 39 (.tmp 124), 39, "world.go:238", #[⟨17, .data⟩, ⟨14, .guard⟩], some (14, false)⟩) (v := ?_) rfl (by kernel_rfl) (by kernel_rfl) (by kernel_rfl) (fun _ _ _ h => h) (Or.inl ⟨by rfl, ?_⟩) (by assumption) ?_
        rotate_left
        ·intro w hSw
         try dsimp only at hSw
         go_simp
         try with_reducible rfl
        try simp only [Act.put, List.setIfInBounds_toArray, List.set_cons_zero, List.set_cons_succ]
        refine wpAnyH_take (i := 19) (oi := ⟨some 126, .call { callee := .builtin .len, args := #[.tmp 125], argTypes := #[39] }, 3, "world.go:238", #[⟨18, .data⟩, ⟨14, .guard⟩], some (14, false)⟩) (v := ?_) rfl (by kernel_rfl) (by kernel_rfl) (by kernel_rfl) (fun _ _ _ h => h) (Or.inl ⟨by rfl, ?_⟩) (by assumption) ?_
        rotate_left
        ·intro w hSw
         try dsimp only at hSw
         go_simp
         try with_reducible rfl
        try simp only [Act.put, List.setIfInBounds_toArray, List.set_cons_zero, List.set_cons_succ]
        refine wpAnyH_take (i := 20) (oi := ⟨some 127, .binOp .geq 3 (.tmp 123) (.tmp 126) 3, 4, "world.go:238", #[⟨16, .data⟩, ⟨19, .data⟩, ⟨14, .guard⟩], some (14, false)⟩) (v := ?_) rfl (by kernel_rfl) (by kernel_rfl) (by kernel_rfl) (fun _ _ _ h => h) (Or.inl ⟨by rfl, ?_⟩) (by assumption) ?_
        rotate_left
        ·intro w hSw
         try dsimp only at hSw
         go_simp
         try with_reducible rfl
        try simp only [Act.put, List.setIfInBounds_toArray, List.set_cons_zero, List.set_cons_succ]
        refine wpAnyH_take (i := 21) (oi := ⟨some 128, .pick (.tmp 121) (.const (.bool true)) (.tmp 127), 4, "world.go:238", #[⟨14, .data⟩, ⟨20, .data⟩], none⟩) (v := ?_) rfl (by kernel_rfl) (by kernel_rfl) (by kernel_rfl) (fun _ _ _ h => h) (Or.inl ⟨by rfl, ?_⟩) (by assumption) ?_
        rotate_left
        ·intro w hSw
         try dsimp only at hSw
         go_simp
         try with_reducible rfl
        try simp only [Act.put, List.setIfInBounds_toArray, List.set_cons_zero, List.set_cons_succ]
        refine wpAnyH_take (i := 22) (oi := ⟨some 129, .move (.tmp 128), 4, "world.go:238", #[⟨21, .data⟩, ⟨14, .chain⟩], none⟩) (v := ?_) rfl (by kernel_rfl) (by kernel_rfl) (by kernel_rfl) (fun _ _ _ h => h) (Or.inl ⟨by rfl, ?_⟩) (by assumption) ?_
        rotate_left
        ·intro w hSw
         try dsimp only at hSw
         go_simp
         try with_reducible rfl
        try simp only [Act.put, List.setIfInBounds_toArray, List.set_cons_zero, List.set_cons_succ]
        refine wpAnyH_take (i := 23) (oi := ⟨some 130, .fieldAddr 56 (.tmp 8) 1, 0, "world.go:238", #[⟨22, .guard⟩], some (22, false)⟩) (v := undef) rfl (by kernel_rfl) (by kernel_rfl) (by kernel_rfl) (fun _ _ _ h => h) (Or.inr ⟨by rfl, rfl⟩) (by assumption) ?_
        try simp only [Act.put, List.setIfInBounds_toArray, List.set_cons_zero, List.set_cons_succ]
        refine wpAnyH_take (i := 24) (oi := ⟨some 131, .load 3 (.tmp 130), 3, "world.go:238", #[⟨23, .data⟩, ⟨22, .guard⟩], some (22, false)⟩) (v := undef) rfl (by kernel_rfl) (by kernel_rfl) (by kernel_rfl) (fun _ _ _ h => h) (Or.inr ⟨by rfl, rfl⟩) (by assumption) ?_
        try simp only [Act.put, List.setIfInBounds_toArray, List.set_cons_zero, List.set_cons_succ]
        refine wpAnyH_take (i := 25) (oi := ⟨some 132, .binOp .lss 3 (.tmp 131) (.const (.int .i64 0)) 3, 4, "world.go:238", #[⟨24, .data⟩, ⟨22, .guard⟩], some (22, false)⟩) (v := undef) rfl (by kernel_rfl) (by kernel_rfl) (by kernel_rfl) (fun _ _ _ h => h) (Or.inr ⟨by rfl, rfl⟩) (by assumption) ?_
        try simp only [Act.put, List.setIfInBounds_toArray, List.set_cons_zero, List.set_cons_succ]
        refine wpAnyH_take (i := 26) (oi := ⟨some 133, .pick (.tmp 129) (.const (.bool true)) (.tmp 132), 4, "world.go:238", #[⟨22, .data⟩, ⟨25, .data⟩], none⟩) (v := ?_) rfl (by kernel_rfl) (by kernel_rfl) (by kernel_rfl) (fun _ _ _ h => h) (Or.inl ⟨by rfl, ?_⟩) (by assumption) ?_
        rotate_left
        ·intro w hSw
         try dsimp only at hSw
         go_simp
         try with_reducible rfl
        try simp only [Act.put, List.setIfInBounds_toArray, List.set_cons_zero, List.set_cons_succ]
        refine wpAnyH_take (i := 27) (oi := ⟨some 134, .move (.tmp 133), 4, "world.go:238", #[⟨26, .data⟩, ⟨22, .chain⟩], none⟩) (v := ?_) rfl (by kernel_rfl) (by kernel_rfl) (by kernel_rfl) (fun _ _ _ h => h) (Or.inl ⟨by rfl, ?_⟩) (by assumption) ?_
        rotate_left
        ·intro w hSw
         try dsimp only at hSw
         go_simp
         try with_reducible rfl
        try simp only [Act.put, List.setIfInBounds_toArray, List.set_cons_zero, List.set_cons_succ]
        refine wpAnyH_take (i := 28) (oi := ⟨some 135, .fieldAddr 56 (.tmp 8) 2, 0, "world.go:238", #[⟨27, .guard⟩], some (27, false)⟩) (v := undef) rfl (by kernel_rfl) (by kernel_rfl) (by kernel_rfl) (fun _ _ _ h => h) (Or.inr ⟨by rfl, rfl⟩) (by assumption) ?_
        try simp only [Act.put, List.setIfInBounds_toArray, List.set_cons_zero, List.set_cons_succ]
        refine wpAnyH_take (i := 29) (oi := ⟨some 136, .load 3 (.tmp 135), 3, "world.go:238", #[⟨28, .data⟩, ⟨27, .guard⟩], some (27, false)⟩) (v := undef) rfl (by kernel_rfl) (by kernel_rfl) (by kernel_rfl) (fun _ _ _ h => h) (Or.inr ⟨by rfl, rfl⟩) (by assumption) ?_
        try simp only [Act.put, List.setIfInBounds_toArray, List.set_cons_zero, List.set_cons_succ]
        refine wpAnyH_take (i := 30) (oi := ⟨some 137, .binOp .lss 3 (.tmp 136) (.const (.int .i64 0)) 3, 4, "world.go:238", #[⟨29, .data⟩, ⟨27, .guard⟩], some (27, false)⟩) (v := undef) rfl (by kernel_rfl) (by kernel_rfl) (by kernel_rfl) (fun _ _ _ h => h) (Or.inr ⟨by rfl, rfl⟩) (by assumption) ?_
        try simp only [Act.put, List.setIfInBounds_toArray, List.set_cons_zero, List.set_cons_succ]
        refine wpAnyH_take (i := 31) (oi := ⟨some 138, .pick (.tmp 134) (.const (.bool true)) (.tmp 137), 4, "world.go:238", #[⟨27, .data⟩, ⟨30, .data⟩], none⟩) (v := ?_) rfl (by kernel_rfl) (by kernel_rfl) (by kernel_rfl) (fun _ _ _ h => h) (Or.inl ⟨by rfl, ?_⟩) (by assumption) ?_
        rotate_left
        ·intro w hSw
         try dsimp only at hSw
         go_simp
         try with_reducible rfl
        try simp only [Act.put, List.setIfInBounds_toArray, List.set_cons_zero, List.set_cons_succ]
        refine wpAnyH_take (i := 32) (oi := ⟨some 139, .move (.tmp 138), 4, "world.go:238", #[⟨31, .data⟩, ⟨27, .chain⟩], none⟩) (v := ?_) rfl (by kernel_rfl) (by kernel_rfl) (by kernel_rfl) (fun _ _ _ h => h) (Or.inl ⟨by rfl, ?_⟩) (by assumption) ?_
        rotate_left
        ·intro w hSw
         try dsimp only at hSw
         go_simp
         try with_reducible rfl
        try simp only [Act.put, List.setIfInBounds_toArray, List.set_cons_zero, List.set_cons_succ]
        refine wpAnyH_take (i := 33) (oi := ⟨some 140, .fieldAddr 56 (.tmp 8) 2, 0, "world.go:238", #[⟨32, .guard⟩], some (32, false)⟩) (v := undef) rfl (by kernel_rfl) (by kernel_rfl) (by kernel_rfl) (fun _ _ _ h => h) (Or.inr ⟨by rfl, rfl⟩) (by assumption) ?_
        try simp only [Act.put, List.setIfInBounds_toArray, List.set_cons_zero, List.set_cons_succ]
        refine wpAnyH_take (i := 34) (oi := ⟨some 141, .load 3 (.tmp 140), 3, "world.go:238", #[⟨33, .data⟩, ⟨32, .guard⟩], some (32, false)⟩) (v := undef) rfl (by kernel_rfl) (by kernel_rfl) (by kernel_rfl) (fun _ _ _ h => h) (Or.inr ⟨by rfl, rfl⟩) (by assumption) ?_
        try simp only [Act.put, List.setIfInBounds_toArray, List.set_cons_zero, List.set_cons_succ]
        refine wpAnyH_take (i := 35) (oi := ⟨some 142, .fieldAddr 44 (.tmp 3) 2, 0, "world.go:238", #[⟨32, .guard⟩], some (32, false)⟩) (v := undef) rfl (by kernel_rfl) (by kernel_rfl) (by kernel_rfl) (fun _ _ _ h => h) (Or.inr ⟨by rfl, rfl⟩) (by assumption) ?_
        try simp only [Act.put, List.setIfInBounds_toArray, List.set_cons_zero, List.set_cons_succ]
        refine wpAnyH_take (i := 36) (oi := ⟨some 143, .fieldAddr 42 (.tmp 142) 1, 0, "world.go:238", #[⟨35, .data⟩, ⟨32, .guard⟩], some (32, false)⟩) (v := undef) rfl (by kernel_rfl) (by kernel_rfl) (by kernel_rfl) (fun _ _ _ h => h) (Or.inr ⟨by rfl, rfl⟩) (by assumption) ?_
        try simp only [Act.put, List.setIfInBounds_toArray, List.set_cons_zero, List.set_cons_succ]
        refine wpAnyH_take (i := 37) (oi := ⟨some 144, .load 3 (.tmp 143), 3, "world.go:238", #[⟨36, .data⟩, ⟨32, .guard⟩], some (32, false)⟩) (v := undef) rfl (by kernel_rfl) (by kernel_rfl) (by kernel_rfl) (fun _ _ _ h => h) (Or.inr ⟨by rfl, rfl⟩) (by assumption) ?_
        try simp only [Act.put, List.setIfInBounds_toArray, List.set_cons_zero, List.set_cons_succ]
        refine wpAnyH_take (i := 38) (oi := ⟨some 145, .binOp .gtr 3 (.tmp 141) (.tmp 144) 3, 4, "world.go:238", #[⟨34, .data⟩, ⟨37, .data⟩, ⟨32, .guard⟩], some (32, false)⟩) (v := undef) rfl (by kernel_rfl) (by kernel_rfl) (by kernel_rfl) (fun _ _ _ h => h) (Or.inr ⟨by rfl, rfl⟩) (by assumption) ?_
        try simp only [Act.put, List.setIfInBounds_toArray, List.set_cons_zero, List.set_cons_succ]
        refine wpAnyH_take (i := 39) (oi := ⟨some 146, .pick (.tmp 139) (.const (.bool true)) (.tmp 145), 4, "world.go:238", #[⟨32, .data⟩, ⟨38, .data⟩], none⟩) (v := ?_) rfl (by kernel_rfl) (by kernel_rfl) (by kernel_rfl) (fun _ _ _ h => h) (Or.inl ⟨by rfl, ?_⟩) (by assumption) ?_
        rotate_left
        ·intro w hSw
         try dsimp only at hSw
         go_simp
         try with_reducible rfl
        try simp only [Act.put, List.setIfInBounds_toArray, List.set_cons_zero, List.set_cons_succ]
        refine wpAnyH_done (by kernel_rfl) ?_ _
        go_wp2_with fail
        go_ret
        exact ⟨ret_b HR.out, bTrans HB7.out (by first | exact hbb | exact hbb.drew)⟩
       ·have e2 : decide ((x.acts.length : Int) ≤ m.id.f) = false := decide_eq_false g2
        by_cases g3 : m.id.n < 0
        ·have e3 : decide (m.id.n < 0) = true := decide_eq_true g3
         have HR : Hid (false = chkW p x) := chkW_m HMX.out (Or.inr (cd_3 g3))
         clear g0 g1 g2 g3 ht
         refine wp_region_held_drew (S := fun w' => w'.cell? ⟨w.heap.size, 0, none⟩ = some (.slice A1 p.hs.length c1) ∧ w'.cell? ⟨w.heap.size, 1, none⟩ = some (.slice A2 p.acs.length c2) ∧ w'.cell? ⟨w.heap.size, 2, none⟩ = some (.slice A3 p.bs.length c3) ∧ w'.cell? ⟨w.heap.size, 3, none⟩ = some (.int .i64 p.fuel) ∧ w'.cell? ⟨w.heap.size + 1, 0, none⟩ = some (.slice B1 x.acts.length d1) ∧ w'.cell? ⟨w.heap.size + 1, 1, none⟩ = some (.slice (some ⟨bm, om, none⟩) x.mail.length d2) ∧ w'.cell? ⟨w.heap.size + 1, 3, none⟩ = some (.int .i64 x.used.dup) ∧ w'.cell? ⟨bm, om + i * 6 + 3, none⟩ = some (.int .i64 m.nt.to) ∧ w'.cell? ⟨bm, om + i * 6 + 4, none⟩ = some (.int .i64 m.nt.hd) ∧ w'.cell? ⟨bm, om + i * 6 + 5, none⟩ = some (.slice A6 m.nt.args.length c6) ∧ w'.cell? ⟨wr.heap.size, 0, none⟩ = some (.int .i64 m.id.f) ∧ w'.cell? ⟨wr.heap.size, 1, none⟩ = some (.int .i64 m.id.n) ∧ w'.cell? ⟨wr.heap.size, 2, none⟩ = some (.int .i64 m.id.c)) (by kernel_rfl) ?_ (fun hHeld => ?_)
         ·exact HS1.out _ (by first | exact hbb | exact hbb.drew)
         refine wpAnyH_take (i := 0) (oi := ⟨some 107, .load 26 (.tmp 2), 26, "world.go:238", #[], none⟩) (v := ?_) rfl (by kernel_rfl) (by kernel_rfl) (by kernel_rfl) (fun _ _ _ h => h) (Or.inl ⟨by rfl, ?_⟩) (by assumption) ?_
         rotate_left
         ·intro w hSw
          try dsimp only at hSw
          go_simp
          try with_reducible rfl
         try simp only [Act.put, List.setIfInBounds_toArray, List.set_cons_zero, List.set_cons_succ]
         refine wpAnyH_take (i := 1) (oi := ⟨some 108, .fieldAddr 44 (.tmp 3) 1, 0, "world.go:238", #[], none⟩) (v := ?_) rfl (by kernel_rfl) (by kernel_rfl) (by kernel_rfl) (fun _ _ _ h => h) (Or.inl ⟨by rfl, ?_⟩) (by assumption) ?_
         rotate_left
         ·intro w hSw
          try dsimp only at hSw
          go_simp
          try with_reducible rfl
         try simp only [Act.put, List.setIfInBounds_toArray, List.set_cons_zero, List.set_cons_succ]
         refine wpAnyH_take (i := 2) (oi := ⟨some 109, .load 40 (.tmp 108), 40, "world.go:238", #[⟨1, .data⟩], none⟩) (v := ?_) rfl (by kernel_rfl) (by kernel_rfl) (by kernel_rfl) (fun _ _ _ h => h) (Or.inl ⟨by rfl, ?_⟩) (by assumption) ?_
         rotate_left
         ·intro w hSw
          try dsimp only at hSw
          go_simp
          try with_reducible rfl
         try simp only [Act.put, List.setIfInBounds_toArray, List.set_cons_zero, List.set_cons_succ]
         refine wpAnyH_take (i := 3) (oi := ⟨some 110, .move (.tmp 7), 3, "world.go:238", #[], none⟩) (v := ?_) rfl (by kernel_rfl) (by kernel_rfl) (by kernel_rfl) (fun _ _ _ h => h) (Or.inl ⟨by rfl, ?_⟩) (by assumption) ?_
         rotate_left
         ·intro w hSw
          try dsimp only at hSw
          go_simp
          try with_reducible rfl
         try simp only [Act.put, List.setIfInBounds_toArray, List.set_cons_zero, List.set_cons_succ]
         refine wpAnyH_take (i := 4) (oi := ⟨some 111, .indexAddr 40 (.tmp 109) (.tmp 110), 0, "world.go:238", #[⟨2, .data⟩, ⟨3, .data⟩], none⟩) (v := ?_) rfl (by kernel_rfl) (by kernel_rfl) (by kernel_rfl) (fun _ _ _ h => h) (Or.inl ⟨by rfl, ?_⟩) (by assumption) ?_
         rotate_left
         ·intro w hSw
          try dsimp only at hSw
          go_simp
          try with_reducible rfl
         try simp only [Act.put, List.setIfInBounds_toArray, List.set_cons_zero, List.set_cons_succ]
         refine wpAnyH_take (i := 5) (oi := ⟨some 112, .fieldAddr 58 (.tmp 111) 1, 0, "world.go:238", #[⟨4, .data⟩], none⟩) (v := ?_) rfl (by kernel_rfl) (by kernel_rfl) (by kernel_rfl) (fun _ _ _ h => h) (Or.inl ⟨by rfl, ?_⟩) (by assumption) ?_
         rotate_left
         ·intro w hSw
          try dsimp only at hSw
          go_simp
          try with_reducible rfl
         try simp only [Act.put, List.setIfInBounds_toArray, List.set_cons_zero, List.set_cons_succ]
         refine wpAnyH_take (i := 6) (oi := ⟨some 113, .load 54 (.tmp 112), 54, "world.go:238", #[⟨5, .data⟩], none⟩) (v := ?_) rfl (by kernel_rfl) (by kernel_rfl) (by kernel_rfl) (fun _ _ _ h => h) (Or.inl ⟨by rfl, ?_⟩) (by assumption) ?_
         rotate_left
         ·intro w hSw
          try dsimp only at hSw
          go_simp
          try with_reducible rfl
         try simp only [Act.put, List.setIfInBounds_toArray, List.set_cons_zero, List.set_cons_succ]
         refine wpAnyH_ready (rs := [7]) (by kernel_rfl) (by simp) ?_
         refine AllReadyH.cons (o := ⟨some 114, .call { callee := .value (.func 112), args := #[.tmp 107, .tmp 113], argTypes := #[26, 54] }, 3, "world.go:238", #[⟨0, .data⟩, ⟨6, .data⟩], none⟩) rfl (fun K hK => ?_) AllReadyH.nil
         go_simp
         (go_at_call 112; refine (rnte_any _ _ _ m.nt p (HNT.out.below (by first | exact hbb | exact hbb.drew)) (HP6.out.below (by first | exact hbb | exact hbb.drew))).mono ?_; rintro e w7 ⟨rfl, hb7⟩; replace hbb := bTrans (by first | exact hbb | exact hbb.drew) hb7; clear hb7)
         try (go_wp2_with fail)
         refine hK.out _ _ ?_ (fun hHeld => ?_)
         ·exact HS1.out _ (by first | exact hbb | exact hbb.drew)
         clear hK K
         try simp only [Act.put, List.setIfInBounds_toArray, List.set_cons_zero, List.set_cons_succ]
         refine wpAnyH_take (i := 8) (oi := ⟨some 115, .binOp .neq 3 (.tmp 114) (.const (.int .i64 0)) 3, 4, "world.go:238", #[⟨7, .data⟩], none⟩) (v := ?_) rfl (by kernel_rfl) (by kernel_rfl) (by kernel_rfl) (fun _ _ _ h => h) (Or.inl ⟨by rfl, ?_⟩) (by assumption) ?_
         rotate_left
         ·intro w hSw
          try dsimp only at hSw
          go_simp
          try with_reducible rfl
         try simp only [Act.put, List.setIfInBounds_toArray, List.set_cons_zero, List.set_cons_succ]
         refine wpAnyH_take (i := 9) (oi := ⟨some 116, .move (.tmp 115), 4, "world.go:238", #[⟨8, .data⟩, ⟨7, .chain⟩], none⟩) (v := ?_) rfl (by kernel_rfl) (by kernel_rfl) (by kernel_rfl) (fun _ _ _ h => h) (Or.inl ⟨by rfl, ?_⟩) (by assumption) ?_
         rotate_left
         ·intro w hSw
          try dsimp only at hSw
          go_simp
          try with_reducible rfl
         try simp only [Act.put, List.setIfInBounds_toArray, List.set_cons_zero, List.set_cons_succ]
         refine wpAnyH_take (i := 10) (oi := ⟨some 117, .fieldAddr 56 (.tmp 8) 0, 0, "world.go:238", #[⟨9, .guard⟩], some (9, false)⟩) (v := ?_) rfl (by kernel_rfl) (by kernel_rfl) (by kernel_rfl) (fun _ _ _ h => h) (Or.inl ⟨by rfl, ?_⟩) (by assumption) ?_
         rotate_left
         ·intro w hSw
          try dsimp only at hSw
          go_simp
          try with_reducible rfl
         try simp only [Act.put, List.setIfInBounds_toArray, List.set_cons_zero, List.set_cons_succ]
         refine wpAnyH_take (i := 11) (oi := ⟨some 118, .load 3 (.tmp 117), 3, "world.go:238", #[⟨10, .data⟩, ⟨9, .guard⟩], some (9, false)⟩) (v := ?_) rfl (by kernel_rfl) (by kernel_rfl) (by kernel_rfl) (fun _ _ _ h => h) (Or.inl ⟨by rfl, ?_⟩) (by assumption) ?_
         rotate_left
         ·intro w hSw
          try dsimp only at hSw
          go_simp
          try with_reducible rfl
         try simp only [Act.put, List.setIfInBounds_toArray, List.set_cons_zero, List.set_cons_succ]
         refine wpAnyH_take (i := 12) (oi := ⟨some 119, .binOp .lss 3 (.tmp 118) (.const (.int .i64 (-1))) 3, 4, "world.go:238", #[⟨11, .data⟩, ⟨9, .guard⟩], some (9, false)⟩) (v := ?_) rfl (by kernel_rfl) (by kernel_rfl) (by kernel_rfl) (fun _ _ _ h => h) (Or.inl ⟨by rfl, ?_⟩) (by assumption) ?_
         rotate_left
         ·intro w hSw
          try dsimp only at hSw
          go_simp
          try with_reducible rfl
         try simp only [Act.put, List.setIfInBounds_toArray, List.set_cons_zero, List.set_cons_succ]
         refine wpAnyH_take (i := 13) (oi := ⟨some 120, .pick (.tmp 116) (.const (.bool true)) (.tmp 119), 4, "world.go:238", #[⟨9, .data⟩, ⟨12, .data⟩], none⟩) (v := ?_) rfl (by kernel_rfl) (by kernel_rfl) (by kernel_rfl) (fun _ _ _ h => h) (Or.inl ⟨by rfl, ?_⟩) (by assumption) ?_
         rotate_left
         ·intro w hSw
          try dsimp only at hSw
          go_simp
          try with_reducible rfl
         try simp only [Act.put, List.setIfInBounds_toArray, List.set_cons_zero, List.set_cons_succ]
         refine wpAnyH_take (i := 14) (oi := ⟨some 121, .move (.tmp 120), 4, "world.go:238", #[⟨13, .data⟩, ⟨9, .chain⟩], none⟩) (v := ?_) rfl (by kernel_rfl) (by kernel_rfl) (by kernel_rfl) (fun _ _ _ h => h) (Or.inl ⟨by rfl, ?_⟩) (by assumption) ?_
         rotate_left
         ·intro w hSw
          try dsimp only at hSw
          go_simp
          try with_reducible rfl
         try simp only [Act.put, List.setIfInBounds_toArray, List.set_cons_zero, List.set_cons_succ]
         refine wpAnyH_take (i := 15) (oi := ⟨some 122, .fieldAddr 56 (.tmp 8) 0, 0, "world.go:238", #[⟨14, .guard⟩], some (14, false)⟩) (v := ?_) rfl (by kernel_rfl) (by kernel_rfl) (by kernel_rfl) (fun _ _ _ h => h) (Or.inl ⟨by rfl, ?_⟩) (by assumption) ?_
         rotate_left
         ·intro w hSw
          try dsimp only at hSw
          go_simp
          try with_reducible rfl
         try simp only [Act.put, List.setIfInBounds_toArray, List.set_cons_zero, List.set_cons_succ]
         refine wpAnyH_take (i := 16) (oi := ⟨some 123, .load 3 (.tmp 122), 3, "world.go:238", #[⟨15, .data⟩, ⟨14, .guard⟩], some (14, false)⟩) (v := ?_) rfl (by kernel_rfl) (by kernel_rfl) (by kernel_rfl) (fun _ _ _ h => h) (Or.inl ⟨by rfl, ?_⟩) (by assumption) ?_
         rotate_left
         ·intro w hSw
          try dsimp only at hSw
          go_simp
          try with_reducible rfl
         try simp only [Act.put, List.setIfInBounds_toArray, List.set_cons_zero, List.set_cons_succ]
         refine wpAnyH_take (i := 17) (oi := ⟨some 124, .fieldAddr 44 (.tmp 3) 0, 0, "world.go:238", #[⟨14, .guard⟩], some (14, false)⟩) (v := ?_) rfl (by kernel_rfl) (by kernel_rfl) (by kernel_rfl) (fun _ _ _ h => h) (Or.inl ⟨by rfl, ?_⟩) (by assumption) ?_
         rotate_left
         ·intro w hSw
          try dsimp only at hSw
          go_simp
          try with_reducible rfl
         try simp only [Act.put, List.setIfInBounds_toArray, List.set_cons_zero, List.set_cons_succ]
         refine wpAnyH_take (i := 18) (oi := ⟨some 125, .load 39 (.tmp 124), 39, "world.go:238", #[⟨17, .data⟩, ⟨14, .guard⟩], some (14, false)⟩) (v := ?_) rfl (by kernel_rfl) (by kernel_rfl) (by kernel_rfl) (fun _ _ _ h => h) (Or.inl ⟨by rfl, ?_⟩) (by assumption) ?_
         rotate_left
         ·intro w hSw
          try dsimp only at hSw
          go_simp
          try with_reducible rfl
         try simp only [Act.put, List.setIfInBounds_toArray, List.set_cons_zero, List.set_cons_succ]
         refine wpAnyH_take (i := 19) (oi := ⟨some 126, .call { callee := .builtin .len, args := #[.tmp 125], argTypes := #[39] }, 3, "world.go:238", #[⟨18, .data⟩, ⟨14, .guard⟩], some (14, false)⟩) (v := ?_) rfl (by kernel_rfl) (by kernel_rfl) (by kernel_rfl) (fun _ _ _ h => h) (Or.inl ⟨by rfl, ?_⟩) (by assumption) ?_
         rotate_left
         ·intro w hSw
          try dsimp only at hSw
          go_simp
          try with_reducible rfl
         try simp only [Act.put, List.setIfInBounds_toArray, List.set_cons_zero, List.set_cons_succ]
         refine wpAnyH_take (i := 20) (oi := ⟨some 127, .binOp .geq 3 (.tmp 123) (.tmp 126) 3, 4, "world.go:238", #[⟨16, .data⟩, ⟨19, .data⟩, ⟨14, .guard⟩], some (14, false)⟩) (v := ?_) rfl (by kernel_rfl) (by kernel_rfl) (by kernel_rfl) (fun _ _ _ h => h) (Or.inl ⟨by rfl, ?_⟩) (by assumption) ?_
         rotate_left
         ·intro w hSw
          try dsimp only at hSw
          go_simp
          try with_reducible rfl
         try simp only [Act.put, List.setIfInBounds_toArray, List.set_cons_zero, List.set_cons_succ]
         refine wpAnyH_take (i := 21) (oi := ⟨some 128, .pick (.tmp 121) (.const (.bool true)) (.tmp 127), 4, "world.go:238", #[⟨14, .data⟩, ⟨20, .data⟩], none⟩) (v := ?_) rfl (by kernel_rfl) (by kernel_rfl) (by kernel_rfl) (fun _ _ _ h => h) (Or.inl ⟨by rfl, ?_⟩) (by assumption) ?_
         rotate_left
         ·intro w hSw
          try dsimp only at hSw
          go_simp
          try with_reducible rfl
         try simp only [Act.put, List.setIfInBounds_toArray, List.set_cons_zero, List.set_cons_succ]
         refine wpAnyH_take (i := 22) (oi := ⟨some 129, .move (.tmp 128), 4, "world.go:238", #[⟨21, .data⟩, ⟨14, .chain⟩], none⟩) (v := ?_) rfl (by kernel_rfl) (by kernel_rfl) (by kernel_rfl) (fun _ _ _ h => h) (Or.inl ⟨by rfl, ?_⟩) (by assumption) ?_
         rotate_left
         ·intro w hSw
          try dsimp only at hSw
          go_simp
          try with_reducible rfl
         try simp only [Act.put, List.setIfInBounds_toArray, List.set_cons_zero, List.set_cons_succ]
         refine wpAnyH_take (i := 23) (oi := ⟨some 130, .fieldAddr 56 (.tmp 8) 1, 0, "world.go:238", #[⟨22, .guard⟩], some (22, false)⟩) (v := ?_) rfl (by kernel_rfl) (by kernel_rfl) (by kernel_rfl) (fun _ _ _ h => h) (Or.inl ⟨by rfl, ?_⟩) (by assumption) ?_
         rotate_left
         ·intro w hSw
          try dsimp only at hSw
          go_simp
          try with_reducible rfl
         try simp only [Act.put, List.setIfInBounds_toArray, List.set_cons_zero, List.set_cons_succ]
         refine wpAnyH_take (i := 24) (oi := ⟨some 131, .load 3 (.tmp 130), 3, "world.go:238", #[⟨23, .data⟩, ⟨22, .guard⟩], some (22, false)⟩) (v := ?_) rfl (by kernel_rfl) (by kernel_rfl) (by kernel_rfl) (fun _ _ _ h => h) (Or.inl ⟨by rfl, ?_⟩) (by assumption) ?_
         rotate_left
         ·intro w hSw
          try dsimp only at hSw
          go_simp
          try with_reducible rfl
         try simp only [Act.put, List.setIfInBounds_toArray, List.set_cons_zero, List.set_cons_succ]
         refine wpAnyH_take (i := 25) (oi := ⟨some 132, .binOp .lss 3 (.tmp 131) (.const (.int .i64 0)) 3, 4, "world.go:238", #[⟨24, .data⟩, ⟨22, .guard⟩], some (22, false)⟩) (v := ?_) rfl (by kernel_rfl) (by kernel_rfl) (by kernel_rfl) (fun _ _ _ h => h) (Or.inl ⟨by rfl, ?_⟩) (by assumption) ?_
         rotate_left
         ·intro w hSw
          try dsimp only at hSw
          go_simp
          try with_reducible rfl
         try simp only [Act.put, List.setIfInBounds_toArray, List.set_cons_zero, List.set_cons_succ]
         refine wpAnyH_take (i := 26) (oi := ⟨some 133, .pick (.tmp 129) (.const (.bool true)) (.tmp 132), 4, "world.go:238", #[⟨22, .data⟩, ⟨25, .data⟩], none⟩) (v := ?_) rfl (by kernel_rfl) (by kernel_rfl) (by kernel_rfl) (fun _ _ _ h => h) (Or.inl ⟨by rfl, ?_⟩) (by assumption) ?_
         rotate_left
         ·intro w hSw
          try dsimp only at hSw
          go_simp
          try with_reducible rfl
         try simp only [Act.put, List.setIfInBounds_toArray, List.set_cons_zero, List.set_cons_succ]
         refine wpAnyH_take (i := 27) (oi := ⟨some 134, .move (.tmp 133), 4, "world.go:238", #[⟨26, .data⟩, ⟨22, .chain⟩], none⟩) (v := ?_) rfl (by kernel_rfl) (by kernel_rfl) (by kernel_rfl) (fun _ _ _ h => h) (Or.inl ⟨by rfl, ?_⟩) (by assumption) ?_
         rotate_left
         ·intro w hSw
          try dsimp only at hSw
          go_simp
          try with_reducible rfl
         try simp only [Act.put, List.setIfInBounds_toArray, List.set_cons_zero, List.set_cons_succ]
         refine wpAnyH_take (i := 28) (oi := ⟨some 135, .fieldAddr 56 (.tmp 8) 2, 0, "world.go:238", #[⟨27, .guard⟩], some (27, false)⟩) (v := undef) rfl (by kernel_rfl) (by kernel_rfl) (by kernel_rfl) (fun _ _ _ h => h) (Or.inr ⟨by rfl, rfl⟩) (by assumption) ?_
         try simp only [Act.put, List.setIfInBounds_toArray, List.set_cons_zero, List.set_cons_succ]
         refine wpAnyH_take (i := 29) (oi := ⟨some 136, .load 3 (.tmp 135), 3, "world.go:238", #[⟨28, .data⟩, ⟨27, .guard⟩], some (27, false)⟩) (v := undef) rfl (by kernel_rfl) (by kernel_rfl) (by kernel_rfl) (fun _ _ _ h => h) (Or.inr ⟨by rfl, rfl⟩) (by assumption) ?_
         try simp only [Act.put, List.setIfInBounds_toArray, List.set_cons_zero, List.set_cons_succ]
         refine wpAnyH_take (i := 30) (oi := ⟨some 137, .binOp .lss 3 (.tmp 136) (.const (.int .i64 0)) 3, 4, "world.go:238", #[⟨29, .data⟩, ⟨27, .guard⟩], some (27, false)⟩) (v := undef) rfl (by kernel_rfl) (by kernel_rfl) (by kernel_rfl) (fun _ _ _ h => h) (Or.inr ⟨by rfl, rfl⟩) (by assumption) ?_
         try simp only [Act.put, List.setIfInBounds_toArray, List.set_cons_zero, List.set_cons_succ]
         refine wpAnyH_take (i := 31) (oi := ⟨some 138, .pick (.tmp 134) (.const (.bool true)) (.tmp 137), 4, "world.go:238", #[⟨27, .data⟩, ⟨30, .data⟩], none⟩) (v := ?_) rfl (by kernel_rfl) (by kernel_rfl) (by kernel_rfl) (fun _ _ _ h => h) (Or.inl ⟨by rfl, ?_⟩) (by assumption) ?_
         rotate_left
         ·intro w hSw
          try dsimp only at hSw
          go_simp
          try with_reducible rfl
         try simp only [Act.put, List.setIfInBounds_toArray, List.set_cons_zero, List.set_cons_succ]
         refine wpAnyH_take (i := 32) (oi := ⟨some 139, .move (.tmp 138), 4, "world.go:238", #[⟨31, .data⟩, ⟨27, .chain⟩], none⟩) (v := ?_) rfl (by kernel_rfl) (by kernel_rfl) (by kernel_rfl) (fun _ _ _ h => h) (Or.inl ⟨by rfl, ?_⟩) (by assumption) ?_
         rotate_left
         ·intro w hSw
          try dsimp only at hSw
          go_simp
          try with_reducible rfl
         try simp only [Act.put, List.setIfInBounds_toArray, List.set_cons_zero, List.set_cons_succ]
         refine wpAnyH_take (i := 33) (oi := ⟨some 140, .fieldAddr 56 (.tmp 8) 2, 0, "world.go:238", #[⟨32, .guard⟩], some (32, false)⟩) (v := undef) rfl (by kernel_rfl) (by kernel_rfl) (by kernel_rfl) (fun _ _ _ h => h) (Or.inr ⟨by rfl, rfl⟩) (by assumption) ?_
         try simp only [Act.put, List.setIfInBounds_toArray, List.set_cons_zero, List.set_cons_succ]
         refine wpAnyH_take (i := 34) (oi := ⟨some 141, .load 3 (.tmp 140), 3, "world.go:238", #[⟨33, .data⟩, ⟨32, .guard⟩], some (32, false)⟩) (v := undef) rfl (by kernel_rfl) (by kernel_rfl) (by kernel_rfl) (fun _ _ _ h => h) (Or.inr ⟨by rfl, rfl⟩) (by assumption) ?_
         try simp only [Act.put, List.setIfInBounds_toArray, List.set_cons_zero, List.set_cons_succ]
         refine wpAnyH_take (i := 35) (oi := ⟨some 142, .fieldAddr 44 (.tmp 3) 2, 0, "world.go:238", #[⟨32, .guard⟩], some (32, false)⟩) (v := undef) rfl (by kernel_rfl) (by kernel_rfl) (by kernel_rfl) (fun _ _ _ h => h) (Or.inr ⟨by rfl, rfl⟩) (by assumption) ?_
         try simp only [Act.put, List.setIfInBounds_toArray, List.set_cons_zero, List.set_cons_succ]
         refine wpAnyH_take (i := 36) (oi := ⟨some 143, .fieldAddr 42 (.tmp 142) 1, 0, "world.go:238", #[⟨35, .data⟩, ⟨32, .guard⟩], some (32, false)⟩) (v := undef) rfl (by kernel_rfl) (by kernel_rfl) (by kernel_rfl) (fun _ _ _ h => h) (Or.inr ⟨by rfl, rfl⟩) (by assumption) ?_
         try simp only [Act.put, List.setIfInBounds_toArray, List.set_cons_zero, List.set_cons_succ]
         refine wpAnyH_take (i := 37) (oi := ⟨some 144, .load 3 (.tmp 143), 3, "world.go:238", #[⟨36, .data⟩, ⟨32, .guard⟩], some (32, false)⟩) (v := undef) rfl (by kernel_rfl) (by kernel_rfl) (by kernel_rfl) (fun _ _ _ h => h) (Or.inr ⟨by rfl, rfl⟩) (by assumption) ?_
         try simp only [Act.put, List.setIfInBounds_toArray, List.set_cons_zero, List.set_cons_succ]
         refine wpAnyH_take (i := 38) (oi := ⟨some 145, .binOp .gtr 3 (.tmp 141) (.tmp 144) 3, 4, "world.go:238", #[⟨34, .data⟩, ⟨37, .data⟩, ⟨32, .guard⟩], some (32, false)⟩) (v := undef) rfl (by kernel_rfl) (by kernel_rfl) (by kernel_rfl) (fun _ _ _ h => h) (Or.inr ⟨by rfl, rfl⟩) (by assumption) ?_
         try simp only [Act.put, List.setIfInBounds_toArray, List.set_cons_zero, List.set_cons_succ]
         refine wpAnyH_take (i := 39) (oi := ⟨some 146, .pick (.tmp 139) (.const (.bool true)) (.tmp 145), 4, "world.go:238", #[⟨32, .data⟩, ⟨38, .data⟩], none⟩) (v := ?_) rfl (by kernel_rfl) (by kernel_rfl) (by kernel_rfl) (fun _ _ _ h => h) (Or.inl ⟨by rfl, ?_⟩) (by assumption) ?_
         rotate_left
         ·intro w hSw
          try dsimp only at hSw
          go_simp
          try with_reducible rfl
         try simp only [Act.put, List.setIfInBounds_toArray, List.set_cons_zero, List.set_cons_succ]
         refine wpAnyH_done (by kernel_rfl) ?_ _
         go_wp2_with fail
         go_ret
         exact ⟨ret_b HR.out, bTrans HB7.out (by first | exact hbb | exact hbb.drew)⟩
        ·have e3 : decide (m.id.n < 0) = false := decide_eq_false g3
         by_cases g4 : m.id.c < 0
         ·have e4 : decide (m.id.c < 0) = true := decide_eq_true g4
          have HR : Hid (false = chkW p x) := chkW_m HMX.out (Or.inr (cd_4 g4))
          clear g0 g1 g2 g3 g4 ht
          refine wp_region_held_drew (S := fun w' => w'.cell? ⟨w.heap.size, 0, none⟩ = some (.slice A1 p.hs.length c1) ∧ w'.cell? ⟨w.heap.size, 1, none⟩ = some (.slice A2 p.acs.length c2) ∧ w'.cell? ⟨w.heap.size, 2, none⟩ = some (.slice A3 p.bs.length c3) ∧ w'.cell? ⟨w.heap.size, 3, none⟩ = some (.int .i64 p.fuel) ∧ w'.cell? ⟨w.heap.size + 1, 0, none⟩ = some (.slice B1 x.acts.length d1) ∧ w'.cell? ⟨w.heap.size + 1, 1, none⟩ = some (.slice (some ⟨bm, om, none⟩) x.mail.length d2) ∧ w'.cell? ⟨w.heap.size + 1, 3, none⟩ = some (.int .i64 x.used.dup) ∧ w'.cell? ⟨bm, om + i * 6 + 3, none⟩ = some (.int .i64 m.nt.to) ∧ w'.cell? ⟨bm, om + i * 6 + 4, none⟩ = some (.int .i64 m.nt.hd) ∧ w'.cell? ⟨bm, om + i * 6 + 5, none⟩ = some (.slice A6 m.nt.args.length c6) ∧ w'.cell? ⟨wr.heap.size, 0, none⟩ = some (.int .i64 m.id.f) ∧ w'.cell? ⟨wr.heap.size, 1, none⟩ = some (.int .i64 m.id.n) ∧ w'.cell? ⟨wr.heap.size, 2, none⟩ = some (.int .i64 m.id.c)) (by kernel_rfl) ?_ (fun hHeld => ?_)
          ·exact HS1.out _ (by first | exact hbb | exact hbb.drew)
          refine wpAnyH_take (i := 0) (oi := ⟨some 107, .load 26 (.tmp 2), 26, "world.go:238", #[], none⟩) (v := ?_) rfl (by kernel_rfl) (by kernel_rfl) (by kernel_rfl) (fun _ _ _ h => h) (Or.inl ⟨by rfl, ?_⟩) (by assumption) ?_
          rotate_left
          ·intro w hSw
           try dsimp only at hSw
           go_simp
           try with_reducible rfl
          try simp only [Act.put, List.setIfInBounds_toArray, List.set_cons_zero, List.set_cons_succ]
          refine wpAnyH_take (i := 1) (oi := ⟨some 108, .fieldAddr 44 (.tmp 3) 1, 0, "world.go:238", #[], none⟩) (v := ?_) rfl (by kernel_rfl) (by kernel_rfl) (by kernel_rfl) (fun _ _ _ h => h) (Or.inl ⟨by rfl, ?_⟩) (by assumption) ?_
          rotate_left
          ·intro w hSw
           try dsimp only at hSw
           go_simp
           try with_reducible rfl
          try simp only [Act.put, List.setIfInBounds_toArray, List.set_cons_zero, List.set_cons_succ]
          refine wpAnyH_take (i := 2) (oi := ⟨some 109, .load 40 (.tmp 108), 40, "world.go:238", #[⟨1, .data⟩], none⟩) (v := ?_) rfl (by kernel_rfl) (by kernel_rfl) (by kernel_rfl) (fun _ _ _ h => h) (Or.inl ⟨by rfl, ?_⟩) (by assumption) ?_
          rotate_left
          ·intro w hSw
           try dsimp only at hSw
           go_simp
           try with_reducible rfl
          try simp only [Act.put, List.setIfInBounds_toArray, List.set_cons_zero, List.set_cons_succ]
          refine wpAnyH_take (i := 3) (oi := ⟨some 110, .move (.tmp 7), 3, "world.go:238", #[], none⟩) (v := ?_) rfl (by kernel_rfl) (by kernel_rfl) (by kernel_rfl) (fun _ _ _ h => h) (Or.inl ⟨by rfl, ?_⟩) (by assumption) ?_
          rotate_left
          ·intro w hSw
           try dsimp only at hSw
           go_simp
           try with_reducible rfl
          try simp only [Act.put, List.setIfInBounds_toArray, List.set_cons_zero, List.set_cons_succ]
          refine wpAnyH_take (i := 4) (oi := ⟨some 111, .indexAddr 40 (.tmp 109) (.tmp 110), 0, "world.go:238", #[⟨2, .data⟩, ⟨3, .data⟩], none⟩) (v := ?_) rfl (by kernel_rfl) (by kernel_rfl) (by kernel_rfl) (fun _ _ _ h => h) (Or.inl ⟨by rfl, ?_⟩) (by assumption) ?_
          rotate_left
          ·intro w hSw
           try dsimp only at hSw
           go_simp
           try with_reducible rfl
          try simp only [Act.put, List.setIfInBounds_toArray, List.set_cons_zero, List.set_cons_succ]
          refine wpAnyH_take (i := 5) (oi := ⟨some 112, .fieldAddr 58 (.tmp 111) 1, 0, "world.go:238", #[⟨4, .data⟩], none⟩) (v := ?_) rfl (by kernel_rfl) (by kernel_rfl) (by kernel_rfl) (fun _ _ _ h => h) (Or.inl ⟨by rfl, ?_⟩) (by assumption) ?_
          rotate_left
          ·intro w hSw
           try dsimp only at hSw
           go_simp
           try with_reducible rfl
          try simp only [Act.put, List.setIfInBounds_toArray, List.set_cons_zero, List.set_cons_succ]
          refine wpAnyH_take (i := 6) (oi := ⟨some 113, .load 54 (.tmp 112), 54, "world.go:238", #[⟨5, .data⟩], none⟩) (v := ?_) rfl (by kernel_rfl) (by kernel_rfl) (by kernel_rfl) (fun _ _ _ h => h) (Or.inl ⟨by rfl, ?_⟩) (by assumption) ?_
          rotate_left
          ·intro w hSw
           try dsimp only at hSw
           go_simp
           try with_reducible rfl
          try simp only [Act.put, List.setIfInBounds_toArray, List.set_cons_zero, List.set_cons_succ]
          refine wpAnyH_ready (rs := [7]) (by kernel_rfl) (by simp) ?_
          refine AllReadyH.cons (o := ⟨some 114, .call { callee := .value (.func 112), args := #[.tmp 107, .tmp 113], argTypes := #[26, 54] }, 3, "world.go:238", #[⟨0, .data⟩, ⟨6, .data⟩], none⟩) rfl (fun K hK => ?_) AllReadyH.nil
          go_simp
          (go_at_call 112; refine (rnte_any _ _ _ m.nt p (HNT.out.below (by first | exact hbb | exact hbb.drew)) (HP6.out.below (by first | exact hbb | exact hbb.drew))).mono ?_; rintro e w7 ⟨rfl, hb7⟩; replace hbb := bTrans (by first | exact hbb | exact hbb.drew) hb7; clear hb7)
          try (go_wp2_with fail)
          refine hK.out _ _ ?_ (fun hHeld => ?_)
          ·exact HS1.out _ (by first | exact hbb | exact hbb.drew)
          clear hK K
          try simp only [Act.put, List.setIfInBounds_toArray, List.set_cons_zero, List.set_cons_succ]
          refine wpAnyH_take (i := 8) (oi := ⟨some 115, .binOp .neq 3 (.tmp 114) (.const (.int .i64 0)) 3, 4, "world.go:238", #[⟨7, .data⟩], none⟩) (v := ?_) rfl (by kernel_rfl) (by kernel_rfl) (by kernel_rfl) (fun _ _ _ h => h) (Or.inl ⟨by rfl, ?_⟩) (by assumption) ?_
          rotate_left
          ·intro w hSw
           try dsimp only at hSw
           go_simp
           try with_reducible rfl
          try simp only [Act.put, List.setIfInBounds_toArray, List.set_cons_zero, List.set_cons_succ]
          refine wpAnyH_take (i := 9) (oi := ⟨some 116, .move (.tmp 115), 4, "world.go:238", #[⟨8, .data⟩, ⟨7, .chain⟩], none⟩) (v := ?_) rfl (by kernel_rfl) (by kernel_rfl) (by kernel_rfl) (fun _ _ _ h => h) (Or.inl ⟨by rfl, ?_⟩) (by assumption) ?_
          rotate_left
          ·intro w hSw
           try dsimp only at hSw
           go_simp
           try with_reducible rfl
          try simp only [Act.put, List.setIfInBounds_toArray, List.set_cons_zero, List.set_cons_succ]
          refine wpAnyH_take (i := 10) (oi := ⟨some 117, .fieldAddr 56 (.tmp 8) 0, 0, "world.go:238", #[⟨9, .guard⟩], some (9, false)⟩) (v := ?_) rfl (by kernel_rfl) (by kernel_rfl) (by kernel_rfl) (fun _ _ _ h => h) (Or.inl ⟨by rfl, ?_⟩) (by assumption) ?_
          rotate_left
          ·intro w hSw
           try dsimp only at hSw
           go_simp
           try with_reducible rfl
          try simp only [Act.put, List.setIfInBounds_toArray, List.set_cons_zero, List.set_cons_succ]
          refine wpAnyH_take (i := 11) (oi := ⟨some 118, .load 3 (.tmp 117), 3, "world.go:238", #[⟨10, .data⟩, ⟨9, .guard⟩], some (9, false)⟩) (v := ?_) rfl (by kernel_rfl) (by kernel_rfl) (by kernel_rfl) (fun _ _ _ h => h) (Or.inl ⟨by rfl, ?_⟩) (by assumption) ?_
          rotate_left
          ·intro w hSw
           try dsimp only at hSw
           go_simp
           try with_reducible rfl
          try simp only [Act.put, List.setIfInBounds_toArray, List.set_cons_zero, List.set_cons_succ]
          refine wpAnyH_take (i := 12) (oi := ⟨some 119, .binOp .lss 3 (.tmp 118) (.const (.int .i64 (-1))) 3, 4, "world.go:238", #[⟨11, .data⟩, ⟨9, .guard⟩], some (9, false)⟩) (v := ?_) rfl (by kernel_rfl) (by kernel_rfl) (by kernel_rfl) (fun _ _ _ h => h) (Or.inl ⟨by rfl, ?_⟩) (by assumption) ?_
          rotate_left
          ·intro w hSw
           try dsimp only at hSw
           go_simp
           try with_reducible rfl
          try simp only [Act.put, List.setIfInBounds_toArray, List.set_cons_zero, List.set_cons_succ]
          refine wpAnyH_take (i := 13) (oi := ⟨some 120, .pick (.tmp 116) (.const (.bool true)) (.tmp 119), 4, "world.go:238", #[⟨9, .data⟩, ⟨12, .data⟩], none⟩) (v := ?_) rfl (by kernel_rfl) (by kernel_rfl) (by kernel_rfl) (fun _ _ _ h => h) (Or.inl ⟨by rfl, ?_⟩) (by assumption) ?_
          rotate_left
          ·intro w hSw
           try dsimp only at hSw
           go_simp
           try with_reducible rfl
          try simp only [Act.put, List.setIfInBounds_toArray, List.set_cons_zero, List.set_cons_succ]
          refine wpAnyH_take (i := 14) (oi := ⟨some 121, .move (.tmp 120), 4, "world.go:238", #[⟨13, .data⟩, ⟨9, .chain⟩], none⟩) (v := ?_) rfl (by kernel_rfl) (by kernel_rfl) (by kernel_rfl) (fun _ _ _ h => h) (Or.inl ⟨by rfl, ?_⟩) (by assumption) ?_
          rotate_left
          ·intro w hSw
           try dsimp only at hSw
           go_simp
           try with_reducible rfl
          try simp only [Act.put, List.setIfInBounds_toArray, List.set_cons_zero, List.set_cons_succ]
          refine wpAnyH_take (i := 15) (oi := ⟨some 122, .fieldAddr 56 (.tmp 8) 0, 0, "world.go:238", #[⟨14, .guard⟩], some (14, false)⟩) (v := ?_) rfl (by kernel_rfl) (by kernel_rfl) (by kernel_rfl) (fun _ _ _ h => h) (Or.inl ⟨by rfl, ?_⟩) (by assumption) ?_
          rotate_left
          ·intro w hSw
           try dsimp only at hSw
           go_simp
           try with_reducible rfl
          try simp only [Act.put, List.setIfInBounds_toArray, List.set_cons_zero, List.set_cons_succ]
          refine wpAnyH_take (i := 16) (oi := ⟨some 123, .load 3 (.tmp 122), 3, "world.go:238", #[⟨15, .data⟩, ⟨14, .guard⟩], some (14, false)⟩) (v := ?_) rfl (by kernel_rfl) (by kernel_rfl) (by kernel_rfl) (fun _ _ _ h => h) (Or.inl ⟨by rfl, ?_⟩) (by assumption) ?_
          rotate_left
          ·intro w hSw
           try dsimp only at hSw
           go_simp
           try with_reducible rfl
          try simp only [Act.put, List.setIfInBounds_toArray, List.set_cons_zero, List.set_cons_succ]
          refine wpAnyH_take (i := 17) (oi := ⟨some 124, .fieldAddr 44 (.tmp 3) 0, 0, "world.go:238", #[⟨14, .guard⟩], some (14, false)⟩) (v := ?_) rfl (by kernel_rfl) (by kernel_rfl) (by kernel_rfl) (fun _ _ _ h => h) (Or.inl ⟨by rfl, ?_⟩) (by assumption) ?_
          rotate_left
          ·intro w hSw
           try dsimp only at hSw
           go_simp
           try with_reducible rfl
          try simp only [Act.put, List.setIfInBounds_toArray, List.set_cons_zero, List.set_cons_succ]
          refine wpAnyH_take (i := 18) (oi := ⟨some 125, .load 39 (.tmp 124), 39, "world.go:238", #[⟨17, .data⟩, ⟨14, .guard⟩], some (14, false)⟩) (v := ?_) rfl (by kernel_rfl) (by kernel_rfl) (by kernel_rfl) (fun _ _ _ h => h) (Or.inl ⟨by rfl, ?_⟩) (by assumption) ?_
          rotate_left
          ·intro w hSw
           try dsimp only at hSw
           go_simp
           try with_reducible rfl
          try simp only [Act.put, List.setIfInBounds_toArray, List.set_cons_zero, List.set_cons_succ]
          refine wpAnyH_take (i := 19) (oi := ⟨some 126, .call { callee := .builtin .len, args := #[.tmp 125], argTypes := #[39] }, 3, "world.go:238", #[⟨18, .data⟩, ⟨14, .guard⟩], some (14, false)⟩) (v := ?_) rfl (by kernel_rfl) (by kernel_rfl) (by kernel_rfl) (fun _ _ _ h => h) (Or.inl ⟨by rfl, ?_⟩) (by assumption) ?_
          rotate_left
          ·intro w hSw
           try dsimp only at hSw
           go_simp
           try with_reducible rfl
          try simp only [Act.put, List.setIfInBounds_toArray, List.set_cons_zero, List.set_cons_succ]
          refine wpAnyH_take (i := 20) (oi := ⟨some 127, .binOp .geq 3 (.tmp 123) (.tmp 126) 3, 4, "world.go:238", #[⟨16, .data⟩, ⟨19, .data⟩, ⟨14, .guard⟩], some (14, false)⟩) (v := ?_) rfl (by kernel_rfl) (by kernel_rfl) (by kernel_rfl) (fun _ _ _ h => h) (Or.inl ⟨by rfl, ?_⟩) (by assumption) ?_
          rotate_left
          ·intro w hSw
           try dsimp only at hSw
           go_simp
           try with_reducible rfl
          try simp only [Act.put, List.setIfInBounds_toArray, List.set_cons_zero, List.set_cons_succ]
          refine wpAnyH_take (i := 21) (oi := ⟨some 128, .pick (.tmp 121) (.const (.bool true)) (.tmp 127), 4, "world.go:238", #[⟨14, .data⟩, ⟨20, .data⟩], none⟩) (v := ?_) rfl (by kernel_rfl) (by kernel_rfl) (by kernel_rfl) (fun _ _ _ h => h) (Or.inl ⟨by rfl, ?_⟩) (by assumption) ?_
          rotate_left
          ·intro w hSw
           try dsimp only at hSw
           go_simp
           try with_reducible rfl
          try simp only [Act.put, List.setIfInBounds_toArray, List.set_cons_zero, List.set_cons_succ]
          refine wpAnyH_take (i := 22) (oi := ⟨some 129, .move (.tmp 128), 4, "world.go:238", #[⟨21, .data⟩, ⟨14, .chain⟩], none⟩) (v := ?_) rfl (by kernel_rfl) (by kernel_rfl) (by kernel_rfl) (fun _ _ _ h => h) (Or.inl ⟨by rfl, ?_⟩) (by assumption) ?_
          rotate_left
          ·intro w hSw
           try dsimp only at hSw
           go_simp
           try with_reducible rfl
          try simp only [Act.put, List.setIfInBounds_toArray, List.set_cons_zero, List.set_cons_succ]
          refine wpAnyH_take (i := 23) (oi := ⟨some 130, .fieldAddr 56 (.tmp 8) 1, 0, "world.go:238", #[⟨22, .guard⟩], some (22, false)⟩) (v := ?_) rfl (by kernel_rfl) (by kernel_rfl) (by kernel_rfl) (fun _ _ _ h => h) (Or.inl ⟨by rfl, ?_⟩) (by assumption) ?_
          rotate_left
          ·intro w hSw
           try dsimp only at hSw
           go_simp
           try with_reducible rfl
          try simp only [Act.put, List.setIfInBounds_toArray, List.set_cons_zero, List.set_cons_succ]
          refine wpAnyH_take (i := 24) (oi := ⟨some 131, .load 3 (.tmp 130), 3, "world.go:238", #[⟨23, .data⟩, ⟨22, .guard⟩], some (22, false)⟩) (v := ?_) rfl (by kernel_rfl) (by kernel_rfl) (by kernel_rfl) (fun _ _ _ h => h) (Or.inl ⟨by rfl, ?_⟩) (by assumption) ?_
          rotate_left
          ·intro w hSw
           try dsimp only at hSw
           go_simp
           try with_reducible rfl
          try simp only [Act.put, List.setIfInBounds_toArray, List.set_cons_zero, List.set_cons_succ]
          refine wpAnyH_take (i := 25) (oi := ⟨some 132, .binOp .lss 3 (.tmp 131) (.const (.int .i64 0)) 3, 4, "world.go:238", #[⟨24, .data⟩, ⟨22, .guard⟩], some (22, false)⟩) (v := ?_) rfl (by kernel_rfl) (by kernel_rfl) (by kernel_rfl) (fun _ _ _ h => h) (Or.inl ⟨by rfl, ?_⟩) (by assumption) ?_
          rotate_left
          ·intro w hSw
           try dsimp only at hSw
           go_simp
           try with_reducible rfl
          try simp only [Act.put, List.setIfInBounds_toArray, List.set_cons_zero, List.set_cons_succ]
          refine wpAnyH_take (i := 26) (oi := ⟨some 133, .pick (.tmp 129) (.const (.bool true)) (.tmp 132), 4, "world.go:238", #[⟨22, .data⟩, ⟨25, .data⟩], none⟩) (v := ?_) rfl (by kernel_rfl) (by kernel_rfl) (by kernel_rfl) (fun _ _ _ h => h) (Or.inl ⟨by rfl, ?_⟩) (by assumption) ?_
          rotate_left
          ·intro w hSw
           try dsimp only at hSw
           go_simp
           try with_reducible rfl
          try simp only [Act.put, List.setIfInBounds_toArray, List.set_cons_zero, List.set_cons_succ]
          refine wpAnyH_take (i := 27) (oi := ⟨some 134, .move (.tmp 133), 4, "world.go:238", #[⟨26, .data⟩, ⟨22, .chain⟩], none⟩) (v := ?_) rfl (by kernel_rfl) (by kernel_rfl) (by kernel_rfl) (fun _ _ _ h => h) (Or.inl ⟨by rfl, ?_⟩) (by assumption) ?_
          rotate_left
          ·intro w hSw
           try dsimp only at hSw
           go_simp
           try with_reducible rfl
          try simp only [Act.put, List.setIfInBounds_toArray, List.set_cons_zero, List.set_cons_succ]
          refine wpAnyH_take (i := 28) (oi := ⟨some 135, .fieldAddr 56 (.tmp 8) 2, 0, "world.go:238", #[⟨27, .guard⟩], some (27, false)⟩) (v := ?_) rfl (by kernel_rfl) (by kernel_rfl) (by kernel_rfl) (fun _ _ _ h => h) (Or.inl ⟨by rfl, ?_⟩) (by assumption) ?_
          rotate_left
          ·intro w hSw
           try dsimp only at hSw
           go_simp
           try with_reducible rfl
          try simp only [Act.put, List.setIfInBounds_toArray, List.set_cons_zero, List.set_cons_succ]
          refine wpAnyH_take (i := 29) (oi := ⟨some 136, .load 3 (.tmp 135), 3, "world.go:238", #[⟨28, .data⟩, ⟨27, .guard⟩], some (27, false)⟩) (v := ?_) rfl (by kernel_rfl) (by kernel_rfl) (by kernel_rfl) (fun _ _ _ h => h) (Or.inl ⟨by rfl, ?_⟩) (by assumption) ?_
          rotate_left
          ·intro w hSw
           try dsimp only at hSw
           go_simp
           try with_reducible rfl
          try simp only [Act.put, List.setIfInBounds_toArray, List.set_cons_zero, List.set_cons_succ]
          refine wpAnyH_take (i := 30) (oi := ⟨some 137, .binOp .lss 3 (.tmp 136) (.const (.int .i64 0)) 3, 4, "world.go:238", #[⟨29, .data⟩, ⟨27, .guard⟩], some (27, false)⟩) (v := ?_) rfl (by kernel_rfl) (by kernel_rfl) (by kernel_rfl) (fun _ _ _ h => h) (Or.inl ⟨by rfl, ?_⟩) (by assumption) ?_
          rotate_left
          ·intro w hSw
           try dsimp only at hSw
           go_simp
           try with_reducible rfl
          try simp only [Act.put, List.setIfInBounds_toArray, List.set_cons_zero, List.set_cons_succ]
          refine wpAnyH_take (i := 31) (oi := ⟨some 138, .pick (.tmp 134) (.const (.bool true)) (.tmp 137), 4, "world.go:238", #[⟨27, .data⟩, ⟨30, .data⟩], none⟩) (v := ?_) rfl (by kernel_rfl) (by kernel_rfl) (by kernel_rfl) (fun _ _ _ h => h) (Or.inl ⟨by rfl, ?_⟩) (by assumption) ?_
          rotate_left
          ·intro w hSw
           try dsimp only at hSw
           go_simp
           try with_reducible rfl
          try simp only [Act.put, List.setIfInBounds_toArray, List.set_cons_zero, List.set_cons_succ]
          refine wpAnyH_take (i := 32) (oi := ⟨some 139, .move (.tmp 138), 4, "world.go:238", #[⟨31, .data⟩, ⟨27, .chain⟩], none⟩) (v := ?_) rfl (by kernel_rfl) (by kernel_rfl) (by kernel_rfl) (fun _ _ _ h => h) (Or.inl ⟨by rfl, ?_⟩) (by assumption) ?_
          rotate_left
          ·intro w hSw
           try dsimp only at hSw
           go_simp
           try with_reducible rfl
          try simp only [Act.put, List.setIfInBounds_toArray, List.set_cons_zero, List.set_cons_succ]
          refine wpAnyH_take (i := 33) (oi := ⟨some 140, .fieldAddr 56 (.tmp 8) 2, 0, "world.go:238", #[⟨32, .guard⟩], some (32, false)⟩) (v := undef) rfl (by kernel_rfl) (by kernel_rfl) (by kernel_rfl) (fun _ _ _ h => h) (Or.inr ⟨by rfl, rfl⟩) (by assumption) ?_
          try simp only [Act.put, List.setIfInBounds_toArray, List.set_cons_zero, List.set_cons_succ]
          refine wpAnyH_take (i := 34) (oi := ⟨some 141, .load 3 (.tmp 140), 3, "world.go:238", #[⟨33, .data⟩, ⟨32, .guard⟩], some (32, false)⟩) (v := undef) rfl (by kernel_rfl) (by kernel_rfl) (by kernel_rfl) (fun _ _ _ h => h) (Or.inr ⟨by rfl, rfl⟩) (by assumption) ?_
          try simp only [Act.put, List.setIfInBounds_toArray, List.set_cons_zero, List.set_cons_succ]
          refine wpAnyH_take (i := 35) (oi := ⟨some 142, .fieldAddr 44 (.tmp 3) 2, 0, "world.go:238", #[⟨32, .guard⟩], some (32, false)⟩) (v := undef) rfl (by kernel_rfl) (by kernel_rfl) (by kernel_rfl) (fun _ _ _ h => h) (Or.inr ⟨by rfl, rfl⟩) (by assumption) ?_
          try simp only [Act.put, List.setIfInBounds_toArray, List.set_cons_zero, List.set_cons_succ]
          refine wpAnyH_take (i := 36) (oi := ⟨some 143, .fieldAddr 42 (.tmp 142) 1, 0, "world.go:238", #[⟨35, .data⟩, ⟨32, .guard⟩], some (32, false)⟩) (v := undef) rfl (by kernel_rfl) (by kernel_rfl) (by kernel_rfl) (fun _ _ _ h => h) (Or.inr ⟨by rfl, rfl⟩) (by assumption) ?_
          try simp only [Act.put, List.setIfInBounds_toArray, List.set_cons_zero, List.set_cons_succ]
          refine wpAnyH_take (i := 37) (oi := ⟨some 144, .load 3 (.tmp 143), 3, "world.go:238", #[⟨36, .data⟩, ⟨32, .guard⟩], some (32, false)⟩) (v := undef) rfl (by kernel_rfl) (by kernel_rfl) (by kernel_rfl) (fun _ _ _ h => h) (Or.inr ⟨by rfl, rfl⟩) (by assumption) ?_
          try simp only [Act.put, List.setIfInBounds_toArray, List.set_cons_zero, List.set_cons_succ]
          refine wpAnyH_take (i := 38) (oi := ⟨some 145, .binOp .gtr 3 (.tmp 141) (.tmp 144) 3, 4, "world.go:238", #[⟨34, .data⟩, ⟨37, .data⟩, ⟨32, .guard⟩], some (32, false)⟩) (v := undef) rfl (by kernel_rfl) (by kernel_rfl) (by kernel_rfl) (fun _ _ _ h => h) (Or.inr ⟨by rfl, rfl⟩) (by assumption) ?_
          try simp only [Act.put, List.setIfInBounds_toArray, List.set_cons_zero, List.set_cons_succ]
          refine wpAnyH_take (i := 39) (oi := ⟨some 146, .pick (.tmp 139) (.const (.bool true)) (.tmp 145), 4, "world.go:238", #[⟨32, .data⟩, ⟨38, .data⟩], none⟩) (v := ?_) rfl (by kernel_rfl) (by kernel_rfl) (by kernel_rfl) (fun _ _ _ h => h) (Or.inl ⟨by rfl, ?_⟩) (by assumption) ?_
          rotate_left
          ·intro w hSw
           try dsimp only at hSw
           go_simp
           try with_reducible rfl
          try simp only [Act.put, List.setIfInBounds_toArray, List.set_cons_zero, List.set_cons_succ]
          refine wpAnyH_done (by kernel_rfl) ?_ _
          go_wp2_with fail
          go_ret
          exact ⟨ret_b HR.out, bTrans HB7.out (by first | exact hbb | exact hbb.drew)⟩
         ·have e4 : decide (m.id.c < 0) = false := decide_eq_false g4
          by_cases g5 : x.used.dup < m.id.c
          ·have e5 : decide (x.used.dup < m.id.c) = true := decide_eq_true g5
           have HR : Hid (false = chkW p x) := chkW_m HMX.out (Or.inr (cd_5 g5))
           clear g0 g1 g2 g3 g4 g5 ht
           refine wp_region_held_drew (S := fun w' => w'.cell? ⟨w.heap.size, 0, none⟩ = some (.slice A1 p.hs.length c1) ∧ w'.cell? ⟨w.heap.size, 1, none⟩ = some (.slice A2 p.acs.length c2) ∧ w'.cell? ⟨w.heap.size, 2, none⟩ = some (.slice A3 p.bs.length c3) ∧ w'.cell? ⟨w.heap.size, 3, none⟩ = some (.int .i64 p.fuel) ∧ w'.cell? ⟨w.heap.size + 1, 0, none⟩ = some (.slice B1 x.acts.length d1) ∧ w'.cell? ⟨w.heap.size + 1, 1, none⟩ = some (.slice (some ⟨bm, om, none⟩) x.mail.length d2) ∧ w'.cell? ⟨w.heap.size + 1, 3, none⟩ = some (.int .i64 x.used.dup) ∧ w'.cell? ⟨bm, om + i * 6 + 3, none⟩ = some (.int .i64 m.nt.to) ∧ w'.cell? ⟨bm, om + i * 6 + 4, none⟩ = some (.int .i64 m.nt.hd) ∧ w'.cell? ⟨bm, om + i * 6 + 5, none⟩ = some (.slice A6 m.nt.args.length c6) ∧ w'.cell? ⟨wr.heap.size, 0, none⟩ = some (.int .i64 m.id.f) ∧ w'.cell? ⟨wr.heap.size, 1, none⟩ = some (.int .i64 m.id.n) ∧ w'.cell? ⟨wr.heap.size, 2, none⟩ = some (.int .i64 m.id.c)) (by kernel_rfl) ?_ (fun hHeld => ?_)
           ·exact HS1.out _ (by first | exact hbb | exact hbb.drew)
           refine wpAnyH_take (i := 0) (oi := ⟨some 107, .load 26 (.tmp 2), 26, "world.go:238", #[], none⟩) (v := ?_) rfl (by kernel_rfl) (by kernel_rfl) (by kernel_rfl) (fun _ _ _ h => h) (Or.inl ⟨by rfl, ?_⟩) (by assumption) ?_
           rotate_left
           ·intro w hSw
            try dsimp only at hSw
            go_simp
            try with_reducible rfl
           try simp only [Act.put, List.setIfInBounds_toArray, List.set_cons_zero, List.set_cons_succ]
           refine wpAnyH_take (i := 1) (oi := ⟨some 108, .fieldAddr 44 (.tmp 3) 1, 0, "world.go:238", #[], none⟩) (v := ?_) rfl (by kernel_rfl) (by kernel_rfl) (by kernel_rfl) (fun _ _ _ h => h) (Or.inl ⟨by rfl, ?_⟩) (by assumption) ?_
           rotate_left
           ·intro w hSw
            try dsimp only at hSw
            go_simp
            try with_reducible rfl
           try simp only [Act.put, List.setIfInBounds_toArray, List.set_cons_zero, List.set_cons_succ]
           refine wpAnyH_take (i := 2) (oi := ⟨some 109, .load 40 (.tmp 108), 40, "world.go:238", #[⟨1, .data⟩], none⟩) (v := ?_) rfl (by kernel_rfl) (by kernel_rfl) (by kernel_rfl) (fun _ _ _ h => h) (Or.inl ⟨by rfl, ?_⟩) (by assumption) ?_
           rotate_left
           ·intro w hSw
            try dsimp only at hSw
            go_simp
            try with_reducible rfl
           try simp only [Act.put, List.setIfInBounds_toArray, List.set_cons_zero, List.set_cons_succ]
           refine wpAnyH_take (i := 3) (oi := ⟨some 110, .move (.tmp 7), 3, "world.go:238", #[], none⟩) (v := ?_) rfl (by kernel_rfl) (by kernel_rfl) (by kernel_rfl) (fun _ _ _ h => h) (Or.inl ⟨by rfl, ?_⟩) (by assumption) ?_
           rotate_left
           ·intro w hSw
            try dsimp only at hSw
            go_simp
            try with_reducible rfl
           try simp only [Act.put, List.setIfInBounds_toArray, List.set_cons_zero, List.set_cons_succ]
           refine wpAnyH_take (i := 4) (oi := ⟨some 111, .indexAddr 40 (.tmp 109) (.tmp 110), 0, "world.go:238", #[⟨2, .data⟩, ⟨3, .data⟩], none⟩) (v := ?_) rfl (by kernel_rfl) (by kernel_rfl) (by kernel_rfl) (fun _ _ _ h => h) (Or.inl ⟨by rfl, ?_⟩) (by assumption) ?_
           rotate_left
           ·intro w hSw
            try dsimp only at hSw
            go_simp
            try with_reducible rfl
           try simp only [Act.put, List.setIfInBounds_toArray, List.set_cons_zero, List.set_cons_succ]
           refine wpAnyH_take (i := 5) (oi := ⟨some 112, .fieldAddr 58 (.tmp 111) 1, 0, "world.go:238", #[⟨4, .data⟩], none⟩) (v := ?_) rfl (by kernel_rfl) (by kernel_rfl) (by kernel_rfl) (fun _ _ _ h => h) (Or.inl ⟨by rfl, ?_⟩) (by assumption) ?_
           rotate_left
           ·intro w hSw
            try dsimp only at hSw
            go_simp
            try with_reducible rfl
           try simp only [Act.put, List.setIfInBounds_toArray, List.set_cons_zero, List.set_cons_succ]
           refine wpAnyH_take (i := 6) (oi := ⟨some 113, .load 54 (.tmp 112), 54, "world.go:238", #[⟨5, .data⟩], none⟩) (v := ?_) rfl (by kernel_rfl) (by kernel_rfl) (by kernel_rfl) (fun _ _ _ h => h) (Or.inl ⟨by rfl, ?_⟩) (by assumption) ?_
           rotate_left
           ·intro w hSw
            try dsimp only at hSw
            go_simp
            try with_reducible rfl
           try simp only [Act.put, List.setIfInBounds_toArray, List.set_cons_zero, List.set_cons_succ]
           refine wpAnyH_ready (rs := [7]) (by kernel_rfl) (by simp) ?_
           refine AllReadyH.cons (o := ⟨some 114, .call { callee := .value (.func 112), args := #[.tmp 107, .tmp 113], argTypes := #[26, 54] }, 3, "world.go:238", #[⟨0, .data⟩, ⟨6, .data⟩], none⟩) rfl (fun K hK => ?_) AllReadyH.nil
           go_simp
           (go_at_call 112; refine (rnte_any _ _ _ m.nt p (HNT.out.below (by first | exact hbb | exact hbb.drew)) (HP6.out.below (by first | exact hbb | exact hbb.drew))).mono ?_; rintro e w7 ⟨rfl, hb7⟩; replace hbb := bTrans (by first | exact hbb | exact hbb.drew) hb7; clear hb7)
           try (go_wp2_with fail)
           refine hK.out _ _ ?_ (fun hHeld => ?_)
           ·exact HS1.out _ (by first | exact hbb | exact hbb.drew)
           clear hK K
           try simp only [Act.put, List.setIfInBounds_toArray, List.set_cons_zero, List.set_cons_succ]
           refine wpAnyH_take (i := 8) (oi := ⟨some 115, .binOp .neq 3 (.tmp 114) (.const (.int .i64 0)) 3, 4, "world.go:238", #[⟨7, .data⟩], none⟩) (v := ?_) rfl (by kernel_rfl) (by kernel_rfl) (by kernel_rfl) (fun _ _ _ h => h) (Or.inl ⟨by rfl, ?_⟩) (by assumption) ?_
           rotate_left
           ·intro w hSw
            try dsimp only at hSw
            go_simp
            try with_reducible rfl
           try simp only [Act.put, List.setIfInBounds_toArray, List.set_cons_zero, List.set_cons_succ]
           refine wpAnyH_take (i := 9) (oi := ⟨some 116, .move (.tmp 115), 4, "world.go:238", #[⟨8, .data⟩, ⟨7, .chain⟩], none⟩) (v := ?_) rfl (by kernel_rfl) (by kernel_rfl) (by kernel_rfl) (fun _ _ _ h => h) (Or.inl ⟨by rfl, ?_⟩) (by assumption) ?_
           rotate_left
           ·intro w hSw
            try dsimp only at hSw
            go_simp
            try with_reducible rfl
           try simp only [Act.put, List.setIfInBounds_toArray, List.set_cons_zero, List.set_cons_succ]
           refine wpAnyH_take (i := 10) (oi := ⟨some 117, .fieldAddr 56 (.tmp 8) 0, 0, "world.go:238", #[⟨9, .guard⟩], some (9, false)⟩) (v := ?_) rfl (by kernel_rfl) (by kernel_rfl) (by kernel_rfl) (fun _ _ _ h => h) (Or.inl ⟨by rfl, ?_⟩) (by assumption) ?_
           rotate_left
           ·intro w hSw
            try dsimp only at hSw
            go_simp
            try with_reducible rfl
           try simp only [Act.put, List.setIfInBounds_toArray, List.set_cons_zero, List.set_cons_succ]
           refine wpAnyH_take (i := 11) (oi := ⟨some 118, .load 3 (.tmp 117), 3, "world.go:238", #[⟨10, .data⟩, ⟨9, .guard⟩], some (9, false)⟩) (v := ?_) rfl (by kernel_rfl) (by kernel_rfl) (by kernel_rfl) (fun _ _ _ h => h) (Or.inl ⟨by rfl, ?_⟩) (by assumption) ?_
           rotate_left
           ·intro w hSw
            try dsimp only at hSw
            go_simp
            try with_reducible rfl
           try simp only [Act.put, List.setIfInBounds_toArray, List.set_cons_zero, List.set_cons_succ]
           refine wpAnyH_take (i := 12) (oi := ⟨some 119, .binOp .lss 3 (.tmp 118) (.const (.int .i64 (-1))) 3, 4, "world.go:238", #[⟨11, .data⟩, ⟨9, .guard⟩], some (9, false)⟩) (v := ?_) rfl (by kernel_rfl) (by kernel_rfl) (by kernel_rfl) (fun _ _ _ h => h) (Or.inl ⟨by rfl, ?_⟩) (by assumption) ?_
           rotate_left
           ·intro w hSw
            try dsimp only at hSw
            go_simp
            try with_reducible rfl
           try simp only [Act.put, List.setIfInBounds_toArray, List.set_cons_zero, List.set_cons_succ]
           refine wpAnyH_take (i := 13) (oi := ⟨some 120, .pick (.tmp 116) (.const (.bool true)) (.tmp 119), 4, "world.go:238", #[⟨9, .data⟩, ⟨12, .data⟩], none⟩) (v := ?_) rfl (by kernel_rfl) (by kernel_rfl) (by kernel_rfl) (fun _ _ _ h => h) (Or.inl ⟨by rfl, ?_⟩) (by assumption) ?_
           rotate_left
           ·intro w hSw
            try dsimp only at hSw
            go_simp
            try with_reducible rfl
           try simp only [Act.put, List.setIfInBounds_toArray, List.set_cons_zero, List.set_cons_succ]
           refine wpAnyH_take (i := 14) (oi := ⟨some 121, .move (.tmp 120), 4, "world.go:238", #[⟨13, .data⟩, ⟨9, .chain⟩], none⟩) (v := ?_) rfl (by kernel_rfl) (by kernel_rfl) (by kernel_rfl) (fun _ _ _ h => h) (Or.inl ⟨by rfl, ?_⟩) (by assumption) ?_
           rotate_left
           ·intro w hSw
            try dsimp only at hSw
            go_simp
            try with_reducible rfl
           try simp only [Act.put, List.setIfInBounds_toArray, List.set_cons_zero, List.set_cons_succ]
           refine wpAnyH_take (i := 15) (oi := ⟨some 122, .fieldAddr 56 (.tmp 8) 0, 0, "world.go:238", #[⟨14, .guard⟩], some (14, false)⟩) (v := ?_) rfl (by kernel_rfl) (by kernel_rfl) (by kernel_rfl) (fun _ _ _ h => h) (Or.inl ⟨by rfl, ?_⟩) (by assumption) ?_
           rotate_left
           ·intro w hSw
            try dsimp only at hSw
            go_simp
            try with_reducible rfl
           try simp only [Act.put, List.setIfInBounds_toArray, List.set_cons_zero, List.set_cons_succ]
           refine wpAnyH_take (i := 16) (oi := ⟨some 123, .load 3 (.tmp 122), 3, "world.go:238", #[⟨15, .data⟩, ⟨14, .guard⟩], some (14, false)⟩) (v := ?_) rfl (by kernel_rfl) (by kernel_rfl) (by kernel_rfl) (fun _ _ _ h => h) (Or.inl ⟨by rfl, ?_⟩) (by assumption) ?_
           rotate_left
           ·intro w hSw
            try dsimp only at hSw
            go_simp
            try with_reducible rfl
           try simp only [Act.put, List.setIfInBounds_toArray, List.set_cons_zero, List.set_cons_succ]
           refine wpAnyH_take (i := 17) (oi := ⟨some 124, .fieldAddr 44 (.tmp 3) 0, 0, "world.go:238", #[⟨14, .guard⟩], some (14, false)⟩) (v := ?_) rfl (by kernel_rfl) (by kernel_rfl) (by kernel_rfl) (fun _ _ _ h => h) (Or.inl ⟨by rfl, ?_⟩) (by assumption) ?_
           rotate_left
           ·intro w hSw
            try dsimp only at hSw
            go_simp
            try with_reducible rfl
           try simp only [Act.put, List.setIfInBounds_toArray, List.set_cons_zero, List.set_cons_succ]
           refine wpAnyH_take (i := 18) (oi := ⟨some 125, .load 39 (.tmp 124), 39, "world.go:238", #[⟨17, .data⟩, ⟨14, .guard⟩], some (14, false)⟩) (v := ?_) rfl (by kernel_rfl) (by kernel_rfl) (by kernel_rfl) (fun _ _ _ h => h) (Or.inl ⟨by rfl, ?_⟩) (by assumption) ?_
           rotate_left
           ·intro w hSw
            try dsimp only at hSw
            go_simp
            try with_reducible rfl
           try simp only [Act.put, List.setIfInBounds_toArray, List.set_cons_zero, List.set_cons_succ]
           refine wpAnyH_take (i := 19) (oi := ⟨some 126, .call { callee := .builtin .len, args := #[.tmp 125], argTypes := #[39] }, 3, "world.go:238", #[⟨18, .data⟩, ⟨14, .guard⟩], some (14, false)⟩) (v := ?_) rfl (by kernel_rfl) (by kernel_rfl) (by kernel_rfl) (fun _ _ _ h => h) (Or.inl ⟨by rfl, ?_⟩) (by assumption) ?_
           rotate_left
           ·intro w hSw
            try dsimp only at hSw
            go_simp
            try with_reducible rfl
           try simp only [Act.put, List.setIfInBounds_toArray, List.set_cons_zero, List.set_cons_succ]
           refine wpAnyH_take (i := 20) (oi := ⟨some 127, .binOp .geq 3 (.tmp 123) (.tmp 126) 3, 4, "world.go:238", #[⟨16, .data⟩, ⟨19, .data⟩, ⟨14, .guard⟩], some (14, false)⟩) (v := ?_) rfl (by kernel_rfl) (by kernel_rfl) (by kernel_rfl) (fun _ _ _ h => h) (Or.inl ⟨by rfl, ?_⟩) (by assumption) ?_
           rotate_left
           ·intro w hSw
            try dsimp only at hSw
            go_simp
            try with_reducible rfl
           try simp only [Act.put, List.setIfInBounds_toArray, List.set_cons_zero, List.set_cons_succ]
           refine wpAnyH_take (i := 21) (oi := ⟨some 128, .pick (.tmp 121) (.const (.bool true)) (.tmp 127), 4, "world.go:238", #[⟨14, .data⟩, ⟨20, .data⟩], none⟩) (v := ?_) rfl (by kernel_rfl) (by kernel_rfl) (by kernel_rfl) (fun _ _ _ h => h) (Or.inl ⟨by rfl, ?_⟩) (by assumption) ?_
           rotate_left
           ·intro w hSw
            try dsimp only at hSw
            go_simp
            try with_reducible rfl
           try simp only [Act.put, List.setIfInBounds_toArray, List.set_cons_zero, List.set_cons_succ]
           refine wpAnyH_take (i := 22) (oi := ⟨some 129, .move (.tmp 128), 4, "world.go:238", #[⟨21, .data⟩, ⟨14, .chain⟩], none⟩) (v := ?_) rfl (by kernel_rfl) (by kernel_rfl) (by kernel_rfl) (fun _ _ _ h => h) (Or.inl ⟨by rfl, ?_⟩) (by assumption) ?_
           rotate_left
           ·intro w hSw
            try dsimp only at hSw
            go_simp
            try with_reducible rfl
           try simp only [Act.put, List.setIfInBounds_toArray, List.set_cons_zero, List.set_cons_succ]
           refine wpAnyH_take (i := 23) (oi := ⟨some 130, .fieldAddr 56 (.tmp 8) 1, 0, "world.go:238", #[⟨22, .guard⟩], some (22, false)⟩) (v := ?_) rfl (by kernel_rfl) (by kernel_rfl) (by kernel_rfl) (fun _ _ _ h => h) (Or.inl ⟨by rfl, ?_⟩) (by assumption) ?_
           rotate_left
           ·intro w hSw
            try dsimp only at hSw
            go_simp
            try with_reducible rfl
           try simp only [Act.put, List.setIfInBounds_toArray, List.set_cons_zero, List.set_cons_succ]
           refine wpAnyH_take (i := 24) (oi := ⟨some 131, .load 3 (.tmp 130), 3, "world.go:238", #[⟨23, .data⟩, ⟨22, .guard⟩], some (22, false)⟩) (v := ?_) rfl (by kernel_rfl) (by kernel_rfl) (by kernel_rfl) (fun _ _ _ h => h) (Or.inl ⟨by rfl, ?_⟩) (by assumption) ?_
           rotate_left
           ·intro w hSw
            try dsimp only at hSw
            go_simp
            try with_reducible rfl
           try simp only [Act.put, List.setIfInBounds_toArray, List.set_cons_zero, List.set_cons_succ]
           refine wpAnyH_take (i := 25) (oi := ⟨some 132, .binOp .lss 3 (.tmp 131) (.const (.int .i64 0)) 3, 4, "world.go:238", #[⟨24, .data⟩, ⟨22, .guard⟩], some (22, false)⟩) (v := ?_) rfl (by kernel_rfl) (by kernel_rfl) (by kernel_rfl) (fun _ _ _ h => h) (Or.inl ⟨by rfl, ?_⟩) (by assumption) ?_
           rotate_left
           ·intro w hSw
            try dsimp only at hSw
            go_simp
            try with_reducible rfl
           try simp only [Act.put, List.setIfInBounds_toArray, List.set_cons_zero, List.set_cons_succ]
           refine wpAnyH_take (i := 26) (oi := ⟨some 133, .pick (.tmp 129) (.const (.bool true)) (.tmp 132), 4, "world.go:238", #[⟨22, .data⟩, ⟨25, .data⟩], none⟩) (v := ?_) rfl (by kernel_rfl) (by kernel_rfl) (by kernel_rfl) (fun _ _ _ h => h) (Or.inl ⟨by rfl, ?_⟩) (by assumption) ?_
           rotate_left
           ·intro w hSw
            try dsimp only at hSw
            go_simp
            try with_reducible rfl
           try simp only [Act.put, List.setIfInBounds_toArray, List.set_cons_zero, List.set_cons_succ]
           refine wpAnyH_take (i := 27) (oi := ⟨some 134, .move (.tmp 133), 4, "world.go:238", #[⟨26, .data⟩, ⟨22, .chain⟩], none⟩) (v := ?_) rfl (by kernel_rfl) (by kernel_rfl) (by kernel_rfl) (fun _ _ _ h => h) (Or.inl ⟨by rfl, ?_⟩) (by assumption) ?_
           rotate_left
           ·intro w hSw
            try dsimp only at hSw
            go_simp
            try with_reducible rfl
           try simp only [Act.put, List.setIfInBounds_toArray, List.set_cons_zero, List.set_cons_succ]
           refine wpAnyH_take (i := 28) (oi := ⟨some 135, .fieldAddr 56 (.tmp 8) 2, 0, "world.go:238", #[⟨27, .guard⟩], some (27, false)⟩) (v := ?_) rfl (by kernel_rfl) (by kernel_rfl) (by kernel_rfl) (fun _ _ _ h => h) (Or.inl ⟨by rfl, ?_⟩) (by assumption) ?_
           rotate_left
           ·intro w hSw
            try dsimp only at hSw
            go_simp
            try with_reducible rfl
           try simp only [Act.put, List.setIfInBounds_toArray, List.set_cons_zero, List.set_cons_succ]
           refine wpAnyH_take (i := 29) (oi := ⟨some 136, .load 3 (.tmp 135), 3, "world.go:238", #[⟨28, .data⟩, ⟨27, .guard⟩], some (27, false)⟩) (v := ?_) rfl (by kernel_rfl) (by kernel_rfl) (by kernel_rfl) (fun _ _ _ h => h) (Or.inl ⟨by rfl, ?_⟩) (by assumption) ?_
           rotate_left
           ·intro w hSw
            try dsimp only at hSw
            go_simp
            try with_reducible rfl
           try simp only [Act.put, List.setIfInBounds_toArray, List.set_cons_zero, List.set_cons_succ]
           refine wpAnyH_take (i := 30) (oi := ⟨some 137, .binOp .lss 3 (.tmp 136) (.const (.int .i64 0)) 3, 4, "world.go:238", #[⟨29, .data⟩, ⟨27, .guard⟩], some (27, false)⟩) (v := ?_) rfl (by kernel_rfl) (by kernel_rfl) (by kernel_rfl) (fun _ _ _ h => h) (Or.inl ⟨by rfl, ?_⟩) (by assumption) ?_
           rotate_left
           ·intro w hSw
            try dsimp only at hSw
            go_simp
            try with_reducible rfl
           try simp only [Act.put, List.setIfInBounds_toArray, List.set_cons_zero, List.set_cons_succ]
           refine wpAnyH_take (i := 31) (oi := ⟨some 138, .pick (.tmp 134) (.const (.bool true)) (.tmp 137), 4, "world.go:238", #[⟨27, .data⟩, ⟨30, .data⟩], none⟩) (v := ?_) rfl (by kernel_rfl) (by kernel_rfl) (by kernel_rfl) (fun _ _ _ h => h) (Or.inl ⟨by rfl, ?_⟩) (by assumption) ?_
           rotate_left
           ·intro w hSw
            try dsimp only at hSw
            go_simp
            try with_reducible rfl
           try simp only [Act.put, List.setIfInBounds_toArray, List.set_cons_zero, List.set_cons_succ]
           refine wpAnyH_take (i := 32) (oi := ⟨some 139, .move (.tmp 138), 4, "world.go:238", #[⟨31, .data⟩, ⟨27, .chain⟩], none⟩) (v := ?_) rfl (by kernel_rfl) (by kernel_rfl) (by kernel_rfl) (fun _ _ _ h => h) (Or.inl ⟨by rfl, ?_⟩) (by assumption) ?_
           rotate_left
           ·intro w hSw
            try dsimp only at hSw
            go_simp
            try with_reducible rfl
           try simp only [Act.put, List.setIfInBounds_toArray, List.set_cons_zero, List.set_cons_succ]
           refine wpAnyH_take (i := 33) (oi := ⟨some 140, .fieldAddr 56 (.tmp 8) 2, 0, "world.go:238", #[⟨32, .guard⟩], some (32, false)⟩) (v := ?_) rfl (by kernel_rfl) (by kernel_rfl) (by kernel_rfl) (fun _ _ _ h => h) (Or.inl ⟨by rfl, ?_⟩) (by assumption) ?_
           rotate_left
           ·intro w hSw
            try dsimp only at hSw
            go_simp
            try with_reducible rfl
           try simp only [Act.put, List.setIfInBounds_toArray, List.set_cons_zero, List.set_cons_succ]
           refine wpAnyH_take (i := 34) (oi := ⟨some 141, .load 3 (.tmp 140), 3, "world.go:238", #[⟨33, .data⟩, ⟨32, .guard⟩], some (32, false)⟩) (v := ?_) rfl (by kernel_rfl) (by kernel_rfl) (by kernel_rfl) (fun _ _ _ h => h) (Or.inl ⟨by rfl, ?_⟩) (by assumption) ?_
           rotate_left
           ·intro w hSw
            try dsimp only at hSw
            go_simp
            try with_reducible rfl
           try simp only [Act.put, List.setIfInBounds_toArray, List.set_cons_zero, List.set_cons_succ]
           refine wpAnyH_take (i := 35) (oi := ⟨some 142, .fieldAddr 44 (.tmp 3) 2, 0, "world.go:238", #[⟨32, .guard⟩], some (32, false)⟩) (v := ?_) rfl (by kernel_rfl) (by kernel_rfl) (by kernel_rfl) (fun _ _ _ h => h) (Or.inl ⟨by rfl, ?_⟩) (by assumption) ?_
           rotate_left
           ·intro w hSw
            try dsimp only at hSw
            go_simp
            try with_reducible rfl
           try simp only [Act.put, List.setIfInBounds_toArray, List.set_cons_zero, List.set_cons_succ]
           refine wpAnyH_take (i := 36) (oi := ⟨some 143, .fieldAddr 42 (.tmp 142) 1, 0, "world.go:238", #[⟨35, .data⟩, ⟨32, .guard⟩], some (32, false)⟩) (v := ?_) rfl (by kernel_rfl) (by kernel_rfl) (by kernel_rfl) (fun _ _ _ h => h) (Or.inl ⟨by rfl, ?_⟩) (by assumption) ?_
           rotate_left
           ·intro w hSw
            try dsimp only at hSw
            go_simp
            try with_reducible rfl
           try simp only [Act.put, List.setIfInBounds_toArray, List.set_cons_zero, List.set_cons_succ]
           refine wpAnyH_take (i := 37) (oi := ⟨some 144, .load 3 (.tmp 143), 3, "world.go:238", #[⟨36, .data⟩, ⟨32, .guard⟩], some (32, false)⟩) (v := ?_) rfl (by kernel_rfl) (by kernel_rfl) (by kernel_rfl) (fun _ _ _ h => h) (Or.inl ⟨by rfl, ?_⟩) (by assumption) ?_
           rotate_left
           ·intro w hSw
            try dsimp only at hSw
            go_simp
            try with_reducible rfl
           try simp only [Act.put, List.setIfInBounds_toArray, List.set_cons_zero, List.set_cons_succ]
           refine wpAnyH_take (i := 38) (oi := ⟨some 145, .binOp .gtr 3 (.tmp 141) (.tmp 144) 3, 4, "world.go:238", #[⟨34, .data⟩, ⟨37, .data⟩, ⟨32, .guard⟩], some (32, false)⟩) (v := ?_) rfl (by kernel_rfl) (by kernel_rfl) (by kernel_rfl) (fun _ _ _ h => h) (Or.inl ⟨by rfl, ?_⟩) (by assumption) ?_
           rotate_left
           ·intro w hSw
            try dsimp only at hSw
            go_simp
            try with_reducible rfl
           try simp only [Act.put, List.setIfInBounds_toArray, List.set_cons_zero, List.set_cons_succ]
           refine wpAnyH_take (i := 39) (oi := ⟨some 146, .pick (.tmp 139) (.const (.bool true)) (.tmp 145), 4, "world.go:238", #[⟨32, .data⟩, ⟨38, .data⟩], none⟩) (v := ?_) rfl (by kernel_rfl) (by kernel_rfl) (by kernel_rfl) (fun _ _ _ h => h) (Or.inl ⟨by rfl, ?_⟩) (by assumption) ?_
           rotate_left
           ·intro w hSw
            try dsimp only at hSw
            go_simp
            try with_reducible rfl
           try simp only [Act.put, List.setIfInBounds_toArray, List.set_cons_zero, List.set_cons_succ]
           refine wpAnyH_done (by kernel_rfl) ?_ _
           go_wp2_with fail
           go_ret
           exact ⟨ret_b HR.out, bTrans HB7.out (by first | exact hbb | exact hbb.drew)⟩
          ·have e5 : decide (x.used.dup < m.id.c) = false := decide_eq_false g5
           refine wp_region_held_drew (S := fun w' => w'.cell? ⟨w.heap.size, 0, none⟩ = some (.slice A1 p.hs.length c1) ∧ w'.cell? ⟨w.heap.size, 1, none⟩ = some (.slice A2 p.acs.length c2) ∧ w'.cell? ⟨w.heap.size, 2, none⟩ = some (.slice A3 p.bs.length c3) ∧ w'.cell? ⟨w.heap.size, 3, none⟩ = some (.int .i64 p.fuel) ∧ w'.cell? ⟨w.heap.size + 1, 0, none⟩ = some (.slice B1 x.acts.length d1) ∧ w'.cell? ⟨w.heap.size + 1, 1, none⟩ = some (.slice (some ⟨bm, om, none⟩) x.mail.length d2) ∧ w'.cell? ⟨w.heap.size + 1, 3, none⟩ = some (.int .i64 x.used.dup) ∧ w'.cell? ⟨bm, om + i * 6 + 3, none⟩ = some (.int .i64 m.nt.to) ∧ w'.cell? ⟨bm, om + i * 6 + 4, none⟩ = some (.int .i64 m.nt.hd) ∧ w'.cell? ⟨bm, om + i * 6 + 5, none⟩ = some (.slice A6 m.nt.args.length c6) ∧ w'.cell? ⟨wr.heap.size, 0, none⟩ = some (.int .i64 m.id.f) ∧ w'.cell? ⟨wr.heap.size, 1, none⟩ = some (.int .i64 m.id.n) ∧ w'.cell? ⟨wr.heap.size, 2, none⟩ = some (.int .i64 m.id.c)) (by kernel_rfl) ?_ (fun hHeld => ?_)
           ·exact HS1.out _ (by first | exact hbb | exact hbb.drew)
           refine wpAnyH_take (i := 0) (oi := ⟨some 107, .load 26 (.tmp 2), 26, "world.go:238", #[], none⟩) (v := ?_) rfl (by kernel_rfl) (by kernel_rfl) (by kernel_rfl) (fun _ _ _ h => h) (Or.inl ⟨by rfl, ?_⟩) (by assumption) ?_
           rotate_left
           ·intro w hSw
            try dsimp only at hSw
            go_simp
            try with_reducible rfl
           try simp only [Act.put, List.setIfInBounds_toArray, List.set_cons_zero, List.set_cons_succ]
           refine wpAnyH_take (i := 1) (oi := ⟨some 108, .fieldAddr 44 (.tmp 3) 1, 0, "world.go:238", #[], none⟩) (v := ?_) rfl (by kernel_rfl) (by kernel_rfl) (by kernel_rfl) (fun _ _ _ h => h) (Or.inl ⟨by rfl, ?_⟩) (by assumption) ?_
           rotate_left
           ·intro w hSw
            try dsimp only at hSw
            go_simp
            try with_reducible rfl
           try simp only [Act.put, List.setIfInBounds_toArray, List.set_cons_zero, List.set_cons_succ]
           refine wpAnyH_take (i := 2) (oi := ⟨some 109, .load 40 (.tmp 108), 40, "world.go:238", #[⟨1, .data⟩], none⟩) (v := ?_) rfl (by kernel_rfl) (by kernel_rfl) (by kernel_rfl) (fun _ _ _ h => h) (Or.inl ⟨by rfl, ?_⟩) (by assumption) ?_
           rotate_left
           ·intro w hSw
            try dsimp only at hSw
            go_simp
            try with_reducible rfl
           try simp only [Act.put, List.setIfInBounds_toArray, List.set_cons_zero, List.set_cons_succ]
           refine wpAnyH_take (i := 3) (oi := ⟨some 110, .move (.tmp 7), 3, "world.go:238", #[], none⟩) (v := ?_) rfl (by kernel_rfl) (by kernel_rfl) (by kernel_rfl) (fun _ _ _ h => h) (Or.inl ⟨by rfl, ?_⟩) (by assumption) ?_
           rotate_left
           ·intro w hSw
            try dsimp only at hSw
            go_simp
            try with_reducible rfl
           try simp only [Act.put, List.setIfInBounds_toArray, List.set_cons_zero, List.set_cons_succ]
           refine wpAnyH_take (i := 4) (oi := ⟨some 111, .indexAddr 40 (.tmp 109) (.tmp 110), 0, "world.go:238", #[⟨2, .data⟩, ⟨3, .data⟩], none⟩) (v := ?_) rfl (by kernel_rfl) (by kernel_rfl) (by kernel_rfl) (fun _ _ _ h => h) (Or.inl ⟨by rfl, ?_⟩) (by assumption) ?_
           rotate_left
           ·intro w hSw
            try dsimp only at hSw
            go_simp
            try with_reducible rfl
           try simp only [Act.put, List.setIfInBounds_toArray, List.set_cons_zero, List.set_cons_succ]
           refine wpAnyH_take (i := 5) (oi := ⟨some 112, .fieldAddr 58 (.tmp 111) 1, 0, "world.go:238", #[⟨4, .data⟩], none⟩) (v := ?_) rfl (by kernel_rfl) (by kernel_rfl) (by kernel_rfl) (fun _ _ _ h => h) (Or.inl ⟨by rfl, ?_⟩) (by assumption) ?_
           rotate_left
           ·intro w hSw
            try dsimp only at hSw
            go_simp
            try with_reducible rfl
           try simp only [Act.put, List.setIfInBounds_toArray, List.set_cons_zero, List.set_cons_succ]
           refine wpAnyH_take (i := 6) (oi := ⟨some 113, .load 54 (.tmp 112), 54, "world.go:238", #[⟨5, .data⟩], none⟩) (v := ?_) rfl (by kernel_rfl) (by kernel_rfl) (by kernel_rfl) (fun _ _ _ h => h) (Or.inl ⟨by rfl, ?_⟩) (by assumption) ?_
           rotate_left
           ·intro w hSw
            try dsimp only at hSw
            go_simp
            try with_reducible rfl
           try simp only [Act.put, List.setIfInBounds_toArray, List.set_cons_zero, List.set_cons_succ]
           refine wpAnyH_ready (rs := [7]) (by kernel_rfl) (by simp) ?_
           refine AllReadyH.cons (o := ⟨some 114, .call { callee := .value (.func 112), args := #[.tmp 107, .tmp 113], argTypes := #[26, 54] }, 3, "world.go:238", #[⟨0, .data⟩, ⟨6, .data⟩], none⟩) rfl (fun K hK => ?_) AllReadyH.nil
           go_simp
           (go_at_call 112; refine (rnte_any _ _ _ m.nt p (HNT.out.below (by first | exact hbb | exact hbb.drew)) (HP6.out.below (by first | exact hbb | exact hbb.drew))).mono ?_; rintro e w7 ⟨rfl, hb7⟩; replace hbb := bTrans (by first | exact hbb | exact hbb.drew) hb7; clear hb7)
           try (go_wp2_with fail)
           refine hK.out _ _ ?_ (fun hHeld => ?_)
           ·exact HS1.out _ (by first | exact hbb | exact hbb.drew)
           clear hK K
           try simp only [Act.put, List.setIfInBounds_toArray, List.set_cons_zero, List.set_cons_succ]
           refine wpAnyH_take (i := 8) (oi := ⟨some 115, .binOp .neq 3 (.tmp 114) (.const (.int .i64 0)) 3, 4, "world.go:238", #[⟨7, .data⟩], none⟩) (v := ?_) rfl (by kernel_rfl) (by kernel_rfl) (by kernel_rfl) (fun _ _ _ h => h) (Or.inl ⟨by rfl, ?_⟩) (by assumption) ?_
           rotate_left
           ·intro w hSw
            try dsimp only at hSw
            go_simp
            try with_reducible rfl
           try simp only [Act.put, List.setIfInBounds_toArray, List.set_cons_zero, List.set_cons_succ]
           refine wpAnyH_take (i := 9) (oi := ⟨some 116, .move (.tmp 115), 4, "world.go:238", #[⟨8, .data⟩, ⟨7, .chain⟩], none⟩) (v := ?_) rfl (by kernel_rfl) (by kernel_rfl) (by kernel_rfl) (fun _ _ _ h => h) (Or.inl ⟨by rfl, ?_⟩) (by assumption) ?_
           rotate_left
           ·intro w hSw
            try dsimp only at hSw
            go_simp
            try with_reducible rfl
           try simp only [Act.put, List.setIfInBounds_toArray, List.set_cons_zero, List.set_cons_succ]
           refine wpAnyH_take (i := 10) (oi := ⟨some 117, .fieldAddr 56 (.tmp 8) 0, 0, "world.go:238", #[⟨9, .guard⟩], some (9, false)⟩) (v := ?_) rfl (by kernel_rfl) (by kernel_rfl) (by kernel_rfl) (fun _ _ _ h => h) (Or.inl ⟨by rfl, ?_⟩) (by assumption) ?_
           rotate_left
           ·intro w hSw
            try dsimp only at hSw
            go_simp
            try with_reducible rfl
           try simp only [Act.put, List.setIfInBounds_toArray, List.set_cons_zero, List.set_cons_succ]
           refine wpAnyH_take (i := 11) (oi := ⟨some 118, .load 3 (.tmp 117), 3, "world.go:238", #[⟨10, .data⟩, ⟨9, .guard⟩], some (9, false)⟩) (v := ?_) rfl (by kernel_rfl) (by kernel_rfl) (by kernel_rfl) (fun _ _ _ h => h) (Or.inl ⟨by rfl, ?_⟩) (by assumption) ?_
           rotate_left
           ·intro w hSw
            try dsimp only at hSw
            go_simp
            try with_reducible rfl
           try simp only [Act.put, List.setIfInBounds_toArray, List.set_cons_zero, List.set_cons_succ]
           refine wpAnyH_take (i := 12) (oi := ⟨some 119, .binOp .lss 3 (.tmp 118) (.const (.int .i64 (-1))) 3, 4, "world.go:238", #[⟨11, .data⟩, ⟨9, .guard⟩], some (9, false)⟩) (v := ?_) rfl (by kernel_rfl) (by kernel_rfl) (by kernel_rfl) (fun _ _ _ h => h) (Or.inl ⟨by rfl, ?_⟩) (by assumption) ?_
           rotate_left
           ·intro w hSw
            try dsimp only at hSw
            go_simp
            try with_reducible rfl
           try simp only [Act.put, List.setIfInBounds_toArray, List.set_cons_zero, List.set_cons_succ]
           refine wpAnyH_take (i := 13) (oi := ⟨some 120, .pick (.tmp 116) (.const (.bool true)) (.tmp 119), 4, "world.go:238", #[⟨9, .data⟩, ⟨12, .data⟩], none⟩) (v := ?_) rfl (by kernel_rfl) (by kernel_rfl) (by kernel_rfl) (fun _ _ _ h => h) (Or.inl ⟨by rfl, ?_⟩) (by assumption) ?_
           rotate_left
           ·intro w hSw
            try dsimp only at hSw
            go_simp
            try with_reducible rfl
           try simp only [Act.put, List.setIfInBounds_toArray, List.set_cons_zero, List.set_cons_succ]
           refine wpAnyH_take (i := 14) (oi := ⟨some 121, .move (.tmp 120), 4, "world.go:238", #[⟨13, .data⟩, ⟨9, .chain⟩], none⟩) (v := ?_) rfl (by kernel_rfl) (by kernel_rfl) (by kernel_rfl) (fun _ _ _ h => h) (Or.inl ⟨by rfl, ?_⟩) (by assumption) ?_
           rotate_left
           ·intro w hSw
            try dsimp only at hSw
            go_simp
            try with_reducible rfl
           try simp only [Act.put, List.setIfInBounds_toArray, List.set_cons_zero, List.set_cons_succ]
           refine wpAnyH_take (i := 15) (oi := ⟨some 122, .fieldAddr 56 (.tmp 8) 0, 0, "world.go:238", #[⟨14, .guard⟩], some (14, false)⟩) (v := ?_) rfl (by kernel_rfl) (by kernel_rfl) (by kernel_rfl) (fun _ _ _ h => h) (Or.inl ⟨by rfl, ?_⟩) (by assumption) ?_
           rotate_left
           ·intro w hSw
            try dsimp only at hSw
            go_simp
            try with_reducible rfl
           try simp only [Act.put, List.setIfInBounds_toArray, List.set_cons_zero, List.set_cons_succ]
           refine wpAnyH_take (i := 16) (oi := ⟨some 123, .load 3 (.tmp 122), 3, "world.go:238", #[⟨15, .data⟩, ⟨14, .guard⟩], some (14, false)⟩) (v := ?_) rfl (by kernel_rfl) (by kernel_rfl) (by kernel_rfl) (fun _ _ _ h => h) (Or.inl ⟨by rfl, ?_⟩) (by assumption) ?_
           rotate_left
           ·intro w hSw
            try dsimp only at hSw
            go_simp
            try with_reducible rfl
           try simp only [Act.put, List.setIfInBounds_toArray, List.set_cons_zero, List.set_cons_succ]
           refine wpAnyH_take (i := 17) (oi := ⟨some 124, .fieldAddr 44 (.tmp 3) 0, 0, "world.go:238", #[⟨14, .guard⟩], some (14, false)⟩) (v := ?_) rfl (by kernel_rfl) (by kernel_rfl) (by kernel_rfl) (fun _ _ _ h => h) (Or.inl ⟨by rfl, ?_⟩) (by assumption) ?_
           rotate_left
           ·intro w hSw
            try dsimp only at hSw
            go_simp
            try with_reducible rfl
           try simp only [Act.put, List.setIfInBounds_toArray, List.set_cons_zero, List.set_cons_succ]
           refine wpAnyH_take (i := 18) (oi := ⟨some 125, .load 39 (.tmp 124), 39, "world.go:238", #[⟨17, .data⟩, ⟨14, .guard⟩], some (14, false)⟩) (v := ?_) rfl (by kernel_rfl) (by kernel_rfl) (by kernel_rfl) (fun _ _ _ h => h) (Or.inl ⟨by rfl, ?_⟩) (by assumption) ?_
           rotate_left
           ·intro w hSw
            try dsimp only at hSw
            go_simp
            try with_reducible rfl
           try simp only [Act.put, List.setIfInBounds_toArray, List.set_cons_zero, List.set_cons_succ]
           refine wpAnyH_take (i := 19) (oi := ⟨some 126, .call { callee := .builtin .len, args := #[.tmp 125], argTypes := #[39] }, 3, "world.go:238", #[⟨18, .data⟩, ⟨14, .guard⟩], some (14, false)⟩) (v := ?_) rfl (by kernel_rfl) (by kernel_rfl) (by kernel_rfl) (fun _ _ _ h => h) (Or.inl ⟨by rfl, ?_⟩) (by assumption) ?_
           rotate_left
           ·intro w hSw
            try dsimp only at hSw
            go_simp
            try with_reducible rfl
           try simp only [Act.put, List.setIfInBounds_toArray, List.set_cons_zero, List.set_cons_succ]
           refine wpAnyH_take (i := 20) (oi := ⟨some 127, .binOp .geq 3 (.tmp 123) (.tmp 126) 3, 4, "world.go:238", #[⟨16, .data⟩, ⟨19, .data⟩, ⟨14, .guard⟩], some (14, false)⟩) (v := ?_) rfl (by kernel_rfl) (by kernel_rfl) (by kernel_rfl) (fun _ _ _ h => h) (Or.inl ⟨by rfl, ?_⟩) (by assumption) ?_
           rotate_left
           ·intro w hSw
            try dsimp only at hSw
            go_simp
            try with_reducible rfl
           try simp only [Act.put, List.setIfInBounds_toArray, List.set_cons_zero, List.set_cons_succ]
           refine wpAnyH_take (i := 21) (oi := ⟨some 128, .pick (.tmp 121) (.const (.bool true)) (.tmp 127), 4, "world.go:238", #[⟨14, .data⟩, ⟨20, .data⟩], none⟩) (v := ?_) rfl (by kernel_rfl) (by kernel_rfl) (by kernel_rfl) (fun _ _ _ h => h) (Or.inl ⟨by rfl, ?_⟩) (by assumption) ?_
           rotate_left
           ·intro w hSw
            try dsimp only at hSw
            go_simp
            try with_reducible rfl
           try simp only [Act.put, List.setIfInBounds_toArray, List.set_cons_zero, List.set_cons_succ]
           refine wpAnyH_take (i := 22) (oi := ⟨some 129, .move (.tmp 128), 4, "world.go:238", #[⟨21, .data⟩, ⟨14, .chain⟩], none⟩) (v := ?_) rfl (by kernel_rfl) (by kernel_rfl) (by kernel_rfl) (fun _ _ _ h => h) (Or.inl ⟨by rfl, ?_⟩) (by assumption) ?_
           rotate_left
           ·intro w hSw
            try dsimp only at hSw
            go_simp
            try with_reducible rfl
           try simp only [Act.put, List.setIfInBounds_toArray, List.set_cons_zero, List.set_cons_succ]
           refine wpAnyH_take (i := 23) (oi := ⟨some 130, .fieldAddr 56 (.tmp 8) 1, 0, "world.go:238", #[⟨22, .guard⟩], some (22, false)⟩) (v := ?_) rfl (by kernel_rfl) (by kernel_rfl) (by kernel_rfl) (fun _ _ _ h => h) (Or.inl ⟨by rfl, ?_⟩) (by assumption) ?_
           rotate_left
           ·intro w hSw
            try dsimp only at hSw
            go_simp
            try with_reducible rfl
           try simp only [Act.put, List.setIfInBounds_toArray, List.set_cons_zero, List.set_cons_succ]
           refine wpAnyH_take (i := 24) (oi := ⟨some 131, .load 3 (.tmp 130), 3, "world.go:238", #[⟨23, .data⟩, ⟨22, .guard⟩], some (22, false)⟩) (v := ?_) rfl (by kernel_rfl) (by kernel_rfl) (by kernel_rfl) (fun _ _ _ h => h) (Or.inl ⟨by rfl, ?_⟩) (by assumption) ?_
           rotate_left
           ·intro w hSw
            try dsimp only at hSw
            go_simp
            try with_reducible rfl
           try simp only [Act.put, List.setIfInBounds_toArray, List.set_cons_zero, List.set_cons_succ]
           refine wpAnyH_take (i := 25) (oi := ⟨some 132, .binOp .lss 3 (.tmp 131) (.const (.int .i64 0)) 3, 4, "world.go:238", #[⟨24, .data⟩, ⟨22, .guard⟩], some (22, false)⟩) (v := ?_) rfl (by kernel_rfl) (by kernel_rfl) (by kernel_rfl) (fun _ _ _ h => h) (Or.inl ⟨by rfl, ?_⟩) (by assumption) ?_
           rotate_left
           ·intro w hSw
            try dsimp only at hSw
            go_simp
            try with_reducible rfl
           try simp only [Act.put, List.setIfInBounds_toArray, List.set_cons_zero, List.set_cons_succ]
           refine wpAnyH_take (i := 26) (oi := ⟨some 133, .pick (.tmp 129) (.const (.bool true)) (.tmp 132), 4, "world.go:238", #[⟨22, .data⟩, ⟨25, .data⟩], none⟩) (v := ?_) rfl (by kernel_rfl) (by kernel_rfl) (by kernel_rfl) (fun _ _ _ h => h) (Or.inl ⟨by rfl, ?_⟩) (by assumption) ?_
           rotate_left
           ·intro w hSw
            try dsimp only at hSw
            go_simp
            try with_reducible rfl
           try simp only [Act.put, List.setIfInBounds_toArray, List.set_cons_zero, List.set_cons_succ]
           refine wpAnyH_take (i := 27) (oi := ⟨some 134, .move (.tmp 133), 4, "world.go:238", #[⟨26, .data⟩, ⟨22, .chain⟩], none⟩) (v := ?_) rfl (by kernel_rfl) (by kernel_rfl) (by kernel_rfl) (fun _ _ _ h => h) (Or.inl ⟨by rfl, ?_⟩) (by assumption) ?_
           rotate_left
           ·intro w hSw
            try dsimp only at hSw
            go_simp
            try with_reducible rfl
           try simp only [Act.put, List.setIfInBounds_toArray, List.set_cons_zero, List.set_cons_succ]
           refine wpAnyH_take (i := 28) (oi := ⟨some 135, .fieldAddr 56 (.tmp 8) 2, 0, "world.go:238", #[⟨27, .guard⟩], some (27, false)⟩) (v := ?_) rfl (by kernel_rfl) (by kernel_rfl) (by kernel_rfl) (fun _ _ _ h => h) (Or.inl ⟨by rfl, ?_⟩) (by assumption) ?_
           rotate_left
           ·intro w hSw
            try dsimp only at hSw
            go_simp
            try with_reducible rfl
           try simp only [Act.put, List.setIfInBounds_toArray, List.set_cons_zero, List.set_cons_succ]
           refine wpAnyH_take (i := 29) (oi := ⟨some 136, .load 3 (.tmp 135), 3, "world.go:238", #[⟨28, .data⟩, ⟨27, .guard⟩], some (27, false)⟩) (v := ?_) rfl (by kernel_rfl) (by kernel_rfl) (by kernel_rfl) (fun _ _ _ h => h) (Or.inl ⟨by rfl, ?_⟩) (by assumption) ?_
           rotate_left
           ·intro w hSw
            try dsimp only at hSw
            go_simp
            try with_reducible rfl
           try simp only [Act.put, List.setIfInBounds_toArray, List.set_cons_zero, List.set_cons_succ]
           refine wpAnyH_take (i := 30) (oi := ⟨some 137, .binOp .lss 3 (.tmp 136) (.const (.int .i64 0)) 3, 4, "world.go:238", #[⟨29, .data⟩, ⟨27, .guard⟩], some (27, false)⟩) (v := ?_) rfl (by kernel_rfl) (by kernel_rfl) (by kernel_rfl) (fun _ _ _ h => h) (Or.inl ⟨by rfl, ?_⟩) (by assumption) ?_
           rotate_left
           ·intro w hSw
            try dsimp only at hSw
            go_simp
            try with_reducible rfl
           try simp only [Act.put, List.setIfInBounds_toArray, List.set_cons_zero, List.set_cons_succ]
           refine wpAnyH_take (i := 31) (oi := ⟨some 138, .pick (.tmp 134) (.const (.bool true)) (.tmp 137), 4, "world.go:238", #[⟨27, .data⟩, ⟨30, .data⟩], none⟩) (v := ?_) rfl (by kernel_rfl) (by kernel_rfl) (by kernel_rfl) (fun _ _ _ h => h) (Or.inl ⟨by rfl, ?_⟩) (by assumption) ?_
           rotate_left
           ·intro w hSw
            try dsimp only at hSw
            go_simp
            try with_reducible rfl
           try simp only [Act.put, List.setIfInBounds_toArray, List.set_cons_zero, List.set_cons_succ]
           refine wpAnyH_take (i := 32) (oi := ⟨some 139, .move (.tmp 138), 4, "world.go:238", #[⟨31, .data⟩, ⟨27, .chain⟩], none⟩) (v := ?_) rfl (by kernel_rfl) (by kernel_rfl) (by kernel_rfl) (fun _ _ _ h => h) (Or.inl ⟨by rfl, ?_⟩) (by assumption) ?_
           rotate_left
           ·intro w hSw
            try dsimp only at hSw
            go_simp
            try with_reducible rfl
           try simp only [Act.put, List.setIfInBounds_toArray, List.set_cons_zero, List.set_cons_succ]
           refine wpAnyH_take (i := 33) (oi := ⟨some 140, .fieldAddr 56 (.tmp 8) 2, 0, "world.go:238", #[⟨32, .guard⟩], some (32, false)⟩) (v := ?_) rfl (by kernel_rfl) (by kernel_rfl) (by kernel_rfl) (fun _ _ _ h => h) (Or.inl ⟨by rfl, ?_⟩) (by assumption) ?_
           rotate_left
           ·intro w hSw
            try dsimp only at hSw
            go_simp
            try with_reducible rfl
           try simp only [Act.put, List.setIfInBounds_toArray, List.set_cons_zero, List.set_cons_succ]
           refine wpAnyH_take (i := 34) (oi := ⟨some 141, .load 3 (.tmp 140), 3, "world.go:238", #[⟨33, .data⟩, ⟨32, .guard⟩], some (32, false)⟩) (v := ?_) rfl (by kernel_rfl) (by kernel_rfl) (by kernel_rfl) (fun _ _ _ h => h) (Or.inl ⟨by rfl, ?_⟩) (by assumption) ?_
           rotate_left
           ·intro w hSw
            try dsimp only at hSw
            go_simp
            try with_reducible rfl
           try simp only [Act.put, List.setIfInBounds_toArray, List.set_cons_zero, List.set_cons_succ]
           refine wpAnyH_take (i := 35) (oi := ⟨some 142, .fieldAddr 44 (.tmp 3) 2, 0, "world.go:238", #[⟨32, .guard⟩], some (32, false)⟩) (v := ?_) rfl (by kernel_rfl) (by kernel_rfl) (by kernel_rfl) (fun _ _ _ h => h) (Or.inl ⟨by rfl, ?_⟩) (by assumption) ?_
           rotate_left
           ·intro w hSw
            try dsimp only at hSw
            go_simp
            try with_reducible rfl
           try simp only [Act.put, List.setIfInBounds_toArray, List.set_cons_zero, List.set_cons_succ]
           refine wpAnyH_take (i := 36) (oi := ⟨some 143, .fieldAddr 42 (.tmp 142) 1, 0, "world.go:238", #[⟨35, .data⟩, ⟨32, .guard⟩], some (32, false)⟩) (v := ?_) rfl (by kernel_rfl) (by kernel_rfl) (by kernel_rfl) (fun _ _ _ h => h) (Or.inl ⟨by rfl, ?_⟩) (by assumption) ?_
           rotate_left
           ·intro w hSw
            try dsimp only at hSw
            go_simp
            try with_reducible rfl
           try simp only [Act.put, List.setIfInBounds_toArray, List.set_cons_zero, List.set_cons_succ]
           refine wpAnyH_take (i := 37) (oi := ⟨some 144, .load 3 (.tmp 143), 3, "world.go:238", #[⟨36, .data⟩, ⟨32, .guard⟩], some (32, false)⟩) (v := ?_) rfl (by kernel_rfl) (by kernel_rfl) (by kernel_rfl) (fun _ _ _ h => h) (Or.inl ⟨by rfl, ?_⟩) (by assumption) ?_
           rotate_left
           ·intro w hSw
            try dsimp only at hSw
            go_simp
            try with_reducible rfl
           try simp only [Act.put, List.setIfInBounds_toArray, List.set_cons_zero, List.set_cons_succ]
           refine wpAnyH_take (i := 38) (oi := ⟨some 145, .binOp .gtr 3 (.tmp 141) (.tmp 144) 3, 4, "world.go:238", #[⟨34, .data⟩, ⟨37, .data⟩, ⟨32, .guard⟩], some (32, false)⟩) (v := ?_) rfl (by kernel_rfl) (by kernel_rfl) (by kernel_rfl) (fun _ _ _ h => h) (Or.inl ⟨by rfl, ?_⟩) (by assumption) ?_
           rotate_left
           ·intro w hSw
            try dsimp only at hSw
            go_simp
            try with_reducible rfl
           try simp only [Act.put, List.setIfInBounds_toArray, List.set_cons_zero, List.set_cons_succ]
           refine wpAnyH_take (i := 39) (oi := ⟨some 146, .pick (.tmp 139) (.const (.bool true)) (.tmp 145), 4, "world.go:238", #[⟨32, .data⟩, ⟨38, .data⟩], none⟩) (v := ?_) rfl (by kernel_rfl) (by kernel_rfl) (by kernel_rfl) (fun _ _ _ h => h) (Or.inl ⟨by rfl, ?_⟩) (by assumption) ?_
           rotate_left
           ·intro w hSw
            try dsimp only at hSw
            go_simp
            try with_reducible rfl
           try simp only [Act.put, List.setIfInBounds_toArray, List.set_cons_zero, List.set_cons_succ]
           refine wpAnyH_done (by kernel_rfl) ?_ _
           go_wp2_with fail
           obtain ⟨t0, t1, t2, t3, t4, t5, t6, t7, t8, t9, ta, tb, tc⟩ := HS1.out w7 hbb
           clear t0 t1 t2 t3 t5 t6 t7 t8 t9 tc
           have HCN := hid_mk (chkN_yes g0)
           by_cases f0 : m.id.f < 0
           ·have df : decide (m.id.f < 0) = true := decide_eq_true f0
            have dg : decide (0 ≤ m.id.f) = false := decide_eq_false (by omega)
            by_cases n16 : 16 ≤ m.id.n
            ·have dn : decide (16 ≤ m.id.n) = true := decide_eq_true n16
             have HR : Hid (false = chkW p x) := chkW_m HMX.out (Or.inr (cd_6 (x := x) (by omega) n16))
             clear g0 g1 g2 g3 g4 g5 ht
             go_quiet (fail)
             go_wp2
             go_ret
             exact ⟨ret_b HR.out, bTrans HB7.out (bTrans hbb (quiet_below ⟨_, rfl⟩))⟩
            ·have dn : decide (16 ≤ m.id.n) = false := decide_eq_false n16
             have HCD : Hid (chkD x m.id = true) := cd_ok1 (by omega) (by omega) (by omega) (by omega)
             clear g0 g1 g2 g3 g4 g5
             go_quiet (fail)
             go_wp2
             go_roundg (x.mail.length - (i + 1))
             case measure => omega
             case rel => exact ⟨i + 1, rfl, by omega, by first | rfl | go_num, bTrans HB6.out (bTrans hbb (quiet_below ⟨_, rfl⟩)), fun j y hj hy => by
               by_cases ej : j = i
               ·subst ej; have h1 := HMX.out; rw [hy] at h1; cases h1; exact ⟨HCN.out, HCD.out⟩
               ·exact ht.out j y (by omega) hy⟩
           ·obtain ⟨j, hj⟩ := Int.eq_ofNat_of_zero_le (show 0 ≤ m.id.f by omega)
            have hjl : j < x.acts.length := by omega
            obtain ⟨ba, oa, l, vl, rfl, hlx, hzl, _, _, _, u3, _, _⟩ := HG1.out.cell (bTrans HB7.out hbb) hjl
            obtain ⟨aa, haa⟩ := at_lt (l := p.acs) (k := j) (by have := HLEN.out; omega)
            have hck := HAC.out j l aa hjl hlx haa
            have hsent : 0 ≤ l.sent ∧ l.sent ≤ 2199023255551 := by unfold chkLoc at hck; simp only [Bool.and_eq_true] at hck; exact inB_iff.1 hck.2.2.1
            have HSP : Hid (sentP x m.id.f = l.sent) := by show _ = _; unfold sentP; rw [if_neg (by omega), hj]; show ((x.acts[(Int.ofNat j).toNat]?).map (·.sent)).getD 0 = _; rw [show (Int.ofNat j).toNat = j from rfl, hlx]; rfl
            have hji : (j : Int) < x.acts.length := by omega
            have hj0 : (0 : Int) ≤ j := by omega
            have df : decide ((j : Int) < 0) = false := decide_eq_false (by omega)
            have dg : decide ((0 : Int) ≤ (j : Int)) = true := decide_eq_true (by omega)
            clear hck haa hlx
            by_cases ns : l.sent ≤ m.id.n
            ·have ds : decide (l.sent ≤ m.id.n) = true := decide_eq_true ns
             have HR : Hid (false = chkW p x) := chkW_m HMX.out (Or.inr (cd_7 (x := x) HSP.out hsent ns))
             clear g0 g1 g2 g3 g4 g5 ht
             go_quiet (fail)
             go_wp2
             go_ret
             exact ⟨ret_b HR.out, bTrans HB7.out (bTrans hbb (quiet_below ⟨_, rfl⟩))⟩
            ·have ds : decide (l.sent ≤ m.id.n) = false := decide_eq_false ns
             have HCD : Hid (chkD x m.id = true) := cd_ok2 (by omega) (by omega) HSP.out hsent (by omega) (by omega) (by omega) (by omega)
             clear g0 g1 g2 g3 g4 g5 f0
             go_quiet (fail)
             go_wp2
             go_roundg (x.mail.length - (i + 1))
             case measure => omega
             case rel => exact ⟨i + 1, rfl, by omega, by first | rfl | go_num, bTrans HB6.out (bTrans hbb (quiet_below ⟨_, rfl⟩)), fun j y hj hy => by
               by_cases ej : j = i
               ·subst ej; have h1 := HMX.out; rw [hy] at h1; cases h1; exact ⟨HCN.out, HCD.out⟩
               ·exact ht.out j y (by omega) hy⟩
     ·have e0 : (chkN p.acs.length p.hs m.nt != 0) = true := ne_yes g0
      have HR : Hid (false = chkW p x) := chkW_m HMX.out (Or.inl (chkN_no g0))
      clear g0 ht
      refine wp_region_held_drew (S := fun w' => w'.cell? ⟨w.heap.size, 0, none⟩ = some (.slice A1 p.hs.length c1) ∧ w'.cell? ⟨w.heap.size, 1, none⟩ = some (.slice A2 p.acs.length c2) ∧ w'.cell? ⟨w.heap.size, 2, none⟩ = some (.slice A3 p.bs.length c3) ∧ w'.cell? ⟨w.heap.size, 3, none⟩ = some (.int .i64 p.fuel) ∧ w'.cell? ⟨w.heap.size + 1, 0, none⟩ = some (.slice B1 x.acts.length d1) ∧ w'.cell? ⟨w.heap.size + 1, 1, none⟩ = some (.slice (some ⟨bm, om, none⟩) x.mail.length d2) ∧ w'.cell? ⟨w.heap.size + 1, 3, none⟩ = some (.int .i64 x.used.dup) ∧ w'.cell? ⟨bm, om + i * 6 + 3, none⟩ = some (.int .i64 m.nt.to) ∧ w'.cell? ⟨bm, om + i * 6 + 4, none⟩ = some (.int .i64 m.nt.hd) ∧ w'.cell? ⟨bm, om + i * 6 + 5, none⟩ = some (.slice A6 m.nt.args.length c6) ∧ w'.cell? ⟨wr.heap.size, 0, none⟩ = some (.int .i64 m.id.f) ∧ w'.cell? ⟨wr.heap.size, 1, none⟩ = some (.int .i64 m.id.n) ∧ w'.cell? ⟨wr.heap.size, 2, none⟩ = some (.int .i64 m.id.c)) (by kernel_rfl) ?_ (fun hHeld => ?_)
      ·exact HS1.out _ (by first | exact hbb | exact hbb.drew)
      refine wpAnyH_take (i := 0) (oi := ⟨some 107, .load 26 (.tmp 2), 26, "world.go:238", #[], none⟩) (v := ?_) rfl (by kernel_rfl) (by kernel_rfl) (by kernel_rfl) (fun _ _ _ h => h) (Or.inl ⟨by rfl, ?_⟩) (by assumption) ?_
      rotate_left
      ·intro w hSw
       try dsimp only at hSw
       go_simp
       try with_reducible rfl
      try simp only [Act.put, List.setIfInBounds_toArray, List.set_cons_zero, List.set_cons_succ]
      refine wpAnyH_take (i := 1) (oi := ⟨some 108, .fieldAddr 44 (.tmp 3) 1, 0, "world.go:238", #[], none⟩) (v := ?_) rfl (by kernel_rfl) (by kernel_rfl) (by kernel_rfl) (fun _ _ _ h => h) (Or.inl ⟨by rfl, ?_⟩) (by assumption) ?_
      rotate_left
      ·intro w hSw
       try dsimp only at hSw
       go_simp
       try with_reducible rfl
      try simp only [Act.put, List.setIfInBounds_toArray, List.set_cons_zero, List.set_cons_succ]
      refine wpAnyH_take (i := 2) (oi := ⟨some 109, .load 40 (.tmp 108), 40, "world.go:238", #[⟨1, .data⟩], none⟩) (v := ?_) rfl (by kernel_rfl) (by kernel_rfl) (by kernel_rfl) (fun _ _ _ h => h) (Or.inl ⟨by rfl, ?_⟩) (by assumption) ?_
      rotate_left
      ·intro w hSw
       try dsimp only at hSw
       go_simp
       try with_reducible rfl
      try simp only [Act.put, List.setIfInBounds_toArray, List.set_cons_zero, List.set_cons_succ]
      refine wpAnyH_take (i := 3) (oi := ⟨some 110, .move (.tmp 7), 3, "world.go:238", #[], none⟩) (v := ?_) rfl (by kernel_rfl) (by kernel_rfl) (by kernel_rfl) (fun _ _ _ h => h) (Or.inl ⟨by rfl, ?_⟩) (by assumption) ?_
      rotate_left
      ·intro w hSw
       try dsimp only at hSw
       go_simp
       try with_reducible rfl
      try simp only [Act.put, List.setIfInBounds_toArray, List.set_cons_zero, List.set_cons_succ]
      refine wpAnyH_take (i := 4) (oi := ⟨some 111, .indexAddr 40 (.tmp 109) (.tmp 110), 0, "world.go:238", #[⟨2, .data⟩, ⟨3, .data⟩], none⟩) (v := ?_) rfl (by kernel_rfl) (by kernel_rfl) (by kernel_rfl) (fun _ _ _ h => h) (Or.inl ⟨by rfl, ?_⟩) (by assumption) ?_
      rotate_left
      ·intro w hSw
       try dsimp only at hSw
       go_simp
       try with_reducible rfl
      try simp only [Act.put, List.setIfInBounds_toArray, List.set_cons_zero, List.set_cons_succ]
      refine wpAnyH_take (i := 5) (oi := ⟨some 112, .fieldAddr 58 (.tmp 111) 1, 0, "world.go:238", #[⟨4, .data⟩], none⟩) (v := ?_) rfl (by kernel_rfl) (by kernel_rfl) (by kernel_rfl) (fun _ _ _ h => h) (Or.inl ⟨by rfl, ?_⟩) (by assumption) ?_
      rotate_left
      ·intro w hSw
       try dsimp only at hSw
       go_simp
       try with_reducible rfl
      try simp only [Act.put, List.setIfInBounds_toArray, List.set_cons_zero, List.set_cons_succ]
      refine wpAnyH_take (i := 6) (oi := ⟨some 113, .load 54 (.tmp 112), 54, "world.go:238", #[⟨5, .data⟩], none⟩) (v := ?_) rfl (by kernel_rfl) (by kernel_rfl) (by kernel_rfl) (fun _ _ _ h => h) (Or.inl ⟨by rfl, ?_⟩) (by assumption) ?_
      rotate_left
      ·intro w hSw
       try dsimp only at hSw
       go_simp
       try with_reducible rfl
      try simp only [Act.put, List.setIfInBounds_toArray, List.set_cons_zero, List.set_cons_succ]
      refine wpAnyH_ready (rs := [7]) (by kernel_rfl) (by simp) ?_
      refine AllReadyH.cons (o := ⟨some 114, .call { callee := .value (.func 112), args := #[.tmp 107, .tmp 113], argTypes := #[26, 54] }, 3, "world.go:238", #[⟨0, .data⟩, ⟨6, .data⟩], none⟩) rfl (fun K hK => ?_) AllReadyH.nil
      go_simp
      (go_at_call 112; refine (rnte_any _ _ _ m.nt p (HNT.out.below (by first | exact hbb | exact hbb.drew)) (HP6.out.below (by first | exact hbb | exact hbb.drew))).mono ?_; rintro e w7 ⟨rfl, hb7⟩; replace hbb := bTrans (by first | exact hbb | exact hbb.drew) hb7; clear hb7)
      try (go_wp2_with fail)
      refine hK.out _ _ ?_ (fun hHeld => ?_)
      ·exact HS1.out _ (by first | exact hbb | exact hbb.drew)
      clear hK K
      try simp only [Act.put, List.setIfInBounds_toArray, List.set_cons_zero, List.set_cons_succ]
      refine wpAnyH_take (i := 8) (oi := ⟨some 115, .binOp .neq 3 (.tmp 114) (.const (.int .i64 0)) 3, 4, "world.go:238", #[⟨7, .data⟩], none⟩) (v := ?_) rfl (by kernel_rfl) (by kernel_rfl) (by kernel_rfl) (fun _ _ _ h => h) (Or.inl ⟨by rfl, ?_⟩) (by assumption) ?_
      rotate_left
      ·intro w hSw
       try dsimp only at hSw
       go_simp
       try with_reducible rfl
      try simp only [Act.put, List.setIfInBounds_toArray, List.set_cons_zero, List.set_cons_succ]
      refine wpAnyH_take (i := 9) (oi := ⟨some 116, .move (.tmp 115), 4, "world.go:238", #[⟨8, .data⟩, ⟨7, .chain⟩], none⟩) (v := ?_) rfl (by kernel_rfl) (by kernel_rfl) (by kernel_rfl) (fun _ _ _ h => h) (Or.inl ⟨by rfl, ?_⟩) (by assumption) ?_
      rotate_left
      ·intro w hSw
       try dsimp only at hSw
       go_simp
       try with_reducible rfl
      try simp only [Act.put, List.setIfInBounds_toArray, List.set_cons_zero, List.set_cons_succ]
      refine wpAnyH_take (i := 10) (oi := ⟨some 117, .fieldAddr 56 (.tmp 8) 0, 0, "world.go:238", #[⟨9, .guard⟩], some (9, false)⟩) (v := undef) rfl (by kernel_rfl) (by kernel_rfl) (by kernel_rfl) (fun _ _ _ h => h) (Or.inr ⟨by rfl, rfl⟩) (by assumption) ?_
      try simp only [Act.put, List.setIfInBounds_toArray, List.set_cons_zero, List.set_cons_succ]
      refine wpAnyH_take (i := 11) (oi := ⟨some 118, .load 3 (.tmp 117), 3, "world.go:238", #[⟨10, .data⟩, ⟨9, .guard⟩], some (9, false)⟩) (v := undef) rfl (by kernel_rfl) (by kernel_rfl) (by kernel_rfl) (fun _ _ _ h => h) (Or.inr ⟨by rfl, rfl⟩) (by assumption) ?_
      try simp only [Act.put, List.setIfInBounds_toArray, List.set_cons_zero, List.set_cons_succ]
      refine wpAnyH_take (i := 12) (oi := ⟨some 119, .binOp .lss 3 (.tmp 118) (.const (.int .i64 (-1))) 3, 4, "world.go:238", #[⟨11, .data⟩, ⟨9, .guard⟩], some (9, false)⟩) (v := undef) rfl (by kernel_rfl) (by kernel_rfl) (by kernel_rfl) (fun _ _ _ h => h) (Or.inr ⟨by rfl, rfl⟩) (by assumption) ?_
      try simp only [Act.put, List.setIfInBounds_toArray, List.set_cons_zero, List.set_cons_succ]
      refine wpAnyH_take (i := 13) (oi := ⟨some 120, .pick (.tmp 116) (.const (.bool true)) (.tmp 119), 4, "world.go:238", #[⟨9, .data⟩, ⟨12, .data⟩], none⟩) (v := ?_) rfl (by kernel_rfl) (by kernel_rfl) (by kernel_rfl) (fun _ _ _ h => h) (Or.inl ⟨by rfl, ?_⟩) (by assumption) ?_
      rotate_left
      ·intro w hSw
       try dsimp only at hSw
       go_simp
       try with_reducible rfl
      try simp only [Act.put, List.setIfInBounds_toArray, List.set_cons_zero, List.set_cons_succ]
      refine wpAnyH_take (i := 14) (oi := ⟨some 121, .move (.tmp 120), 4, "world.go:238", #[⟨13, .data⟩, ⟨9, .chain⟩], none⟩) (v := ?_) rfl (by kernel_rfl) (by kernel_rfl) (by kernel_rfl) (fun _ _ _ h => h) (Or.inl ⟨by rfl, ?_⟩) (by assumption) ?_
      rotate_left
      ·intro w hSw
       try dsimp only at hSw
       go_simp
       try with_reducible rfl
      try simp only [Act.put, List.setIfInBounds_toArray, List.set_cons_zero, List.set_cons_succ]
      refine wpAnyH_take (i := 15) (oi := ⟨some 122, .fieldAddr 56 (.tmp 8) 0, 0, "world.go:238", #[⟨14, .guard⟩], some (14, false)⟩) (v := undef) rfl (by kernel_rfl) (by kernel_rfl) (by kernel_rfl) (fun _ _ _ h => h) (Or.inr ⟨by rfl, rfl⟩) (by assumption) ?_
      try simp only [Act.put, List.setIfInBounds_toArray, List.set_cons_zero, List.set_cons_succ]
      refine wpAnyH_take (i := 16) (oi := ⟨some 123, .load 3 (.tmp 122), 3, "world.go:238", #[⟨15, .data⟩, ⟨14, .guard⟩], some (14, false)⟩) (v := undef) rfl (by kernel_rfl) (by kernel_rfl) (by kernel_rfl) (fun _ _ _ h => h) (Or.inr ⟨by rfl, rfl⟩) (by assumption) ?_
      try simp only [Act.put, List.setIfInBounds_toArray, List.set_cons_zero, List.set_cons_succ]
      refine wpAnyH_take (i := 17) (oi := ⟨some 124, .fieldAddr 44 (.tmp 3) 0, 0, "world.go:238", #[⟨14, .guard⟩], some (14, false)⟩) (v := undef) rfl (by kernel_rfl) (by kernel_rfl) (by kernel_rfl) (fun _ _ _ h => h) (Or.inr ⟨by rfl, rfl⟩) (by assumption) ?_
      try simp only [Act.put, List.setIfInBounds_toArray, List.set_cons_zero, List.set_cons_succ]
      refine wpAnyH_take (i := 18) (oi := ⟨some 125, .load 39 (.tmp 124), 39, "world.go:238", #[⟨17, .data⟩, ⟨14, .guard⟩], some (14, false)⟩) (v := undef) rfl (by kernel_rfl) (by kernel_rfl) (by kernel_rfl) (fun _ _ _ h => h) (Or.inr ⟨by rfl, rfl⟩) (by assumption) ?_
      try simp only [Act.put, List.setIfInBounds_toArray, List.set_cons_zero, List.set_cons_succ]
      refine wpAnyH_take (i := 19) (oi := ⟨some 126, .call { callee := .builtin .len, args := #[.tmp 125], argTypes := #[39] }, 3, "world.go:238", #[⟨18, .data⟩, ⟨14, .guard⟩], some (14, false)⟩) (v := undef) rfl (by kernel_rfl) (by kernel_rfl) (by kernel_rfl) (fun _ _ _ h => h) (Or.inr ⟨by rfl, rfl⟩) (by assumption) ?_
      try simp only [Act.put, List.setIfInBounds_toArray, List.set_cons_zero, List.set_cons_succ]
      refine wpAnyH_take (i := 20) (oi := ⟨some 127, .binOp .geq 3 (.tmp 123) (.tmp 126) 3, 4, "world.go:238", #[⟨16, .data⟩, ⟨19, .data⟩, ⟨14, .guard⟩], some (14, false)⟩) (v := undef) rfl (by kernel_rfl) (by kernel_rfl) (by kernel_rfl) (fun _ _ _ h => h) (Or.inr ⟨by rfl, rfl⟩) (by assumption) ?_
      try simp only [Act.put, List.setIfInBounds_toArray, List.set_cons_zero, List.set_cons_succ]
      refine wpAnyH_take (i := 21) (oi := ⟨some 128, .pick (.tmp 121) (.const (.bool true)) (.tmp 127), 4, "world.go:238", #[⟨14, .data⟩, ⟨20, .data⟩], none⟩) (v := ?_) rfl (by kernel_rfl) (by kernel_rfl) (by kernel_rfl) (fun _ _ _ h => h) (Or.inl ⟨by rfl, ?_⟩) (by assumption) ?_
      rotate_left
      ·intro w hSw
       try dsimp only at hSw
       go_simp
       try with_reducible rfl
      try simp only [Act.put, List.setIfInBounds_toArray, List.set_cons_zero, List.set_cons_succ]
      refine wpAnyH_take (i := 22) (oi := ⟨some 129, .move (.tmp 128), 4, "world.go:238", #[⟨21, .data⟩, ⟨14, .chain⟩], none⟩) (v := ?_) rfl (by kernel_rfl) (by kernel_rfl) (by kernel_rfl) (fun _ _ _ h => h) (Or.inl ⟨by rfl, ?_⟩) (by assumption) ?_
      rotate_left
      ·intro w hSw
       try dsimp only at hSw
       go_simp
       try with_reducible rfl
      try simp only [Act.put, List.setIfInBounds_toArray, List.set_cons_zero, List.set_cons_succ]
      refine wpAnyH_take (i := 23) (oi := ⟨some 130, .fieldAddr 56 (.tmp 8) 1, 0, "world.go:238", #[⟨22, .guard⟩], some (22, false)⟩) (v := undef) rfl (by kernel_rfl) (by kernel_rfl) (by kernel_rfl) (fun _ _ _ h => h) (Or.inr ⟨by rfl, rfl⟩) (by assumption) ?_
      try simp only [Act.put, List.setIfInBounds_toArray, List.set_cons_zero, List.set_cons_succ]
      refine wpAnyH_take (i := 24) (oi := ⟨some 131, .load 3 (.tmp 130), 3, "world.go:238", #[⟨23, .data⟩, ⟨22, .guard⟩], some (22, false)⟩) (v := undef) rfl (by kernel_rfl) (by kernel_rfl) (by kernel_rfl) (fun _ _ _ h => h) (Or.inr ⟨by rfl, rfl⟩) (by assumption) ?_
      try simp only [Act.put, List.setIfInBounds_toArray, List.set_cons_zero, List.set_cons_succ]
      refine wpAnyH_take (i := 25) (oi := ⟨some 132, .binOp .lss 3 (.tmp 131) (.const (.int .i64 0)) 3, 4, "world.go:238", #[⟨24, .data⟩, ⟨22, .guard⟩], some (22, false)⟩) (v := undef) rfl (by kernel_rfl) (by kernel_rfl) (by kernel_rfl) (fun _ _ _ h => h) (Or.inr ⟨by rfl, rfl⟩) (by assumption) ?_
      try simp only [Act.put, List.setIfInBounds_toArray, List.set_cons_zero, List.set_cons_succ]
      refine wpAnyH_take (i := 26) (oi := ⟨some 133, .pick (.tmp 129) (.const (.bool true)) (.tmp 132), 4, "world.go:238", #[⟨22, .data⟩, ⟨25, .data⟩], none⟩) (v := ?_) rfl (by kernel_rfl) (by kernel_rfl) (by kernel_rfl) (fun _ _ _ h => h) (Or.inl ⟨by rfl, ?_⟩) (by assumption) ?_
      rotate_left
      ·intro w hSw
       try dsimp only at hSw
       go_simp
       try with_reducible rfl
      try simp only [Act.put, List.setIfInBounds_toArray, List.set_cons_zero, List.set_cons_succ]
      refine wpAnyH_take (i := 27) (oi := ⟨some 134, .move (.tmp 133), 4, "world.go:238", #[⟨26, .data⟩, ⟨22, .chain⟩], none⟩) (v := ?_) rfl (by kernel_rfl) (by kernel_rfl) (by kernel_rfl) (fun _ _ _ h => h) (Or.inl ⟨by rfl, ?_⟩) (by assumption) ?_
      rotate_left
      ·intro w hSw
       try dsimp only at hSw
       go_simp
       try with_reducible rfl
      try simp only [Act.put, List.setIfInBounds_toArray, List.set_cons_zero, List.set_cons_succ]
      refine wpAnyH_take (i := 28) (oi := ⟨some 135, .fieldAddr 56 (.tmp 8) 2, 0, "world.go:238", #[⟨27, .guard⟩], some (27, false)⟩) (v := undef) rfl (by kernel_rfl) (by kernel_rfl) (by kernel_rfl) (fun _ _ _ h => h) (Or.inr ⟨by rfl, rfl⟩) (by assumption) ?_
      try simp only [Act.put, List.setIfInBounds_toArray, List.set_cons_zero, List.set_cons_succ]
      refine wpAnyH_take (i := 29) (oi := ⟨some 136, .load 3 (.tmp 135), 3, "world.go:238", #[⟨28, .data⟩, ⟨27, .guard⟩], some (27, false)⟩) (v := undef) rfl (by kernel_rfl) (by kernel_rfl) (by kernel_rfl) (fun _ _ _ h => h) (Or.inr ⟨by rfl, rfl⟩) (by assumption) ?_
      try simp only [Act.put, List.setIfInBounds_toArray, List.set_cons_zero, List.set_cons_succ]
      refine wpAnyH_take (i := 30) (oi := ⟨some 137, .binOp .lss 3 (.tmp 136) (.const (.int .i64 0)) 3, 4, "world.go:238", #[⟨29, .data⟩, ⟨27, .guard⟩], some (27, false)⟩) (v := undef) rfl (by kernel_rfl) (by kernel_rfl) (by kernel_rfl) (fun _ _ _ h => h) (Or.inr ⟨by rfl, rfl⟩) (by assumption) ?_
      try simp only [Act.put, List.setIfInBounds_toArray, List.set_cons_zero, List.set_cons_succ]
      refine wpAnyH_take (i := 31) (oi := ⟨some 138, .pick (.tmp 134) (.const (.bool true)) (.tmp 137), 4, "world.go:238", #[⟨27, .data⟩, ⟨30, .data⟩], none⟩) (v := ?_) rfl (by kernel_rfl) (by kernel_rfl) (by kernel_rfl) (fun _ _ _ h => h) (Or.inl ⟨by rfl, ?_⟩) (by assumption) ?_
      rotate_left
      ·intro w hSw
       try dsimp only at hSw
       go_simp
       try with_reducible rfl
      try simp only [Act.put, List.setIfInBounds_toArray, List.set_cons_zero, List.set_cons_succ]
      refine wpAnyH_take (i := 32) (oi := ⟨some 139, .move (.tmp 138), 4, "world.go:238", #[⟨31, .data⟩, ⟨27, .chain⟩], none⟩) (v := ?_) rfl (by kernel_rfl) (by kernel_rfl) (by kernel_rfl) (fun _ _ _ h => h) (Or.inl ⟨by rfl, ?_⟩) (by assumption) ?_
      rotate_left
      ·intro w hSw
       try dsimp only at hSw
       go_simp
       try with_reducible rfl
      try simp only [Act.put, List.setIfInBounds_toArray, List.set_cons_zero, List.set_cons_succ]
      refine wpAnyH_take (i := 33) (oi := ⟨some 140, .fieldAddr 56 (.tmp 8) 2, 0, "world.go:238", #[⟨32, .guard⟩], some (32, false)⟩) (v := undef) rfl (by kernel_rfl) (by kernel_rfl) (by kernel_rfl) (fun _ _ _ h => h) (Or.inr ⟨by rfl, rfl⟩) (by assumption) ?_
      try simp only [Act.put, List.setIfInBounds_toArray, List.set_cons_zero, List.set_cons_succ]
      refine wpAnyH_take (i := 34) (oi := ⟨some 141, .load 3 (.tmp 140), 3, "world.go:238", #[⟨33, .data⟩, ⟨32, .guard⟩], some (32, false)⟩) (v := undef) rfl (by kernel_rfl) (by kernel_rfl) (by kernel_rfl) (fun _ _ _ h => h) (Or.inr ⟨by rfl, rfl⟩) (by assumption) ?_
      try simp only [Act.put, List.setIfInBounds_toArray, List.set_cons_zero, List.set_cons_succ]
      refine wpAnyH_take (i := 35) (oi := ⟨some 142, .fieldAddr 44 (.tmp 3) 2, 0, "world.go:238", #[⟨32, .guard⟩], some (32, false)⟩) (v := undef) rfl (by kernel_rfl) (by kernel_rfl) (by kernel_rfl) (fun _ _ _ h => h) (Or.inr ⟨by rfl, rfl⟩) (by assumption) ?_
      try simp only [Act.put, List.setIfInBounds_toArray, List.set_cons_zero, List.set_cons_succ]
      refine wpAnyH_take (i := 36) (oi := ⟨some 143, .fieldAddr 42 (.tmp 142) 1, 0, "world.go:238", #[⟨35, .data⟩, ⟨32, .guard⟩], some (32, false)⟩) (v := undef) rfl (by kernel_rfl) (by kernel_rfl) (by kernel_rfl) (fun _ _ _ h => h) (Or.inr ⟨by rfl, rfl⟩) (by assumption) ?_
      try simp only [Act.put, List.setIfInBounds_toArray, List.set_cons_zero, List.set_cons_succ]
      refine wpAnyH_take (i := 37) (oi := ⟨some 144, .load 3 (.tmp 143), 3, "world.go:238", #[⟨36, .data⟩, ⟨32, .guard⟩], some (32, false)⟩) (v := undef) rfl (by kernel_rfl) (by kernel_rfl) (by kernel_rfl) (fun _ _ _ h => h) (Or.inr ⟨by rfl, rfl⟩) (by assumption) ?_
      try simp only [Act.put, List.setIfInBounds_toArray, List.set_cons_zero, List.set_cons_succ]
      refine wpAnyH_take (i := 38) (oi := ⟨some 145, .binOp .gtr 3 (.tmp 141) (.tmp 144) 3, 4, "world.go:238", #[⟨34, .data⟩, ⟨37, .data⟩, ⟨32, .guard⟩], some (32, false)⟩) (v := undef) rfl (by kernel_rfl) (by kernel_rfl) (by kernel_rfl) (fun _ _ _ h => h) (Or.inr ⟨by rfl, rfl⟩) (by assumption) ?_
      try simp only [Act.put, List.setIfInBounds_toArray, List.set_cons_zero, List.set_cons_succ]
      refine wpAnyH_take (i := 39) (oi := ⟨some 146, .pick (.tmp 139) (.const (.bool true)) (.tmp 145), 4, "world.go:238", #[⟨32, .data⟩, ⟨38, .data⟩], none⟩) (v := ?_) rfl (by kernel_rfl) (by kernel_rfl) (by kernel_rfl) (fun _ _ _ h => h) (Or.inl ⟨by rfl, ?_⟩) (by assumption) ?_
      rotate_left
      ·intro w hSw
       try dsimp only at hSw
       go_simp
       try with_reducible rfl
      try simp only [Act.put, List.setIfInBounds_toArray, List.set_cons_zero, List.set_cons_succ]
      refine wpAnyH_done (by kernel_rfl) ?_ _
      go_wp2_with fail
      go_ret
      exact ⟨ret_b HR.out, bTrans HB7.out (by first | exact hbb | exact hbb.drew)⟩
    ·exfalso
     obtain ⟨j, m, h1, h2⟩ := HBAD.out
     have h3 := ht.out j m (by have := (List.getElem?_eq_some_iff.1 h1).1; omega) h1
     rcases h2 with h2 | h2
     ·rw [h3.1] at h2; cases h2
     ·rw [h3.2] at h2; cases h2
end Go.Proofs.YtgdloonpemaijaaDoor
