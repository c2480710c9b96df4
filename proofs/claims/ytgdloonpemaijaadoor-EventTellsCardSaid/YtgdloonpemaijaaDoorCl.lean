/-
  The reference's CheckWorld of chapter 9, where an actor may not be. No conditions.
-/
import Derived.Test.YtgdloonpemaijaaDoorCk
namespace Go.Proofs.YtgdloonpemaijaaDoor
open Go.RowKit
theorem cl_0 {a : PAct} {l : PLoc} (h : ¬ l.regs.length = a.regs.length) : chkLoc a l = false := by unfold chkLoc; rw [show ((l.regs.length : Int) == (a.regs.length : Int)) = false from beq_eq_false_iff_ne.2 (by omega)]; rfl
theorem in_no2 {n lo hi : Int} (h : ¬ (lo ≤ n ∧ n ≤ hi)) : inB n lo hi = false := decide_eq_false h
theorem cl_1 {a : PAct} {l : PLoc} (h : l.down < 0) : chkLoc a l = false := by unfold chkLoc; rw [in_no2 (n := l.down) (by omega)]; simp
theorem cl_2 {a : PAct} {l : PLoc} (h : 4 < l.down) : chkLoc a l = false := by unfold chkLoc; rw [in_no2 (n := l.down) (by omega)]; simp
theorem cl_3 {a : PAct} {l : PLoc} (h : l.sent < 0) : chkLoc a l = false := by unfold chkLoc; rw [in_no2 (n := l.sent) (by omega)]; simp
theorem cl_4 {a : PAct} {l : PLoc} (h : 2199023255552 ≤ l.sent) : chkLoc a l = false := by unfold chkLoc; rw [in_no2 (n := l.sent) (by omega)]; simp
theorem cl_5 {a : PAct} {l : PLoc} (h : l.over < 0) : chkLoc a l = false := by unfold chkLoc; rw [in_no2 (n := l.over) (by omega)]; simp
theorem cl_6 {a : PAct} {l : PLoc} (h : 2199023255552 ≤ l.over) : chkLoc a l = false := by unfold chkLoc; rw [in_no2 (n := l.over) (by omega)]; simp
theorem cl_7 {a : PAct} {l : PLoc} (h : l.armed = true) (h2 : a.timer = -1) : chkLoc a l = false := by unfold chkLoc; rw [h, h2]; simp
theorem cl_ok {a : PAct} {l : PLoc} (g0 : l.regs.length = a.regs.length) (g1 : ¬ l.down < 0) (g2 : ¬ 4 < l.down) (g3 : ¬ l.sent < 0) (g4 : ¬ 2199023255552 ≤ l.sent) (g5 : ¬ l.over < 0) (g6 : ¬ 2199023255552 ≤ l.over) (g7 : l.armed = false ∨ a.timer ≠ -1) : chkLoc a l = true := by
  unfold chkLoc
  rw [g0, in_yes (n := l.down) (by omega), in_yes (n := l.sent) (by omega), in_yes (n := l.over) (by omega)]
  rcases g7 with h | h <;> simp [h]
theorem chkW_a {p : PPrg} {x : PWld} {i : Nat} {a : PAct} {l : PLoc} (ha : p.acs[i]? = some a) (hl : x.acts[i]? = some l) (h : chkLoc a l = false) : false = chkW p x := by
  unfold chkW; rw [← chkAs_no ha hl h]; simp
set_option maxHeartbeats 16000000 in
set_option maxRecDepth 100000 in
theorem rcw_a (w : World) (vp vw : Value) (p : PPrg) (x : PWld) (hp : PrgV w vp p) (hx : WldV w vw x) (hf : fc p = 0) (hl : x.acts.length = p.acs.length) (hs : srt x.mail = true) (hbad : ∃ (j : Nat) (l : PLoc) (a : PAct), x.acts[j]? = some l ∧ p.acs[j]? = some a ∧ chkLoc a l = false) :
    Calls Tryd.prog 75 #[vp, vw] w fun e w' => e = .returned (.bool (chkW p x)) ∧ Below w.heap.size w w' := by
  have HP := hid_mk hp
  have HX := hid_mk hx
  obtain ⟨vh, vb, vc, rfl, h1, h2, h3⟩ := hp
  obtain ⟨A1, c1, rfl, _⟩ := h1.form
  obtain ⟨A2, c2, rfl, _⟩ := h2.form
  obtain ⟨A3, c3, rfl, _⟩ := h3.form
  obtain ⟨va, vm, rfl, g1, g2⟩ := hx
  obtain ⟨B1, d1, rfl, _⟩ := g1.form
  obtain ⟨B2, d2, rfl, _⟩ := g2.form
  have HG1 := hid_mk g1
  have HG2 := hid_mk g2
  have HH2 := hid_mk h2
  have hl' : ((x.acts.length : Int) != (p.acs.length : Int)) = false := lt_eq hl
  have HLEN := hid_mk hl
  have HBAD := hid_mk hbad
  clear hl hbad
  clear h1 h2 h3 g1 g2
  go_enter Tryd.func75, Tryd.ntmps75
  go_wp2_with fail
  have k0 : ((w.alloc (.cells #[.slice A1 p.hs.length c1, .slice A2 p.acs.length c2, .slice A3 p.bs.length c3, .int .i64 p.fuel] 26)).alloc (.cells #[.slice B1 x.acts.length d1, .slice B2 x.mail.length d2, .int .i64 x.used.drop, .int .i64 x.used.dup, .int .i64 x.used.time, .int .i64 x.used.crash] 44)).heap[w.heap.size]? = some (.cells #[.slice A1 p.hs.length c1, .slice A2 p.acs.length c2, .slice A3 p.bs.length c3, .int .i64 p.fuel] 26) := boxAt (heap_new w (.cells #[.slice A1 p.hs.length c1, .slice A2 p.acs.length c2, .slice A3 p.bs.length c3, .int .i64 p.fuel] 26)) (bAlloc (bRefl _) _)
  have k1 : ((w.alloc (.cells #[.slice A1 p.hs.length c1, .slice A2 p.acs.length c2, .slice A3 p.bs.length c3, .int .i64 p.fuel] 26)).alloc (.cells #[.slice B1 x.acts.length d1, .slice B2 x.mail.length d2, .int .i64 x.used.drop, .int .i64 x.used.dup, .int .i64 x.used.time, .int .i64 x.used.crash] 44)).heap[w.heap.size + 1]? = some (.cells #[.slice B1 x.acts.length d1, .slice B2 x.mail.length d2, .int .i64 x.used.drop, .int .i64 x.used.dup, .int .i64 x.used.time, .int .i64 x.used.crash] 44) := heap_new2 (by simp)
  have HL : Hid (Below w.heap.size w ((w.alloc (.cells #[.slice A1 p.hs.length c1, .slice A2 p.acs.length c2, .slice A3 p.bs.length c3, .int .i64 p.fuel] 26)).alloc (.cells #[.slice B1 x.acts.length d1, .slice B2 x.mail.length d2, .int .i64 x.used.drop, .int .i64 x.used.dup, .int .i64 x.used.time, .int .i64 x.used.crash] 44))) := bAlloc (bAlloc (bRefl _) _) _
  generalize ((w.alloc (.cells #[.slice A1 p.hs.length c1, .slice A2 p.acs.length c2, .slice A3 p.bs.length c3, .int .i64 p.fuel] 26)).alloc (.cells #[.slice B1 x.acts.length d1, .slice B2 x.mail.length d2, .int .i64 x.used.drop, .int .i64 x.used.dup, .int .i64 x.used.time, .int .i64 x.used.crash] 44)) = w1 at k0 k1 HL ⊢
  refine (rflow_any _ _ p (HP.out.below HL.out)).mono ?_
  rintro e w2 ⟨rfl, hb2⟩
  replace k0 := boxAt k0 hb2
  replace k1 := boxAt k1 hb2
  have HL2 := hid_mk (bTrans HL.out hb2)
  clear hb2 HL
  obtain ⟨p0, p1, p2, p3⟩ := blk4 k0
  obtain ⟨x0, x1, x2, x3, x4, x5⟩ := blk6 k1
  go_wp2_with fail
  refine (rsorted_any _ _ x.mail (HG2.out.below HL2.out)).mono ?_
  rintro e w3 ⟨rfl, hb3⟩
  replace k0 := boxAt k0 hb3
  replace k1 := boxAt k1 hb3
  have HL3 := hid_mk (bTrans HL2.out hb3)
  clear hb3 HL2 p0 p1 p2 p3 x0 x1 x2 x3 x4 x5
  have K0 := hid_mk k0
  have K1 := hid_mk k1
  clear k0 k1
  obtain ⟨p0, p1, p2, p3⟩ := blk4 K0.out
  obtain ⟨x0, x1, x2, x3, x4, x5⟩ := blk6 K1.out
  go_wp2
  clear p0 p1 p2 p3 x0 x1 x2 x3 x4 x5
  go_loopg [5] x.acts.length (fun g i5 wr => ∃ i : Nat, g = x.acts.length - i ∧ i ≤ x.acts.length ∧ i5 = .int .i64 (i : Int) ∧ Hid (Below w3.heap.size w3 wr) ∧ Hid (∀ j l a, j < i → x.acts[j]? = some l → p.acs[j]? = some a → chkLoc a l = true))
  case atStart => exact ⟨0, rfl, by omega, rfl, bRefl _, fun j l a hj => by omega⟩
  case round =>
    obtain ⟨i, rfl, hi, rfl, hbw, ht⟩ := hrel
    by_cases hlt : i < x.acts.length
    · obtain ⟨ba, oa, l, vl, rfl, hlx, hz, q1, q2, q3, q4, q5, hv⟩ := HG1.out.cell (bTrans HL3.out hbw.out) hlt
      obtain ⟨A6, c6, rfl, _⟩ := hv.form
      obtain ⟨b2, o2, a, v2, rfl, hax, hz2, r1, r2, r3, r4, hv2⟩ := HH2.out.cell (bTrans HL3.out hbw.out) (k := i) (by have := HLEN.out; omega)
      obtain ⟨A7, c7, rfl, _⟩ := hv2.form
      have y0 := boxAt K0.out hbw.out
      have y1 := boxAt K1.out hbw.out
      obtain ⟨p0, p1, p2, p3⟩ := blk4 y0
      obtain ⟨x0, x1, x2, x3, x4, x5⟩ := blk6 y1
      have z0 := (Array.getElem?_eq_some_iff.1 y0).1
      have z1 := (Array.getElem?_eq_some_iff.1 y1).1
      have hltI : (i : Int) < x.acts.length := by omega
      have hlp : i < p.acs.length := by have := HLEN.out; omega
      have hlpI : (i : Int) < p.acs.length := by omega
      have hi0 : (0 : Int) ≤ i := by omega
      have HLX := hid_mk hlx
      have HAX := hid_mk hax
      clear hv hv2 hlx hax y0 y1
      go_wp2
      have hk6 := heap_new wr (.cells #[.slice A6 l.regs.length c6, .bool l.armed, .int .i64 l.down, .int .i64 l.sent, .int .i64 l.over] 29)
      have hb6 : Below wr.heap.size wr (wr.alloc (.cells #[.slice A6 l.regs.length c6, .bool l.armed, .int .i64 l.down, .int .i64 l.sent, .int .i64 l.over] 29)) := bAlloc (bRefl _) _
      replace p1 := (hb6.cell (p := ⟨w.heap.size, 1, none⟩) z0).trans p1
      replace r1 := (hb6.cell (p := ⟨b2, _, none⟩) hz2).trans r1
      replace r3 := (hb6.cell (p := ⟨b2, _, none⟩) hz2).trans r3
      have HB6 := hid_mk (bTrans hbw.out hb6)
      have HB7 := hid_mk (bTrans (bTrans HL3.out hbw.out) hb6)
      clear p0 p2 p3 x0 x1 x2 x3 x4 x5 q1 q2 q3 q4 q5 r2 r4
      generalize (wr.alloc (.cells #[.slice A6 l.regs.length c6, .bool l.armed, .int .i64 l.down, .int .i64 l.sent, .int .i64 l.over] 29)) = w6 at p1 r1 r3 hk6 HB6 HB7 ⊢
      obtain ⟨l0, l1, l2, l3, l4⟩ := blk5 hk6
      clear hk6 hb6
      by_cases g0 : l.regs.length = a.regs.length
      · have n0 : ((l.regs.length : Int) != (a.regs.length : Int)) = false := lt_eq g0
        by_cases g1 : l.down < 0
        · have m0 : decide (l.down < 0) = true := decide_eq_true g1
          have HR : Hid (false = chkW p x) := chkW_a HAX.out HLX.out (cl_1 g1)
          clear g0 g1 ht
          go_quiet (fail)
          go_wp2
          go_ret
          exact ⟨ret_b HR.out, bTrans HB7.out (quiet_below ⟨_, rfl⟩)⟩
        · have m0 : decide (l.down < 0) = false := decide_eq_false g1
          by_cases g2 : 4 < l.down
          · have m1 : decide (4 < l.down) = true := decide_eq_true g2
            have HR : Hid (false = chkW p x) := chkW_a HAX.out HLX.out (cl_2 g2)
            clear g0 g1 g2 ht
            go_quiet (fail)
            go_wp2
            go_ret
            exact ⟨ret_b HR.out, bTrans HB7.out (quiet_below ⟨_, rfl⟩)⟩
          · have m1 : decide (4 < l.down) = false := decide_eq_false g2
            by_cases g3 : l.sent < 0
            · have m2 : decide (l.sent < 0) = true := decide_eq_true g3
              have HR : Hid (false = chkW p x) := chkW_a HAX.out HLX.out (cl_3 g3)
              clear g0 g1 g2 g3 ht
              go_quiet (fail)
              go_wp2
              go_ret
              exact ⟨ret_b HR.out, bTrans HB7.out (quiet_below ⟨_, rfl⟩)⟩
            · have m2 : decide (l.sent < 0) = false := decide_eq_false g3
              by_cases g4 : 2199023255552 ≤ l.sent
              · have m3 : decide (2199023255552 ≤ l.sent) = true := decide_eq_true g4
                have HR : Hid (false = chkW p x) := chkW_a HAX.out HLX.out (cl_4 g4)
                clear g0 g1 g2 g3 g4 ht
                go_quiet (fail)
                go_wp2
                go_ret
                exact ⟨ret_b HR.out, bTrans HB7.out (quiet_below ⟨_, rfl⟩)⟩
              · have m3 : decide (2199023255552 ≤ l.sent) = false := decide_eq_false g4
                by_cases g5 : l.over < 0
                · have m4 : decide (l.over < 0) = true := decide_eq_true g5
                  have HR : Hid (false = chkW p x) := chkW_a HAX.out HLX.out (cl_5 g5)
                  clear g0 g1 g2 g3 g4 g5 ht
                  go_quiet (fail)
                  go_wp2
                  go_ret
                  exact ⟨ret_b HR.out, bTrans HB7.out (quiet_below ⟨_, rfl⟩)⟩
                · have m4 : decide (l.over < 0) = false := decide_eq_false g5
                  by_cases g6 : 2199023255552 ≤ l.over
                  · have m5 : decide (2199023255552 ≤ l.over) = true := decide_eq_true g6
                    have HR : Hid (false = chkW p x) := chkW_a HAX.out HLX.out (cl_6 g6)
                    clear g0 g1 g2 g3 g4 g5 g6 ht
                    go_quiet (fail)
                    go_wp2
                    go_ret
                    exact ⟨ret_b HR.out, bTrans HB7.out (quiet_below ⟨_, rfl⟩)⟩
                  · have m5 : decide (2199023255552 ≤ l.over) = false := decide_eq_false g6
                    cases g7 : l.armed with
                    | false =>
                      have HCK : Hid (chkLoc a l = true) := cl_ok g0 g1 g2 g3 g4 g5 g6 (Or.inl g7)
                      rw [g7] at l1
                      clear g0 g1 g2 g3 g4 g5 g6
                      go_quiet (fail)
                      go_wp2
                      go_roundg (x.acts.length - (i + 1))
                      case measure => omega
                      case rel => exact ⟨i + 1, rfl, by omega, by first | rfl | go_num, bTrans HB6.out (quiet_below ⟨_, rfl⟩), fun j y b hj hy hb => by
                          by_cases ej : j = i
                          · subst ej; have h1 := HLX.out; have h2 := HAX.out; rw [hy] at h1; rw [hb] at h2; cases h1; cases h2; exact HCK.out
                          · exact ht.out j y b (by omega) hy hb⟩
                    | true =>
                      by_cases g8 : a.timer = -1
                      · have m8 : (a.timer == -1) = true := beq_iff_eq.2 g8
                        rw [g7] at l1
                        have HR : Hid (false = chkW p x) := chkW_a HAX.out HLX.out (cl_7 g7 g8)
                        clear g0 g1 g2 g3 g4 g5 g6 g8 ht
                        go_quiet (fail)
                        go_wp2
                        go_ret
                        exact ⟨ret_b HR.out, bTrans HB7.out (quiet_below ⟨_, rfl⟩)⟩
                      · have m8 : (a.timer == -1) = false := beq_eq_false_iff_ne.2 g8
                        have HCK : Hid (chkLoc a l = true) := cl_ok g0 g1 g2 g3 g4 g5 g6 (Or.inr g8)
                        rw [g7] at l1
                        clear g0 g1 g2 g3 g4 g5 g6 g8
                        go_quiet (fail)
                        go_wp2
                        go_roundg (x.acts.length - (i + 1))
                        case measure => omega
                        case rel => exact ⟨i + 1, rfl, by omega, by first | rfl | go_num, bTrans HB6.out (quiet_below ⟨_, rfl⟩), fun j y b hj hy hb => by
                            by_cases ej : j = i
                            · subst ej; have h1 := HLX.out; have h2 := HAX.out; rw [hy] at h1; rw [hb] at h2; cases h1; cases h2; exact HCK.out
                            · exact ht.out j y b (by omega) hy hb⟩
      · have n0 : ((l.regs.length : Int) != (a.regs.length : Int)) = true := lt_ne g0
        have HR : Hid (false = chkW p x) := chkW_a HAX.out HLX.out (cl_0 g0)
        clear g0 ht
        go_quiet (fail)
        go_wp2
        go_ret
        exact ⟨ret_b HR.out, bTrans HB7.out (quiet_below ⟨_, rfl⟩)⟩
    · exfalso
      obtain ⟨j, l, a, h1, h2, h3⟩ := HBAD.out
      have := ht.out j l a (by have := (List.getElem?_eq_some_iff.1 h1).1; omega) h1 h2
      rw [h3] at this
      cases this
end Go.Proofs.YtgdloonpemaijaaDoor
