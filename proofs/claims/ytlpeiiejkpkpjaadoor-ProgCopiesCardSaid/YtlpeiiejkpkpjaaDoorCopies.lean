/-
  What ProgCopies answers of any program and number: true; and nothing old has turned. Condition: the table of the instructions is in the world.
-/
import Derived.Test.YtlpeiiejkpkpjaaDoorStart
import Derived.Test.YtlpeiiejkpkpjaaDoorRSame
import Derived.Test.YtlpeiiejkpkpjaaDoorSmall
namespace Go.Proofs.YtlpeiiejkpkpjaaDoor
open Go.RowKit
attribute [local go_sem ↓] Go.wp_at_zero Go.wp_at_succ

theorem small_true {p : PPrg} (h : small p = true) : Small p := of_decide_eq_true h

set_option maxHeartbeats 16000000 in
set_option maxRecDepth 100000 in
theorem copies_all (w : World) (ht : Tab w) (v : Value) (how : Int) (p : PPrg) (hp : PrgV w v p) :
    Calls Tryd.prog 4 #[v, .int .i64 how] w fun e w' => e = .returned (.bool true) ∧ Below w.heap.size w w' := by
  obtain ⟨A1, A2, A3, c1, c2, c3, rfl⟩ := hp.open
  have HT : Hid (Tab w) := ht
  have HP : Hid (PrgV w (.agg #[.slice A1 p.hs.length c1, .slice A2 p.acs.length c2, .slice A3 p.bs.length c3, .int .i64 p.fuel]) p) := hp
  have B0 : Below w.heap.size w (w.alloc (.cells #[.slice A1 p.hs.length c1, .slice A2 p.acs.length c2, .slice A3 p.bs.length c3, .int .i64 p.fuel] 26)) := bAlloc (bRefl w) _
  clear ht hp
  cases sm : small p with
  | false =>
    go_enter Tryd.func4, Tryd.ntmps4
    go_wp2_with fail
    refine (small_any _ _ p (HP.out.below B0)).mono ?_
    rintro e w1 ⟨rfl, hb1⟩
    go_wp2_with fail
    refine (awake_any _ (HT.out.below (bTrans B0 hb1))).mono ?_
    rintro e w2 ⟨rfl, hb2⟩
    go_wp2_with fail
    go_ret
    exact ⟨rfl, bTrans (bTrans B0 hb1) hb2⟩
  | true =>
    have HSm : Hid (Small p) := small_true sm
    go_enter Tryd.func4, Tryd.ntmps4
    go_wp2_with fail
    refine (small_any _ _ p (HP.out.below B0)).mono ?_
    rintro e w1 ⟨rfl, hb1⟩
    have X0 := (Bx.new w #[.slice A1 p.hs.length c1, .slice A2 p.acs.length c2, .slice A3 p.bs.length c3, .int .i64 p.fuel] 26).below hb1
    have X0c := X0.cell
    have y0 : Below w.heap.size w w1 := bTrans B0 hb1
    have ub0 : Below (w.heap.size + 1) (w.alloc (.cells #[.slice A1 p.hs.length c1, .slice A2 p.acs.length c2, .slice A3 p.bs.length c3, .int .i64 p.fuel] 26)) w1 := by simpa using hb1
    clear hb1
    go_wp2_with fail
    go_cut [5, 6] (fun i5 i6 wc => ∃ bq bs, i5 = .pointer (some ⟨bq, 0, none⟩) ∧ i6 = .pointer (some ⟨bs, 0, none⟩) ∧ Start w p A1 A2 A3 c1 c2 c3 bq bs wc)
    case first =>
      have flag1 : True := trivial
      have flag2 : True := trivial
      have n01 : ¬ w1.heap.size = w.heap.size := by have := X0.lt; omega
      have n02 : ¬ w1.heap.size + 1 = w.heap.size := by have := X0.lt; omega
      have n03 : w.heap.size < w1.heap.size := X0.lt
      have n04 : w.heap.size < w1.heap.size + 1 := by have := X0.lt; omega
      go_region_held3 (fun w' => w'.cell? ⟨w.heap.size, 0, none⟩ = some (.slice A1 p.hs.length c1) ∧ w'.cell? ⟨w.heap.size, 1, none⟩ = some (.slice A2 p.acs.length c2) ∧ w'.cell? ⟨w.heap.size, 2, none⟩ = some (.slice A3 p.bs.length c3) ∧ w'.cell? ⟨w.heap.size, 3, none⟩ = some (.int .i64 p.fuel)) (go_keep)
        (first
          | (go_at_call 16; have ff := flag1; clear flag1 ff; refine (copy_any _ _ p (HP.out.below (by first | exact y0.drew | exact (bAlloc y0 _).drew | exact (bAlloc (bAlloc y0 _) _).drew)) HSm.out).mono ?_; rintro e u1 ⟨v1, rfl, n1, b1⟩; obtain ⟨Q1, Q2, Q3, d1, d2, d3, hv1⟩ := n1.prg.open; subst hv1; obtain ⟨hc1, hf1, hz1⟩ := olds b1; have hy1 := b1.size; (try simp at hy1); have y1 : Below w.heap.size w u1 := (by first | exact bTrans y0.drew b1 | exact bTrans (bAlloc y0 _).drew b1 | exact bTrans (bAlloc (bAlloc y0 _) _).drew b1); have x1 : w.heap.size < u1.heap.size := (by omega); have x1' : ¬ u1.heap.size = w.heap.size := (by omega); have x1'' : ¬ u1.heap.size + 1 = w.heap.size := (by omega); (try (by_cases k1 : w1.heap.size < u1.heap.size; rotate_left; (exfalso; omega))); (try (by_cases k2 : w1.heap.size + 1 < u1.heap.size; rotate_left; (exfalso; omega))); have ub1 : Below (w.heap.size + 1) (w.alloc (.cells #[.slice A1 p.hs.length c1, .slice A2 p.acs.length c2, .slice A3 p.bs.length c3, .int .i64 p.fuel] 26)) u1 := u_step (by first | exact ub0.drew | exact (u_alloc ub0 _).drew | exact (u_alloc (u_alloc ub0 _) _).drew) b1; have vb1 := box_cells ub1; have N1 : Hid (PNew _ _ _ _) := n1; clear n1)
          | (go_at_call 16; have ff := flag2; clear flag2 ff; refine (copy_any _ _ p (HP.out.below (by first | exact y1 | exact bAlloc y1 _ | exact bAlloc (bAlloc y1 _) _)) HSm.out).mono ?_; rintro e u2 ⟨v2, rfl, n2, b2⟩; obtain ⟨S1, S2, S3, s1, s2, s3, hv2⟩ := n2.prg.open; subst hv2; obtain ⟨hc2, hf2, hz2⟩ := olds b2; have hy2 := b2.size; (try simp at hy2); have x2 : w.heap.size < u2.heap.size := (by omega); have x2' : ¬ u2.heap.size = w.heap.size := (by omega); have x2'' : ¬ u2.heap.size + 1 = w.heap.size := (by omega); (try (by_cases k3 : u1.heap.size < u2.heap.size; rotate_left; (exfalso; omega))); (try (by_cases k4 : u1.heap.size + 1 < u2.heap.size; rotate_left; (exfalso; omega))); (try (by_cases k5 : w1.heap.size < u2.heap.size; rotate_left; (exfalso; omega))); (try (by_cases k6 : w1.heap.size + 1 < u2.heap.size; rotate_left; (exfalso; omega))); have ub2 : Below (w.heap.size + 1) (w.alloc (.cells #[.slice A1 p.hs.length c1, .slice A2 p.acs.length c2, .slice A3 p.bs.length c3, .int .i64 p.fuel] 26)) u2 := u_step (by first | exact ub1 | exact u_alloc ub1 _ | exact u_alloc (u_alloc ub1 _) _) b2; have vb2 := box_cells ub2; have N2 : Hid (PNew _ _ _ _) := n2; clear n2; have y2' : Below w.heap.size w u2 := (by first | exact bTrans y1 b2 | exact bTrans (bAlloc y1 _) b2 | exact bTrans (bAlloc (bAlloc y1 _) _) b2)))
      all_goals (go_wp2_with fail; go_meet)
      · exact start_meet (meet0 N1.out b1 N2.out b2 n03 y2' ub2)
      · exact start_meet (meet1 N1.out b1 N2.out b2 n03 y2' ub2)
      · exact start_meet (meet2 N1.out b1 N2.out b2 n03 y2' ub2)
      · exact start_meet (meet3 N1.out b1 N2.out b2 n03 y2' ub2)
      · exact start_meet (meet4 N1.out b1 N2.out b2 n03 y2' ub2)
      · exact start_meet (meet5 N1.out b1 N2.out b2 n03 y2' ub2)
      · exact start_meet (meet6 N1.out b1 N2.out b2 n03 y2' ub2)
      · exact start_meet (meet7 N1.out b1 N2.out b2 n03 y2' ub2)
      · exact start_meet (meet8 N1.out b1 N2.out b2 n03 y2' ub2)
      · exact start_meet (meet9 N1.out b1 N2.out b2 n03 y2' ub2)
      · exact start_meet (meet10 N1.out b1 N2.out b2 n03 y2' ub2)
      · exact start_meet (meet11 N1.out b1 N2.out b2 n03 y2' ub2)
    case rest => 
      obtain ⟨bq, bs, rfl, rfl, Q1, Q2, Q3, d1, d2, d3, S1, S2, S3, s1, s2, s3, B1, p1, q1, p2, q2, p3, q3, C, E1, ck, cv0, cq⟩ := hcut
      clear y0 ub0 X0 X0c B0
      have g0 := eqB_self p
      have p0a := cv0.xp.cell 0 (by decide)
      have p1a := cv0.xp.cell 1 (by decide)
      have p2a := cv0.xp.cell 2 (by decide)
      have p3a := cv0.xp.cell 3 (by decide)
      have q0a := cv0.xq.cell 0 (by decide)
      have q1a := cv0.xq.cell 1 (by decide)
      have q2a := cv0.xq.cell 2 (by decide)
      have q3a := cv0.xq.cell 3 (by decide)
      have w0a := cv0.xw.cell 0 (by decide)
      have w1a := cv0.xw.cell 1 (by decide)
      have w2a := cv0.xw.cell 2 (by decide)
      have w3a := cv0.xw.cell 3 (by decide)

      go_wp2_with fail
      refine (rsame_any _ _ _ p p (HP.out.below cv0.low) cq).mono ?_
      rintro e w2 ⟨rfl, hb2⟩
      have cv2 := cv0.below hb2
      have p0b := cv2.xp.cell 0 (by decide)
      have p1b := cv2.xp.cell 1 (by decide)
      have p2b := cv2.xp.cell 2 (by decide)
      have p3b := cv2.xp.cell 3 (by decide)
      have q0b := cv2.xq.cell 0 (by decide)
      have q1b := cv2.xq.cell 1 (by decide)
      have q2b := cv2.xq.cell 2 (by decide)
      have q3b := cv2.xq.cell 3 (by decide)
      have w0b := cv2.xw.cell 0 (by decide)
      have w1b := cv2.xw.cell 1 (by decide)
      have w2b := cv2.xw.cell 2 (by decide)
      have w3b := cv2.xw.cell 3 (by decide)

      go_wp2_with fail
      refine (rsame_any _ _ _ p p (HP.out.below cv2.low) cv2.was).mono ?_
      rintro e w3 ⟨rfl, hb3⟩
      have cv := cv2.below hb3
      clear p0a p1a p2a p3a q0a q1a q2a q3a w0a w1a w2a w3a p0b p1b p2b p3b q0b q1b q2b q3b w0b w1b w2b w3b cv0 cv2 cq hb2 hb3
      have qe := cv.xq.cell 0 (by decide)
      go_wp2_with fail
      go_loopg [7] p.hs.length (fun g i7 wr => ∃ k : Nat, g = p.hs.length - k ∧ k ≤ p.hs.length ∧ i7 = .int .i64 k ∧ CV w p w.heap.size bq bs #[.slice A1 p.hs.length c1, .slice A2 p.acs.length c2, .slice A3 p.bs.length c3, .int .i64 p.fuel] #[.slice Q1 p.hs.length d1, .slice Q2 p.acs.length d2, .slice Q3 p.bs.length d3, .int .i64 p.fuel] (.slice S1 p.hs.length s1) (.slice S2 p.acs.length s2) (.slice S3 p.bs.length s3) B1 p1 q1 p2 q2 p3 q3 C E1 Q1 Q2 Q3 d1 d2 d3 k 0 0 wr)
      case atStart => exact ⟨0, rfl, by omega, rfl, cv⟩
      case round =>
        clear cv
        obtain ⟨k, rfl, hk, rfl, cv⟩ := hrel
        have hbig : p.hs.length ≤ 18 := HSm.out.1
        by_cases hlt : k < p.hs.length
        · obtain ⟨x, hx⟩ := at_lt hlt
          obtain ⟨b, o, V, m, c, rfl, hB, hC, hE, hz, r1, r2⟩ := cv.atH ck hx
          rw [if_neg (Nat.lt_irrefl k)] at r1
          have fz : ∀ o, wr.frozen? ⟨b, o, none⟩ = false := fun o => cv.frozen hB hE
          have qe := cv.xq.cell 0 (by decide)
          have cvn : Hid (CV w p w.heap.size bq bs #[.slice A1 p.hs.length c1, .slice A2 p.acs.length c2, .slice A3 p.bs.length c3, .int .i64 p.fuel] #[.slice (some ⟨b, o, none⟩) p.hs.length d1, .slice Q2 p.acs.length d2, .slice Q3 p.bs.length d3, .int .i64 p.fuel] (.slice S1 p.hs.length s1) (.slice S2 p.acs.length s2) (.slice S3 p.bs.length s3) B1 p1 q1 p2 q2 p3 q3 C E1 (some ⟨b, o, none⟩) Q2 Q3 d1 d2 d3 (k + 1) 0 0 (wr.setCell ⟨b, o + k * 2, none⟩ (.int .i64 (wrap64 (x.args + 1))))) := cv.args ck hx
          have r3 : Hid ((wr.setCell ⟨b, o + k * 2, none⟩ (.int .i64 (wrap64 (x.args + 1)))).cell? ⟨b, o + k * 2 + 1, none⟩ = some (.slice V m c)) := (cell_other (by omega)).trans r2
          have qn : Hid (bq ≠ b) := fun e => by have := ck.q; omega
          have qn' : ¬ b = bq := fun e => qn.out e.symm
          clear hx
          have HCV : Hid (CV w p w.heap.size bq bs #[.slice A1 p.hs.length c1, .slice A2 p.acs.length c2, .slice A3 p.bs.length c3, .int .i64 p.fuel] #[.slice (some ⟨b, o, none⟩) p.hs.length d1, .slice Q2 p.acs.length d2, .slice Q3 p.bs.length d3, .int .i64 p.fuel] (.slice S1 p.hs.length s1) (.slice S2 p.acs.length s2) (.slice S3 p.bs.length s3) B1 p1 q1 p2 q2 p3 q3 C E1 (some ⟨b, o, none⟩) Q2 Q3 d1 d2 d3 k 0 0 wr) := cv
          clear cv
          go_wp2
          go_loopg [8] m (fun g i8 wr => ∃ k2 : Nat, g = m - k2 ∧ k2 ≤ m ∧ i8 = .int .i64 k2 ∧ wr.cell? ⟨b, o + k * 2 + 1, none⟩ = some (.slice V m c) ∧ CV w p w.heap.size bq bs #[.slice A1 p.hs.length c1, .slice A2 p.acs.length c2, .slice A3 p.bs.length c3, .int .i64 p.fuel] #[.slice (some ⟨b, o, none⟩) p.hs.length d1, .slice Q2 p.acs.length d2, .slice Q3 p.bs.length d3, .int .i64 p.fuel] (.slice S1 p.hs.length s1) (.slice S2 p.acs.length s2) (.slice S3 p.bs.length s3) B1 p1 q1 p2 q2 p3 q3 C E1 (some ⟨b, o, none⟩) Q2 Q3 d1 d2 d3 (k + 1) 0 0 wr)
          case atStart => exact ⟨0, rfl, by omega, rfl, r3.out, cvn.out⟩
          case round =>
            clear HCV cvn r3 r1 r2 fz qe
            obtain ⟨k2, rfl, hk2, rfl, hc, cv⟩ := hrel
            have qe := cv.xq.cell 0 (by decide)
            by_cases hlt2 : k2 < m
            · obtain ⟨hmb, b2, o2, y, z, rfl, hin, hz2, t1, t2⟩ := cv.inH hlt hc hlt2
              have fz2 : ∀ o, wr.frozen? ⟨b2, o, none⟩ = false := fun o => cv.frozen (by unfold In at hin; have := ck.a0; have := ck.a1; have := ck.a2; have := ck.a3; have := ck.a4; have := ck.a5; have := ck.a6; omega) hin.2
              have HCV : Hid (CV w p w.heap.size bq bs #[.slice A1 p.hs.length c1, .slice A2 p.acs.length c2, .slice A3 p.bs.length c3, .int .i64 p.fuel] #[.slice (some ⟨b, o, none⟩) p.hs.length d1, .slice Q2 p.acs.length d2, .slice Q3 p.bs.length d3, .int .i64 p.fuel] (.slice S1 p.hs.length s1) (.slice S2 p.acs.length s2) (.slice S3 p.bs.length s3) B1 p1 q1 p2 q2 p3 q3 C E1 (some ⟨b, o, none⟩) Q2 Q3 d1 d2 d3 (k + 1) 0 0 wr) := cv
              have HI : Hid (In C E1 b2) := hin
              have nb : Hid (b ≠ b2) := fun e => by unfold In at hin; omega
              clear cv hin
              go_wp2
              go_roundg (m - (k2 + 1))
              case measure => omega
              case rel => exact ⟨k2 + 1, rfl, by omega, by go_num, (far nb.out).trans hc, HCV.out.poke ck HI.out t2⟩
            · have HCV : Hid (CV w p w.heap.size bq bs #[.slice A1 p.hs.length c1, .slice A2 p.acs.length c2, .slice A3 p.bs.length c3, .int .i64 p.fuel] #[.slice (some ⟨b, o, none⟩) p.hs.length d1, .slice Q2 p.acs.length d2, .slice Q3 p.bs.length d3, .int .i64 p.fuel] (.slice S1 p.hs.length s1) (.slice S2 p.acs.length s2) (.slice S3 p.bs.length s3) B1 p1 q1 p2 q2 p3 q3 C E1 (some ⟨b, o, none⟩) Q2 Q3 d1 d2 d3 (k + 1) 0 0 wr) := cv
              clear cv
              go_wp2
              go_roundg (p.hs.length - (k + 1))
              case measure => omega
              case rel => exact ⟨k + 1, rfl, by omega, by go_num, HCV.out⟩
        · obtain rfl : k = p.hs.length := by omega
          clear hbig hk hlt
          have qxa := cv.xq.cell 0 (by decide)
          have qe := cv.xq.cell 1 (by decide)
          go_wp2
          go_loopg [9] p.acs.length (fun g i9 wr => ∃ k : Nat, g = p.acs.length - k ∧ k ≤ p.acs.length ∧ i9 = .int .i64 k ∧ CV w p w.heap.size bq bs #[.slice A1 p.hs.length c1, .slice A2 p.acs.length c2, .slice A3 p.bs.length c3, .int .i64 p.fuel] #[.slice Q1 p.hs.length d1, .slice Q2 p.acs.length d2, .slice Q3 p.bs.length d3, .int .i64 p.fuel] (.slice S1 p.hs.length s1) (.slice S2 p.acs.length s2) (.slice S3 p.bs.length s3) B1 p1 q1 p2 q2 p3 q3 C E1 Q1 Q2 Q3 d1 d2 d3 p.hs.length k 0 wr)
          case atStart => exact ⟨0, rfl, by omega, rfl, cv⟩
          case round =>
            clear cv
            obtain ⟨k, rfl, hk, rfl, cv⟩ := hrel
            have hbig : p.acs.length ≤ 10 := HSm.out.2.1
            by_cases hlt : k < p.acs.length
            · obtain ⟨x, hx⟩ := at_lt hlt
              obtain ⟨b, o, V, m, c, rfl, hB, hC, hE, hz, r1, r2⟩ := cv.atA ck hx
              rw [if_neg (Nat.lt_irrefl k)] at r1
              have fz : ∀ o, wr.frozen? ⟨b, o, none⟩ = false := fun o => cv.frozen hB hE
              have qe := cv.xq.cell 1 (by decide)
              have cvn : Hid (CV w p w.heap.size bq bs #[.slice A1 p.hs.length c1, .slice A2 p.acs.length c2, .slice A3 p.bs.length c3, .int .i64 p.fuel] #[.slice Q1 p.hs.length d1, .slice (some ⟨b, o, none⟩) p.acs.length d2, .slice Q3 p.bs.length d3, .int .i64 p.fuel] (.slice S1 p.hs.length s1) (.slice S2 p.acs.length s2) (.slice S3 p.bs.length s3) B1 p1 q1 p2 q2 p3 q3 C E1 Q1 (some ⟨b, o, none⟩) Q3 d1 d2 d3 p.hs.length (k + 1) 0 (wr.setCell ⟨b, o + k * 4 + 1, none⟩ (.int .i64 (wrap64 (x.cap + 1))))) := cv.caps ck hx
              have r3 : Hid ((wr.setCell ⟨b, o + k * 4 + 1, none⟩ (.int .i64 (wrap64 (x.cap + 1)))).cell? ⟨b, o + k * 4, none⟩ = some (.slice V m c)) := (cell_other (by omega)).trans r2
              have qn : Hid (bq ≠ b) := fun e => by have := ck.q; omega
              have qn' : ¬ b = bq := fun e => qn.out e.symm
              clear hx
              have HCV : Hid (CV w p w.heap.size bq bs #[.slice A1 p.hs.length c1, .slice A2 p.acs.length c2, .slice A3 p.bs.length c3, .int .i64 p.fuel] #[.slice Q1 p.hs.length d1, .slice (some ⟨b, o, none⟩) p.acs.length d2, .slice Q3 p.bs.length d3, .int .i64 p.fuel] (.slice S1 p.hs.length s1) (.slice S2 p.acs.length s2) (.slice S3 p.bs.length s3) B1 p1 q1 p2 q2 p3 q3 C E1 Q1 (some ⟨b, o, none⟩) Q3 d1 d2 d3 p.hs.length k 0 wr) := cv
              clear cv
              go_wp2
              go_loopg [10] m (fun g i10 wr => ∃ k2 : Nat, g = m - k2 ∧ k2 ≤ m ∧ i10 = .int .i64 k2 ∧ wr.cell? ⟨b, o + k * 4, none⟩ = some (.slice V m c) ∧ CV w p w.heap.size bq bs #[.slice A1 p.hs.length c1, .slice A2 p.acs.length c2, .slice A3 p.bs.length c3, .int .i64 p.fuel] #[.slice Q1 p.hs.length d1, .slice (some ⟨b, o, none⟩) p.acs.length d2, .slice Q3 p.bs.length d3, .int .i64 p.fuel] (.slice S1 p.hs.length s1) (.slice S2 p.acs.length s2) (.slice S3 p.bs.length s3) B1 p1 q1 p2 q2 p3 q3 C E1 Q1 (some ⟨b, o, none⟩) Q3 d1 d2 d3 p.hs.length (k + 1) 0 wr)
              case atStart => exact ⟨0, rfl, by omega, rfl, r3.out, cvn.out⟩
              case round =>
                clear HCV cvn r3 r1 r2 fz qe
                obtain ⟨k2, rfl, hk2, rfl, hc, cv⟩ := hrel
                have qe := cv.xq.cell 1 (by decide)
                by_cases hlt2 : k2 < m
                · obtain ⟨hmb, b2, o2, y, rfl, hin, hz2, t2⟩ := cv.inA hlt hc hlt2
                  have fz2 : ∀ o, wr.frozen? ⟨b2, o, none⟩ = false := fun o => cv.frozen (by unfold In at hin; have := ck.a0; have := ck.a1; have := ck.a2; have := ck.a3; have := ck.a4; have := ck.a5; have := ck.a6; omega) hin.2
                  have HCV : Hid (CV w p w.heap.size bq bs #[.slice A1 p.hs.length c1, .slice A2 p.acs.length c2, .slice A3 p.bs.length c3, .int .i64 p.fuel] #[.slice Q1 p.hs.length d1, .slice (some ⟨b, o, none⟩) p.acs.length d2, .slice Q3 p.bs.length d3, .int .i64 p.fuel] (.slice S1 p.hs.length s1) (.slice S2 p.acs.length s2) (.slice S3 p.bs.length s3) B1 p1 q1 p2 q2 p3 q3 C E1 Q1 (some ⟨b, o, none⟩) Q3 d1 d2 d3 p.hs.length (k + 1) 0 wr) := cv
                  have HI : Hid (In C E1 b2) := hin
                  have nb : Hid (b ≠ b2) := fun e => by unfold In at hin; omega
                  clear cv hin
                  go_wp2
                  go_roundg (m - (k2 + 1))
                  case measure => omega
                  case rel => exact ⟨k2 + 1, rfl, by omega, by go_num, (far nb.out).trans hc, HCV.out.poke ck HI.out t2⟩
                · have HCV : Hid (CV w p w.heap.size bq bs #[.slice A1 p.hs.length c1, .slice A2 p.acs.length c2, .slice A3 p.bs.length c3, .int .i64 p.fuel] #[.slice Q1 p.hs.length d1, .slice (some ⟨b, o, none⟩) p.acs.length d2, .slice Q3 p.bs.length d3, .int .i64 p.fuel] (.slice S1 p.hs.length s1) (.slice S2 p.acs.length s2) (.slice S3 p.bs.length s3) B1 p1 q1 p2 q2 p3 q3 C E1 Q1 (some ⟨b, o, none⟩) Q3 d1 d2 d3 p.hs.length (k + 1) 0 wr) := cv
                  clear cv
                  go_wp2
                  go_roundg (p.acs.length - (k + 1))
                  case measure => omega
                  case rel => exact ⟨k + 1, rfl, by omega, by go_num, HCV.out⟩
            · obtain rfl : k = p.acs.length := by omega
              clear hbig hk hlt
              have qxa := cv.xq.cell 1 (by decide)
              have qe := cv.xq.cell 2 (by decide)
              go_wp2
              go_loopg [11] p.bs.length (fun g i11 wr => ∃ k : Nat, g = p.bs.length - k ∧ k ≤ p.bs.length ∧ i11 = .int .i64 k ∧ CV w p w.heap.size bq bs #[.slice A1 p.hs.length c1, .slice A2 p.acs.length c2, .slice A3 p.bs.length c3, .int .i64 p.fuel] #[.slice Q1 p.hs.length d1, .slice Q2 p.acs.length d2, .slice Q3 p.bs.length d3, .int .i64 p.fuel] (.slice S1 p.hs.length s1) (.slice S2 p.acs.length s2) (.slice S3 p.bs.length s3) B1 p1 q1 p2 q2 p3 q3 C E1 Q1 Q2 Q3 d1 d2 d3 p.hs.length p.acs.length k wr)
              case atStart => exact ⟨0, rfl, by omega, rfl, cv⟩
              case round =>
                clear cv
                obtain ⟨k, rfl, hk, rfl, cv⟩ := hrel
                have hbig : p.bs.length ≤ 18 := HSm.out.2.2.1
                by_cases hlt : k < p.bs.length
                · obtain ⟨x, hx⟩ := at_lt hlt
                  obtain ⟨b, o, V, m, c, rfl, hB, hC, hE, hz, r1, r2⟩ := cv.atN ck hx
                  rw [if_neg (Nat.lt_irrefl k)] at r1
                  have fz : ∀ o, wr.frozen? ⟨b, o, none⟩ = false := fun o => cv.frozen hB hE
                  have qe := cv.xq.cell 2 (by decide)
                  have cvn : Hid (CV w p w.heap.size bq bs #[.slice A1 p.hs.length c1, .slice A2 p.acs.length c2, .slice A3 p.bs.length c3, .int .i64 p.fuel] #[.slice Q1 p.hs.length d1, .slice Q2 p.acs.length d2, .slice (some ⟨b, o, none⟩) p.bs.length d3, .int .i64 p.fuel] (.slice S1 p.hs.length s1) (.slice S2 p.acs.length s2) (.slice S3 p.bs.length s3) B1 p1 q1 p2 q2 p3 q3 C E1 Q1 Q2 (some ⟨b, o, none⟩) d1 d2 d3 p.hs.length p.acs.length (k + 1) (wr.setCell ⟨b, o + k * 3, none⟩ (.int .i64 (wrap64 (x.to + 1))))) := cv.tos ck hx
                  have r3 : Hid ((wr.setCell ⟨b, o + k * 3, none⟩ (.int .i64 (wrap64 (x.to + 1)))).cell? ⟨b, o + k * 3 + 2, none⟩ = some (.slice V m c)) := (cell_other (by omega)).trans r2
                  have qn : Hid (bq ≠ b) := fun e => by have := ck.q; omega
                  have qn' : ¬ b = bq := fun e => qn.out e.symm
                  clear hx
                  have HCV : Hid (CV w p w.heap.size bq bs #[.slice A1 p.hs.length c1, .slice A2 p.acs.length c2, .slice A3 p.bs.length c3, .int .i64 p.fuel] #[.slice Q1 p.hs.length d1, .slice Q2 p.acs.length d2, .slice (some ⟨b, o, none⟩) p.bs.length d3, .int .i64 p.fuel] (.slice S1 p.hs.length s1) (.slice S2 p.acs.length s2) (.slice S3 p.bs.length s3) B1 p1 q1 p2 q2 p3 q3 C E1 Q1 Q2 (some ⟨b, o, none⟩) d1 d2 d3 p.hs.length p.acs.length k wr) := cv
                  clear cv
                  go_wp2
                  go_loopg [12] m (fun g i12 wr => ∃ k2 : Nat, g = m - k2 ∧ k2 ≤ m ∧ i12 = .int .i64 k2 ∧ wr.cell? ⟨b, o + k * 3 + 2, none⟩ = some (.slice V m c) ∧ CV w p w.heap.size bq bs #[.slice A1 p.hs.length c1, .slice A2 p.acs.length c2, .slice A3 p.bs.length c3, .int .i64 p.fuel] #[.slice Q1 p.hs.length d1, .slice Q2 p.acs.length d2, .slice (some ⟨b, o, none⟩) p.bs.length d3, .int .i64 p.fuel] (.slice S1 p.hs.length s1) (.slice S2 p.acs.length s2) (.slice S3 p.bs.length s3) B1 p1 q1 p2 q2 p3 q3 C E1 Q1 Q2 (some ⟨b, o, none⟩) d1 d2 d3 p.hs.length p.acs.length (k + 1) wr)
                  case atStart => exact ⟨0, rfl, by omega, rfl, r3.out, cvn.out⟩
                  case round =>
                    clear HCV cvn r3 r1 r2 fz qe
                    obtain ⟨k2, rfl, hk2, rfl, hc, cv⟩ := hrel
                    have qe := cv.xq.cell 2 (by decide)
                    by_cases hlt2 : k2 < m
                    · obtain ⟨hmb, b2, o2, y, rfl, hin, hz2, t2⟩ := cv.inN hlt hc hlt2
                      have fz2 : ∀ o, wr.frozen? ⟨b2, o, none⟩ = false := fun o => cv.frozen (by unfold In at hin; have := ck.a0; have := ck.a1; have := ck.a2; have := ck.a3; have := ck.a4; have := ck.a5; have := ck.a6; omega) hin.2
                      have HCV : Hid (CV w p w.heap.size bq bs #[.slice A1 p.hs.length c1, .slice A2 p.acs.length c2, .slice A3 p.bs.length c3, .int .i64 p.fuel] #[.slice Q1 p.hs.length d1, .slice Q2 p.acs.length d2, .slice (some ⟨b, o, none⟩) p.bs.length d3, .int .i64 p.fuel] (.slice S1 p.hs.length s1) (.slice S2 p.acs.length s2) (.slice S3 p.bs.length s3) B1 p1 q1 p2 q2 p3 q3 C E1 Q1 Q2 (some ⟨b, o, none⟩) d1 d2 d3 p.hs.length p.acs.length (k + 1) wr) := cv
                      have HI : Hid (In C E1 b2) := hin
                      have nb : Hid (b ≠ b2) := fun e => by unfold In at hin; omega
                      clear cv hin
                      go_wp2
                      go_roundg (m - (k2 + 1))
                      case measure => omega
                      case rel => exact ⟨k2 + 1, rfl, by omega, by go_num, (far nb.out).trans hc, HCV.out.poke ck HI.out t2⟩
                    · have HCV : Hid (CV w p w.heap.size bq bs #[.slice A1 p.hs.length c1, .slice A2 p.acs.length c2, .slice A3 p.bs.length c3, .int .i64 p.fuel] #[.slice Q1 p.hs.length d1, .slice Q2 p.acs.length d2, .slice (some ⟨b, o, none⟩) p.bs.length d3, .int .i64 p.fuel] (.slice S1 p.hs.length s1) (.slice S2 p.acs.length s2) (.slice S3 p.bs.length s3) B1 p1 q1 p2 q2 p3 q3 C E1 Q1 Q2 (some ⟨b, o, none⟩) d1 d2 d3 p.hs.length p.acs.length (k + 1) wr) := cv
                      clear cv
                      go_wp2
                      go_roundg (p.bs.length - (k + 1))
                      case measure => omega
                      case rel => exact ⟨k + 1, rfl, by omega, by go_num, HCV.out⟩
                · obtain rfl : k = p.bs.length := by omega
                  clear hbig hk hlt
                  have qxa := cv.xq.cell 2 (by decide)
                  obtain ⟨Q, hQ, eQ⟩ := cv.raised
                  have p0e := cv.xp.cell 0 (by decide)
                  have p1e := cv.xp.cell 1 (by decide)
                  have p2e := cv.xp.cell 2 (by decide)
                  have p3e := cv.xp.cell 3 (by decide)
                  have q0e := cv.xq.cell 0 (by decide)
                  have q1e := cv.xq.cell 1 (by decide)
                  have q2e := cv.xq.cell 2 (by decide)
                  have q3e := cv.xq.cell 3 (by decide)
                  have w0e := cv.xw.cell 0 (by decide)
                  have w1e := cv.xw.cell 1 (by decide)
                  have w2e := cv.xw.cell 2 (by decide)
                  have w3e := cv.xw.cell 3 (by decide)
                  by_cases h1 : p.hs = []
                  · by_cases h2 : p.acs = []
                    · by_cases h3 : p.bs = []
                      · have eQ' : eqB p Q = true := by rw [eQ]; rw [decide_eq_true h1, decide_eq_true h2, decide_eq_true h3]; rfl
                        have zhs : ((p.hs.length : Int) == 0) = true := by rw [h1]; rfl
                        have zacs : ((p.acs.length : Int) == 0) = true := by rw [h2]; rfl
                        have zbs : ((p.bs.length : Int) == 0) = true := by rw [h3]; rfl
                        clear h1 h2 h3
                        clear eQ
                        go_wp2_with fail
                        refine (rsame_any _ _ _ p p (HP.out.below cv.low) cv.was).mono ?_
                        rintro e w4 ⟨rfl, hb4⟩
                        have cv4 := cv.below hb4
                        have p0d := cv4.xp.cell 0 (by decide)
                        have p1d := cv4.xp.cell 1 (by decide)
                        have p2d := cv4.xp.cell 2 (by decide)
                        have p3d := cv4.xp.cell 3 (by decide)
                        have q0d := cv4.xq.cell 0 (by decide)
                        have q1d := cv4.xq.cell 1 (by decide)
                        have q2d := cv4.xq.cell 2 (by decide)
                        have q3d := cv4.xq.cell 3 (by decide)
                        go_wp2_with fail
                        refine (same_any _ _ _ p Q (HP.out.below cv4.low) (hQ.below hb4)).mono ?_
                        rintro e w5 ⟨rfl, hb5⟩
                        go_wp2_with fail
                        refine (awake_any _ (HT.out.below (bTrans cv4.low hb5))).mono ?_
                        rintro e w6 ⟨rfl, hb6⟩
                        go_wp2_with fail
                        go_ret
                        exact ⟨rfl, bTrans (bTrans cv4.low hb5) hb6⟩
                      · have eQ' : eqB p Q = false := by rw [eQ]; rw [decide_eq_false h3, Bool.and_false]
                        have zhs : ((p.hs.length : Int) == 0) = true := by rw [h1]; rfl
                        have zacs : ((p.acs.length : Int) == 0) = true := by rw [h2]; rfl
                        have zbs : ((p.bs.length : Int) == 0) = false := by simp; exact h3
                        clear h1 h2 h3
                        clear eQ
                        go_wp2_with fail
                        refine (rsame_any _ _ _ p p (HP.out.below cv.low) cv.was).mono ?_
                        rintro e w4 ⟨rfl, hb4⟩
                        have cv4 := cv.below hb4
                        have p0d := cv4.xp.cell 0 (by decide)
                        have p1d := cv4.xp.cell 1 (by decide)
                        have p2d := cv4.xp.cell 2 (by decide)
                        have p3d := cv4.xp.cell 3 (by decide)
                        have q0d := cv4.xq.cell 0 (by decide)
                        have q1d := cv4.xq.cell 1 (by decide)
                        have q2d := cv4.xq.cell 2 (by decide)
                        have q3d := cv4.xq.cell 3 (by decide)
                        go_wp2_with fail
                        refine (same_any _ _ _ p Q (HP.out.below cv4.low) (hQ.below hb4)).mono ?_
                        rintro e w5 ⟨rfl, hb5⟩
                        go_wp2_with fail
                        refine (awake_any _ (HT.out.below (bTrans cv4.low hb5))).mono ?_
                        rintro e w6 ⟨rfl, hb6⟩
                        go_wp2_with fail
                        go_ret
                        exact ⟨rfl, bTrans (bTrans cv4.low hb5) hb6⟩
                    · have eQ' : eqB p Q = false := by rw [eQ]; rw [decide_eq_false h2, Bool.and_false, Bool.false_and]
                      have zhs : ((p.hs.length : Int) == 0) = true := by rw [h1]; rfl
                      have zacs : ((p.acs.length : Int) == 0) = false := by simp; exact h2
                      clear h1 h2
                      clear eQ
                      go_wp2_with fail
                      refine (rsame_any _ _ _ p p (HP.out.below cv.low) cv.was).mono ?_
                      rintro e w4 ⟨rfl, hb4⟩
                      have cv4 := cv.below hb4
                      have p0d := cv4.xp.cell 0 (by decide)
                      have p1d := cv4.xp.cell 1 (by decide)
                      have p2d := cv4.xp.cell 2 (by decide)
                      have p3d := cv4.xp.cell 3 (by decide)
                      have q0d := cv4.xq.cell 0 (by decide)
                      have q1d := cv4.xq.cell 1 (by decide)
                      have q2d := cv4.xq.cell 2 (by decide)
                      have q3d := cv4.xq.cell 3 (by decide)
                      go_wp2_with fail
                      refine (same_any _ _ _ p Q (HP.out.below cv4.low) (hQ.below hb4)).mono ?_
                      rintro e w5 ⟨rfl, hb5⟩
                      go_wp2_with fail
                      refine (awake_any _ (HT.out.below (bTrans cv4.low hb5))).mono ?_
                      rintro e w6 ⟨rfl, hb6⟩
                      go_wp2_with fail
                      go_ret
                      exact ⟨rfl, bTrans (bTrans cv4.low hb5) hb6⟩
                  · have eQ' : eqB p Q = false := by rw [eQ]; rw [decide_eq_false h1, Bool.false_and, Bool.false_and]
                    have zhs : ((p.hs.length : Int) == 0) = false := by simp; exact h1
                    clear h1
                    clear eQ
                    go_wp2_with fail
                    refine (rsame_any _ _ _ p p (HP.out.below cv.low) cv.was).mono ?_
                    rintro e w4 ⟨rfl, hb4⟩
                    have cv4 := cv.below hb4
                    have p0d := cv4.xp.cell 0 (by decide)
                    have p1d := cv4.xp.cell 1 (by decide)
                    have p2d := cv4.xp.cell 2 (by decide)
                    have p3d := cv4.xp.cell 3 (by decide)
                    have q0d := cv4.xq.cell 0 (by decide)
                    have q1d := cv4.xq.cell 1 (by decide)
                    have q2d := cv4.xq.cell 2 (by decide)
                    have q3d := cv4.xq.cell 3 (by decide)
                    go_wp2_with fail
                    refine (same_any _ _ _ p Q (HP.out.below cv4.low) (hQ.below hb4)).mono ?_
                    rintro e w5 ⟨rfl, hb5⟩
                    go_wp2_with fail
                    refine (awake_any _ (HT.out.below (bTrans cv4.low hb5))).mono ?_
                    rintro e w6 ⟨rfl, hb6⟩
                    go_wp2_with fail
                    go_ret
                    exact ⟨rfl, bTrans (bTrans cv4.low hb5) hb6⟩
end Go.Proofs.YtlpeiiejkpkpjaaDoor
