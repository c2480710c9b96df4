/-
  What world.Check answers. Condition: the table of the instructions is in the world.
-/
import Derived.Test.YtgdloonpemaijaaDoorW2
namespace Go.Proofs.YtgdloonpemaijaaDoor
open Go.RowKit
noncomputable def chkW (p : PPrg) (x : PWld) : Bool := decide (fc p = 0) && (chkAs p x.acts && (chkM p x && chkUsed x.used))
theorem chkAs_len {p : PPrg} {l : List PLoc} (h : l.length ≠ p.acs.length) : false = chkAs p l := by unfold chkAs; exact (decide_eq_false (fun e => h e.1)).symm
theorem chkAs_no {p : PPrg} {l : List PLoc} {k : Nat} {a : PAct} {x : PLoc} (ha : p.acs[k]? = some a) (hx : l[k]? = some x) (h : chkLoc a x = false) : false = chkAs p l := by
  unfold chkAs
  refine (decide_eq_false (fun e => ?_)).symm
  have hk := (List.getElem?_eq_some_iff.1 hx).1
  have := e.2 k hk
  rw [List.getD_eq_getElem?_getD, List.getD_eq_getElem?_getD, ha, hx, Option.getD_some, Option.getD_some, h] at this
  cases this
theorem chkAs_yes {p : PPrg} {l : List PLoc} {k : Nat} (hk : ¬ k < l.length) (hl : l.length = p.acs.length) (h : ∀ i, i < k → chkLoc (p.acs.getD i default) (l.getD i default) = true) : true = chkAs p l := by
  unfold chkAs
  exact (decide_eq_true ⟨hl, fun i hi => h i (by omega)⟩).symm
theorem chkAs_next {p : PPrg} {l : List PLoc} {k : Nat} {a : PAct} {x : PLoc} (ha : p.acs[k]? = some a) (hx : l[k]? = some x) (h : chkLoc a x = true) (hb : ∀ i, i < k → chkLoc (p.acs.getD i default) (l.getD i default) = true) : ∀ i, i < k + 1 → chkLoc (p.acs.getD i default) (l.getD i default) = true := by
  intro i hi
  by_cases e : i = k
  · subst e; rw [List.getD_eq_getElem?_getD, List.getD_eq_getElem?_getD, ha, hx, Option.getD_some, Option.getD_some, h]
  · exact hb i (by omega)
theorem one_new (w : World) (X : Obj) : ∃ w1, w1 = w.alloc X := ⟨_, rfl⟩

set_option maxHeartbeats 4000000 in
set_option maxRecDepth 100000 in
theorem chkActs_any (w : World) (vp va : Value) (p : PPrg) (l : List PLoc) (hp : PrgV w vp p) (hl : Locs anyB anyB w va l) :
    Calls Tryd.prog 56 #[vp, va] w fun e w' => e = .returned (.bool (chkAs p l)) ∧ Below w.heap.size w w' := by
  obtain ⟨vh, vb, vc, rfl, h1, h2, h3⟩ := hp
  obtain ⟨A1, c1, rfl, hl1⟩ := h1.form
  obtain ⟨A2, c2, rfl, hl2⟩ := h2.form
  obtain ⟨A3, c3, rfl, hl3⟩ := h3.form
  obtain ⟨A, c, rfl, hll⟩ := hl.form
  clear h1 h3
  by_cases e0 : l.length = p.acs.length
  · have e1 := lt_eq e0
    have E0 : Hid (l.length = p.acs.length) := e0
    obtain ⟨w1, hw1⟩ := one_new w (.cells #[.slice A1 p.hs.length c1, .slice A2 p.acs.length c2, .slice A3 p.bs.length c3, .int .i64 p.fuel] 26)
    have hA1 : w1.heap[w.heap.size]? = some (.cells #[.slice A1 p.hs.length c1, .slice A2 p.acs.length c2, .slice A3 p.bs.length c3, .int .i64 p.fuel] 26) := by rw [hw1]; exact heap_new _ _
    have HL1 : Hid (Below w.heap.size w w1) := by rw [hw1]; exact bAlloc (bRefl _) _
    have HA1 := hid_mk hA1
    have HW1 := hid_mk hw1
    clear e0 hA1 hw1
    go_enter Tryd.func56, Tryd.ntmps56
    go_wp2
    go_loopg [5, 6, 15] l.length (fun g i5 i6 i15 wr => ∃ k : Nat, g = l.length - k ∧ k ≤ l.length ∧ i15 = .int .i64 k ∧ Hid (∀ i, i < k → chkLoc (p.acs.getD i default) (l.getD i default) = true) ∧ Below w1.heap.size w1 wr)
    case atStart => exact ⟨0, rfl, by omega, rfl, (fun i hi => by omega), by rw [HW1.out]; exact bRefl _⟩
    case round =>
      obtain ⟨k, rfl, hk, rfl, ht, hb⟩ := hrel
      have hbw : Below w.heap.size w wr := bTrans HL1.out hb
      have hP := boxAt HA1.out hb
      by_cases hlt : k < l.length
      · obtain ⟨b1, o1, x, v1, rfl, hx, hz1, q1, q2, q3, q4, q5, hv1⟩ := hl.cell hbw hlt
        obtain ⟨b2, o2, a, v2, rfl, ha, hz2, s1, s2, s3, s4, hv2⟩ := h2.cell hbw (k := k) (by have := E0.out; omega)
        obtain ⟨V1, n1, rfl, _⟩ := hv1.form
        obtain ⟨V2, n2, rfl, _⟩ := hv2.form
        have hlt2 : (k : Int) < p.acs.length := by have := E0.out; omega
        have HX : Hid (l[k]? = some x) := hx
        have HA : Hid (p.acs[k]? = some a) := ha
        have HB : Hid (Below w.heap.size w wr) := hbw
        have HB1 : Hid (Below w1.heap.size w1 wr) := hb
        clear hx ha hb hbw
        cases e2 : chkLoc a x with
        | true =>
          go_wp2_with fail
          have hB5 : (wr.alloc (.cells #[.slice V1 x.regs.length n1, .bool x.armed, .int .i64 x.down, .int .i64 x.sent, .int .i64 x.over] 29)).heap[wr.heap.size]? = some (.cells #[.slice V1 x.regs.length n1, .bool x.armed, .int .i64 x.down, .int .i64 x.sent, .int .i64 x.over] 29) := heap_new _ _
          have HLr : Hid (Below wr.heap.size wr (wr.alloc (.cells #[.slice V1 x.regs.length n1, .bool x.armed, .int .i64 x.down, .int .i64 x.sent, .int .i64 x.over] 29))) := bAlloc (bRefl _) _
          generalize (wr.alloc (.cells #[.slice V1 x.regs.length n1, .bool x.armed, .int .i64 x.down, .int .i64 x.sent, .int .i64 x.over] 29)) = wa at hB5 HLr ⊢
          obtain ⟨r0, r1, r2, r3, r4⟩ := blk5 hB5
          obtain ⟨p0, p1, p2, p3⟩ := blk4 (boxAt hP HLr.out)
          have t1 := (HLr.out.cell (p := ⟨b2, o2 + k * 4, none⟩) hz2).trans s1
          have t2 := (HLr.out.cell (p := ⟨b2, o2 + k * 4 + 1, none⟩) hz2).trans s2
          have t3 := (HLr.out.cell (p := ⟨b2, o2 + k * 4 + 2, none⟩) hz2).trans s3
          have t4 := (HLr.out.cell (p := ⟨b2, o2 + k * 4 + 3, none⟩) hz2).trans s4
          have z1 : wr.heap.size < wa.heap.size := (Array.getElem?_eq_some_iff.1 hB5).1
          have z2 : b2 < wa.heap.size := by omega
          have z3 : w.heap.size < wa.heap.size := Nat.lt_trans (Array.getElem?_eq_some_iff.1 hP).1 z1
          clear s1 s2 s3 s4 q1 q2 q3 q4 q5 hB5 hP
          go_region_held3 (fun w' => w'.cell? ⟨w.heap.size, 1, none⟩ = some (.slice (some ⟨b2, o2, none⟩) p.acs.length c2) ∧ w'.cell? ⟨b2, o2 + k * 4, none⟩ = some (.slice V2 a.regs.length n2) ∧ w'.cell? ⟨b2, o2 + k * 4 + 1, none⟩ = some (.int .i64 a.cap) ∧ w'.cell? ⟨b2, o2 + k * 4 + 2, none⟩ = some (.int .i64 a.timer) ∧ w'.cell? ⟨b2, o2 + k * 4 + 3, none⟩ = some (.bool a.armed) ∧
            w'.cell? ⟨wr.heap.size, 0, none⟩ = some (.slice V1 x.regs.length n1) ∧ w'.cell? ⟨wr.heap.size, 1, none⟩ = some (.bool x.armed) ∧ w'.cell? ⟨wr.heap.size, 2, none⟩ = some (.int .i64 x.down) ∧ w'.cell? ⟨wr.heap.size, 3, none⟩ = some (.int .i64 x.sent) ∧ w'.cell? ⟨wr.heap.size, 4, none⟩ = some (.int .i64 x.over)) (go_keep)
            (first | (go_at_call 97; refine (chkLocal_any _ _ _ a x ⟨_, rfl, hv2.below (by first | exact HLr.out | exact HLr.out.drew)⟩ ⟨_, rfl, hv1.below (by first | exact HLr.out | exact HLr.out.drew)⟩).mono ?_; rintro e w2 ⟨rfl, hb2⟩; have hc2 := (by first | exact bcell (undrew hb2) | exact bcell hb2); have HB2 := hid_mk (bTrans (by first | exact HLr.out | exact HLr.out.drew) hb2)))
          all_goals
            go_wp2
            go_roundg (l.length - (k + 1))
            case measure => omega
            case rel => exact ⟨k + 1, rfl, by omega, by go_num, chkAs_next HA.out HX.out e2 ht.out, bTrans HB1.out HB2.out⟩
        | false =>
          go_wp2_with fail
          have hB5 : (wr.alloc (.cells #[.slice V1 x.regs.length n1, .bool x.armed, .int .i64 x.down, .int .i64 x.sent, .int .i64 x.over] 29)).heap[wr.heap.size]? = some (.cells #[.slice V1 x.regs.length n1, .bool x.armed, .int .i64 x.down, .int .i64 x.sent, .int .i64 x.over] 29) := heap_new _ _
          have HLr : Hid (Below wr.heap.size wr (wr.alloc (.cells #[.slice V1 x.regs.length n1, .bool x.armed, .int .i64 x.down, .int .i64 x.sent, .int .i64 x.over] 29))) := bAlloc (bRefl _) _
          generalize (wr.alloc (.cells #[.slice V1 x.regs.length n1, .bool x.armed, .int .i64 x.down, .int .i64 x.sent, .int .i64 x.over] 29)) = wa at hB5 HLr ⊢
          obtain ⟨r0, r1, r2, r3, r4⟩ := blk5 hB5
          obtain ⟨p0, p1, p2, p3⟩ := blk4 (boxAt hP HLr.out)
          have t1 := (HLr.out.cell (p := ⟨b2, o2 + k * 4, none⟩) hz2).trans s1
          have t2 := (HLr.out.cell (p := ⟨b2, o2 + k * 4 + 1, none⟩) hz2).trans s2
          have t3 := (HLr.out.cell (p := ⟨b2, o2 + k * 4 + 2, none⟩) hz2).trans s3
          have t4 := (HLr.out.cell (p := ⟨b2, o2 + k * 4 + 3, none⟩) hz2).trans s4
          have z1 : wr.heap.size < wa.heap.size := (Array.getElem?_eq_some_iff.1 hB5).1
          have z2 : b2 < wa.heap.size := by omega
          have z3 : w.heap.size < wa.heap.size := Nat.lt_trans (Array.getElem?_eq_some_iff.1 hP).1 z1
          clear s1 s2 s3 s4 q1 q2 q3 q4 q5 hB5 hP
          go_region_held3 (fun w' => w'.cell? ⟨w.heap.size, 1, none⟩ = some (.slice (some ⟨b2, o2, none⟩) p.acs.length c2) ∧ w'.cell? ⟨b2, o2 + k * 4, none⟩ = some (.slice V2 a.regs.length n2) ∧ w'.cell? ⟨b2, o2 + k * 4 + 1, none⟩ = some (.int .i64 a.cap) ∧ w'.cell? ⟨b2, o2 + k * 4 + 2, none⟩ = some (.int .i64 a.timer) ∧ w'.cell? ⟨b2, o2 + k * 4 + 3, none⟩ = some (.bool a.armed) ∧
            w'.cell? ⟨wr.heap.size, 0, none⟩ = some (.slice V1 x.regs.length n1) ∧ w'.cell? ⟨wr.heap.size, 1, none⟩ = some (.bool x.armed) ∧ w'.cell? ⟨wr.heap.size, 2, none⟩ = some (.int .i64 x.down) ∧ w'.cell? ⟨wr.heap.size, 3, none⟩ = some (.int .i64 x.sent) ∧ w'.cell? ⟨wr.heap.size, 4, none⟩ = some (.int .i64 x.over)) (go_keep)
            (first | (go_at_call 97; refine (chkLocal_any _ _ _ a x ⟨_, rfl, hv2.below (by first | exact HLr.out | exact HLr.out.drew)⟩ ⟨_, rfl, hv1.below (by first | exact HLr.out | exact HLr.out.drew)⟩).mono ?_; rintro e w2 ⟨rfl, hb2⟩; have hc2 := (by first | exact bcell (undrew hb2) | exact bcell hb2); have HB2 := hid_mk (bTrans (by first | exact HLr.out | exact HLr.out.drew) hb2)))
          all_goals
            go_wp2
            go_ret
            exact ⟨ret_b (chkAs_no HA.out HX.out e2), bTrans HB.out HB2.out⟩
      · go_wp2
        go_ret
        exact ⟨ret_b (chkAs_yes hlt E0.out ht.out), hbw⟩
  · have e1 := lt_ne e0
    go_enter Tryd.func56, Tryd.ntmps56
    go_wp2
    go_ret
    exact ⟨ret_b (chkAs_len e0), bAlloc (bRefl _) _⟩
theorem chkM_no {p : PPrg} {x : PWld} {k : Nat} {m : PMsg} (hm : x.mail[k]? = some m) (h : (chkNt p m.nt && chkD x m.id) = false) : false = chkM p x := by
  unfold chkM
  rw [show x.mail.all (fun m => chkNt p m.nt && chkD x m.id) = false from List.all_eq_false.2 ⟨m, List.mem_of_getElem? hm, by rw [h]; simp⟩]; rfl
theorem chkM_yes {p : PPrg} {x : PWld} {k : Nat} (hk : ¬ k < x.mail.length) (h : ∀ (i : Nat) (m : PMsg), i < k → x.mail[i]? = some m → (chkNt p m.nt && chkD x m.id) = true) : srt x.mail = chkM p x := by
  unfold chkM
  rw [show x.mail.all (fun m => chkNt p m.nt && chkD x m.id) = true from List.all_eq_true.2 fun m hm => by
    obtain ⟨i, hi⟩ := List.getElem?_of_mem hm
    exact h i m (by have := (List.getElem?_eq_some_iff.1 hi).1; omega) hi]; simp
theorem chkM_next {p : PPrg} {x : PWld} {k : Nat} {m : PMsg} (hm : x.mail[k]? = some m) (h1 : chkNt p m.nt = true) (h2 : chkD x m.id = true) (hb : ∀ (i : Nat) (m : PMsg), i < k → x.mail[i]? = some m → (chkNt p m.nt && chkD x m.id) = true) : ∀ (i : Nat) (m : PMsg), i < k + 1 → x.mail[i]? = some m → (chkNt p m.nt && chkD x m.id) = true := by
  intro i y hi hy
  by_cases e : i = k
  · subst e; rw [hm] at hy; cases hy; rw [h1, h2]; rfl
  · exact hb i y (by omega) hy
set_option maxHeartbeats 4000000 in
set_option maxRecDepth 100000 in
theorem chkMail_any (w : World) (vp vw : Value) (p : PPrg) (x : PWld) (hp : PrgV w vp p) (hx : WldV w vw x) :
    Calls Tryd.prog 57 #[vp, vw] w fun e w' => e = .returned (.bool (chkM p x)) ∧ Below w.heap.size w w' := by
  have HP := hid_mk hp
  have HX := hid_mk hx
  obtain ⟨vh, vb, vc, rfl, h1, h2, h3⟩ := hp
  obtain ⟨A1, c1, rfl, hl1⟩ := h1.form
  obtain ⟨A2, c2, rfl, hl2⟩ := h2.form
  obtain ⟨A3, c3, rfl, hl3⟩ := h3.form
  obtain ⟨va, vm, rfl, g1, g2⟩ := hx
  obtain ⟨B1, d1, rfl, hm1⟩ := g1.form
  obtain ⟨B2, d2, rfl, hm2⟩ := g2.form
  clear h1 h2 h3 g1
  obtain ⟨w1, hw1⟩ := one_new (w.alloc (.cells #[.slice A1 p.hs.length c1, .slice A2 p.acs.length c2, .slice A3 p.bs.length c3, .int .i64 p.fuel] 26)) (.cells #[.slice B1 x.acts.length d1, .slice B2 x.mail.length d2, .int .i64 x.used.drop, .int .i64 x.used.dup, .int .i64 x.used.time, .int .i64 x.used.crash] 44)
  have hA1 := (two_new w (.cells #[.slice A1 p.hs.length c1, .slice A2 p.acs.length c2, .slice A3 p.bs.length c3, .int .i64 p.fuel] 26) (.cells #[.slice B1 x.acts.length d1, .slice B2 x.mail.length d2, .int .i64 x.used.drop, .int .i64 x.used.dup, .int .i64 x.used.time, .int .i64 x.used.crash] 44))
  have HL1 : Hid (Below w.heap.size w w1) := by rw [hw1]; exact bAlloc (bAlloc (bRefl _) _) _
  rw [← hw1] at hA1
  have HA1 := hid_mk hA1.1
  have HA2 := hid_mk hA1.2.1
  have HW1 := hid_mk hw1
  clear hA1 hw1
  go_enter Tryd.func57, Tryd.ntmps57
  go_wp2
  go_loopg [6, 10] x.mail.length (fun g i6 i10 wr => ∃ k : Nat, g = x.mail.length - k ∧ k ≤ x.mail.length ∧ i10 = .int .i64 k ∧ Hid (∀ (i : Nat) (m : PMsg), i < k → x.mail[i]? = some m → (chkNt p m.nt && chkD x m.id) = true) ∧ Below w1.heap.size w1 wr)
  case atStart => exact ⟨0, rfl, by omega, rfl, (fun i m hi => by omega), by rw [HW1.out]; exact bRefl _⟩
  case round =>
    obtain ⟨k, rfl, hk, rfl, ht, hb⟩ := hrel
    have hbw : Below w.heap.size w wr := bTrans HL1.out hb
    have HB := hid_mk hbw
    have HB1 := hid_mk hb
    obtain ⟨p0, p1, p2, p3⟩ := blk4 (boxAt HA1.out hb)
    obtain ⟨u0, u1, u2, u3, u4, u5⟩ := blk6 (boxAt HA2.out hb)
    have z0 : w.heap.size + 1 < wr.heap.size := (Array.getElem?_eq_some_iff.1 (boxAt HA2.out hb)).1
    have z1 : w.heap.size < wr.heap.size := by omega
    have z2 : w.heap.size + 1 < wr.heap.size + 1 := by omega
    have z3 : w.heap.size < wr.heap.size + 1 := by omega
    by_cases hlt : k < x.mail.length
    · obtain ⟨b1, o1, m, v1, rfl, hx, hz1, q1, q2, q3, q4, q5, q6, hv1⟩ := g2.cell hbw hlt
      obtain ⟨V1, n1, rfl, _⟩ := hv1.form
      have HM := hid_mk hx
      clear hx hb hbw
      cases e1 : chkNt p m.nt with
      | false =>
        go_wp2_with (first
          | (go_at_call 98; refine (chkNote_any _ _ _ p m.nt (HP.out.below (by exact bAlloc HB.out _)) ⟨_, rfl, hv1.below (by exact bAlloc (bRefl _) _)⟩).mono ?_; rintro e w2 ⟨rfl, hb2⟩; have hc2 := bcell hb2; have hz2 := hb2.size))
        go_ret
        exact ⟨ret_b (chkM_no HM.out (by rw [e1]; rfl)), bTrans (bAlloc HB.out _) hb2⟩
      | true =>
        cases e2 : chkD x m.id with
        | false =>
          go_wp2_with (first
            | (go_at_call 98; refine (chkNote_any _ _ _ p m.nt (HP.out.below (by exact bAlloc HB.out _)) ⟨_, rfl, hv1.below (by exact bAlloc (bRefl _) _)⟩).mono ?_; rintro e w2 ⟨rfl, hb2⟩; have hc2 := bcell hb2; have HB2 := hid_mk (bTrans (bAlloc HB.out _) hb2); have HB3 := hid_mk (bTrans (bAlloc HB1.out _) hb2); clear hb2)
            | (go_at_call 99; refine (chkID_any _ _ x m.id (HX.out.below HB2.out)).mono ?_; rintro e w3 ⟨rfl, hb3⟩))
          go_ret
          exact ⟨ret_b (chkM_no HM.out (by rw [e1, e2]; rfl)), bTrans HB2.out hb3⟩
        | true =>
          go_wp2_with (first
            | (go_at_call 98; refine (chkNote_any _ _ _ p m.nt (HP.out.below (by exact bAlloc HB.out _)) ⟨_, rfl, hv1.below (by exact bAlloc (bRefl _) _)⟩).mono ?_; rintro e w2 ⟨rfl, hb2⟩; have hc2 := bcell hb2; have HB2 := hid_mk (bTrans (bAlloc HB.out _) hb2); have HB3 := hid_mk (bTrans (bAlloc HB1.out _) hb2); clear hb2)
            | (go_at_call 99; refine (chkID_any _ _ x m.id (HX.out.below HB2.out)).mono ?_; rintro e w3 ⟨rfl, hb3⟩))
          go_roundg (x.mail.length - (k + 1))
          case measure => omega
          case rel => exact ⟨k + 1, rfl, by omega, by go_num, chkM_next HM.out e1 e2 ht.out, bTrans HB3.out hb3⟩
    · go_wp2_with (first | (go_at_call 100; refine (sorted_any _ _ x.mail (g2.below HB.out)).mono ?_; rintro e w2 ⟨rfl, hb2⟩))
      go_ret
      exact ⟨ret_b (chkM_yes hlt ht.out), bTrans HB.out hb2⟩
theorem chkW_1 {p : PPrg} {x : PWld} (h : fc p ≠ 0) : false = chkW p x := by unfold chkW; rw [decide_eq_false h]; rfl
theorem chkW_2 {p : PPrg} {x : PWld} (h2 : chkAs p x.acts = false) : false = chkW p x := by unfold chkW; rw [h2]; simp
theorem chkW_3 {p : PPrg} {x : PWld} (h3 : chkM p x = false) : false = chkW p x := by unfold chkW; rw [h3]; simp
theorem chkW_4 {p : PPrg} {x : PWld} (h : fc p = 0) (h2 : chkAs p x.acts = true) (h3 : chkM p x = true) : chkUsed x.used = chkW p x := by unfold chkW; rw [h2, h3, decide_eq_true h]; simp
theorem beq0_yes {n : Int} (h : n = 0) : (n == 0) = true := by simp [h]
theorem beq0_no {n : Int} (h : n ≠ 0) : (n == 0) = false := by simp [h]
set_option maxHeartbeats 4000000 in
set_option maxRecDepth 100000 in
theorem check_W (w : World) (vp vw : Value) (p : PPrg) (x : PWld) (ht : Tab w) (hp : PrgV w vp p) (hx : WldV w vw x) :
    Calls Tryd.prog 22 #[vp, vw] w fun e w' => e = .returned (.bool (chkW p x)) ∧ Below w.heap.size w w' := by
  have HP := hid_mk hp
  have HX := hid_mk hx
  have HT := hid_mk ht
  obtain ⟨vh, vb, vc, rfl, h1, h2, h3⟩ := hp
  obtain ⟨A1, c1, rfl, hl1⟩ := h1.form
  obtain ⟨A2, c2, rfl, hl2⟩ := h2.form
  obtain ⟨A3, c3, rfl, hl3⟩ := h3.form
  obtain ⟨va, vm, rfl, g1, g2⟩ := hx
  obtain ⟨B1, d1, rfl, hm1⟩ := g1.form
  obtain ⟨B2, d2, rfl, hm2⟩ := g2.form
  have HG1 := hid_mk g1
  have HB : ∀ (x y : Obj), Below w.heap.size w ((w.alloc x).alloc y) := fun x y => bAlloc (bAlloc (bRefl w) x) y
  clear h1 h2 h3 g1 g2 ht
  by_cases e1 : fc p = 0
  · have e1' := beq0_yes e1
    have E1 := hid_mk e1
    clear e1
    cases e2 : chkAs p x.acts with
    | false =>
      go_enter Tryd.func22, Tryd.ntmps22
      go_wp2_with (first
        | (go_at_call 46; refine (fcheck_any _ _ p (HT.out.below (by exact HB _ _)) (HP.out.below (by exact HB _ _))).mono ?_; rintro e w2 ⟨rfl, hb2⟩; have hc2 := bcell hb2; have HB2 := hid_mk (bTrans (HB _ _) hb2); clear hb2)
        | (go_at_call 56; refine (chkActs_any _ _ _ p x.acts (HP.out.below HB2.out) (HG1.out.below HB2.out)).mono ?_; rintro e w3 ⟨rfl, hb3⟩))
      go_ret
      exact ⟨ret_b (chkW_2 e2), bTrans HB2.out hb3⟩
    | true =>
      cases e3 : chkM p x with
      | false =>
        go_enter Tryd.func22, Tryd.ntmps22
        go_wp2_with (first
          | (go_at_call 46; refine (fcheck_any _ _ p (HT.out.below (by exact HB _ _)) (HP.out.below (by exact HB _ _))).mono ?_; rintro e w2 ⟨rfl, hb2⟩; have hc2 := bcell hb2; have hz2 := hb2.size; have HB2 := hid_mk (bTrans (HB _ _) hb2); have hz3 : w.heap.size + 1 < w2.heap.size := (by simp at hz2; omega); have hz4 : w.heap.size < w2.heap.size := (by omega); clear hb2 hz2)
          | (go_at_call 56; refine (chkActs_any _ _ _ p x.acts (HP.out.below HB2.out) (HG1.out.below HB2.out)).mono ?_; rintro e w3 ⟨rfl, hb3⟩; have hc3 := bcell hb3; have HB3 := hid_mk (bTrans HB2.out hb3); clear hb3)
          | (go_at_call 57; refine (chkMail_any _ _ _ p x (HP.out.below HB3.out) (HX.out.below HB3.out)).mono ?_; rintro e w4 ⟨rfl, hb4⟩))
        go_ret
        exact ⟨ret_b (chkW_3 e3), bTrans HB3.out hb4⟩
      | true =>
        go_enter Tryd.func22, Tryd.ntmps22
        go_wp2_with (first
          | (go_at_call 46; refine (fcheck_any _ _ p (HT.out.below (by exact HB _ _)) (HP.out.below (by exact HB _ _))).mono ?_; rintro e w2 ⟨rfl, hb2⟩; have hc2 := bcell hb2; have hz2 := hb2.size; have HB2 := hid_mk (bTrans (HB _ _) hb2); have hz3 : w.heap.size + 1 < w2.heap.size := (by simp at hz2; omega); have hz4 : w.heap.size < w2.heap.size := (by omega); clear hb2 hz2)
          | (go_at_call 56; refine (chkActs_any _ _ _ p x.acts (HP.out.below HB2.out) (HG1.out.below HB2.out)).mono ?_; rintro e w3 ⟨rfl, hb3⟩; have hc3 := bcell hb3; have HB3 := hid_mk (bTrans HB2.out hb3); have hz5 : w.heap.size + 1 < w3.heap.size := Nat.lt_of_lt_of_le hz3 hb3.size; have hz6 : w.heap.size < w3.heap.size := (by omega); clear hb3)
          | (go_at_call 57; refine (chkMail_any _ _ _ p x (HP.out.below HB3.out) (HX.out.below HB3.out)).mono ?_; rintro e w4 ⟨rfl, hb4⟩; have hc4 := bcell hb4; have HB4 := hid_mk (bTrans HB3.out hb4); clear hb4)
          | (go_at_call 58; refine (chkUsed_any _ x.used).mono ?_; rintro e w5 ⟨rfl, hb5⟩))
        go_ret
        exact ⟨ret_b (chkW_4 E1.out e2 e3), bTrans HB4.out hb5⟩
  · have e1' := beq0_no e1
    have E1 := hid_mk e1
    clear e1
    go_enter Tryd.func22, Tryd.ntmps22
    go_wp2_with (first
      | (go_at_call 46; refine (fcheck_any _ _ p (HT.out.below (by exact HB _ _)) (HP.out.below (by exact HB _ _))).mono ?_; rintro e w2 ⟨rfl, hb2⟩))
    go_ret
    exact ⟨ret_b (chkW_1 E1.out), bTrans (HB _ _) hb2⟩
end Go.Proofs.YtgdloonpemaijaaDoor
