/-
  world.Send, walked. Conditions: the world is not too great, notes are few and short.
-/
import Derived.Test.YtjdnedmhffakjaaDoorW9
namespace Go.Proofs.YtjdnedmhffakjaaDoor
open Go.RowKit
theorem new_one (w : World) (X : Obj) : ∃ w1, w1 = w.alloc X := ⟨_, rfl⟩
theorem send_res {p : PPrg} {x : PWld} {f : Int} {ns : List PNte} (h : inB f (-1) ((x.acts.length : Int) - 1) = false) : sendP p x f ns = x := by unfold sendP; rw [h]; rfl
theorem send_yes {p : PPrg} {x : PWld} {f : Int} {ns : List PNte} (h : inB f (-1) ((x.acts.length : Int) - 1) = true) : sendP p x f ns = sendT p (firstP x f ns.length) f x.acts.length x ns ns.length := by unfold sendP; rw [if_pos h]
theorem step_no1 {p : PPrg} {n0 f : Int} {na i : Nat} {x : PWld} {n : PNte} (h : inB n.to 0 ((p.acs.length : Int) - 1) = false) : stepN p n0 f na x i n = x := by unfold stepN; rw [h, if_neg (fun e => by cases e.1)]
theorem step_no2 {p : PPrg} {n0 f : Int} {na i : Nat} {x : PWld} {n : PNte} (h : ¬ n.to < (na : Int)) : stepN p n0 f na x i n = x := by unfold stepN; rw [if_neg (fun e => h e.2)]
theorem step_yes {p : PPrg} {n0 f : Int} {na i : Nat} {x : PWld} {n : PNte} (h : inB n.to 0 ((p.acs.length : Int) - 1) = true) (h2 : n.to < (na : Int)) : stepN p n0 f na x i n = postP p x ⟨⟨f, wrap64 (n0 + i), 0⟩, n⟩ n.to.toNat := by unfold stepN; rw [if_pos ⟨h, h2⟩]
set_option maxHeartbeats 4000000 in
set_option maxRecDepth 100000 in
theorem send_any (W : World) (vp vw vn : Value) (p : PPrg) (x : PWld) (f : Int) (ns : List PNte) (hp : PrgV W vp p) (hx : WldV W vw x) (hs : SmW x) (hn : Ntes anyB anyB W vn ns) (hl : ns.length ≤ 100) (hna : ∀ n ∈ ns, n.args.length ≤ 1000) :
    Calls Tryd.prog 15 #[vp, vw, .int .i64 f, vn] W fun e w' => ∃ a m lo hi, e = .returned (wVal (sendP p x f ns).used a m) ∧ WN W.heap.size lo hi w' a m (sendP p x f ns) ∧ Below W.heap.size W w' := by
  have HP := hid_mk hp
  have HX := hid_mk hx
  have HS := hid_mk hs
  obtain ⟨vh, vb, vc, rfl, h1, h2, h3⟩ := hp
  obtain ⟨A1, c1, rfl, hl1⟩ := h1.form
  obtain ⟨A2, c2, rfl, hl2⟩ := h2.form
  obtain ⟨A3, c3, rfl, hl3⟩ := h3.form
  obtain ⟨va, vm, rfl, g1, g2⟩ := hx
  obtain ⟨B1, d1, rfl, hm1⟩ := g1.form
  obtain ⟨B2, d2, rfl, hm2⟩ := g2.form
  obtain ⟨C, cn, rfl, hln⟩ := hn.form
  obtain ⟨w1, hw1⟩ := new_one ((W.alloc (.cells #[.slice A1 p.hs.length c1, .slice A2 p.acs.length c2, .slice A3 p.bs.length c3, .int .i64 p.fuel] 26)).alloc (.cells #[.slice B1 x.acts.length d1, .slice B2 x.mail.length d2, .int .i64 x.used.drop, .int .i64 x.used.dup, .int .i64 x.used.time, .int .i64 x.used.crash] 34)) (.cells #[.slice none 0 0, .slice none 0 0, .int .i64 0, .int .i64 0, .int .i64 0, .int .i64 0] 34)
  have hA := three_new W (.cells #[.slice A1 p.hs.length c1, .slice A2 p.acs.length c2, .slice A3 p.bs.length c3, .int .i64 p.fuel] 26) (.cells #[.slice B1 x.acts.length d1, .slice B2 x.mail.length d2, .int .i64 x.used.drop, .int .i64 x.used.dup, .int .i64 x.used.time, .int .i64 x.used.crash] 34) (.cells #[.slice none 0 0, .slice none 0 0, .int .i64 0, .int .i64 0, .int .i64 0, .int .i64 0] 34)
  have HL1 : Hid (Below W.heap.size W w1) := by rw [hw1]; exact bAlloc (bAlloc (bAlloc (bRefl _) _) _) _
  rw [← hw1] at hA
  have HA0 := hid_mk hA.1
  have HA1 := hid_mk hA.2.1
  have HA2 := hid_mk hA.2.2.1
  have HZ1 := hid_mk hA.2.2.2
  have HW1 := hid_mk hw1
  have HL1' : Hid (Below W.heap.size W (((W.alloc (.cells #[.slice A1 p.hs.length c1, .slice A2 p.acs.length c2, .slice A3 p.bs.length c3, .int .i64 p.fuel] 26)).alloc (.cells #[.slice B1 x.acts.length d1, .slice B2 x.mail.length d2, .int .i64 x.used.drop, .int .i64 x.used.dup, .int .i64 x.used.time, .int .i64 x.used.crash] 34)).alloc (.cells #[.slice none 0 0, .slice none 0 0, .int .i64 0, .int .i64 0, .int .i64 0, .int .i64 0] 34))) := by rw [← hw1]; exact HL1.out
  clear hA hw1 h1 h2 h3 g1 g2 hs
  cases e0 : inB f (-1) ((x.acts.length : Int) - 1) with
  | false =>
    have HR := hid_mk (send_res (p := p) (ns := ns) e0)
    rw [HR.out]
    go_enter Tryd.func15, Tryd.ntmps15
    go_wp2_with (first
      | (go_at_call 11; refine (copyW_any _ _ x (HX.out.below (by exact HL1'.out)) HS.out).mono ?_; rw [← HW1.out]; rintro e w2 ⟨a, m, lo, hi, rfl, hwn, hb2⟩; obtain ⟨A', c', rfl⟩ := hwn.acts.form; obtain ⟨B', d', rfl, _⟩ := hwn.mail.form; have hz2 := hb2.size; have hz1 := HZ1.out; have HW2 := hid_mk hwn; have HB2 := hid_mk hb2; obtain ⟨k0, k1, k2, k3, k4, k5⟩ := blk6 (boxAt HA1.out hb2); obtain ⟨r0, r1, r2, r3, r4, r5⟩ := blk6 (boxAt HA2.out hb2); have fz : ∀ o, w2.frozen? ⟨W.heap.size + 2, o, none⟩ = false := fun o => heap_frozen (boxAt HA2.out hb2); have z4 : W.heap.size + 2 < w2.heap.size := (by omega); have z5 : W.heap.size + 1 < w2.heap.size := (by omega); have z6 : ¬ W.heap.size + 2 = w2.heap.size := (by omega); have z7 : ¬ W.heap.size + 1 = w2.heap.size := (by omega); clear hwn hb2 hz1 hz2)
      | (go_at_call 32; refine (win_any _ _ _ _).mono ?_; rintro e w' ⟨rfl, hw⟩; replace hw := hw.symm; subst hw))
    refine bodyPost_ret (v := wVal x.used (.slice A' x.acts.length c') (.slice B' x.mail.length d')) (by simp [results, Tryd.results15, go_sem, r0, r1, r2, r3, r4, r5, z4]) rfl ⟨_, _, lo, hi, rfl, ?_, ?_⟩
    · exact ((HW2.out.far (rb := W.heap.size + 1 + 1) put6_same (by have := HZ1.out; omega)).below (bAlloc (bRefl _) _)).mono (by have := HZ1.out; omega)
    · exact bAlloc (put6_below (bTrans HL1.out HB2.out) (by omega)) _
  | true =>
    have HR := hid_mk (send_yes (p := p) (ns := ns) e0)
    rw [HR.out]
    have HF : Hid (f = -1 ∨ (0 ≤ f ∧ f < x.acts.length)) := by show _ ∨ _; have := inB_iff.1 e0; omega
    obtain ⟨n0, hn0⟩ : ∃ n0, n0 = firstP x f ns.length := ⟨_, rfl⟩
    have HFN : Hid (∀ w', Below W.heap.size W w' → Calls Tryd.prog 33 #[wVal x.used (.slice B1 x.acts.length d1) (.slice B2 x.mail.length d2), .int .i64 f, .int .i64 (ns.length : Int)] w' fun e w'' => e = .returned (.int .i64 n0) ∧ Below w'.heap.size w' w'') := fun w' hb => by
      rw [hn0]; exact firstN_any w' _ x f _ (HX.out.below hb) HF.out
    rw [← hn0]
    clear hn0
    go_enter Tryd.func15, Tryd.ntmps15
    go_wp2_with (first
      | (go_at_call 11; refine (copyW_any _ _ x (HX.out.below (by exact HL1'.out)) HS.out).mono ?_; rw [← HW1.out]; rintro e w2 ⟨a, m, lo, hi, rfl, hwn, hb2⟩; obtain ⟨A', c', rfl⟩ := hwn.acts.form; obtain ⟨B', d', rfl, _⟩ := hwn.mail.form; have hz2 := hb2.size; have hz1 := HZ1.out; have HW2 := hid_mk hwn; have HB2 := hid_mk hb2; obtain ⟨k0, k1, k2, k3, k4, k5⟩ := blk6 (boxAt HA1.out hb2); have z4 : W.heap.size + 2 < w2.heap.size := (by omega); have z5 : W.heap.size + 1 < w2.heap.size := (by omega); have z6 : ¬ W.heap.size + 2 = w2.heap.size := (by omega); have z7 : ¬ W.heap.size + 1 = w2.heap.size := (by omega); clear hwn hb2 hz1 hz2)
      | (go_at_call 32; refine (win_any _ _ _ _).mono ?_; rintro e w' ⟨rfl, hw⟩; replace hw := hw.symm; subst hw)
      | (go_at_call 33; refine (HFN.out _ (by exact bAlloc (bTrans HL1.out HB2.out) _)).mono ?_; rintro e w3 ⟨rfl, hb3⟩; have HB3 := hid_mk hb3; clear hb3))
    have HSN : Hid (SN w1 w2.heap.size W.heap.size (.cells #[.slice A1 p.hs.length c1, .slice A2 p.acs.length c2, .slice A3 p.bs.length c3, .int .i64 p.fuel] 26) (.cells #[.slice B1 x.acts.length d1, .slice B2 x.mail.length d2, .int .i64 x.used.drop, .int .i64 x.used.dup, .int .i64 x.used.time, .int .i64 x.used.crash] 34) x w3) := (SN.below (wr := w2.alloc (.cells #[.slice A' x.acts.length c', .slice B' x.mail.length d', .int .i64 x.used.drop, .int .i64 x.used.dup, .int .i64 x.used.time, .int .i64 x.used.crash] 34)) ⟨⟨_, _, _, _, HW2.out.toPW HB2.out.size⟩, boxAt HA0.out (bAlloc HB2.out _), boxAt HA1.out (bAlloc HB2.out _), boxAt HA2.out (bAlloc HB2.out _), bAlloc HB2.out _⟩ HB3.out)
    clear HW2 k0 k1 k2 k3 k4 k5 z4 z5 z6 z7
    go_loopg [11, 12, 30] ns.length (fun g i11 i12 i30 wr => ∃ k : Nat, g = ns.length - k ∧ k ≤ ns.length ∧ i30 = .int .i64 k ∧ SN w1 w2.heap.size W.heap.size (.cells #[.slice A1 p.hs.length c1, .slice A2 p.acs.length c2, .slice A3 p.bs.length c3, .int .i64 p.fuel] 26) (.cells #[.slice B1 x.acts.length d1, .slice B2 x.mail.length d2, .int .i64 x.used.drop, .int .i64 x.used.dup, .int .i64 x.used.time, .int .i64 x.used.crash] 34) (sendT p n0 f x.acts.length x ns k) wr)
    case atStart => exact ⟨0, rfl, by omega, rfl, HSN.out⟩
    case round =>
      obtain ⟨k, rfl, hk, rfl, sn⟩ := hrel
      have hbw : Below W.heap.size W wr := bTrans HL1.out sn.low
      have HB := hid_mk hbw
      have hz1 := HZ1.out
      have hz2 := sn.low.size
      by_cases hlt : k < ns.length
      · obtain ⟨bN, oN, n, vN, rfl, hN, hzN, q1, q2, q3, hvN⟩ := hn.cell hbw hlt
        obtain ⟨VN, nN, rfl, _⟩ := hvN.form
        obtain ⟨p0, p1, p2, p3⟩ := blk4 sn.bp
        obtain ⟨k0, k1, k2, k3, k4, k5⟩ := blk6 sn.bw
        have z1 : W.heap.size < wr.heap.size := by omega
        have z2 : W.heap.size + 1 < wr.heap.size := by omega
        have z3 : W.heap.size < wr.heap.size + 1 := by omega
        have z4 : W.heap.size + 1 < wr.heap.size + 1 := by omega
        have HSK := hid_mk sn
        have HN := hid_mk (step_at (p := p) (n0 := n0) (f := f) (na := x.acts.length) (x0 := x) hN)
        have hn6 : n.args.length ≤ 1000 := hna n (List.mem_of_getElem? hN)
        clear sn hbw hN hz1 hz2
        cases e1 : inB n.to 0 ((p.acs.length : Int) - 1) with
        | false =>
          go_wp2_with (first
            | (go_at_call 34; refine (isActor_any _ _ p _ (HP.out.below (by exact bAlloc HB.out _))).mono ?_; rintro e w4 ⟨rfl, hb4⟩; have HB4 := hid_mk hb4; clear hb4))
          go_roundg (ns.length - (k + 1))
          case measure => omega
          case rel => exact ⟨k + 1, rfl, by omega, by go_num, by rw [HN.out, step_no1 e1]; exact HSK.out.below (bTrans (bAlloc (bRefl _) _) HB4.out)⟩
        | true =>
          by_cases e2 : n.to < (x.acts.length : Int)
          · obtain ⟨j, hj⟩ : ∃ j : Nat, n.to = (j : Int) := Int.eq_ofNat_of_zero_le (inB_iff.1 e1).1
            have HJ := hid_mk hj
            have HE := hid_mk (step_yes (p := p) (n0 := n0) (f := f) (na := x.acts.length) (i := k) (x := sendT p n0 f x.acts.length x ns k) e1 e2)
            have hj1 : j < p.acs.length := by have := (inB_iff.1 e1).2; omega
            have hj2 : j < (sendT p n0 f x.acts.length x ns k).acts.length := by rw [send_acts]; omega
            have hfew : Few (sendT p n0 f x.acts.length x ns k).mail := ⟨by have := @send_mail p n0 f x.acts.length x ns k; have := HS.out.mail; omega, send_args HS.out.args hna k⟩
            have hsz : (sendT p n0 f x.acts.length x ns k).acts.length ≤ 1000 := by rw [send_acts]; have := HS.out.n; omega
            have HQ := hid_mk (And.intro hj1 (And.intro hj2 (And.intro hfew hsz)))
            clear hj hj1 hj2 hfew hsz
            obtain ⟨a9, m9, lo9, hi9, hpw⟩ := HSK.out.pw
            have HPW := hid_mk hpw
            clear hpw
            go_wp2_with (first
              | (go_at_call 34; refine (isActor_any _ _ p _ (HP.out.below (by exact bAlloc HB.out _))).mono ?_; rintro e w4 ⟨rfl, hb4⟩; have hc4 := bcell hb4; have hz9 := hb4.size; have z7 : W.heap.size < w4.heap.size := (by (try simp at hz9); omega); have HB4 := hid_mk (bTrans (bAlloc (bRefl wr) _) hb4); clear hb4 hz9)
              | (go_at_call 35; refine (post_any w1.heap.size w2.heap.size lo9 hi9 _ _ a9 m9 _ p (sendT p n0 f x.acts.length x ns k) ⟨⟨f, wrap64 (n0 + k), 0⟩, n⟩ j HJ.out (HP.out.below (bTrans HB.out HB4.out)) (HPW.out.below HB4.out) (hvN.below HB4.out) HQ.out.2.2.1 hn6 HQ.out.2.2.2 HQ.out.1 HQ.out.2.1).mono ?_; rintro e w5 ⟨rfl, hp5, hb5⟩))
            go_roundg (ns.length - (k + 1))
            case measure => omega
            case rel => exact ⟨k + 1, rfl, by omega, by go_num, by rw [HN.out, HE.out, HJ.out, Int.toNat_natCast]; exact HSK.out.next HZ1.out HB4.out hp5 hb5⟩
          · go_wp2_with (first
              | (go_at_call 34; refine (isActor_any _ _ p _ (HP.out.below (by exact bAlloc HB.out _))).mono ?_; rintro e w4 ⟨rfl, hb4⟩; have hc4 := bcell hb4; have HB4 := hid_mk hb4; clear hb4))
            go_roundg (ns.length - (k + 1))
            case measure => omega
            case rel => exact ⟨k + 1, rfl, by omega, by go_num, by rw [HN.out, step_no2 (by omega)]; exact HSK.out.below (bTrans (bAlloc (bRefl _) _) HB4.out)⟩
      · obtain rfl : k = ns.length := by omega
        obtain ⟨a9, m9, lo9, hi9, hpw⟩ := sn.pw
        have HPW := hid_mk hpw
        have hal := @send_acts p n0 f x.acts.length x ns ns.length
        obtain ⟨A9, c9, rfl⟩ := hpw.acts.form
        obtain ⟨B9, d9, rfl, _⟩ := hpw.mail.form
        obtain ⟨k0, k1, k2, k3, k4, k5⟩ := blk6 hpw.box
        obtain ⟨r0, r1, r2, r3, r4, r5⟩ := blk6 sn.br
        have fz : ∀ o, wr.frozen? ⟨W.heap.size + 2, o, none⟩ = false := fun o => heap_frozen sn.br
        have HSK := hid_mk sn
        clear hpw sn hbw hz1 hz2 hal
        generalize hX : sendT p n0 f x.acts.length x ns ns.length = X at *
        have HX9 := hid_mk hX
        clear hX
        go_wp2
        refine bodyPost_ret (v := wVal X.used (.slice A9 X.acts.length c9) (.slice B9 X.mail.length d9)) (by simp [results, Tryd.results15, go_sem, r0, r1, r2, r3, r4, r5]) rfl ⟨_, _, lo9, hi9, by rw [HX9.out], ?_, ?_⟩
        · rw [HX9.out]
          exact (HPW.out.wn.far (rb := W.heap.size + 1 + 1) put6_same (by have := HZ1.out; omega)).mono (by have := HZ1.out; omega)
        · exact put6_below (bTrans HL1.out HSK.out.low) (by omega)
end Go.Proofs.YtjdnedmhffakjaaDoor
