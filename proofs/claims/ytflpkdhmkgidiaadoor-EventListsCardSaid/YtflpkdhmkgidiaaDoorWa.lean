/-
  world.Send. Conditions: the world is not too great, notes are few and short.
-/
import Derived.Test.YtflpkdhmkgidiaaDoorW8
namespace Go.Proofs.YtflpkdhmkgidiaaDoor
open Go.RowKit
/-- One note. -/
def stepN (p : PPrg) (n0 f : Int) (na : Nat) (x : PWld) (i : Nat) (n : PNte) : PWld :=
  if inB n.to 0 ((p.acs.length : Int) - 1) = true ∧ n.to < (na : Int) then postP p x ⟨⟨f, wrap64 (n0 + i), 0⟩, n⟩ n.to.toNat else x
def sendT (p : PPrg) (n0 f : Int) (na : Nat) (x0 : PWld) (ns : List PNte) : Nat → PWld
  | 0 => x0
  | k + 1 => stepN p n0 f na (sendT p n0 f na x0 ns k) k (ns.getD k default)
def firstP (x : PWld) (f : Int) (n : Nat) : Int := if f = -1 then 0 else wrap64 (sentP x f - n)
def sendP (p : PPrg) (x : PWld) (f : Int) (ns : List PNte) : PWld :=
  if inB f (-1) ((x.acts.length : Int) - 1) = true then sendT p (firstP x f ns.length) f x.acts.length x ns ns.length else x
section
variable {p : PPrg} {n0 f : Int} {na : Nat} {x x0 : PWld} {ns : List PNte} {m : PMsg} {k : Nat}
theorem post_acts : (postP p x m k).acts.length = x.acts.length := by unfold postP; split <;> simp
theorem post_used : (postP p x m k).used = x.used := by unfold postP; split <;> rfl
theorem putP_len (l : List PMsg) (m : PMsg) : (putP l m).length = l.length + 1 := by unfold putP; rw [List.length_append, List.length_cons, List.length_take, List.length_drop]; have := plc_le l m.id; omega
theorem putP_mem {l : List PMsg} {m y : PMsg} (h : y ∈ putP l m) : y = m ∨ y ∈ l := by
  unfold putP at h
  rcases List.mem_append.1 h with h | h
  · exact Or.inr (List.mem_of_mem_take h)
  · rcases List.mem_cons.1 h with h | h
    · exact Or.inl h
    · exact Or.inr (List.mem_of_mem_drop h)
theorem post_mail : (postP p x m k).mail.length ≤ x.mail.length + 1 ∧ ∀ y ∈ (postP p x m k).mail, y = m ∨ y ∈ x.mail := by
  unfold postP
  split
  · exact ⟨by show (putP x.mail m).length ≤ _; rw [putP_len]; exact Nat.le_refl _, fun y hy => putP_mem hy⟩
  · exact ⟨by simp, fun y hy => Or.inr hy⟩
theorem step_acts {i : Nat} {n : PNte} : (stepN p n0 f na x i n).acts.length = x.acts.length := by unfold stepN; split; exact post_acts; rfl
theorem step_used {i : Nat} {n : PNte} : (stepN p n0 f na x i n).used = x.used := by unfold stepN; split; exact post_used; rfl
theorem step_mail {i : Nat} {n : PNte} : (stepN p n0 f na x i n).mail.length ≤ x.mail.length + 1 ∧ ∀ y ∈ (stepN p n0 f na x i n).mail, y.nt = n ∨ y ∈ x.mail := by
  unfold stepN
  split
  · exact ⟨post_mail.1, fun y hy => (post_mail.2 y hy).imp (fun e => by rw [e]) id⟩
  · exact ⟨by omega, fun y hy => Or.inr hy⟩
theorem send_acts : ∀ k, (sendT p n0 f na x0 ns k).acts.length = x0.acts.length
  | 0 => rfl
  | k + 1 => by rw [sendT, step_acts]; exact send_acts k
theorem send_used : ∀ k, (sendT p n0 f na x0 ns k).used = x0.used
  | 0 => rfl
  | k + 1 => by rw [sendT, step_used]; exact send_used k
theorem send_mail : ∀ k, (sendT p n0 f na x0 ns k).mail.length ≤ x0.mail.length + k
  | 0 => Nat.le_refl _
  | k + 1 => by rw [sendT]; have := (@step_mail p n0 f na (sendT p n0 f na x0 ns k) k (ns.getD k default)).1; have := send_mail k; omega
theorem send_args {L : Nat} (hx : ∀ y ∈ x0.mail, y.nt.args.length ≤ L) (hn : ∀ n ∈ ns, n.args.length ≤ L) : ∀ k, ∀ y ∈ (sendT p n0 f na x0 ns k).mail, y.nt.args.length ≤ L
  | 0 => hx
  | k + 1 => by
    intro y hy
    rw [sendT] at hy
    rcases step_mail.2 y hy with h | h
    · rw [h, List.getD_eq_getElem?_getD]
      cases e : ns[k]? with
      | none => exact Nat.zero_le _
      | some n => exact hn n (List.mem_of_getElem? e)
    · exact send_args hx hn k y h
theorem step_at {i : Nat} {n : PNte} (h : ns[i]? = some n) : sendT p n0 f na x0 ns (i + 1) = stepN p n0 f na (sendT p n0 f na x0 ns i) i n := by rw [sendT, List.getD_eq_getElem?_getD, h]; rfl
end
theorem WN.toPW {N lo hi : Nat} {W : World} {a m : Value} {x : PWld} (h : WN N lo hi W a m x) (hN : N ≤ W.heap.size) : PW N W.heap.size lo hi (W.alloc (.cells #[a, m, .int .i64 x.used.drop, .int .i64 x.used.dup, .int .i64 x.used.time, .int .i64 x.used.crash] 34)) a m x := by
  have hh := h.hi
  have hb : Below W.heap.size W (W.alloc (.cells #[a, m, .int .i64 x.used.drop, .int .i64 x.used.dup, .int .i64 x.used.time, .int .i64 x.used.crash] 34)) := bAlloc (bRefl _) _
  refine ⟨heap_new _ _, ?_, h.mail.below hb, by omega, h.le, Nat.le_trans h.hi hb.size, hN⟩
  obtain ⟨A, c, rfl, h2, h3⟩ := h.acts
  refine ⟨A, c, rfl, h2, ?_⟩
  rcases h3 with h3 | ⟨g, e, hg, hr⟩
  · exact Or.inl h3
  · exact Or.inr ⟨g, e, ⟨hg.1, hr.lt, hg.2⟩, (hr.ltP.weak fun _ b hb => ⟨⟨hb.1.1.1, hb.2, hb.1.1.2⟩, hb.1.2⟩).below hb⟩
theorem three_new (w : World) (X Y Z : Obj) : (((w.alloc X).alloc Y).alloc Z).heap[w.heap.size]? = some X ∧ (((w.alloc X).alloc Y).alloc Z).heap[w.heap.size + 1]? = some Y ∧ (((w.alloc X).alloc Y).alloc Z).heap[w.heap.size + 2]? = some Z ∧ (((w.alloc X).alloc Y).alloc Z).heap.size = w.heap.size + 3 := by
  have h := two_new w X Y
  refine ⟨?_, ?_, ?_, by simp⟩
  · rw [Below.heap_alloc _ _ _ (by simp; omega)]; exact h.1
  · rw [Below.heap_alloc _ _ _ (by simp)]; exact h.2.1
  · exact heap_new2 (by simp)
theorem lowBlk {N b : Nat} {w w' : World} {X : Obj} (h : w.heap[b]? = some X) (hb : Below N w w') (hN : b < N) : w'.heap[b]? = some X := (hb.block b hN).trans h
/-- What stands between two notes. -/
structure SN (w1 : World) (bo n3 : Nat) (P Y : Obj) (x : PWld) (wr : World) : Prop where
  pw : ∃ a m lo hi, PW w1.heap.size bo lo hi wr a m x
  bp : wr.heap[n3]? = some P
  bw : wr.heap[n3 + 1]? = some Y
  br : wr.heap[n3 + 2]? = some zW
  low : Below w1.heap.size w1 wr
theorem SN.next {w1 : World} {bo n3 : Nat} {P Y : Obj} {x x' : PWld} {wr wa wb : World} (h : SN w1 bo n3 P Y x wr) (hz : w1.heap.size = n3 + 3) (ha : Below wr.heap.size wr wa) (hp : ∃ a m lo hi, PW w1.heap.size bo lo hi wb a m x') (hb : Below w1.heap.size wa wb) : SN w1 bo n3 P Y x' wb :=
  have e : Below w1.heap.size wr wb := (ha.mono h.low.size).trans hb
  ⟨hp, lowBlk h.bp e (by omega), lowBlk h.bw e (by omega), lowBlk h.br e (by omega), h.low.trans e⟩
theorem SN.below {w1 : World} {bo n3 : Nat} {P Y : Obj} {x : PWld} {wr wa : World} (h : SN w1 bo n3 P Y x wr) (ha : Below wr.heap.size wr wa) : SN w1 bo n3 P Y x wa :=
  let ⟨a, m, lo, hi, hp⟩ := h.pw
  ⟨⟨a, m, lo, hi, hp.below ha⟩, boxAt h.bp ha, boxAt h.bw ha, boxAt h.br ha, bTrans h.low ha⟩
theorem new_one (w : World) (X : Obj) : ∃ w1, w1 = w.alloc X := ⟨_, rfl⟩
theorem send_res {p : PPrg} {x : PWld} {f : Int} {ns : List PNte} (h : inB f (-1) ((x.acts.length : Int) - 1) = false) : sendP p x f ns = x := by unfold sendP; rw [h]; rfl
theorem send_yes {p : PPrg} {x : PWld} {f : Int} {ns : List PNte} (h : inB f (-1) ((x.acts.length : Int) - 1) = true) : sendP p x f ns = sendT p (firstP x f ns.length) f x.acts.length x ns ns.length := by unfold sendP; rw [if_pos h]
theorem step_no1 {p : PPrg} {n0 f : Int} {na i : Nat} {x : PWld} {n : PNte} (h : inB n.to 0 ((p.acs.length : Int) - 1) = false) : stepN p n0 f na x i n = x := by unfold stepN; rw [h, if_neg (fun e => by cases e.1)]
theorem step_no2 {p : PPrg} {n0 f : Int} {na i : Nat} {x : PWld} {n : PNte} (h : ¬ n.to < (na : Int)) : stepN p n0 f na x i n = x := by unfold stepN; rw [if_neg (fun e => h e.2)]
theorem step_yes {p : PPrg} {n0 f : Int} {na i : Nat} {x : PWld} {n : PNte} (h : inB n.to 0 ((p.acs.length : Int) - 1) = true) (h2 : n.to < (na : Int)) : stepN p n0 f na x i n = postP p x ⟨⟨f, wrap64 (n0 + i), 0⟩, n⟩ n.to.toNat := by unfold stepN; rw [if_pos ⟨h, h2⟩]
set_option maxHeartbeats 4000000 in
set_option maxRecDepth 100000 in
theorem send_any (W : World) (vp vw vn : Value) (p : PPrg) (x : PWld) (f : Int) (ns : List PNte) (hp : PrgV W vp p) (hx : WldV W vw x) (hs : SmW x) (hn : Ntes anyB anyB W vn ns) (hl : ns.length ≤ 100) (hna : ∀ n ∈ ns, n.args.length ≤ 1000) :
    Calls Tryd.prog 14 #[vp, vw, .int .i64 f, vn] W fun e w' => ∃ a m lo hi, e = .returned (wVal (sendP p x f ns).used a m) ∧ WN W.heap.size lo hi w' a m (sendP p x f ns) ∧ Below W.heap.size W w' := by
  have HP := hid_mk hp
  have HX := hid_mk hx
  have HS := hid_mk hs
  obtain ⟨vh, vb, vc, rfl, h1, h2, h3⟩ := hp
  obtain ⟨A1, c1, rfl, hl1⟩ := h1.form
  obtain ⟨A2, c2, rfl, hl2⟩ := h2.form
  obtain ⟨A3, c3, rfl, hl3⟩ := h3.form
  obtain ⟨va, vm, rfl, g1, g2⟩ := hx
  obtain ⟨B1, d1, rfl, hm1⟩ := g1.form
  obtain ⟨B2, d2, rfl, hm2⟩ := g2.form
  obtain ⟨C, cn, rfl, hln⟩ := hn.form
  obtain ⟨w1, hw1⟩ := new_one ((W.alloc (.cells #[.slice A1 p.hs.length c1, .slice A2 p.acs.length c2, .slice A3 p.bs.length c3, .int .i64 p.fuel] 27)).alloc (.cells #[.slice B1 x.acts.length d1, .slice B2 x.mail.length d2, .int .i64 x.used.drop, .int .i64 x.used.dup, .int .i64 x.used.time, .int .i64 x.used.crash] 34)) (.cells #[.slice none 0 0, .slice none 0 0, .int .i64 0, .int .i64 0, .int .i64 0, .int .i64 0] 34)
  have hA := three_new W (.cells #[.slice A1 p.hs.length c1, .slice A2 p.acs.length c2, .slice A3 p.bs.length c3, .int .i64 p.fuel] 27) (.cells #[.slice B1 x.acts.length d1, .slice B2 x.mail.length d2, .int .i64 x.used.drop, .int .i64 x.used.dup, .int .i64 x.used.time, .int .i64 x.used.crash] 34) (.cells #[.slice none 0 0, .slice none 0 0, .int .i64 0, .int .i64 0, .int .i64 0, .int .i64 0] 34)
  have HL1 : Hid (Below W.heap.size W w1) := by rw [hw1]; exact bAlloc (bAlloc (bAlloc (bRefl _) _) _) _
  rw [← hw1] at hA
  have HA0 := hid_mk hA.1
  have HA1 := hid_mk hA.2.1
  have HA2 := hid_mk hA.2.2.1
  have HZ1 := hid_mk hA.2.2.2
  have HW1 := hid_mk hw1
  have HL1' : Hid (Below W.heap.size W (((W.alloc (.cells #[.slice A1 p.hs.length c1, .slice A2 p.acs.length c2, .slice A3 p.bs.length c3, .int .i64 p.fuel] 27)).alloc (.cells #[.slice B1 x.acts.length d1, .slice B2 x.mail.length d2, .int .i64 x.used.drop, .int .i64 x.used.dup, .int .i64 x.used.time, .int .i64 x.used.crash] 34)).alloc (.cells #[.slice none 0 0, .slice none 0 0, .int .i64 0, .int .i64 0, .int .i64 0, .int .i64 0] 34))) := by rw [← hw1]; exact HL1.out
  clear hA hw1 h1 h2 h3 g1 g2 hs
  cases e0 : inB f (-1) ((x.acts.length : Int) - 1) with
  | false =>
    have HR := hid_mk (send_res (p := p) (ns := ns) e0)
    rw [HR.out]
    go_enter Tryd.func14, Tryd.ntmps14
    go_wp2_with (first
      | (go_at_call 16; refine (copyW_any _ _ x (HX.out.below (by exact HL1'.out)) HS.out).mono ?_; rw [← HW1.out]; rintro e w2 ⟨a, m, lo, hi, rfl, hwn, hb2⟩; obtain ⟨A', c', rfl⟩ := hwn.acts.form; obtain ⟨B', d', rfl, _⟩ := hwn.mail.form; have hz2 := hb2.size; have hz1 := HZ1.out; have HW2 := hid_mk hwn; have HB2 := hid_mk hb2; obtain ⟨k0, k1, k2, k3, k4, k5⟩ := blk6 (boxAt HA1.out hb2); obtain ⟨r0, r1, r2, r3, r4, r5⟩ := blk6 (boxAt HA2.out hb2); have fz : ∀ o, w2.frozen? ⟨W.heap.size + 2, o, none⟩ = false := fun o => heap_frozen (boxAt HA2.out hb2); have z4 : W.heap.size + 2 < w2.heap.size := (by omega); have z5 : W.heap.size + 1 < w2.heap.size := (by omega); have z6 : ¬ W.heap.size + 2 = w2.heap.size := (by omega); have z7 : ¬ W.heap.size + 1 = w2.heap.size := (by omega); clear hwn hb2 hz1 hz2)
      | (go_at_call 36; refine (win_any _ _ _ _).mono ?_; rintro e w' ⟨rfl, hw⟩; replace hw := hw.symm; subst hw))
    refine bodyPost_ret (v := wVal x.used (.slice A' x.acts.length c') (.slice B' x.mail.length d')) (by simp [results, Tryd.results14, go_sem, r0, r1, r2, r3, r4, r5, z4]) rfl ⟨_, _, lo, hi, rfl, ?_, ?_⟩
    · exact ((HW2.out.far (rb := W.heap.size + 1 + 1) put6_same (by have := HZ1.out; omega)).below (bAlloc (bRefl _) _)).mono (by have := HZ1.out; omega)
    · exact bAlloc (put6_below (bTrans HL1.out HB2.out) (by omega)) _
  | true =>
    have HR := hid_mk (send_yes (p := p) (ns := ns) e0)
    rw [HR.out]
    have HF : Hid (f = -1 ∨ (0 ≤ f ∧ f < x.acts.length)) := by show _ ∨ _; have := inB_iff.1 e0; omega
    obtain ⟨n0, hn0⟩ : ∃ n0, n0 = firstP x f ns.length := ⟨_, rfl⟩
    have HFN : Hid (∀ w', Below W.heap.size W w' → Calls Tryd.prog 37 #[wVal x.used (.slice B1 x.acts.length d1) (.slice B2 x.mail.length d2), .int .i64 f, .int .i64 (ns.length : Int)] w' fun e w'' => e = .returned (.int .i64 n0) ∧ Below w'.heap.size w' w'') := fun w' hb => by
      rw [hn0]; exact firstN_any w' _ x f _ (HX.out.below hb) HF.out
    rw [← hn0]
    clear hn0
    go_enter Tryd.func14, Tryd.ntmps14
    go_wp2_with (first
      | (go_at_call 16; refine (copyW_any _ _ x (HX.out.below (by exact HL1'.out)) HS.out).mono ?_; rw [← HW1.out]; rintro e w2 ⟨a, m, lo, hi, rfl, hwn, hb2⟩; obtain ⟨A', c', rfl⟩ := hwn.acts.form; obtain ⟨B', d', rfl, _⟩ := hwn.mail.form; have hz2 := hb2.size; have hz1 := HZ1.out; have HW2 := hid_mk hwn; have HB2 := hid_mk hb2; obtain ⟨k0, k1, k2, k3, k4, k5⟩ := blk6 (boxAt HA1.out hb2); have z4 : W.heap.size + 2 < w2.heap.size := (by omega); have z5 : W.heap.size + 1 < w2.heap.size := (by omega); have z6 : ¬ W.heap.size + 2 = w2.heap.size := (by omega); have z7 : ¬ W.heap.size + 1 = w2.heap.size := (by omega); clear hwn hb2 hz1 hz2)
      | (go_at_call 36; refine (win_any _ _ _ _).mono ?_; rintro e w' ⟨rfl, hw⟩; replace hw := hw.symm; subst hw)
      | (go_at_call 37; refine (HFN.out _ (by exact bAlloc (bTrans HL1.out HB2.out) _)).mono ?_; rintro e w3 ⟨rfl, hb3⟩; have HB3 := hid_mk hb3; clear hb3))
    have HSN : Hid (SN w1 w2.heap.size W.heap.size (.cells #[.slice A1 p.hs.length c1, .slice A2 p.acs.length c2, .slice A3 p.bs.length c3, .int .i64 p.fuel] 27) (.cells #[.slice B1 x.acts.length d1, .slice B2 x.mail.length d2, .int .i64 x.used.drop, .int .i64 x.used.dup, .int .i64 x.used.time, .int .i64 x.used.crash] 34) x w3) := (SN.below (wr := w2.alloc (.cells #[.slice A' x.acts.length c', .slice B' x.mail.length d', .int .i64 x.used.drop, .int .i64 x.used.dup, .int .i64 x.used.time, .int .i64 x.used.crash] 34)) ⟨⟨_, _, _, _, HW2.out.toPW HB2.out.size⟩, boxAt HA0.out (bAlloc HB2.out _), boxAt HA1.out (bAlloc HB2.out _), boxAt HA2.out (bAlloc HB2.out _), bAlloc HB2.out _⟩ HB3.out)
    clear HW2 k0 k1 k2 k3 k4 k5 z4 z5 z6 z7
    go_loopg [11, 12, 30] ns.length (fun g i11 i12 i30 wr => ∃ k : Nat, g = ns.length - k ∧ k ≤ ns.length ∧ i30 = .int .i64 k ∧ SN w1 w2.heap.size W.heap.size (.cells #[.slice A1 p.hs.length c1, .slice A2 p.acs.length c2, .slice A3 p.bs.length c3, .int .i64 p.fuel] 27) (.cells #[.slice B1 x.acts.length d1, .slice B2 x.mail.length d2, .int .i64 x.used.drop, .int .i64 x.used.dup, .int .i64 x.used.time, .int .i64 x.used.crash] 34) (sendT p n0 f x.acts.length x ns k) wr)
    case atStart => exact ⟨0, rfl, by omega, rfl, HSN.out⟩
    case round =>
      obtain ⟨k, rfl, hk, rfl, sn⟩ := hrel
      have hbw : Below W.heap.size W wr := bTrans HL1.out sn.low
      have HB := hid_mk hbw
      have hz1 := HZ1.out
      have hz2 := sn.low.size
      by_cases hlt : k < ns.length
      · obtain ⟨bN, oN, n, vN, rfl, hN, hzN, q1, q2, q3, hvN⟩ := hn.cell hbw hlt
        obtain ⟨VN, nN, rfl, _⟩ := hvN.form
        obtain ⟨p0, p1, p2, p3⟩ := blk4 sn.bp
        obtain ⟨k0, k1, k2, k3, k4, k5⟩ := blk6 sn.bw
        have z1 : W.heap.size < wr.heap.size := by omega
        have z2 : W.heap.size + 1 < wr.heap.size := by omega
        have z3 : W.heap.size < wr.heap.size + 1 := by omega
        have z4 : W.heap.size + 1 < wr.heap.size + 1 := by omega
        have HSK := hid_mk sn
        have HN := hid_mk (step_at (p := p) (n0 := n0) (f := f) (na := x.acts.length) (x0 := x) hN)
        have hn6 : n.args.length ≤ 1000 := hna n (List.mem_of_getElem? hN)
        clear sn hbw hN hz1 hz2
        cases e1 : inB n.to 0 ((p.acs.length : Int) - 1) with
        | false =>
          go_wp2_with (first
            | (go_at_call 38; refine (isActor_any _ _ p _ (HP.out.below (by exact bAlloc HB.out _))).mono ?_; rintro e w4 ⟨rfl, hb4⟩; have HB4 := hid_mk hb4; clear hb4))
          go_roundg (ns.length - (k + 1))
          case measure => omega
          case rel => exact ⟨k + 1, rfl, by omega, by go_num, by rw [HN.out, step_no1 e1]; exact HSK.out.below (bTrans (bAlloc (bRefl _) _) HB4.out)⟩
        | true =>
          by_cases e2 : n.to < (x.acts.length : Int)
          · obtain ⟨j, hj⟩ : ∃ j : Nat, n.to = (j : Int) := Int.eq_ofNat_of_zero_le (inB_iff.1 e1).1
            have HJ := hid_mk hj
            have HE := hid_mk (step_yes (p := p) (n0 := n0) (f := f) (na := x.acts.length) (i := k) (x := sendT p n0 f x.acts.length x ns k) e1 e2)
            have hj1 : j < p.acs.length := by have := (inB_iff.1 e1).2; omega
            have hj2 : j < (sendT p n0 f x.acts.length x ns k).acts.length := by rw [send_acts]; omega
            have hfew : Few (sendT p n0 f x.acts.length x ns k).mail := ⟨by have := @send_mail p n0 f x.acts.length x ns k; have := HS.out.mail; omega, send_args HS.out.args hna k⟩
            have hsz : (sendT p n0 f x.acts.length x ns k).acts.length ≤ 1000 := by rw [send_acts]; have := HS.out.n; omega
            have HQ := hid_mk (And.intro hj1 (And.intro hj2 (And.intro hfew hsz)))
            clear hj hj1 hj2 hfew hsz
            obtain ⟨a9, m9, lo9, hi9, hpw⟩ := HSK.out.pw
            have HPW := hid_mk hpw
            clear hpw
            go_wp2_with (first
              | (go_at_call 38; refine (isActor_any _ _ p _ (HP.out.below (by exact bAlloc HB.out _))).mono ?_; rintro e w4 ⟨rfl, hb4⟩; have hc4 := bcell hb4; have hz9 := hb4.size; have z7 : W.heap.size < w4.heap.size := (by (try simp at hz9); omega); have HB4 := hid_mk (bTrans (bAlloc (bRefl wr) _) hb4); clear hb4 hz9)
              | (go_at_call 39; refine (post_any w1.heap.size w2.heap.size lo9 hi9 _ _ a9 m9 _ p (sendT p n0 f x.acts.length x ns k) ⟨⟨f, wrap64 (n0 + k), 0⟩, n⟩ j HJ.out (HP.out.below (bTrans HB.out HB4.out)) (HPW.out.below HB4.out) (hvN.below HB4.out) HQ.out.2.2.1 hn6 HQ.out.2.2.2 HQ.out.1 HQ.out.2.1).mono ?_; rintro e w5 ⟨rfl, hp5, hb5⟩))
            go_roundg (ns.length - (k + 1))
            case measure => omega
            case rel => exact ⟨k + 1, rfl, by omega, by go_num, by rw [HN.out, HE.out, HJ.out, Int.toNat_natCast]; exact HSK.out.next HZ1.out HB4.out hp5 hb5⟩
          · go_wp2_with (first
              | (go_at_call 38; refine (isActor_any _ _ p _ (HP.out.below (by exact bAlloc HB.out _))).mono ?_; rintro e w4 ⟨rfl, hb4⟩; have hc4 := bcell hb4; have HB4 := hid_mk hb4; clear hb4))
            go_roundg (ns.length - (k + 1))
            case measure => omega
            case rel => exact ⟨k + 1, rfl, by omega, by go_num, by rw [HN.out, step_no2 (by omega)]; exact HSK.out.below (bTrans (bAlloc (bRefl _) _) HB4.out)⟩
      · obtain rfl : k = ns.length := by omega
        obtain ⟨a9, m9, lo9, hi9, hpw⟩ := sn.pw
        have HPW := hid_mk hpw
        have hal := @send_acts p n0 f x.acts.length x ns ns.length
        obtain ⟨A9, c9, rfl⟩ := hpw.acts.form
        obtain ⟨B9, d9, rfl, _⟩ := hpw.mail.form
        obtain ⟨k0, k1, k2, k3, k4, k5⟩ := blk6 hpw.box
        obtain ⟨r0, r1, r2, r3, r4, r5⟩ := blk6 sn.br
        have fz : ∀ o, wr.frozen? ⟨W.heap.size + 2, o, none⟩ = false := fun o => heap_frozen sn.br
        have HSK := hid_mk sn
        clear hpw sn hbw hz1 hz2 hal
        generalize hX : sendT p n0 f x.acts.length x ns ns.length = X at *
        have HX9 := hid_mk hX
        clear hX
        go_wp2
        refine bodyPost_ret (v := wVal X.used (.slice A9 X.acts.length c9) (.slice B9 X.mail.length d9)) (by simp [results, Tryd.results14, go_sem, r0, r1, r2, r3, r4, r5]) rfl ⟨_, _, lo9, hi9, by rw [HX9.out], ?_, ?_⟩
        · rw [HX9.out]
          exact (HPW.out.wn.far (rb := W.heap.size + 1 + 1) put6_same (by have := HZ1.out; omega)).mono (by have := HZ1.out; omega)
        · exact put6_below (bTrans HL1.out HSK.out.low) (by omega)
end Go.Proofs.YtflpkdhmkgidiaaDoor
