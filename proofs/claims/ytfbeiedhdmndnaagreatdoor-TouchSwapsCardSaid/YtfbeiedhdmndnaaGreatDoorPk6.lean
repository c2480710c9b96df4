/-
  world.Send.
-/
import Derived.Test.YtfbeiedhdmndnaaGreatDoorPk5
import Derived.Test.YtfbeiedhdmndnaaGreatDoorPk4
import Derived.Deep.RegionHeld3
namespace Go.Proofs.YtfbeiedhdmndnaaGreatDoor
open Go.RowKit
def stepN (p : PPrg) (n0 f : Int) (na : Nat) (x : PWld) (i : Nat) (n : PNte) : PWld :=
 if inB n.to 0 ((p.acs.length : Int) - 1) = true ∧ n.to < (na : Int) then postP p x ⟨⟨f, wrap64 (n0 + i), 0⟩, n⟩ n.to.toNat else x
def sendT (p : PPrg) (n0 f : Int) (na : Nat) (x0 : PWld) (ns : List PNte) : Nat → PWld
 | 0 => x0
 | k + 1 => stepN p n0 f na (sendT p n0 f na x0 ns k) k (ns.getD k default)
def firstP (x : PWld) (f : Int) (n : Nat) : Int := if f = -1 then 0 else wrap64 (sentP x f - n)
def sendP (p : PPrg) (x : PWld) (f : Int) (ns : List PNte) : PWld :=
 if inB f (-1) ((x.acts.length : Int) - 1) = true then sendT p (firstP x f ns.length) f x.acts.length x ns ns.length else x
section
variable {p : PPrg} {n0 f : Int} {na : Nat} {x x0 : PWld} {ns : List PNte} {m : PMsg} {k : Nat}
theorem post_acts : (postP p x m k).acts.length = x.acts.length := by unfold postP; split <;> simp
theorem post_used : (postP p x m k).used = x.used := by unfold postP; split <;> rfl
theorem putP_len (l : List PMsg) (m : PMsg) : (putP l m).length = l.length + 1 := by unfold putP; rw [List.length_append, List.length_cons, List.length_take, List.length_drop]; have := plc_le l m.id; omega
theorem putP_mem {l : List PMsg} {m y : PMsg} (h : y ∈ putP l m) : y = m ∨ y ∈ l := by
 unfold putP at h
 rcases List.mem_append.1 h with h | h
 ·exact Or.inr (List.mem_of_mem_take h)
 ·rcases List.mem_cons.1 h with h | h
  ·exact Or.inl h
  ·exact Or.inr (List.mem_of_mem_drop h)
theorem post_mail : (postP p x m k).mail.length ≤ x.mail.length + 1 ∧ ∀ y ∈ (postP p x m k).mail, y = m ∨ y ∈ x.mail := by
 unfold postP
 split
 ·exact ⟨by show (putP x.mail m).length ≤ _; rw [putP_len]; exact Nat.le_refl _, fun y hy => putP_mem hy⟩
 ·exact ⟨by simp, fun y hy => Or.inr hy⟩
theorem step_acts {i : Nat} {n : PNte} : (stepN p n0 f na x i n).acts.length = x.acts.length := by unfold stepN; split; exact post_acts; rfl
theorem step_used {i : Nat} {n : PNte} : (stepN p n0 f na x i n).used = x.used := by unfold stepN; split; exact post_used; rfl
theorem step_mail {i : Nat} {n : PNte} : (stepN p n0 f na x i n).mail.length ≤ x.mail.length + 1 ∧ ∀ y ∈ (stepN p n0 f na x i n).mail, y.nt = n ∨ y ∈ x.mail := by
 unfold stepN
 split
 ·exact ⟨post_mail.1, fun y hy => (post_mail.2 y hy).imp (fun e => by rw [e]) id⟩
 ·exact ⟨by omega, fun y hy => Or.inr hy⟩
theorem send_acts : ∀ k, (sendT p n0 f na x0 ns k).acts.length = x0.acts.length
 | 0 => rfl
 | k + 1 => by rw [sendT, step_acts]; exact send_acts k
theorem send_used : ∀ k, (sendT p n0 f na x0 ns k).used = x0.used
 | 0 => rfl
 | k + 1 => by rw [sendT, step_used]; exact send_used k
theorem send_mail : ∀ k, (sendT p n0 f na x0 ns k).mail.length ≤ x0.mail.length + k
 | 0 => Nat.le_refl _
 | k + 1 => by rw [sendT]; have := (@step_mail p n0 f na (sendT p n0 f na x0 ns k) k (ns.getD k default)).1; have := send_mail k; omega
theorem send_args {L : Nat} (hx : ∀ y ∈ x0.mail, y.nt.args.length ≤ L) (hn : ∀ n ∈ ns, n.args.length ≤ L) : ∀ k, ∀ y ∈ (sendT p n0 f na x0 ns k).mail, y.nt.args.length ≤ L
 | 0 => hx
 | k + 1 => by
  intro y hy
  rw [sendT] at hy
  rcases step_mail.2 y hy with h | h
  ·rw [h, List.getD_eq_getElem?_getD]
   cases e : ns[k]? with
   | none => exact Nat.zero_le _
   | some n => exact hn n (List.mem_of_getElem? e)
  ·exact send_args hx hn k y h
theorem step_at {i : Nat} {n : PNte} (h : ns[i]? = some n) : sendT p n0 f na x0 ns (i + 1) = stepN p n0 f na (sendT p n0 f na x0 ns i) i n := by rw [sendT, List.getD_eq_getElem?_getD, h]; rfl
end
theorem WN.toPW {N lo hi : Nat} {W : World} {a m : Value} {x : PWld} (h : WN N lo hi W a m x) (hN : N ≤ W.heap.size) : PW N W.heap.size lo hi (W.alloc (.cells #[a, m, .int .i64 x.used.drop, .int .i64 x.used.dup, .int .i64 x.used.time, .int .i64 x.used.crash] 32)) a m x := by
 have hh := h.hi
 have hb : Below W.heap.size W (W.alloc (.cells #[a, m, .int .i64 x.used.drop, .int .i64 x.used.dup, .int .i64 x.used.time, .int .i64 x.used.crash] 32)) := bAlloc (bRefl _) _
 refine ⟨heap_new _ _, ?_, h.mail.below hb, by omega, h.le, Nat.le_trans h.hi hb.size, hN⟩
 obtain ⟨A, c, rfl, h2, h3⟩ := h.acts
 refine ⟨A, c, rfl, h2, ?_⟩
 rcases h3 with h3 | ⟨g, e, hg, hr⟩
 ·exact Or.inl h3
 ·exact Or.inr ⟨g, e, ⟨hg.1, Nat.ne_of_lt hr.lt, hg.2⟩, (hr.ltP.weak fun _ b hb => ⟨⟨hb.1.1.1, Nat.ne_of_lt hb.2, hb.1.1.2⟩, hb.1.2⟩).below hb⟩
theorem three_new (w : World) (X Y Z : Obj) : (((w.alloc X).alloc Y).alloc Z).heap[w.heap.size]? = some X ∧ (((w.alloc X).alloc Y).alloc Z).heap[w.heap.size + 1]? = some Y ∧ (((w.alloc X).alloc Y).alloc Z).heap[w.heap.size + 2]? = some Z ∧ (((w.alloc X).alloc Y).alloc Z).heap.size = w.heap.size + 3 := by
 have h := two_new w X Y
 refine ⟨?_, ?_, ?_, by simp⟩
 ·rw [Below.heap_alloc _ _ _ (by simp; omega)]; exact h.1
 ·rw [Below.heap_alloc _ _ _ (by simp)]; exact h.2.1
 ·exact heap_new2 (by simp)
theorem lowBlk {N b : Nat} {w w' : World} {X : Obj} (h : w.heap[b]? = some X) (hb : Below N w w') (hN : b < N) : w'.heap[b]? = some X := (hb.block b hN).trans h
structure SN (w1 : World) (bo n3 : Nat) (P Y : Obj) (x : PWld) (wr : World) : Prop where
 pw : ∃ a m lo hi, PW w1.heap.size bo lo hi wr a m x
 bp : wr.heap[n3]? = some P
 bw : wr.heap[n3 + 1]? = some Y
 br : wr.heap[n3 + 2]? = some zW
 low : Below w1.heap.size w1 wr
theorem SN.next {w1 : World} {bo n3 : Nat} {P Y : Obj} {x x' : PWld} {wr wa wb : World} (h : SN w1 bo n3 P Y x wr) (hz : w1.heap.size = n3 + 3) (ha : Below wr.heap.size wr wa) (hp : ∃ a m lo hi, PW w1.heap.size bo lo hi wb a m x') (hb : Below w1.heap.size wa wb) : SN w1 bo n3 P Y x' wb :=
 have e : Below w1.heap.size wr wb := (ha.mono h.low.size).trans hb
 ⟨hp, lowBlk h.bp e (by omega), lowBlk h.bw e (by omega), lowBlk h.br e (by omega), h.low.trans e⟩
theorem SN.below {w1 : World} {bo n3 : Nat} {P Y : Obj} {x : PWld} {wr wa : World} (h : SN w1 bo n3 P Y x wr) (ha : Below wr.heap.size wr wa) : SN w1 bo n3 P Y x wa :=
 let ⟨a, m, lo, hi, hp⟩ := h.pw
 ⟨⟨a, m, lo, hi, hp.below ha⟩, boxAt h.bp ha, boxAt h.bw ha, boxAt h.br ha, bTrans h.low ha⟩
theorem new_one (w : World) (X : Obj) : ∃ w1, w1 = w.alloc X := ⟨_, rfl⟩
theorem send_res {p : PPrg} {x : PWld} {f : Int} {ns : List PNte} (h : inB f (-1) ((x.acts.length : Int) - 1) = false) : sendP p x f ns = x := by unfold sendP; rw [h]; rfl
theorem send_yes {p : PPrg} {x : PWld} {f : Int} {ns : List PNte} (h : inB f (-1) ((x.acts.length : Int) - 1) = true) : sendP p x f ns = sendT p (firstP x f ns.length) f x.acts.length x ns ns.length := by unfold sendP; rw [if_pos h]
theorem step_yes {p : PPrg} {n0 f : Int} {na i : Nat} {x : PWld} {n : PNte} (h : inB n.to 0 ((p.acs.length : Int) - 1) = true) (h2 : n.to < (na : Int)) : stepN p n0 f na x i n = postP p x ⟨⟨f, wrap64 (n0 + i), 0⟩, n⟩ n.to.toNat := by unfold stepN; rw [if_pos ⟨h, h2⟩]
theorem step_post {p : PPrg} {n0 f : Int} {na i : Nat} {x : PWld} {n : PNte} (h : x.acts.length = na) : stepN p n0 f na x i n = postG p x ⟨⟨f, wrap64 (n0 + i), 0⟩, n⟩ := by
 subst h; rfl
set_option maxHeartbeats 4000000 in
set_option maxRecDepth 100000 in
theorem send_any (W : World) (vp vw vn : Value) (p : PPrg) (x : PWld) (f : Int) (ns : List PNte) (hp : PrgV W vp p) (hx : WldV W vw x) (hs : SmW x) (hn : Ntes anyB anyB W vn ns) (hl : ns.length ≤ 300) (hna : ∀ n ∈ ns, n.args.length ≤ 1000) :
  Calls Tryz.prog 39 #[vp, vw, .int .i64 f, vn] W fun e w' => ∃ a m lo hi, e = .returned (wVal (sendP p x f ns).used a m) ∧ WN W.heap.size lo hi w' a m (sendP p x f ns) ∧ Below W.heap.size W w' := by
 have HP := hid_mk hp
 have HX := hid_mk hx
 have HS := hid_mk hs
 obtain ⟨vh, vb, vc, rfl, h1, h2, h3⟩ := hp
 obtain ⟨A1, c1, rfl, hl1⟩ := h1.form
 obtain ⟨A2, c2, rfl, hl2⟩ := h2.form
 obtain ⟨A3, c3, rfl, hl3⟩ := h3.form
 obtain ⟨va, vm, rfl, g1, g2⟩ := hx
 obtain ⟨B1, d1, rfl, hm1⟩ := g1.form
 obtain ⟨B2, d2, rfl, hm2⟩ := g2.form
 obtain ⟨C, cn, rfl, hln⟩ := hn.form
 obtain ⟨w1, hw1⟩ := new_one ((W.alloc (.cells #[.slice A1 p.hs.length c1, .slice A2 p.acs.length c2, .slice A3 p.bs.length c3, .int .i64 p.fuel] 26)).alloc (.cells #[.slice B1 x.acts.length d1, .slice B2 x.mail.length d2, .int .i64 x.used.drop, .int .i64 x.used.dup, .int .i64 x.used.time, .int .i64 x.used.crash] 32)) (.cells #[.slice none 0 0, .slice none 0 0, .int .i64 0, .int .i64 0, .int .i64 0, .int .i64 0] 32)
 have hA := three_new W (.cells #[.slice A1 p.hs.length c1, .slice A2 p.acs.length c2, .slice A3 p.bs.length c3, .int .i64 p.fuel] 26) (.cells #[.slice B1 x.acts.length d1, .slice B2 x.mail.length d2, .int .i64 x.used.drop, .int .i64 x.used.dup, .int .i64 x.used.time, .int .i64 x.used.crash] 32) (.cells #[.slice none 0 0, .slice none 0 0, .int .i64 0, .int .i64 0, .int .i64 0, .int .i64 0] 32)
 have HL1 : Hid (Below W.heap.size W w1) := by rw [hw1]; exact bAlloc (bAlloc (bAlloc (bRefl _) _) _) _
 rw [← hw1] at hA
 have HA0 := hid_mk hA.1
 have HA1 := hid_mk hA.2.1
 have HA2 := hid_mk hA.2.2.1
 have HZ1 := hid_mk hA.2.2.2
 have HW1 := hid_mk hw1
 have HL1' : Hid (Below W.heap.size W (((W.alloc (.cells #[.slice A1 p.hs.length c1, .slice A2 p.acs.length c2, .slice A3 p.bs.length c3, .int .i64 p.fuel] 26)).alloc (.cells #[.slice B1 x.acts.length d1, .slice B2 x.mail.length d2, .int .i64 x.used.drop, .int .i64 x.used.dup, .int .i64 x.used.time, .int .i64 x.used.crash] 32)).alloc (.cells #[.slice none 0 0, .slice none 0 0, .int .i64 0, .int .i64 0, .int .i64 0, .int .i64 0] 32))) := by rw [← hw1]; exact HL1.out
 clear hA hw1 h1 h2 h3 g1 g2 hs
 cases e0 : inB f (-1) ((x.acts.length : Int) - 1) with
 | false =>
  have HR := hid_mk (send_res (p := p) (ns := ns) e0)
  rw [HR.out]
  go_enter Tryz.func39, Tryz.ntmps39
  go_wp2_with (first
   | (go_at_call 37; refine (copyW_any _ _ x (HX.out.below (by exact HL1'.out)) HS.out).mono ?_; rw [← HW1.out]; rintro e w2 ⟨a, m, lo, hi, rfl, hwn, hb2⟩; obtain ⟨A', c', rfl⟩ := hwn.acts.form; obtain ⟨B', d', rfl, _⟩ := hwn.mail.form; have hz2 := hb2.size; have hz1 := HZ1.out; have HW2 := hid_mk hwn; have HB2 := hid_mk hb2; obtain ⟨k0, k1, k2, k3, k4, k5⟩ := blk6 (boxAt HA1.out hb2); obtain ⟨r0, r1, r2, r3, r4, r5⟩ := blk6 (boxAt HA2.out hb2); have fz : ∀ o, w2.frozen? ⟨W.heap.size + 2, o, none⟩ = false := fun o => heap_frozen (boxAt HA2.out hb2); have z4 : W.heap.size + 2 < w2.heap.size := (by omega); have z5 : W.heap.size + 1 < w2.heap.size := (by omega); have z6 : ¬ W.heap.size + 2 = w2.heap.size := (by omega); have z7 : ¬ W.heap.size + 1 = w2.heap.size := (by omega); clear hwn hb2 hz1 hz2)
   | (go_at_call 73; refine (win_any _ _ _ _).mono ?_; rintro e w' ⟨rfl, hw⟩; replace hw := hw.symm; subst hw))
  refine bodyPost_ret (v := wVal x.used (.slice A' x.acts.length c') (.slice B' x.mail.length d')) (by simp [results, Tryz.results39, go_sem, r0, r1, r2, r3, r4, r5, z4]) rfl ⟨_, _, lo, hi, rfl, ?_, ?_⟩
  ·exact ((HW2.out.far (rb := W.heap.size + 1 + 1) put6_same (by have := HZ1.out; omega)).below (bAlloc (bRefl _) _)).mono (by have := HZ1.out; omega)
  ·exact bAlloc (put6_below (bTrans HL1.out HB2.out) (by omega)) _
 | true =>
  have HR := hid_mk (send_yes (p := p) (ns := ns) e0)
  rw [HR.out]
  have HF : Hid (f = -1 ∨ (0 ≤ f ∧ f < x.acts.length)) := by show _ ∨ _; have := inB_iff.1 e0; omega
  obtain ⟨n0, hn0⟩ : ∃ n0, n0 = firstP x f ns.length := ⟨_, rfl⟩
  have HFN : Hid (∀ w', Below W.heap.size W w' → Calls Tryz.prog 74 #[wVal x.used (.slice B1 x.acts.length d1) (.slice B2 x.mail.length d2), .int .i64 f, .int .i64 (ns.length : Int)] w' fun e w'' => e = .returned (.int .i64 n0) ∧ Below w'.heap.size w' w'') := fun w' hb => by
   rw [hn0]; exact firstN_any w' _ x f _ (HX.out.below hb) HF.out
  rw [← hn0]
  clear hn0
  go_enter Tryz.func39, Tryz.ntmps39
  go_wp2_with (first
   | (go_at_call 37; refine (copyW_any _ _ x (HX.out.below (by exact HL1'.out)) HS.out).mono ?_; rw [← HW1.out]; rintro e w2 ⟨a, m, lo, hi, rfl, hwn, hb2⟩; obtain ⟨A', c', rfl⟩ := hwn.acts.form; obtain ⟨B', d', rfl, _⟩ := hwn.mail.form; have hz2 := hb2.size; have hz1 := HZ1.out; have HW2 := hid_mk hwn; have HB2 := hid_mk hb2; obtain ⟨k0, k1, k2, k3, k4, k5⟩ := blk6 (boxAt HA1.out hb2); have z4 : W.heap.size + 2 < w2.heap.size := (by omega); have z5 : W.heap.size + 1 < w2.heap.size := (by omega); have z6 : ¬ W.heap.size + 2 = w2.heap.size := (by omega); have z7 : ¬ W.heap.size + 1 = w2.heap.size := (by omega); clear hwn hb2 hz1 hz2)
   | (go_at_call 73; refine (win_any _ _ _ _).mono ?_; rintro e w' ⟨rfl, hw⟩; replace hw := hw.symm; subst hw)
   | (go_at_call 74; refine (HFN.out _ (by exact bAlloc (bTrans HL1.out HB2.out) _)).mono ?_; rintro e w3 ⟨rfl, hb3⟩; have HB3 := hid_mk hb3; clear hb3))
  have HSN : Hid (SN w1 w2.heap.size W.heap.size (.cells #[.slice A1 p.hs.length c1, .slice A2 p.acs.length c2, .slice A3 p.bs.length c3, .int .i64 p.fuel] 26) (.cells #[.slice B1 x.acts.length d1, .slice B2 x.mail.length d2, .int .i64 x.used.drop, .int .i64 x.used.dup, .int .i64 x.used.time, .int .i64 x.used.crash] 32) x w3) := (SN.below (wr := w2.alloc (.cells #[.slice A' x.acts.length c', .slice B' x.mail.length d', .int .i64 x.used.drop, .int .i64 x.used.dup, .int .i64 x.used.time, .int .i64 x.used.crash] 32)) ⟨⟨_, _, _, _, HW2.out.toPW HB2.out.size⟩, boxAt HA0.out (bAlloc HB2.out _), boxAt HA1.out (bAlloc HB2.out _), boxAt HA2.out (bAlloc HB2.out _), bAlloc HB2.out _⟩ HB3.out)
  clear HW2 k0 k1 k2 k3 k4 k5 z4 z5 z6 z7
  go_loopg [11, 12, 30] ns.length (fun g i11 i12 i30 wr => ∃ k : Nat, g = ns.length - k ∧ k ≤ ns.length ∧ i30 = .int .i64 k ∧ SN w1 w2.heap.size W.heap.size (.cells #[.slice A1 p.hs.length c1, .slice A2 p.acs.length c2, .slice A3 p.bs.length c3, .int .i64 p.fuel] 26) (.cells #[.slice B1 x.acts.length d1, .slice B2 x.mail.length d2, .int .i64 x.used.drop, .int .i64 x.used.dup, .int .i64 x.used.time, .int .i64 x.used.crash] 32) (sendT p n0 f x.acts.length x ns k) wr)
  case atStart => exact ⟨0, rfl, by omega, rfl, HSN.out⟩
  case round =>
   obtain ⟨k, rfl, hk, rfl, sn⟩ := hrel
   have hbw : Below W.heap.size W wr := bTrans HL1.out sn.low
   have HB := hid_mk hbw
   have hz1 := HZ1.out
   have hz2 := sn.low.size
   by_cases hlt : k < ns.length
   ·obtain ⟨bN, oN, n, vN, rfl, hN, hzN, q1, q2, q3, hvN⟩ := hn.cell hbw hlt
    obtain ⟨VN, nN, rfl, _⟩ := hvN.form
    obtain ⟨p0, p1, p2, p3⟩ := blk4 sn.bp
    obtain ⟨k0, k1, k2, k3, k4, k5⟩ := blk6 sn.bw
    have z1 : W.heap.size < wr.heap.size := by omega
    have z2 : W.heap.size + 1 < wr.heap.size := by omega
    have z3 : W.heap.size < wr.heap.size + 1 := by omega
    have z4 : W.heap.size + 1 < wr.heap.size + 1 := by omega
    have HSK := hid_mk sn
    have HN := hid_mk (step_at (p := p) (n0 := n0) (f := f) (na := x.acts.length) (x0 := x) hN)
    have hn6 : n.args.length ≤ 1000 := hna n (List.mem_of_getElem? hN)
    have hfew : Few (sendT p n0 f x.acts.length x ns k).mail := ⟨by have := @send_mail p n0 f x.acts.length x ns k; have := HS.out.mail; omega, send_args HS.out.args hna k⟩
    have hsz : (sendT p n0 f x.acts.length x ns k).acts.length ≤ 1000 := by rw [send_acts]; have := HS.out.n; omega
    have HQ := hid_mk (And.intro hfew hsz)
    have HE := hid_mk (step_post (p := p) (n0 := n0) (f := f) (na := x.acts.length) (i := k) (n := n) (x := sendT p n0 f x.acts.length x ns k) (by rw [send_acts]))
    obtain ⟨a9, m9, lo9, hi9, hpw⟩ := HSK.out.pw
    have HPW := hid_mk hpw
    clear sn hbw hN hz1 hz2 hfew hsz hpw
    go_wp2_with (first
     | (go_at_call 75; refine (post_any w1.heap.size w2.heap.size lo9 hi9 _ _ a9 m9 _ p (sendT p n0 f x.acts.length x ns k) ⟨⟨f, wrap64 (n0 + k), 0⟩, n⟩ (HP.out.below (bTrans HB.out (bAlloc (bRefl _) _))) (HPW.out.below (bAlloc (bRefl _) _)) (hvN.below (bAlloc (bRefl _) _)) HQ.out.1 hn6 HQ.out.2).mono ?_; rintro e w5 ⟨rfl, hp5, hb5⟩))
    go_roundg (ns.length - (k + 1))
    case measure => omega
    case rel => exact ⟨k + 1, rfl, by omega, by go_num, by rw [HN.out, HE.out]; exact HSK.out.next HZ1.out (bAlloc (bRefl _) _) hp5 hb5⟩
   ·obtain rfl : k = ns.length := by omega
    obtain ⟨a9, m9, lo9, hi9, hpw⟩ := sn.pw
    have HPW := hid_mk hpw
    have hal := @send_acts p n0 f x.acts.length x ns ns.length
    obtain ⟨A9, c9, rfl⟩ := hpw.acts.form
    obtain ⟨B9, d9, rfl, _⟩ := hpw.mail.form
    obtain ⟨k0, k1, k2, k3, k4, k5⟩ := blk6 hpw.box
    obtain ⟨r0, r1, r2, r3, r4, r5⟩ := blk6 sn.br
    have fz : ∀ o, wr.frozen? ⟨W.heap.size + 2, o, none⟩ = false := fun o => heap_frozen sn.br
    have HSK := hid_mk sn
    clear hpw sn hbw hz1 hz2 hal
    generalize hX : sendT p n0 f x.acts.length x ns ns.length = X at *
    have HX9 := hid_mk hX
    clear hX
    go_wp2
    refine bodyPost_ret (v := wVal X.used (.slice A9 X.acts.length c9) (.slice B9 X.mail.length d9)) (by simp [results, Tryz.results39, go_sem, r0, r1, r2, r3, r4, r5]) rfl ⟨_, _, lo9, hi9, by rw [HX9.out], ?_, ?_⟩
    ·rw [HX9.out]
     exact (HPW.out.wn.far (rb := W.heap.size + 1 + 1) put6_same (by have := HZ1.out; omega)).mono (by have := HZ1.out; omega)
    ·exact put6_below (bTrans HL1.out HSK.out.low) (by omega)
end Go.Proofs.YtfbeiedhdmndnaaGreatDoor
namespace Go.Proofs.YtfbeiedhdmndnaaGreatDoor
open Go.RowKit
noncomputable def chkW (p : PPrg) (x : PWld) : Bool := decide (fc p = 0) && (chkAs p x.acts && (chkM p x && chkUsed x.used))
theorem chkAs_len {p : PPrg} {l : List PLoc} (h : l.length ≠ p.acs.length) : false = chkAs p l := by unfold chkAs; exact (decide_eq_false (fun e => h e.1)).symm
theorem chkAs_no {p : PPrg} {l : List PLoc} {k : Nat} {a : PAct} {x : PLoc} (ha : p.acs[k]? = some a) (hx : l[k]? = some x) (h : chkLoc a x = false) : false = chkAs p l := by
 unfold chkAs
 refine (decide_eq_false (fun e => ?_)).symm
 have hk := (List.getElem?_eq_some_iff.1 hx).1
 have := e.2 k hk
 rw [List.getD_eq_getElem?_getD, List.getD_eq_getElem?_getD, ha, hx, Option.getD_some, Option.getD_some, h] at this
 cases this
theorem chkAs_yes {p : PPrg} {l : List PLoc} {k : Nat} (hk : ¬ k < l.length) (hl : l.length = p.acs.length) (h : ∀ i, i < k → chkLoc (p.acs.getD i default) (l.getD i default) = true) : true = chkAs p l := by
 unfold chkAs
 exact (decide_eq_true ⟨hl, fun i hi => h i (by omega)⟩).symm
theorem chkAs_next {p : PPrg} {l : List PLoc} {k : Nat} {a : PAct} {x : PLoc} (ha : p.acs[k]? = some a) (hx : l[k]? = some x) (h : chkLoc a x = true) (hb : ∀ i, i < k → chkLoc (p.acs.getD i default) (l.getD i default) = true) : ∀ i, i < k + 1 → chkLoc (p.acs.getD i default) (l.getD i default) = true := by
 intro i hi
 by_cases e : i = k
 ·subst e; rw [List.getD_eq_getElem?_getD, List.getD_eq_getElem?_getD, ha, hx, Option.getD_some, Option.getD_some, h]
 ·exact hb i (by omega)
theorem one_new (w : World) (X : Obj) : ∃ w1, w1 = w.alloc X := ⟨_, rfl⟩

set_option maxHeartbeats 4000000 in
set_option maxRecDepth 100000 in
theorem chkActs_any (w : World) (vp va : Value) (p : PPrg) (l : List PLoc) (hp : PrgV w vp p) (hl : Locs anyB anyB w va l) :
  Calls Tryz.prog 91 #[vp, va] w fun e w' => e = .returned (.bool (chkAs p l)) ∧ Below w.heap.size w w' := by
 obtain ⟨vh, vb, vc, rfl, h1, h2, h3⟩ := hp
 obtain ⟨A1, c1, rfl, hl1⟩ := h1.form
 obtain ⟨A2, c2, rfl, hl2⟩ := h2.form
 obtain ⟨A3, c3, rfl, hl3⟩ := h3.form
 obtain ⟨A, c, rfl, hll⟩ := hl.form
 clear h1 h3
 by_cases e0 : l.length = p.acs.length
 ·have e1 := lt_eq e0
  have E0 : Hid (l.length = p.acs.length) := e0
  obtain ⟨w1, hw1⟩ := one_new w (.cells #[.slice A1 p.hs.length c1, .slice A2 p.acs.length c2, .slice A3 p.bs.length c3, .int .i64 p.fuel] 26)
  have hA1 : w1.heap[w.heap.size]? = some (.cells #[.slice A1 p.hs.length c1, .slice A2 p.acs.length c2, .slice A3 p.bs.length c3, .int .i64 p.fuel] 26) := by rw [hw1]; exact heap_new _ _
  have HL1 : Hid (Below w.heap.size w w1) := by rw [hw1]; exact bAlloc (bRefl _) _
  have HA1 := hid_mk hA1
  have HW1 := hid_mk hw1
  clear e0 hA1 hw1
  go_enter Tryz.func91, Tryz.ntmps91
  go_wp2
  go_loopg [5, 6, 15] l.length (fun g i5 i6 i15 wr => ∃ k : Nat, g = l.length - k ∧ k ≤ l.length ∧ i15 = .int .i64 k ∧ Hid (∀ i, i < k → chkLoc (p.acs.getD i default) (l.getD i default) = true) ∧ Below w1.heap.size w1 wr)
  case atStart => exact ⟨0, rfl, by omega, rfl, (fun i hi => by omega), by rw [HW1.out]; exact bRefl _⟩
  case round =>
   obtain ⟨k, rfl, hk, rfl, ht, hb⟩ := hrel
   have hbw : Below w.heap.size w wr := bTrans HL1.out hb
   have hP := boxAt HA1.out hb
   by_cases hlt : k < l.length
   ·obtain ⟨b1, o1, x, v1, rfl, hx, hz1, q1, q2, q3, q4, q5, hv1⟩ := hl.cell hbw hlt
    obtain ⟨b2, o2, a, v2, rfl, ha, hz2, s1, s2, s3, s4, hv2⟩ := h2.cell hbw (k := k) (by have := E0.out; omega)
    obtain ⟨V1, n1, rfl, _⟩ := hv1.form
    obtain ⟨V2, n2, rfl, _⟩ := hv2.form
    have hlt2 : (k : Int) < p.acs.length := by have := E0.out; omega
    have HX : Hid (l[k]? = some x) := hx
    have HA : Hid (p.acs[k]? = some a) := ha
    have HB : Hid (Below w.heap.size w wr) := hbw
    have HB1 : Hid (Below w1.heap.size w1 wr) := hb
    clear hx ha hb hbw
    cases e2 : chkLoc a x with
    | true =>
     go_wp2_with fail
     have hB5 : (wr.alloc (.cells #[.slice V1 x.regs.length n1, .bool x.armed, .int .i64 x.down, .int .i64 x.sent, .int .i64 x.over] 56)).heap[wr.heap.size]? = some (.cells #[.slice V1 x.regs.length n1, .bool x.armed, .int .i64 x.down, .int .i64 x.sent, .int .i64 x.over] 56) := heap_new _ _
     have HLr : Hid (Below wr.heap.size wr (wr.alloc (.cells #[.slice V1 x.regs.length n1, .bool x.armed, .int .i64 x.down, .int .i64 x.sent, .int .i64 x.over] 56))) := bAlloc (bRefl _) _
     generalize (wr.alloc (.cells #[.slice V1 x.regs.length n1, .bool x.armed, .int .i64 x.down, .int .i64 x.sent, .int .i64 x.over] 56)) = wa at hB5 HLr ⊢
     obtain ⟨r0, r1, r2, r3, r4⟩ := blk5 hB5
     obtain ⟨p0, p1, p2, p3⟩ := blk4 (boxAt hP HLr.out)
     have t1 := (HLr.out.cell (p := ⟨b2, o2 + k * 4, none⟩) hz2).trans s1
     have t2 := (HLr.out.cell (p := ⟨b2, o2 + k * 4 + 1, none⟩) hz2).trans s2
     have t3 := (HLr.out.cell (p := ⟨b2, o2 + k * 4 + 2, none⟩) hz2).trans s3
     have t4 := (HLr.out.cell (p := ⟨b2, o2 + k * 4 + 3, none⟩) hz2).trans s4
     have z1 : wr.heap.size < wa.heap.size := (Array.getElem?_eq_some_iff.1 hB5).1
     have z2 : b2 < wa.heap.size := by omega
     have z3 : w.heap.size < wa.heap.size := Nat.lt_trans (Array.getElem?_eq_some_iff.1 hP).1 z1
     clear s1 s2 s3 s4 q1 q2 q3 q4 q5 hB5 hP
     go_region_held3 (fun w' => w'.cell? ⟨w.heap.size, 1, none⟩ = some (.slice (some ⟨b2, o2, none⟩) p.acs.length c2) ∧ w'.cell? ⟨b2, o2 + k * 4, none⟩ = some (.slice V2 a.regs.length n2) ∧ w'.cell? ⟨b2, o2 + k * 4 + 1, none⟩ = some (.int .i64 a.cap) ∧ w'.cell? ⟨b2, o2 + k * 4 + 2, none⟩ = some (.int .i64 a.timer) ∧ w'.cell? ⟨b2, o2 + k * 4 + 3, none⟩ = some (.bool a.armed) ∧
      w'.cell? ⟨wr.heap.size, 0, none⟩ = some (.slice V1 x.regs.length n1) ∧ w'.cell? ⟨wr.heap.size, 1, none⟩ = some (.bool x.armed) ∧ w'.cell? ⟨wr.heap.size, 2, none⟩ = some (.int .i64 x.down) ∧ w'.cell? ⟨wr.heap.size, 3, none⟩ = some (.int .i64 x.sent) ∧ w'.cell? ⟨wr.heap.size, 4, none⟩ = some (.int .i64 x.over)) (go_keep)
      (first | (go_at_call 116; refine (chkLocal_any _ _ _ a x ⟨_, rfl, hv2.below (by first | exact HLr.out | exact HLr.out.drew)⟩ ⟨_, rfl, hv1.below (by first | exact HLr.out | exact HLr.out.drew)⟩).mono ?_; rintro e w2 ⟨rfl, hb2⟩; have hc2 := (by first | exact bcell (undrew hb2) | exact bcell hb2); have HB2 := hid_mk (bTrans (by first | exact HLr.out | exact HLr.out.drew) hb2)))
     all_goals
      go_wp2
      go_roundg (l.length - (k + 1))
      case measure => omega
      case rel => exact ⟨k + 1, rfl, by omega, by go_num, chkAs_next HA.out HX.out e2 ht.out, bTrans HB1.out HB2.out⟩
    | false =>
     go_wp2_with fail
     have hB5 : (wr.alloc (.cells #[.slice V1 x.regs.length n1, .bool x.armed, .int .i64 x.down, .int .i64 x.sent, .int .i64 x.over] 56)).heap[wr.heap.size]? = some (.cells #[.slice V1 x.regs.length n1, .bool x.armed, .int .i64 x.down, .int .i64 x.sent, .int .i64 x.over] 56) := heap_new _ _
     have HLr : Hid (Below wr.heap.size wr (wr.alloc (.cells #[.slice V1 x.regs.length n1, .bool x.armed, .int .i64 x.down, .int .i64 x.sent, .int .i64 x.over] 56))) := bAlloc (bRefl _) _
     generalize (wr.alloc (.cells #[.slice V1 x.regs.length n1, .bool x.armed, .int .i64 x.down, .int .i64 x.sent, .int .i64 x.over] 56)) = wa at hB5 HLr ⊢
     obtain ⟨r0, r1, r2, r3, r4⟩ := blk5 hB5
     obtain ⟨p0, p1, p2, p3⟩ := blk4 (boxAt hP HLr.out)
     have t1 := (HLr.out.cell (p := ⟨b2, o2 + k * 4, none⟩) hz2).trans s1
     have t2 := (HLr.out.cell (p := ⟨b2, o2 + k * 4 + 1, none⟩) hz2).trans s2
     have t3 := (HLr.out.cell (p := ⟨b2, o2 + k * 4 + 2, none⟩) hz2).trans s3
     have t4 := (HLr.out.cell (p := ⟨b2, o2 + k * 4 + 3, none⟩) hz2).trans s4
     have z1 : wr.heap.size < wa.heap.size := (Array.getElem?_eq_some_iff.1 hB5).1
     have z2 : b2 < wa.heap.size := by omega
     have z3 : w.heap.size < wa.heap.size := Nat.lt_trans (Array.getElem?_eq_some_iff.1 hP).1 z1
     clear s1 s2 s3 s4 q1 q2 q3 q4 q5 hB5 hP
     go_region_held3 (fun w' => w'.cell? ⟨w.heap.size, 1, none⟩ = some (.slice (some ⟨b2, o2, none⟩) p.acs.length c2) ∧ w'.cell? ⟨b2, o2 + k * 4, none⟩ = some (.slice V2 a.regs.length n2) ∧ w'.cell? ⟨b2, o2 + k * 4 + 1, none⟩ = some (.int .i64 a.cap) ∧ w'.cell? ⟨b2, o2 + k * 4 + 2, none⟩ = some (.int .i64 a.timer) ∧ w'.cell? ⟨b2, o2 + k * 4 + 3, none⟩ = some (.bool a.armed) ∧
      w'.cell? ⟨wr.heap.size, 0, none⟩ = some (.slice V1 x.regs.length n1) ∧ w'.cell? ⟨wr.heap.size, 1, none⟩ = some (.bool x.armed) ∧ w'.cell? ⟨wr.heap.size, 2, none⟩ = some (.int .i64 x.down) ∧ w'.cell? ⟨wr.heap.size, 3, none⟩ = some (.int .i64 x.sent) ∧ w'.cell? ⟨wr.heap.size, 4, none⟩ = some (.int .i64 x.over)) (go_keep)
      (first | (go_at_call 116; refine (chkLocal_any _ _ _ a x ⟨_, rfl, hv2.below (by first | exact HLr.out | exact HLr.out.drew)⟩ ⟨_, rfl, hv1.below (by first | exact HLr.out | exact HLr.out.drew)⟩).mono ?_; rintro e w2 ⟨rfl, hb2⟩; have hc2 := (by first | exact bcell (undrew hb2) | exact bcell hb2); have HB2 := hid_mk (bTrans (by first | exact HLr.out | exact HLr.out.drew) hb2)))
     all_goals
      go_wp2
      go_ret
      exact ⟨ret_b (chkAs_no HA.out HX.out e2), bTrans HB.out HB2.out⟩
   ·go_wp2
    go_ret
    exact ⟨ret_b (chkAs_yes hlt E0.out ht.out), hbw⟩
 ·have e1 := lt_ne e0
  go_enter Tryz.func91, Tryz.ntmps91
  go_wp2
  go_ret
  exact ⟨ret_b (chkAs_len e0), bAlloc (bRefl _) _⟩
theorem chkM_no {p : PPrg} {x : PWld} {k : Nat} {m : PMsg} (hm : x.mail[k]? = some m) (h : (chkNt p m.nt && chkD x m.id) = false) : false = chkM p x := by
 unfold chkM
 rw [show x.mail.all (fun m => chkNt p m.nt && chkD x m.id) = false from List.all_eq_false.2 ⟨m, List.mem_of_getElem? hm, by rw [h]; simp⟩]; rfl
theorem chkM_yes {p : PPrg} {x : PWld} {k : Nat} (hk : ¬ k < x.mail.length) (h : ∀ (i : Nat) (m : PMsg), i < k → x.mail[i]? = some m → (chkNt p m.nt && chkD x m.id) = true) : srt x.mail = chkM p x := by
 unfold chkM
 rw [show x.mail.all (fun m => chkNt p m.nt && chkD x m.id) = true from List.all_eq_true.2 fun m hm => by
  obtain ⟨i, hi⟩ := List.getElem?_of_mem hm
  exact h i m (by have := (List.getElem?_eq_some_iff.1 hi).1; omega) hi]; simp
theorem chkM_next {p : PPrg} {x : PWld} {k : Nat} {m : PMsg} (hm : x.mail[k]? = some m) (h1 : chkNt p m.nt = true) (h2 : chkD x m.id = true) (hb : ∀ (i : Nat) (m : PMsg), i < k → x.mail[i]? = some m → (chkNt p m.nt && chkD x m.id) = true) : ∀ (i : Nat) (m : PMsg), i < k + 1 → x.mail[i]? = some m → (chkNt p m.nt && chkD x m.id) = true := by
 intro i y hi hy
 by_cases e : i = k
 ·subst e; rw [hm] at hy; cases hy; rw [h1, h2]; rfl
 ·exact hb i y (by omega) hy
set_option maxHeartbeats 4000000 in
set_option maxRecDepth 100000 in
theorem chkMail_any (w : World) (vp vw : Value) (p : PPrg) (x : PWld) (hp : PrgV w vp p) (hx : WldV w vw x) :
  Calls Tryz.prog 92 #[vp, vw] w fun e w' => e = .returned (.bool (chkM p x)) ∧ Below w.heap.size w w' := by
 have HP := hid_mk hp
 have HX := hid_mk hx
 obtain ⟨vh, vb, vc, rfl, h1, h2, h3⟩ := hp
 obtain ⟨A1, c1, rfl, hl1⟩ := h1.form
 obtain ⟨A2, c2, rfl, hl2⟩ := h2.form
 obtain ⟨A3, c3, rfl, hl3⟩ := h3.form
 obtain ⟨va, vm, rfl, g1, g2⟩ := hx
 obtain ⟨B1, d1, rfl, hm1⟩ := g1.form
 obtain ⟨B2, d2, rfl, hm2⟩ := g2.form
 clear h1 h2 h3 g1
 obtain ⟨w1, hw1⟩ := one_new (w.alloc (.cells #[.slice A1 p.hs.length c1, .slice A2 p.acs.length c2, .slice A3 p.bs.length c3, .int .i64 p.fuel] 26)) (.cells #[.slice B1 x.acts.length d1, .slice B2 x.mail.length d2, .int .i64 x.used.drop, .int .i64 x.used.dup, .int .i64 x.used.time, .int .i64 x.used.crash] 32)
 have hA1 := (two_new w (.cells #[.slice A1 p.hs.length c1, .slice A2 p.acs.length c2, .slice A3 p.bs.length c3, .int .i64 p.fuel] 26) (.cells #[.slice B1 x.acts.length d1, .slice B2 x.mail.length d2, .int .i64 x.used.drop, .int .i64 x.used.dup, .int .i64 x.used.time, .int .i64 x.used.crash] 32))
 have HL1 : Hid (Below w.heap.size w w1) := by rw [hw1]; exact bAlloc (bAlloc (bRefl _) _) _
 rw [← hw1] at hA1
 have HA1 := hid_mk hA1.1
 have HA2 := hid_mk hA1.2.1
 have HW1 := hid_mk hw1
 clear hA1 hw1
 go_enter Tryz.func92, Tryz.ntmps92
 go_wp2
 go_loopg [6, 10] x.mail.length (fun g i6 i10 wr => ∃ k : Nat, g = x.mail.length - k ∧ k ≤ x.mail.length ∧ i10 = .int .i64 k ∧ Hid (∀ (i : Nat) (m : PMsg), i < k → x.mail[i]? = some m → (chkNt p m.nt && chkD x m.id) = true) ∧ Below w1.heap.size w1 wr)
 case atStart => exact ⟨0, rfl, by omega, rfl, (fun i m hi => by omega), by rw [HW1.out]; exact bRefl _⟩
 case round =>
  obtain ⟨k, rfl, hk, rfl, ht, hb⟩ := hrel
  have hbw : Below w.heap.size w wr := bTrans HL1.out hb
  have HB := hid_mk hbw
  have HB1 := hid_mk hb
  obtain ⟨p0, p1, p2, p3⟩ := blk4 (boxAt HA1.out hb)
  obtain ⟨u0, u1, u2, u3, u4, u5⟩ := blk6 (boxAt HA2.out hb)
  have z0 : w.heap.size + 1 < wr.heap.size := (Array.getElem?_eq_some_iff.1 (boxAt HA2.out hb)).1
  have z1 : w.heap.size < wr.heap.size := by omega
  have z2 : w.heap.size + 1 < wr.heap.size + 1 := by omega
  have z3 : w.heap.size < wr.heap.size + 1 := by omega
  by_cases hlt : k < x.mail.length
  ·obtain ⟨b1, o1, m, v1, rfl, hx, hz1, q1, q2, q3, q4, q5, q6, hv1⟩ := g2.cell hbw hlt
   obtain ⟨V1, n1, rfl, _⟩ := hv1.form
   have HM := hid_mk hx
   clear hx hb hbw
   cases e1 : chkNt p m.nt with
   | false =>
    go_wp2_with (first
     | (go_at_call 117; refine (chkNote_any _ _ _ p m.nt (HP.out.below (by exact bAlloc HB.out _)) ⟨_, rfl, hv1.below (by exact bAlloc (bRefl _) _)⟩).mono ?_; rintro e w2 ⟨rfl, hb2⟩; have hc2 := bcell hb2; have hz2 := hb2.size))
    go_ret
    exact ⟨ret_b (chkM_no HM.out (by rw [e1]; rfl)), bTrans (bAlloc HB.out _) hb2⟩
   | true =>
    cases e2 : chkD x m.id with
    | false =>
     go_wp2_with (first
      | (go_at_call 117; refine (chkNote_any _ _ _ p m.nt (HP.out.below (by exact bAlloc HB.out _)) ⟨_, rfl, hv1.below (by exact bAlloc (bRefl _) _)⟩).mono ?_; rintro e w2 ⟨rfl, hb2⟩; have hc2 := bcell hb2; have HB2 := hid_mk (bTrans (bAlloc HB.out _) hb2); have HB3 := hid_mk (bTrans (bAlloc HB1.out _) hb2); clear hb2)
      | (go_at_call 118; refine (chkID_any _ _ x m.id (HX.out.below HB2.out)).mono ?_; rintro e w3 ⟨rfl, hb3⟩))
     go_ret
     exact ⟨ret_b (chkM_no HM.out (by rw [e1, e2]; rfl)), bTrans HB2.out hb3⟩
    | true =>
     go_wp2_with (first
      | (go_at_call 117; refine (chkNote_any _ _ _ p m.nt (HP.out.below (by exact bAlloc HB.out _)) ⟨_, rfl, hv1.below (by exact bAlloc (bRefl _) _)⟩).mono ?_; rintro e w2 ⟨rfl, hb2⟩; have hc2 := bcell hb2; have HB2 := hid_mk (bTrans (bAlloc HB.out _) hb2); have HB3 := hid_mk (bTrans (bAlloc HB1.out _) hb2); clear hb2)
      | (go_at_call 118; refine (chkID_any _ _ x m.id (HX.out.below HB2.out)).mono ?_; rintro e w3 ⟨rfl, hb3⟩))
     go_roundg (x.mail.length - (k + 1))
     case measure => omega
     case rel => exact ⟨k + 1, rfl, by omega, by go_num, chkM_next HM.out e1 e2 ht.out, bTrans HB3.out hb3⟩
  ·go_wp2_with (first | (go_at_call 119; refine (sorted_any _ _ x.mail (g2.below HB.out)).mono ?_; rintro e w2 ⟨rfl, hb2⟩))
   go_ret
   exact ⟨ret_b (chkM_yes hlt ht.out), bTrans HB.out hb2⟩
theorem chkW_1 {p : PPrg} {x : PWld} (h : fc p ≠ 0) : false = chkW p x := by unfold chkW; rw [decide_eq_false h]; rfl
theorem chkW_2 {p : PPrg} {x : PWld} (h2 : chkAs p x.acts = false) : false = chkW p x := by unfold chkW; rw [h2]; simp
theorem chkW_3 {p : PPrg} {x : PWld} (h3 : chkM p x = false) : false = chkW p x := by unfold chkW; rw [h3]; simp
theorem chkW_4 {p : PPrg} {x : PWld} (h : fc p = 0) (h2 : chkAs p x.acts = true) (h3 : chkM p x = true) : chkUsed x.used = chkW p x := by unfold chkW; rw [h2, h3, decide_eq_true h]; simp
theorem beq0_yes {n : Int} (h : n = 0) : (n == 0) = true := by simp [h]
theorem beq0_no {n : Int} (h : n ≠ 0) : (n == 0) = false := by simp [h]
set_option maxHeartbeats 4000000 in
set_option maxRecDepth 100000 in
theorem check_W (w : World) (vp vw : Value) (p : PPrg) (x : PWld) (ht : Tab w) (hp : PrgV w vp p) (hx : WldV w vw x) :
  Calls Tryz.prog 62 #[vp, vw] w fun e w' => e = .returned (.bool (chkW p x)) ∧ Below w.heap.size w w' := by
 have HP := hid_mk hp
 have HX := hid_mk hx
 have HT := hid_mk ht
 obtain ⟨vh, vb, vc, rfl, h1, h2, h3⟩ := hp
 obtain ⟨A1, c1, rfl, hl1⟩ := h1.form
 obtain ⟨A2, c2, rfl, hl2⟩ := h2.form
 obtain ⟨A3, c3, rfl, hl3⟩ := h3.form
 obtain ⟨va, vm, rfl, g1, g2⟩ := hx
 obtain ⟨B1, d1, rfl, hm1⟩ := g1.form
 obtain ⟨B2, d2, rfl, hm2⟩ := g2.form
 have HG1 := hid_mk g1
 have HB : ∀ (x y : Obj), Below w.heap.size w ((w.alloc x).alloc y) := fun x y => bAlloc (bAlloc (bRefl w) x) y
 clear h1 h2 h3 g1 g2 ht
 by_cases e1 : fc p = 0
 ·have e1' := beq0_yes e1
  have E1 := hid_mk e1
  clear e1
  cases e2 : chkAs p x.acts with
  | false =>
   go_enter Tryz.func62, Tryz.ntmps62
   go_wp2_with (first
    | (go_at_call 68; refine (fcheck_any _ _ p (HT.out.below (by exact HB _ _)) (HP.out.below (by exact HB _ _))).mono ?_; rintro e w2 ⟨rfl, hb2⟩; have hc2 := bcell hb2; have HB2 := hid_mk (bTrans (HB _ _) hb2); clear hb2)
    | (go_at_call 91; refine (chkActs_any _ _ _ p x.acts (HP.out.below HB2.out) (HG1.out.below HB2.out)).mono ?_; rintro e w3 ⟨rfl, hb3⟩))
   go_ret
   exact ⟨ret_b (chkW_2 e2), bTrans HB2.out hb3⟩
  | true =>
   cases e3 : chkM p x with
   | false =>
    go_enter Tryz.func62, Tryz.ntmps62
    go_wp2_with (first
     | (go_at_call 68; refine (fcheck_any _ _ p (HT.out.below (by exact HB _ _)) (HP.out.below (by exact HB _ _))).mono ?_; rintro e w2 ⟨rfl, hb2⟩; have hc2 := bcell hb2; have hz2 := hb2.size; have HB2 := hid_mk (bTrans (HB _ _) hb2); have hz3 : w.heap.size + 1 < w2.heap.size := (by simp at hz2; omega); have hz4 : w.heap.size < w2.heap.size := (by omega); clear hb2 hz2)
     | (go_at_call 91; refine (chkActs_any _ _ _ p x.acts (HP.out.below HB2.out) (HG1.out.below HB2.out)).mono ?_; rintro e w3 ⟨rfl, hb3⟩; have hc3 := bcell hb3; have HB3 := hid_mk (bTrans HB2.out hb3); clear hb3)
     | (go_at_call 92; refine (chkMail_any _ _ _ p x (HP.out.below HB3.out) (HX.out.below HB3.out)).mono ?_; rintro e w4 ⟨rfl, hb4⟩))
    go_ret
    exact ⟨ret_b (chkW_3 e3), bTrans HB3.out hb4⟩
   | true =>
    go_enter Tryz.func62, Tryz.ntmps62
    go_wp2_with (first
     | (go_at_call 68; refine (fcheck_any _ _ p (HT.out.below (by exact HB _ _)) (HP.out.below (by exact HB _ _))).mono ?_; rintro e w2 ⟨rfl, hb2⟩; have hc2 := bcell hb2; have hz2 := hb2.size; have HB2 := hid_mk (bTrans (HB _ _) hb2); have hz3 : w.heap.size + 1 < w2.heap.size := (by simp at hz2; omega); have hz4 : w.heap.size < w2.heap.size := (by omega); clear hb2 hz2)
     | (go_at_call 91; refine (chkActs_any _ _ _ p x.acts (HP.out.below HB2.out) (HG1.out.below HB2.out)).mono ?_; rintro e w3 ⟨rfl, hb3⟩; have hc3 := bcell hb3; have HB3 := hid_mk (bTrans HB2.out hb3); have hz5 : w.heap.size + 1 < w3.heap.size := Nat.lt_of_lt_of_le hz3 hb3.size; have hz6 : w.heap.size < w3.heap.size := (by omega); clear hb3)
     | (go_at_call 92; refine (chkMail_any _ _ _ p x (HP.out.below HB3.out) (HX.out.below HB3.out)).mono ?_; rintro e w4 ⟨rfl, hb4⟩; have hc4 := bcell hb4; have HB4 := hid_mk (bTrans HB3.out hb4); clear hb4)
     | (go_at_call 93; refine (chkUsed_any _ x.used).mono ?_; rintro e w5 ⟨rfl, hb5⟩))
    go_ret
    exact ⟨ret_b (chkW_4 E1.out e2 e3), bTrans HB4.out hb5⟩
 ·have e1' := beq0_no e1
  have E1 := hid_mk e1
  clear e1
  go_enter Tryz.func62, Tryz.ntmps62
  go_wp2_with (first
   | (go_at_call 68; refine (fcheck_any _ _ p (HT.out.below (by exact HB _ _)) (HP.out.below (by exact HB _ _))).mono ?_; rintro e w2 ⟨rfl, hb2⟩))
  go_ret
  exact ⟨ret_b (chkW_1 E1.out), bTrans (HB _ _) hb2⟩
end Go.Proofs.YtfbeiedhdmndnaaGreatDoor
namespace Go.Proofs.YtfbeiedhdmndnaaGreatDoor
open Go.RowKit
structure PEv where
 kind : Int
 id : PID
 who : Int
 deriving DecidableEq, Inhabited
abbrev eVal (e : PEv) : Value := .agg #[.int .i64 e.kind, .int .i64 e.id.f, .int .i64 e.id.n, .int .i64 e.id.c, .int .i64 e.who]
def mayB (b : PBud) : Bool := inB b.drop 0 1000 && (inB b.dup 0 1000 && (inB b.time 0 1000 && inB b.crash 0 1000))
def restI (a b : Int) : Int := if wrap64 (a - b) > 0 then wrap64 (a - b) else 0
def leftB (b u : PBud) : PBud := ⟨restI b.drop u.drop, restI b.dup u.dup, restI b.time u.time, restI b.crash u.crash⟩
def ofM (l : PBud) (x : PWld) (k : Int) (m : PMsg) : Bool := if k = 1 then decide ((x.acts.getD m.nt.to.toNat default).down = 0) else if k = 2 then decide (0 < l.drop) else if k = 3 then decide (0 < l.dup) else false
def ofA (l : PBud) (k : Int) (a : PLoc) : Bool := if k = 4 then decide (a.down = 0) && a.armed && decide (0 < l.time) else if k = 5 then decide (a.down = 0) && decide (0 < l.crash) else false
noncomputable def fitsP (p : PPrg) (b : PBud) (x : PWld) : Bool := mayB b && chkW p x
set_option maxHeartbeats 400000 in
theorem mayBe_any (n : Int) (w : World) : Calls Tryz.prog 115 #[.int .i64 n] w fun e w' => e = .returned (.bool (inB n 0 1000)) ∧ w' = w := by
 by_cases h : 0 ≤ n
 ·go_enter Tryz.func115, Tryz.ntmps115
  go_wp2
  go_ret
  exact ⟨ret_bool (by simp [inB, h]), rfl⟩
 ·go_enter Tryz.func115, Tryz.ntmps115
  go_wp2
  go_ret
  exact ⟨ret_bool (by simp [inB]; omega), rfl⟩
theorem run_max0 (P : Program) (w : World) (ts : Array TypeId) (t : TypeId) (a b : Int) : (Builtin.max_ ts t #[.int .i64 0, .int .i64 (wrap64 (a - b))]).run P w = .ok (.int .i64 (restI a b)) w := by
 rw [run_max_int2]; rfl
section
attribute [local go_sem ↓] run_max0
theorem rest_any (a b : Int) (w : World) : Calls Tryz.prog 87 #[.int .i64 a, .int .i64 b] w fun e w' => e = .returned (.int .i64 (restI a b)) ∧ w' = w := by
 go_enter Tryz.func87, Tryz.ntmps87
 go_wp2
 go_ret
 exact ⟨rfl, rfl⟩
end
theorem runs_any (w : World) (x : PLoc) (c : Value) : Calls Tryz.prog 90 #[lVal x c] w fun e w' => e = .returned (.bool (decide (x.down = 0))) ∧ Below w.heap.size w w' := by
 go_enter Tryz.func90, Tryz.ntmps90
 go_wp2
 go_ret
 exact ⟨ret_b rfl, bAlloc (bRefl _) _⟩
set_option maxHeartbeats 1000000 in
theorem may_any (w : World) (b : PBud) : Calls Tryz.prog 86 #[uVal b] w fun e w' => e = .returned (.bool (mayB b)) ∧ Below w.heap.size w w' := by
 cases h1 : inB b.drop 0 1000
 ·have HR : Hid (false = mayB b) := by show _ = _; unfold mayB; simp [h1]
  go_enter Tryz.func86, Tryz.ntmps86
  go_wp2_with (first | (go_at_call 115; refine (mayBe_any _ _).mono ?_; rintro e w2 ⟨rfl, rfl⟩))
  go_ret
  exact ⟨ret_b HR.out, bAlloc (bRefl _) _⟩
 ·cases h2 : inB b.dup 0 1000
  ·have HR : Hid (false = mayB b) := by show _ = _; unfold mayB; simp [h1, h2]
   go_enter Tryz.func86, Tryz.ntmps86
   go_wp2_with (first | (go_at_call 115; refine (mayBe_any _ _).mono ?_; rintro e w2 ⟨rfl, rfl⟩))
   go_ret
   exact ⟨ret_b HR.out, bAlloc (bRefl _) _⟩
  ·cases h3 : inB b.time 0 1000
   ·have HR : Hid (false = mayB b) := by show _ = _; unfold mayB; simp [h1, h2, h3]
    go_enter Tryz.func86, Tryz.ntmps86
    go_wp2_with (first | (go_at_call 115; refine (mayBe_any _ _).mono ?_; rintro e w2 ⟨rfl, rfl⟩))
    go_ret
    exact ⟨ret_b HR.out, bAlloc (bRefl _) _⟩
   ·have HR : Hid (inB b.crash 0 1000 = mayB b) := by show _ = _; unfold mayB; simp [h1, h2, h3]
    go_enter Tryz.func86, Tryz.ntmps86
    go_wp2_with (first | (go_at_call 115; refine (mayBe_any _ _).mono ?_; rintro e w2 ⟨rfl, rfl⟩))
    go_ret
    exact ⟨ret_b HR.out, bAlloc (bRefl _) _⟩
theorem three_nw (w : World) (X Y Z : Obj) : (((w.alloc X).alloc Y).alloc Z).heap[w.heap.size]? = some X ∧ (((w.alloc X).alloc Y).alloc Z).heap[w.heap.size + 1]? = some Y ∧ (((w.alloc X).alloc Y).alloc Z).heap[w.heap.size + 1 + 1]? = some Z ∧ (((w.alloc X).alloc Y).alloc Z).heap.size = w.heap.size + 3 := by
 refine ⟨?_, ?_, ?_, by simp⟩
 ·rw [Below.heap_alloc _ _ _ (by simp <;> omega), Below.heap_alloc _ _ _ (by simp)]; exact heap_new _ _
 ·rw [Below.heap_alloc _ _ _ (by simp)]; exact heap_new2 (by simp)
 ·exact heap_new2 (by simp)
theorem left_below {w w1 : World} {a0 a1 a2 a3 : Value} (h : Below w.heap.size w w1) : Below w.heap.size w ((((w1.setCell ⟨w.heap.size + 1 + 1, 0, none⟩ a0).setCell ⟨w.heap.size + 1 + 1, 1, none⟩ a1).setCell ⟨w.heap.size + 1 + 1, 2, none⟩ a2).setCell ⟨w.heap.size + 1 + 1, 3, none⟩ a3) :=
 (((h.setCell (p := ⟨_, 0, none⟩) (by show w.heap.size ≤ w.heap.size + 1 + 1; omega) _).setCell (p := ⟨_, 1, none⟩) (by show w.heap.size ≤ w.heap.size + 1 + 1; omega) _).setCell (p := ⟨_, 2, none⟩) (by show w.heap.size ≤ w.heap.size + 1 + 1; omega) _).setCell (p := ⟨_, 3, none⟩) (by show w.heap.size ≤ w.heap.size + 1 + 1; omega) _
set_option maxHeartbeats 8000000 in
set_option maxRecDepth 100000 in
theorem left_any (w : World) (b u : PBud) (A1 : Option Addr) (n1 c1 : Nat) (A2 : Option Addr) (n2 c2 : Nat) : Calls Tryz.prog 58 #[uVal b, wVal u (.slice A1 n1 c1) (.slice A2 n2 c2)] w fun e w' => e = .returned (uVal (leftB b u)) ∧ Below w.heap.size w w' := by
 go_enter Tryz.func58, Tryz.ntmps58
 go_wp2_with fail
 obtain ⟨h0, h1, h2, h3⟩ := three_nw w (.cells #[.int .i64 b.drop, .int .i64 b.dup, .int .i64 b.time, .int .i64 b.crash] 28) (.cells #[.slice A1 n1 c1, .slice A2 n2 c2, .int .i64 u.drop, .int .i64 u.dup, .int .i64 u.time, .int .i64 u.crash] 32) (.cells #[.int .i64 0, .int .i64 0, .int .i64 0, .int .i64 0] 28)
 have HL : Hid (Below w.heap.size w (((w.alloc (.cells #[.int .i64 b.drop, .int .i64 b.dup, .int .i64 b.time, .int .i64 b.crash] 28)).alloc (.cells #[.slice A1 n1 c1, .slice A2 n2 c2, .int .i64 u.drop, .int .i64 u.dup, .int .i64 u.time, .int .i64 u.crash] 32)).alloc (.cells #[.int .i64 0, .int .i64 0, .int .i64 0, .int .i64 0] 28))) := bAlloc (bAlloc (bAlloc (bRefl _) _) _) _
 generalize (((w.alloc (.cells #[.int .i64 b.drop, .int .i64 b.dup, .int .i64 b.time, .int .i64 b.crash] 28)).alloc (.cells #[.slice A1 n1 c1, .slice A2 n2 c2, .int .i64 u.drop, .int .i64 u.dup, .int .i64 u.time, .int .i64 u.crash] 32)).alloc (.cells #[.int .i64 0, .int .i64 0, .int .i64 0, .int .i64 0] 28)) = w1 at h0 h1 h2 h3 HL ⊢
 obtain ⟨p0, p1, p2, p3⟩ := blk4 h0
 obtain ⟨q0, q1, q2, q3, q4, q5⟩ := blk6 h1
 obtain ⟨r0, r1, r2, r3⟩ := blk4 h2
 have ff : ∀ o, w1.frozen? ⟨w.heap.size + 1 + 1, o, none⟩ = false := fun o => heap_frozen h2
 have fd : ∀ o, w1.drew.frozen? ⟨w.heap.size + 1 + 1, o, none⟩ = false := ff
 have z2 : w.heap.size + 1 + 1 < w1.heap.size := by omega
 have z1 : w.heap.size + 1 < w1.heap.size := by omega
 have z0 : w.heap.size < w1.heap.size := by omega
 have n1 : ¬ (w.heap.size + 1 + 1 = w.heap.size) := by omega
 have n2 : ¬ (w.heap.size = w.heap.size + 1 + 1) := by omega
 clear h0 h1 h2 h3
 go_region_held3 (fun w' => w'.cell? ⟨w.heap.size, 0, none⟩ = some (.int .i64 b.drop) ∧ w'.cell? ⟨w.heap.size, 1, none⟩ = some (.int .i64 b.dup) ∧ w'.cell? ⟨w.heap.size, 2, none⟩ = some (.int .i64 b.time) ∧ w'.cell? ⟨w.heap.size, 3, none⟩ = some (.int .i64 b.crash) ∧ w'.cell? ⟨w.heap.size + 1, 2, none⟩ = some (.int .i64 u.drop) ∧ w'.cell? ⟨w.heap.size + 1, 3, none⟩ = some (.int .i64 u.dup) ∧ w'.cell? ⟨w.heap.size + 1, 4, none⟩ = some (.int .i64 u.time) ∧ w'.cell? ⟨w.heap.size + 1, 5, none⟩ = some (.int .i64 u.crash)) (go_keep)
  (first
   | (go_at_call 87; refine (rest_any _ _ _).mono ?_; rintro e w2 ⟨rfl, rfl⟩))
 all_goals
  go_wp2_with fail
  exact bodyPost_ret (v := uVal (leftB b u)) (by simp [results, Tryz.results58, go_sem, r0, r1, r2, r3, leftB]) rfl ⟨rfl, left_below HL.out.drew⟩
set_option maxHeartbeats 2000000 in
theorem ofAct_any (w : World) (l : PBud) (k : Int) (a : PLoc) (A : Option Addr) (n c : Nat) : Calls Tryz.prog 61 #[uVal l, .int .i64 k, lVal a (.slice A n c)] w fun e w' => e = .returned (.bool (ofA l k a)) ∧ Below w.heap.size w w' := by
 have HB3 : Hid (∀ X Y : Obj, Below w.heap.size w ((w.alloc X).alloc Y)) := fun X Y => bAlloc (bAlloc (bRefl _) _) _
 obtain ⟨rg, ar, dn, st, ov⟩ := a
 by_cases h4 : k = 4
 ·subst h4
  by_cases hd : dn = 0
  ·have hd' : decide (dn = 0) = true := decide_eq_true hd
   cases ar
   ·have HR : Hid (false = ofA l 4 ⟨rg, false, dn, st, ov⟩) := by show _ = _; unfold ofA; simp
    clear hd
    go_enter Tryz.func61, Tryz.ntmps61
    go_wp2_with (first | (go_at_call 90; refine (runs_any _ ⟨rg, false, dn, st, ov⟩ _).mono ?_; rintro e w2 ⟨rfl, hb2⟩; have hc2 := bcell hb2; have HB := hid_mk hb2))
    go_ret
    exact ⟨ret_b HR.out, bTrans (HB3.out _ _) HB.out⟩
   ·have HR : Hid (decide (0 < l.time) = ofA l 4 ⟨rg, true, dn, st, ov⟩) := by show _ = _; unfold ofA; simp [hd]
    clear hd
    go_enter Tryz.func61, Tryz.ntmps61
    go_wp2_with (first | (go_at_call 90; refine (runs_any _ ⟨rg, true, dn, st, ov⟩ _).mono ?_; rintro e w2 ⟨rfl, hb2⟩; have hc2 := bcell hb2; have HB := hid_mk hb2))
    go_ret
    exact ⟨ret_b HR.out, bTrans (HB3.out _ _) HB.out⟩
  ·have hd' : decide (dn = 0) = false := decide_eq_false hd
   have HR : Hid (false = ofA l 4 ⟨rg, ar, dn, st, ov⟩) := by show _ = _; unfold ofA; simp [hd]
   clear hd
   go_enter Tryz.func61, Tryz.ntmps61
   go_wp2_with (first | (go_at_call 90; refine (runs_any _ ⟨rg, ar, dn, st, ov⟩ _).mono ?_; rintro e w2 ⟨rfl, hb2⟩; have hc2 := bcell hb2; have HB := hid_mk hb2))
   go_ret
   exact ⟨ret_b HR.out, bTrans (HB3.out _ _) HB.out⟩
 ·by_cases h5 : k = 5
  ·subst h5
   by_cases hd : dn = 0
   ·have hd' : decide (dn = 0) = true := decide_eq_true hd
    have HR : Hid (decide (0 < l.crash) = ofA l 5 ⟨rg, ar, dn, st, ov⟩) := by show _ = _; unfold ofA; simp [hd]
    clear hd
    go_enter Tryz.func61, Tryz.ntmps61
    go_wp2_with (first | (go_at_call 90; refine (runs_any _ ⟨rg, ar, dn, st, ov⟩ _).mono ?_; rintro e w2 ⟨rfl, hb2⟩; have hc2 := bcell hb2; have HB := hid_mk hb2))
    go_ret
    exact ⟨ret_b HR.out, bTrans (HB3.out _ _) HB.out⟩
   ·have hd' : decide (dn = 0) = false := decide_eq_false hd
    have HR : Hid (false = ofA l 5 ⟨rg, ar, dn, st, ov⟩) := by show _ = _; unfold ofA; simp [hd]
    clear hd
    go_enter Tryz.func61, Tryz.ntmps61
    go_wp2_with (first | (go_at_call 90; refine (runs_any _ ⟨rg, ar, dn, st, ov⟩ _).mono ?_; rintro e w2 ⟨rfl, hb2⟩; have hc2 := bcell hb2; have HB := hid_mk hb2))
    go_ret
    exact ⟨ret_b HR.out, bTrans (HB3.out _ _) HB.out⟩
  ·have HR : Hid (false = ofA l k ⟨rg, ar, dn, st, ov⟩) := by show _ = _; unfold ofA; simp [h4, h5]
   go_enter Tryz.func61, Tryz.ntmps61
   go_wp2
   go_ret
   exact ⟨ret_b HR.out, bAlloc (bAlloc (bRefl _) _) _⟩
set_option maxHeartbeats 2000000 in
theorem ofMsg_any (w : World) (l : PBud) (x : PWld) (k : Int) (m : PMsg) (A : Option Addr) (n c : Nat) (A1 : Option Addr) (c1 : Nat) (A2 : Option Addr) (n2 c2 : Nat) (hx : Locs anyB anyB w (.slice A1 x.acts.length c1) x.acts) (h0 : 0 ≤ m.nt.to) (h1 : m.nt.to < x.acts.length) :
  Calls Tryz.prog 60 #[uVal l, wVal x.used (.slice A1 x.acts.length c1) (.slice A2 n2 c2), .int .i64 k, mVal m (.slice A n c)] w fun e w' => e = .returned (.bool (ofM l x k m)) ∧ Below w.heap.size w w' := by
 by_cases hk1 : k = 1
 ·subst hk1
  obtain ⟨j, hj⟩ : ∃ j : Nat, m.nt.to = j := ⟨m.nt.to.toNat, by omega⟩
  have hjl : j < x.acts.length := by omega
  have hji : (j : Int) < x.acts.length := by omega
  have HB3 : Hid (∀ X Y Z : Obj, Below w.heap.size w (((w.alloc X).alloc Y).alloc Z)) := fun X Y Z => bAlloc (bAlloc (bAlloc (bRefl _) _) _) _
  obtain ⟨b, o, a, v, rfl, ha, hz, q1, q2, q3, q4, q5, hv⟩ := hx.cell (bRefl w) hjl
  obtain ⟨V, nv, rfl, _⟩ := hv.form
  have HR : Hid (decide (a.down = 0) = ofM l x 1 m) := by show _ = _; unfold ofM; simp [hj, List.getD_eq_getElem?_getD, ha]
  have r1 := fun X Y Z => ((HB3.out X Y Z).cell (p := ⟨b, _, none⟩) hz).trans q1
  have r2 := fun X Y Z => ((HB3.out X Y Z).cell (p := ⟨b, _, none⟩) hz).trans q2
  have r3 := fun X Y Z => ((HB3.out X Y Z).cell (p := ⟨b, _, none⟩) hz).trans q3
  have r4 := fun X Y Z => ((HB3.out X Y Z).cell (p := ⟨b, _, none⟩) hz).trans q4
  have r5 := fun X Y Z => ((HB3.out X Y Z).cell (p := ⟨b, _, none⟩) hz).trans q5
  clear hv ha h0 h1 hx q1 q2 q3 q4 q5
  obtain ⟨⟨i1, i2, i3⟩, ⟨t, d, ar⟩⟩ := m
  simp only at hj
  subst hj
  go_enter Tryz.func60, Tryz.ntmps60
  go_wp2_with (first | (go_at_call 90; refine (runs_any _ a _).mono ?_; rintro e w2 ⟨rfl, hb2⟩; have HB := hid_mk hb2))
  go_ret
  exact ⟨ret_b HR.out, bTrans (HB3.out _ _ _) HB.out⟩
 ·clear hx h0 h1
  by_cases hk2 : k = 2
  ·subst hk2
   have HR : Hid (decide (0 < l.drop) = ofM l x 2 m) := by show _ = _; unfold ofM; simp
   go_enter Tryz.func60, Tryz.ntmps60
   go_wp2
   go_ret
   exact ⟨ret_b HR.out, bAlloc (bAlloc (bAlloc (bRefl _) _) _) _⟩
  ·by_cases hk3 : k = 3
   ·subst hk3
    have HR : Hid (decide (0 < l.dup) = ofM l x 3 m) := by show _ = _; unfold ofM; simp
    go_enter Tryz.func60, Tryz.ntmps60
    go_wp2
    go_ret
    exact ⟨ret_b HR.out, bAlloc (bAlloc (bAlloc (bRefl _) _) _) _⟩
   ·have HR : Hid (false = ofM l x k m) := by show _ = _; unfold ofM; simp [hk1, hk2, hk3]
    go_enter Tryz.func60, Tryz.ntmps60
    go_wp2
    go_ret
    exact ⟨ret_b HR.out, bAlloc (bAlloc (bAlloc (bRefl _) _) _) _⟩
set_option maxHeartbeats 2000000 in
theorem fits_any (w : World) (vp vw : Value) (p : PPrg) (b : PBud) (x : PWld) (ht : Tab w) (hp : PrgV w vp p) (hx : WldV w vw x) : Calls Tryz.prog 57 #[vp, uVal b, vw] w fun e w' => e = .returned (.bool (fitsP p b x)) ∧ Below w.heap.size w w' := by
 have HP := hid_mk hp
 have HX := hid_mk hx
 have HT := hid_mk ht
 obtain ⟨vh, vb, vc, rfl, h1, h2, h3⟩ := hp
 obtain ⟨A1, c1, rfl, _⟩ := h1.form
 obtain ⟨A2, c2, rfl, _⟩ := h2.form
 obtain ⟨A3, c3, rfl, _⟩ := h3.form
 obtain ⟨va, vm, rfl, g1, g2⟩ := hx
 obtain ⟨B1, d1, rfl, _⟩ := g1.form
 obtain ⟨B2, d2, rfl, _⟩ := g2.form
 have HB3 : Hid (∀ X Y Z : Obj, Below w.heap.size w (((w.alloc X).alloc Y).alloc Z)) := fun X Y Z => bAlloc (bAlloc (bAlloc (bRefl _) _) _) _
 clear h1 h2 h3 g1 g2 ht
 cases hm : mayB b
 ·have HR : Hid (false = fitsP p b x) := by show _ = _; unfold fitsP; simp [hm]
  go_enter Tryz.func57, Tryz.ntmps57
  go_wp2_with (first | (go_at_call 86; refine (may_any _ b).mono ?_; rintro e w2 ⟨rfl, hb2⟩; have hc2 := bcell hb2; have HB := hid_mk hb2))
  go_ret
  exact ⟨ret_b HR.out, bTrans (HB3.out _ _ _) HB.out⟩
 ·have HR : Hid (chkW p x = fitsP p b x) := by show _ = _; unfold fitsP; simp [hm]
  go_enter Tryz.func57, Tryz.ntmps57
  go_wp2_with (first | (go_at_call 86; refine (may_any _ b).mono ?_; rintro e w2 ⟨rfl, hb2⟩; have hc2 := bcell hb2; have HB := hid_mk (bTrans (HB3.out _ _ _) hb2)) | (go_at_call 62; refine (check_W _ _ _ p x (HT.out.below HB.out) (HP.out.below HB.out) (HX.out.below HB.out)).mono ?_; rintro e w3 ⟨rfl, hb3⟩; have HB2 := hid_mk (bTrans HB.out hb3)))
  go_ret
  exact ⟨ret_b HR.out, HB2.out⟩
end Go.Proofs.YtfbeiedhdmndnaaGreatDoor
