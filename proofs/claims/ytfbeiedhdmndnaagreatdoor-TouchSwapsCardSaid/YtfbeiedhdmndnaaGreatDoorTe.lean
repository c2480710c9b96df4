/-
 Whom an event touches: what touch.Who answers (P12.1), in memory of its own. Conditions: the table of the instructions is in the world; the world is not too great.
-/
import Derived.Test.YtfbeiedhdmndnaaGreatDoorTd
namespace Go.Proofs.YtfbeiedhdmndnaaGreatDoor
open Go.RowKit
attribute [local go_sem ↓] Go.wp_at_zero Go.wp_at_succ
theorem notesP_len (p : PPrg) (x : PWld) (e : PEv) : (notesP p x e).length ≤ 256 := by
 unfold notesP
 split
 ·unfold hdlR
  split
  ·exact (runP_b ..).nl
  ·exact (runP_b ..).nl
 ·exact Nat.zero_le _
/-- Whom it touches, where it is of somebody. -/
theorem whoP_some {p : PPrg} {x : PWld} {e : PEv} {f : Int} (h : chkW p x = true) (hf : whoseP x e = some f) : whoP p x e = risI (f :: (notesP p x e).map (·.to)) := by unfold whoP; rw [if_pos h, hf]
theorem whoP_none {p : PPrg} {x : PWld} {e : PEv} (hf : whoseP x e = none) : whoP p x e = [] := by
 unfold whoP
 split
 ·rw [hf]
 ·rfl
theorem whoP_bad {p : PPrg} {x : PWld} {e : PEv} (h : chkW p x = false) : whoP p x e = [] := by unfold whoP; rw [h]; rfl
theorem ints_nil (ok : Nat → Prop) (w : World) : Ints ok w (.slice none 0 0) [] := ⟨none, 0, rfl, by simp, by simp, Or.inl rfl⟩
theorem OwnIV.low {b b' : Nat} {w : World} {v : Value} {l : List Int} (h : OwnIV b w v l) (hb : b' ≤ b) : OwnIV b' w v l :=
 ⟨h.1, h.2.imp id fun ⟨g, cap, cur, a1, a2, a3⟩ => ⟨g, cap, cur, a1, Nat.le_trans hb a2, a3⟩⟩
theorem own1 {w : World} {g : Nat} {n : Int} {base : Nat} (h : w.heap[g]? = some (.cells #[.int .i64 n] 3)) (hb : base ≤ g) : OwnIV base w (.slice (some ⟨g, 0, none⟩) 1 1) [n] :=
 ⟨rfl, Or.inr ⟨g, 1, #[.int .i64 n], rfl, hb, h, by simp, by simp [maxLen], rfl, rfl⟩⟩
set_option maxHeartbeats 1000000 in
theorem who_bad (W : World) (vp vw : Value) (p : PPrg) (x : PWld) (e : PEv) (ht : Tab W) (hp : PrgV W vp p) (hx : WldV W vw x) (hc : chkW p x = false) :
  Calls Tryz.prog 25 #[vp, vw, eVal e] W fun r w' => r = .returned (.slice none 0 0) ∧ Below W.heap.size W w' := by
 have HC := hid_mk hc
 clear hc
 have HT := hid_mk ht
 have HP := hid_mk hp
 have HX := hid_mk hx
 obtain ⟨κ, ⟨f, n, c⟩, who⟩ := e
 obtain ⟨vh, vb, vc, rfl, h1, h2, h3⟩ := hp
 obtain ⟨A1, c1, rfl, _⟩ := h1.form
 obtain ⟨A2, c2, rfl, _⟩ := h2.form
 obtain ⟨A3, c3, rfl, _⟩ := h3.form
 obtain ⟨va, vm, rfl, g1, g2⟩ := hx
 obtain ⟨B1, d1, rfl, _⟩ := g1.form
 obtain ⟨B2, d2, rfl, _⟩ := g2.form
 clear h1 h2 h3 g1 g2 ht
 have hA := three_new W (.cells #[.slice A1 p.hs.length c1, .slice A2 p.acs.length c2, .slice A3 p.bs.length c3, .int .i64 p.fuel] 26) (.cells #[.slice B1 x.acts.length d1, .slice B2 x.mail.length d2, .int .i64 x.used.drop, .int .i64 x.used.dup, .int .i64 x.used.time, .int .i64 x.used.crash] 32) (.cells #[.int .i64 κ, .int .i64 f, .int .i64 n, .int .i64 c, .int .i64 who] 36)
 have HL : Below W.heap.size W (((W.alloc (.cells #[.slice A1 p.hs.length c1, .slice A2 p.acs.length c2, .slice A3 p.bs.length c3, .int .i64 p.fuel] 26)).alloc (.cells #[.slice B1 x.acts.length d1, .slice B2 x.mail.length d2, .int .i64 x.used.drop, .int .i64 x.used.dup, .int .i64 x.used.time, .int .i64 x.used.crash] 32)).alloc (.cells #[.int .i64 κ, .int .i64 f, .int .i64 n, .int .i64 c, .int .i64 who] 36)) := bAlloc (bAlloc (bAlloc (bRefl _) _) _) _
 go_enter Tryz.func25, Tryz.ntmps25
 go_wp2_with fail
 generalize (((W.alloc (.cells #[.slice A1 p.hs.length c1, .slice A2 p.acs.length c2, .slice A3 p.bs.length c3, .int .i64 p.fuel] 26)).alloc (.cells #[.slice B1 x.acts.length d1, .slice B2 x.mail.length d2, .int .i64 x.used.drop, .int .i64 x.used.dup, .int .i64 x.used.time, .int .i64 x.used.crash] 32)).alloc (.cells #[.int .i64 κ, .int .i64 f, .int .i64 n, .int .i64 c, .int .i64 who] 36)) = w1 at hA HL ⊢
 refine (check_W _ _ _ p x (HT.out.below HL) (HP.out.below HL) (HX.out.below HL)).mono ?_
 rw [HC.out]
 rintro r w2 ⟨rfl, hb2⟩
 have HB2 := hid_mk (bTrans HL hb2)
 have HK0 := hid_mk (boxAt hA.1 hb2)
 have HK1 := hid_mk (boxAt hA.2.1 hb2)
 have HK2 := hid_mk (boxAt hA.2.2.1 hb2)
 clear hA HL hb2
 go_wp2
 go_ret
 exact ⟨rfl, HB2.out⟩
set_option maxHeartbeats 1000000 in
theorem who_none (W : World) (vp vw : Value) (p : PPrg) (x : PWld) (e : PEv) (ht : Tab W) (hp : PrgV W vp p) (hx : WldV W vw x) (hc : chkW p x = true) (ho : whoseP x e = none) :
  Calls Tryz.prog 25 #[vp, vw, eVal e] W fun r w' => r = .returned (.slice none 0 0) ∧ Below W.heap.size W w' := by
 have HC := hid_mk hc
 have HO := hid_mk ho
 clear hc ho
 have HT := hid_mk ht
 have HP := hid_mk hp
 have HX := hid_mk hx
 obtain ⟨κ, ⟨f, n, c⟩, who⟩ := e
 obtain ⟨vh, vb, vc, rfl, h1, h2, h3⟩ := hp
 obtain ⟨A1, c1, rfl, _⟩ := h1.form
 obtain ⟨A2, c2, rfl, _⟩ := h2.form
 obtain ⟨A3, c3, rfl, _⟩ := h3.form
 obtain ⟨va, vm, rfl, g1, g2⟩ := hx
 obtain ⟨B1, d1, rfl, _⟩ := g1.form
 obtain ⟨B2, d2, rfl, _⟩ := g2.form
 clear h1 h2 h3 g1 g2 ht
 have hA := three_new W (.cells #[.slice A1 p.hs.length c1, .slice A2 p.acs.length c2, .slice A3 p.bs.length c3, .int .i64 p.fuel] 26) (.cells #[.slice B1 x.acts.length d1, .slice B2 x.mail.length d2, .int .i64 x.used.drop, .int .i64 x.used.dup, .int .i64 x.used.time, .int .i64 x.used.crash] 32) (.cells #[.int .i64 κ, .int .i64 f, .int .i64 n, .int .i64 c, .int .i64 who] 36)
 have HL : Below W.heap.size W (((W.alloc (.cells #[.slice A1 p.hs.length c1, .slice A2 p.acs.length c2, .slice A3 p.bs.length c3, .int .i64 p.fuel] 26)).alloc (.cells #[.slice B1 x.acts.length d1, .slice B2 x.mail.length d2, .int .i64 x.used.drop, .int .i64 x.used.dup, .int .i64 x.used.time, .int .i64 x.used.crash] 32)).alloc (.cells #[.int .i64 κ, .int .i64 f, .int .i64 n, .int .i64 c, .int .i64 who] 36)) := bAlloc (bAlloc (bAlloc (bRefl _) _) _) _
 go_enter Tryz.func25, Tryz.ntmps25
 go_wp2_with fail
 generalize (((W.alloc (.cells #[.slice A1 p.hs.length c1, .slice A2 p.acs.length c2, .slice A3 p.bs.length c3, .int .i64 p.fuel] 26)).alloc (.cells #[.slice B1 x.acts.length d1, .slice B2 x.mail.length d2, .int .i64 x.used.drop, .int .i64 x.used.dup, .int .i64 x.used.time, .int .i64 x.used.crash] 32)).alloc (.cells #[.int .i64 κ, .int .i64 f, .int .i64 n, .int .i64 c, .int .i64 who] 36)) = w1 at hA HL ⊢
 refine (check_W _ _ _ p x (HT.out.below HL) (HP.out.below HL) (HX.out.below HL)).mono ?_
 rw [HC.out]
 rintro r w2 ⟨rfl, hb2⟩
 have HB2 := hid_mk (bTrans HL hb2)
 have HK0 := hid_mk (boxAt hA.1 hb2)
 have HK1 := hid_mk (boxAt hA.2.1 hb2)
 have HK2 := hid_mk (boxAt hA.2.2.1 hb2)
 clear hA HL hb2
 obtain ⟨a0, a1, a2, a3, a4, a5⟩ := blk6 HK1.out
 obtain ⟨e0, e1, e2, e3, e4⟩ := blk5 HK2.out
 have z1 : W.heap.size + 1 < w2.heap.size := (Array.getElem?_eq_some_iff.1 HK1.out).1
 have z2 : W.heap.size + 2 < w2.heap.size := (Array.getElem?_eq_some_iff.1 HK2.out).1
 go_wp2_with fail
 refine (whose_any w2 _ x ⟨κ, ⟨f, n, c⟩, who⟩ (HX.out.below HB2.out)).mono ?_
 rw [HO.out]
 rintro r w3 ⟨rfl, hb3⟩
 have HB3 := hid_mk (bTrans HB2.out hb3)
 clear hb3 a0 a1 a2 a3 a4 a5 e0 e1 e2 e3 e4 z1 z2
 simp only [oI, Option.isSome_none]
 go_wp2
 go_ret
 exact ⟨rfl, HB3.out⟩
/-- A loop's list: in a row of the call's own that is none of the notes'. -/
structure WT (W : World) (N3 N4 : Nat) (An : Option Addr) (cn : Nat) (ns : List PNte) (f : Int) (k : Nat) (v : Value) (wr : World) : Prop where
 own : OwnIV W.heap.size wr v (f :: (ns.take k).map (·.to))
 far : ∀ g, v.ownBlock = some g → g < N3 ∨ N4 ≤ g
 nts : Ntes (fun b => N3 ≤ b ∧ b < N4) (fun b => N3 ≤ b ∧ b < N4) wr (.slice An ns.length cn) ns
 low : Below W.heap.size W wr
 sz : N4 ≤ wr.heap.size
theorem toCell {out inn : Nat → Prop} {w : World} {A : Option Addr} {n c : Nat} {l : List PNte} (h : Ntes out inn w (.slice A n c) l) {k : Nat} (hk : k < l.length) : ∃ b o x v, A = some ⟨b, o, none⟩ ∧ l[k]? = some x ∧ b < w.heap.size ∧ w.cell? ⟨b, o + k * 3, none⟩ = some (.int .i64 x.to) ∧ w.cell? ⟨b, o + k * 3 + 1, none⟩ = some (.int .i64 x.hd) ∧ w.cell? ⟨b, o + k * 3 + 2, none⟩ = some v ∧ Ints inn w v x.args := by
 obtain ⟨x, hx⟩ := at_lt hk
 obtain ⟨b, o, rfl, _, hlt, hc⟩ := h.at (by omega)
 obtain ⟨c1, c2, v, c3, c4⟩ := hc k x hx
 exact ⟨b, o, x, v, rfl, hx, hlt, c1, c2, c3, c4⟩
theorem WT.next {W wr W6 : World} {N3 N4 : Nat} {An A9 : Option Addr} {cn c9 k : Nat} {ns : List PNte} {f : Int} {y : PNte} {X Y : Obj} {v' : Value} (h : WT W N3 N4 An cn ns f k (.slice A9 (k + 1) c9) wr) (hy : ns[k]? = some y)
  (hi : IAV W.heap.size ((wr.alloc X).alloc Y) (.slice A9 (k + 1) c9) (f :: (ns.take k).map (·.to) ++ [y.to]) v' W6) : WT W N3 N4 An cn ns f (k + 1) v' W6 := by
 obtain ⟨h1, h2, h3⟩ := hi
 have hb : Below wr.heap.size wr ((wr.alloc X).alloc Y) := bAlloc (bAlloc (bRefl _) _) _
 have hS : Same (fun b => N3 ≤ b ∧ b < N4) wr W6 := ⟨Nat.le_trans hb.size h2.size, fun b hbb hlt => (h2.block b (Nat.lt_of_lt_of_le hlt hb.size) (fun e => by have := h.far b e.symm; omega)).trans (hb.block b hlt)⟩
 refine ⟨?_, fun g hg => ?_, h.nts.same hS hS, (bTrans h.low hb).grown h2 (by have := h.low.size; have := hb.size; omega) fun j hj => (own_lt h.own hj).1, by have := h.sz; have := hS.size; omega⟩
 ·rw [List.take_add_one, hy, List.map_append]
  exact h1
 ·rcases h3 with h3 | h3
  ·exact h.far g (h3 ▸ hg)
  ·rw [h3] at hg
   have e : ((wr.alloc X).alloc Y).heap.size = g := Option.some.inj hg
   have := h.sz
   have := hb.size
   omega
set_option maxHeartbeats 2000000 in
theorem who_some (W : World) (vp vw : Value) (p : PPrg) (x : PWld) (e : PEv) (fo : Int) (ht : Tab W) (hp : PrgV W vp p) (hx : WldV W vw x) (hs : SmW x) (hr : RgU x.used) (hc : chkW p x = true) (ho : whoseP x e = some fo) :
  Calls Tryz.prog 25 #[vp, vw, eVal e] W fun r w' => ∃ v, r = .returned v ∧ OwnIV W.heap.size w' v (whoP p x e) ∧ Below W.heap.size W w' := by
 have HR := hid_mk (whoP_some hc ho)
 obtain ⟨ns, hns⟩ : ∃ ns, notesP p x e = ns := ⟨_, rfl⟩
 have hnl := notesP_len p x e
 rw [hns] at hnl HR
 have HN := hid_mk hns
 have HC := hid_mk hc
 have HO := hid_mk ho
 have HS := hid_mk hs
 have HRU := hid_mk hr
 clear hc ho hns hs hr
 have HT := hid_mk ht
 have HP := hid_mk hp
 have HX := hid_mk hx
 obtain ⟨κ, ⟨f, n, c⟩, who⟩ := e
 obtain ⟨vh, vb, vc, rfl, h1, h2, h3⟩ := hp
 obtain ⟨A1, c1, rfl, _⟩ := h1.form
 obtain ⟨A2, c2, rfl, _⟩ := h2.form
 obtain ⟨A3, c3, rfl, _⟩ := h3.form
 obtain ⟨va, vm, rfl, g1, g2⟩ := hx
 obtain ⟨B1, d1, rfl, _⟩ := g1.form
 obtain ⟨B2, d2, rfl, _⟩ := g2.form
 clear h1 h2 h3 g1 g2 ht
 have hA := three_new W (.cells #[.slice A1 p.hs.length c1, .slice A2 p.acs.length c2, .slice A3 p.bs.length c3, .int .i64 p.fuel] 26) (.cells #[.slice B1 x.acts.length d1, .slice B2 x.mail.length d2, .int .i64 x.used.drop, .int .i64 x.used.dup, .int .i64 x.used.time, .int .i64 x.used.crash] 32) (.cells #[.int .i64 κ, .int .i64 f, .int .i64 n, .int .i64 c, .int .i64 who] 36)
 have HL : Below W.heap.size W (((W.alloc (.cells #[.slice A1 p.hs.length c1, .slice A2 p.acs.length c2, .slice A3 p.bs.length c3, .int .i64 p.fuel] 26)).alloc (.cells #[.slice B1 x.acts.length d1, .slice B2 x.mail.length d2, .int .i64 x.used.drop, .int .i64 x.used.dup, .int .i64 x.used.time, .int .i64 x.used.crash] 32)).alloc (.cells #[.int .i64 κ, .int .i64 f, .int .i64 n, .int .i64 c, .int .i64 who] 36)) := bAlloc (bAlloc (bAlloc (bRefl _) _) _) _
 go_enter Tryz.func25, Tryz.ntmps25
 go_wp2_with fail
 generalize (((W.alloc (.cells #[.slice A1 p.hs.length c1, .slice A2 p.acs.length c2, .slice A3 p.bs.length c3, .int .i64 p.fuel] 26)).alloc (.cells #[.slice B1 x.acts.length d1, .slice B2 x.mail.length d2, .int .i64 x.used.drop, .int .i64 x.used.dup, .int .i64 x.used.time, .int .i64 x.used.crash] 32)).alloc (.cells #[.int .i64 κ, .int .i64 f, .int .i64 n, .int .i64 c, .int .i64 who] 36)) = w1 at hA HL ⊢
 refine (check_W _ _ _ p x (HT.out.below HL) (HP.out.below HL) (HX.out.below HL)).mono ?_
 rw [HC.out]
 rintro r w2 ⟨rfl, hb2⟩
 have HB2 := hid_mk (bTrans HL hb2)
 have HK0 := hid_mk (boxAt hA.1 hb2)
 have HK1 := hid_mk (boxAt hA.2.1 hb2)
 have HK2 := hid_mk (boxAt hA.2.2.1 hb2)
 clear hA HL hb2
 obtain ⟨a0, a1, a2, a3, a4, a5⟩ := blk6 HK1.out
 obtain ⟨e0, e1, e2, e3, e4⟩ := blk5 HK2.out
 have z1 : W.heap.size + 1 < w2.heap.size := (Array.getElem?_eq_some_iff.1 HK1.out).1
 have z2 : W.heap.size + 2 < w2.heap.size := (Array.getElem?_eq_some_iff.1 HK2.out).1
 go_wp2_with fail
 refine (whose_any w2 _ x ⟨κ, ⟨f, n, c⟩, who⟩ (HX.out.below HB2.out)).mono ?_
 rw [HO.out]
 rintro r w3 ⟨rfl, hb3⟩
 have HB3 := hid_mk (bTrans HB2.out hb3)
 replace HK0 := hid_mk (boxAt HK0.out hb3)
 replace HK1 := hid_mk (boxAt HK1.out hb3)
 replace HK2 := hid_mk (boxAt HK2.out hb3)
 clear hb3 a0 a1 a2 a3 a4 a5 e0 e1 e2 e3 e4 z1 z2
 obtain ⟨p0, p1, p2, p3⟩ := blk4 HK0.out
 obtain ⟨a0, a1, a2, a3, a4, a5⟩ := blk6 HK1.out
 obtain ⟨e0, e1, e2, e3, e4⟩ := blk5 HK2.out
 have z0 : W.heap.size < w3.heap.size := (Array.getElem?_eq_some_iff.1 HK0.out).1
 have z1 : W.heap.size + 1 < w3.heap.size := (Array.getElem?_eq_some_iff.1 HK1.out).1
 have z2 : W.heap.size + 2 < w3.heap.size := (Array.getElem?_eq_some_iff.1 HK2.out).1
 simp only [oI, Option.isSome_some]
 go_wp2_with fail
 have hF := heap_new w3 (.cells #[.int .i64 fo] 3)
 have hb4 : Below w3.heap.size w3 (w3.alloc (.cells #[.int .i64 fo] 3)) := bAlloc (bRefl _) _
 have hz4 : (w3.alloc (.cells #[.int .i64 fo] 3)).heap.size = w3.heap.size + 1 := by simp
 generalize w3.alloc (.cells #[.int .i64 fo] 3) = w4 at hF hb4 hz4 ⊢
 have HB4 := hid_mk (bTrans HB3.out hb4)
 refine (notes_any w4 _ _ p x ⟨κ, ⟨f, n, c⟩, who⟩ (HT.out.below HB4.out) (HP.out.below HB4.out) (HX.out.below HB4.out) HS.out HRU.out).mono ?_
 rw [HN.out]
 rintro r w5 ⟨v5, rfl, hv5, hb5⟩
 obtain ⟨An, cn, rfl, _⟩ := hv5.form
 have HW : Hid (WT W w4.heap.size w5.heap.size An cn ns fo 0 (.slice (some ⟨w3.heap.size, 0, none⟩) 1 1) w5) :=
  ⟨own1 ((hb5.block _ (by omega)).trans hF) (by have := HB3.out.size; omega), fun g hg => (by have : w3.heap.size = g := Option.some.inj hg; omega), (Sl.lt hv5).imp (fun b hb => hb) (Nat.le_refl _) (fun _ _ _ _ _ ⟨q1, q2, v, q3, q4⟩ => ⟨q1, q2, v, q3, (Sl.lt q4).imp (fun b hb => hb) (Nat.le_refl _) fun _ _ _ _ _ h => h⟩), bTrans HB4.out hb5, Nat.le_refl _⟩
 clear hF hb4 hz4 hv5 hb5 p0 p1 p2 p3 a0 a1 a2 a3 a4 a5 e0 e1 e2 e3 e4 z0 z1 z2
 go_wp2
 go_loopg [9, 31] ns.length (fun g i9 i31 wr => ∃ (k : Nat) (A9 : Option Addr) (c9 : Nat), g = ns.length - k ∧ k ≤ ns.length ∧ i31 = .int .i64 k ∧ i9 = .slice A9 (k + 1) c9 ∧ Hid (WT W w4.heap.size w5.heap.size An cn ns fo k (.slice A9 (k + 1) c9) wr))
 case atStart => exact ⟨0, _, _, rfl, Nat.zero_le _, rfl, rfl, HW⟩
 case round =>
  clear HW
  obtain ⟨k, A9, c9, rfl, hk, rfl, rfl, hW⟩ := hrel
  by_cases hlt : k < ns.length
  ·obtain ⟨b1, o1, y, v1, rfl, hy, hz1, q1, q2, q3, hv1⟩ := toCell hW.out.nts hlt
   obtain ⟨V1, n1, rfl, _⟩ := hv1.form
   have HY := hid_mk hy
   have hki : (k : Int) < ns.length := by omega
   have hk0 : (0 : Int) ≤ k := by omega
   have HN2 : Hid (∀ X Y : Obj, ((wr.alloc X).alloc Y).heap[wr.heap.size + 1]? = some Y) := fun X Y => (two_new wr X Y).2.1
   clear hy hv1
   go_wp2_with (first
    | (at_builtin; refine appIV (base := W.heap.size) (a := fo :: (ns.take k).map (·.to)) (b := [y.to]) (A := some ⟨wr.heap.size + 1, 0, none⟩) (c := 1) (n := 1) rfl _ _ rfl (hW.out.own.same fun g hg => (bAlloc (bAlloc (bRefl _) _) _).block g (own_lt hW.out.own hg).2) rfl rfl (ints1V (HN2.out _ _)) (by simp; omega) (by have := hW.out.low.size; simp; omega) ?_; rintro A' c' W6 hia; have HIA := hid_mk hia; clear hia)
    | fail)
   go_roundg (ns.length - (k + 1))
   case measure => omega
   case rel =>
    have hl2 : (fo :: (ns.take k).map (·.to)).length + [y.to].length = k + 1 + 1 := by simp; omega
    have h6 := HIA.out
    rw [hl2] at h6
    exact ⟨k + 1, _, _, rfl, by omega, by go_num, rfl, hW.out.next HY.out h6⟩
  ·have hki : ¬ (k : Int) < (ns.length : Int) := by omega
   have HO2 : Hid (Ints anyB wr (.slice A9 (k + 1) c9) (fo :: ns.map (·.to))) := by
    have h := hW.out.own
    rw [List.take_of_length_le (by omega)] at h
    exact (OwnIV.ints h (by simp; omega)).any
   have HB := hid_mk hW.out.low
   go_wp2_with fail
   refine (rising_any anyB wr _ _ HO2.out (by simp; omega)).mono ?_
   rw [← HR.out]
   rintro r w6 ⟨v6, rfl, ho6, hb6⟩
   have HO6 := hid_mk ho6
   have HB6 := hid_mk (bTrans HB.out hb6)
   have HZ := hid_mk HB.out.size
   clear ho6 hb6
   go_wp2
   go_ret
   exact ⟨_, rfl, HO6.out.low HZ.out, HB6.out⟩
theorem who_any (W : World) (vp vw : Value) (p : PPrg) (x : PWld) (e : PEv) (ht : Tab W) (hp : PrgV W vp p) (hx : WldV W vw x) (hs : SmW x) (hr : RgU x.used) :
  Calls Tryz.prog 25 #[vp, vw, eVal e] W fun r w' => ∃ v, r = .returned v ∧ OwnIV W.heap.size w' v (whoP p x e) ∧ Below W.heap.size W w' := by
 cases hc : chkW p x with
 | false =>
  refine (who_bad W vp vw p x e ht hp hx hc).mono ?_
  rintro r w' ⟨rfl, hb⟩
  exact ⟨_, rfl, by rw [whoP_bad hc]; exact nilIV _ _, hb⟩
 | true =>
  cases ho : whoseP x e with
  | none =>
   refine (who_none W vp vw p x e ht hp hx hc ho).mono ?_
   rintro r w' ⟨rfl, hb⟩
   exact ⟨_, rfl, by rw [whoP_none ho]; exact nilIV _ _, hb⟩
  | some f => exact who_some W vp vw p x e f ht hp hx hs hr hc ho
end Go.Proofs.YtfbeiedhdmndnaaGreatDoor
