/-
 Whatever of what may happen comes, each world may be, faults are counted (StepWalks), walked. Condition: the table of the instructions is in the world.
-/
import Derived.Test.YtgdloonpemaijaaDoorKd
namespace Go.Proofs.YtgdloonpemaijaaDoor
open Go.RowKit
theorem Sl.ltK {α : Type} {sz : Nat} {R R' : World → Nat → Nat → α → Prop} {ok : Nat → Prop} {w : World} {v : Value} {l : List α} (h : Sl sz R ok w v l) (hR : ∀ b o x, R w b o x → R' w b o x) : Sl sz R' (fun b => b < w.heap.size) w v l := by
 obtain ⟨A, c, rfl, h1, h2, h⟩ := h
 exact ⟨A, c, rfl, h1, h2, h.imp id fun ⟨b, o, e, _, hb, hc⟩ => ⟨b, o, e, hb, hb, fun k x hx => hR _ _ _ (hc k x hx)⟩⟩
theorem WldV.ltK {w : World} {v : Value} {x : PWld} (h : WldV w v x) : WldA (fun b => b < w.heap.size) w v x := by
 obtain ⟨a, m, e, h1, h2⟩ := h
 exact ⟨a, m, e, h1.ltK fun _ _ _ ⟨⟨c, g1, g2⟩, g3⟩ => ⟨⟨c, g1, g2.ltK fun _ _ _ h => h⟩, g3⟩, h2.ltK fun _ _ _ ⟨g0, g1, g2, g3, g4, c, g5, g6⟩ => ⟨g0, g1, g2, g3, g4, c, g5, g6.ltK fun _ _ _ h => h⟩⟩
theorem enab_len (p : PPrg) (b : PBud) (x : PWld) : (enabP p b x).length ≤ 3 * x.mail.length + 2 * x.acts.length := by
 cases hf : fitsP p b x with
 | false => rw [enabP_no hf]; simp
 | true => rw [enabP_yes hf]; exact enQ_len _ _ 2
theorem fau_le (l : List PEv) : fau l ≤ l.length := List.countP_le_length
theorem fau_snoc (l : List PEv) (e : PEv) : fau (l ++ [e]) = fau l + if e.kind ≠ 1 then 1 else 0 := by
 unfold fau
 rw [List.countP_append, List.countP_singleton]
 by_cases e1 : e.kind = 1
 ·simp [e1]
 ·simp [e1]
theorem allocs2 (W : World) (X Y : Obj) : ((W.alloc X).alloc Y).heap[W.heap.size]? = some X ∧ ((W.alloc X).alloc Y).heap[W.heap.size + 1]? = some Y ∧ Below W.heap.size W ((W.alloc X).alloc Y) :=
 ⟨(two_new W X Y).1, (two_new W X Y).2.1, bAlloc (bAlloc (bRefl _) _) _⟩
set_option maxHeartbeats 2000000 in
theorem walk_big (W : World) (vp vi : Value) (p : PPrg) (bu : PBud) (ks : List Int) (ht : Tab W) (hp : PrgV W vp p) (hi : Ints anyB W vi ks) (hs : ¬ Small p) : Calls Tryd.prog 8 #[vp, uVal bu, vi] W fun e w' => e = .returned (.bool true) ∧ Below W.heap.size W w' := by
 have HP := hid_mk hp
 have HT := hid_mk ht
 obtain ⟨vh, vb, vc, rfl, h1, h2, h3⟩ := hp
 obtain ⟨A1, c1, rfl, _⟩ := h1.form
 obtain ⟨A2, c2, rfl, _⟩ := h2.form
 obtain ⟨A3, c3, rfl, _⟩ := h3.form
 obtain ⟨Ai, ci, rfl, _⟩ := hi.form
 have H1 : Hid (small p = false) := decide_eq_false hs
 have HBA : Hid (∀ X Y, Below W.heap.size W ((W.alloc X).alloc Y)) := fun _ _ => bAlloc (bAlloc (bRefl _) _) _
 clear hs h1 h2 h3 hi ht
 go_enter Tryd.func8, Tryd.ntmps8
 go_wp2_with fail
 refine (small_any _ _ p (HP.out.below (HBA.out _ _))).mono ?_
 rw [H1.out]
 rintro r w2 ⟨rfl, hb2⟩
 have HB2 := hid_mk (bTrans (HBA.out _ _) hb2)
 clear hb2
 go_wp2_with fail
 refine (swake_any _ (HT.out.below HB2.out)).mono ?_
 rintro r w4 ⟨rfl, hb4⟩
 go_wp2
 go_ret
 exact ⟨rfl, bTrans HB2.out hb4⟩
set_option maxHeartbeats 2000000 in
theorem walk_long (W : World) (vp vi : Value) (p : PPrg) (bu : PBud) (ks : List Int) (ht : Tab W) (hp : PrgV W vp p) (hi : Ints anyB W vi ks) (hs : Small p) (hl : 30 < ks.length) : Calls Tryd.prog 8 #[vp, uVal bu, vi] W fun e w' => e = .returned (.bool true) ∧ Below W.heap.size W w' := by
 have HP := hid_mk hp
 have HT := hid_mk ht
 obtain ⟨vh, vb, vc, rfl, h1, h2, h3⟩ := hp
 obtain ⟨A1, c1, rfl, _⟩ := h1.form
 obtain ⟨A2, c2, rfl, _⟩ := h2.form
 obtain ⟨A3, c3, rfl, _⟩ := h3.form
 obtain ⟨Ai, ci, rfl, _⟩ := hi.form
 have H1 : Hid (small p = true) := decide_eq_true hs
 have hln : (30 : Int) < (ks.length : Int) := by omega
 have HBA : Hid (∀ X Y, Below W.heap.size W ((W.alloc X).alloc Y)) := fun _ _ => bAlloc (bAlloc (bRefl _) _) _
 clear hs hl h1 h2 h3 hi ht
 go_enter Tryd.func8, Tryd.ntmps8
 go_wp2_with fail
 refine (small_any _ _ p (HP.out.below (HBA.out _ _))).mono ?_
 rw [H1.out]
 rintro r w2 ⟨rfl, hb2⟩
 have HB2 := hid_mk (bTrans (HBA.out _ _) hb2)
 clear hb2
 go_wp2_with fail
 refine (swake_any _ (HT.out.below HB2.out)).mono ?_
 rintro r w4 ⟨rfl, hb4⟩
 go_wp2
 go_ret
 exact ⟨rfl, bTrans HB2.out hb4⟩
set_option maxHeartbeats 2000000 in
theorem walk_no (W : World) (vp vi : Value) (p : PPrg) (bu : PBud) (ks : List Int) (ht : Tab W) (hp : PrgV W vp p) (hi : Ints anyB W vi ks) (hs : Small p) (hl : ks.length ≤ 30) (hf : fc p ≠ 0) : Calls Tryd.prog 8 #[vp, uVal bu, vi] W fun e w' => e = .returned (.bool true) ∧ Below W.heap.size W w' := by
 have HP := hid_mk hp
 have HT := hid_mk ht
 have HF := hid_mk hf
 obtain ⟨vh, vb, vc, rfl, h1, h2, h3⟩ := hp
 obtain ⟨A1, c1, rfl, _⟩ := h1.form
 obtain ⟨A2, c2, rfl, _⟩ := h2.form
 obtain ⟨A3, c3, rfl, _⟩ := h3.form
 obtain ⟨Ai, ci, rfl, _⟩ := hi.form
 have H1 : Hid (small p = true) := decide_eq_true hs
 have hln : ¬ (30 : Int) < (ks.length : Int) := by omega
 have HA := fun X Y => allocs2 W X Y
 have HAX := hid_mk HA
 have hfn := ne0_yes hf
 clear hs hl h1 h2 h3 hi ht HA hf
 go_enter Tryd.func8, Tryd.ntmps8
 go_wp2_with fail
 refine (small_any _ _ p (HP.out.below (HAX.out _ _).2.2)).mono ?_
 rw [H1.out]
 rintro r w2 ⟨rfl, hb2⟩
 have HB2 := hid_mk (bTrans (HAX.out _ _).2.2 hb2)
 obtain ⟨k0, k1, k2, k3⟩ := blk4 (boxAt (HAX.out _ _).1 hb2)
 clear hb2
 go_wp2_with fail
 refine (start_no _ _ p (HT.out.below HB2.out) (HP.out.below HB2.out) HF.out).mono ?_
 rintro r w3 ⟨rfl, hb3⟩
 have HB3 := hid_mk (bTrans HB2.out hb3)
 clear k0 k1 k2 k3 hb3
 go_wp2_with fail
 refine (swake_any _ (HT.out.below (bTrans HB3.out (bAlloc (bRefl _) _)))).mono ?_
 rintro r w4 ⟨rfl, hb4⟩
 go_wp2
 go_ret
 exact ⟨rfl, bTrans HB3.out (bTrans (bAlloc (bRefl _) _) hb4)⟩
set_option maxHeartbeats 16000000 in
set_option maxRecDepth 100000 in
theorem walk_go (W : World) (vp vi : Value) (p : PPrg) (bu : PBud) (ks : List Int) (ht : Tab W) (hp : PrgV W vp p) (hi : Ints anyB W vi ks) (hs : Small p) (hl : ks.length ≤ 30) (hf : fc p = 0) : Calls Tryd.prog 8 #[vp, uVal bu, vi] W fun e w' => e = .returned (.bool true) ∧ Below W.heap.size W w' := by
 have HP := hid_mk hp
 have HT := hid_mk ht
 have HI := hid_mk hi
 have HF := hid_mk hf
 have HS := hid_mk hs
 have HL30 := hid_mk hl
 obtain ⟨vh, vb, vc, rfl, h1, h2, h3⟩ := hp
 obtain ⟨A1, c1, rfl, _⟩ := h1.form
 obtain ⟨A2, c2, rfl, _⟩ := h2.form
 obtain ⟨A3, c3, rfl, _⟩ := h3.form
 obtain ⟨Ai, ci, rfl, _⟩ := hi.form
 have H1 : Hid (small p = true) := decide_eq_true hs
 have hln : ¬ (30 : Int) < (ks.length : Int) := by omega
 have HA := fun X Y => allocs2 W X Y
 have HAX := hid_mk HA
 clear hs hl h1 h2 h3 hi ht HA hf
 go_enter Tryd.func8, Tryd.ntmps8
 go_wp2_with fail
 refine (small_any _ _ p (HP.out.below (HAX.out _ _).2.2)).mono ?_
 rw [H1.out]
 rintro r w2 ⟨rfl, hb2⟩
 have HB2 := hid_mk (bTrans (HAX.out _ _).2.2 hb2)
 have HK2 := hid_mk (boxAt (HAX.out (.cells #[.slice A1 p.hs.length c1, .slice A2 p.acs.length c2, .slice A3 p.bs.length c3, .int .i64 p.fuel] 26) (.cells #[.int .i64 bu.drop, .int .i64 bu.dup, .int .i64 bu.time, .int .i64 bu.crash] 42)).1 hb2)
 have HQ2 := hid_mk (boxAt (HAX.out (.cells #[.slice A1 p.hs.length c1, .slice A2 p.acs.length c2, .slice A3 p.bs.length c3, .int .i64 p.fuel] 26) (.cells #[.int .i64 bu.drop, .int .i64 bu.dup, .int .i64 bu.time, .int .i64 bu.crash] 42)).2.1 hb2)
 obtain ⟨k0, k1, k2, k3⟩ := blk4 HK2.out
 clear hb2
 go_wp2_with fail
 refine (start_yes _ _ p (HT.out.below HB2.out) (HP.out.below HB2.out) HS.out HF.out).mono ?_
 rintro r w3 ⟨a3, m3, lo3, hi3, rfl, hwn3, hb3⟩
 obtain ⟨A', c', rfl⟩ := hwn3.acts.form
 obtain ⟨M', d', rfl, _⟩ := hwn3.mail.form
 have hv3 := (hwn3.wld (start_wk HF.out).sm).ltK
 have HB3 := hid_mk (bTrans HB2.out hb3)
 have HK3 := hid_mk (boxAt HK2.out hb3)
 have HQ3 := hid_mk (boxAt HQ2.out hb3)
 have z3 : W.heap.size + 1 < w3.heap.size := (Array.getElem?_eq_some_iff.1 HQ3.out).1
 have HS0 : Hid (WS w3 p bu [] (.slice none 0 0) (w3.alloc (.cells #[.slice A' (startP p).acts.length c', .slice M' (startP p).mail.length d', .int .i64 (startP p).used.drop, .int .i64 (startP p).used.dup, .int .i64 (startP p).used.time, .int .i64 (startP p).used.crash] 44))) :=
  ⟨WY.nil HF.out bu, ⟨_, _, heap_new _ _, (hv3.below (bAlloc (bRefl _) _)).weak fun b hb => by have hb' : b < w3.heap.size := hb; show b ≠ _; omega⟩, (EN.nil w3).below (bAlloc (bRefl _) _)⟩
 clear k0 k1 k2 k3 hb3 hwn3 hv3
 go_wp2
 go_loopg [9, 10, 11, 12, 13, 14, 15, 16, 17] (ks.length) (fun g i9 i10 i11 i12 i13 i14 i15 i16 i17 wr => ∃ l : List PEv, g = ks.length - l.length ∧ l.length ≤ ks.length ∧ i10 = .int .i64 (fau l : Int) ∧ i11 = .int .i64 (l.length : Int) ∧ WS w3 p bu l i9 wr)
 case atStart => exact ⟨[], rfl, Nat.zero_le _, rfl, rfl, HS0.out⟩
 case round =>
  obtain ⟨l, rfl, hk, rfl, rfl, ws⟩ := hrel
  have HWS := hid_mk ws
  have HY := hid_mk ws.wy
  have HEN := hid_mk ws.en
  have HL := hid_mk ws.en.low
  obtain ⟨aw, mw, hbx, hwa⟩ := ws.bw
  obtain ⟨Aw, cw, rfl⟩ := ws.en.form
  obtain ⟨x, hx⟩ : ∃ x, goP p (startP p) l l.length = x := ⟨_, rfl⟩
  have HX := hid_mk hx
  rw [hx] at hbx hwa
  have HSM := hid_mk (hx ▸ ws.wy.wk.sm)
  have HSR := hid_mk (hx ▸ ws.wy.wk.srt)
  have hwa' := hwa
  obtain ⟨a0, m0, he0, hac, hml⟩ := hwa'
  simp only [Value.agg.injEq, Array.mk.injEq, List.cons.injEq, and_true] at he0
  obtain ⟨rfl, rfl⟩ := he0
  obtain ⟨Ak, ck, rfl, _⟩ := hac.form
  obtain ⟨Mk, dk, rfl, _⟩ := hml.form
  have HWV := hid_mk hwa.wld
  have HBX := hid_mk hbx
  have HK := hid_mk (boxAt HK3.out HL.out)
  have HQ := hid_mk (boxAt HQ3.out HL.out)
  have HBW := hid_mk (bTrans HB3.out HL.out)
  have zw : w3.heap.size < wr.heap.size := (Array.getElem?_eq_some_iff.1 hbx).1
  have zk : W.heap.size < wr.heap.size := by omega
  have zq : W.heap.size + 1 < wr.heap.size := by omega
  obtain ⟨k0, k1, k2, k3⟩ := blk4 HK.out
  obtain ⟨q0, q1, q2, q3⟩ := blk4 HQ.out
  obtain ⟨o0, o1, o2, o3, o4, o5⟩ := blk6 hbx
  have HLK := hid_mk hk
  clear ws hwa hac hml hbx hx hk
  by_cases hlt : l.length < ks.length
  ·have hki : (l.length : Int) < (ks.length : Int) := by omega
   have HLT := hid_mk hlt
   clear hlt
   go_wp2_with fail
   refine (enab_any wr _ _ p bu x (HT.out.below HBW.out) (HP.out.below HBW.out) HWV.out (by have := HSM.out.mail; omega) (by have := HSM.out.n; omega)).mono ?_
   rintro r w1 ⟨v1, rfl, hen1⟩
   obtain ⟨A1', c1', rfl⟩ := hen1.form
   have HB1 := hid_mk hen1.low
   have HBW1 := hid_mk (bTrans HBW.out HB1.out)
   by_cases hz : (enabP p bu x).length = 0
   ·have hzi : ((enabP p bu x).length : Int) = 0 := by omega
    have HBt := hid_mk (bTrans HBW.out HB1.out)
    have HBXt := hid_mk (boxAt HBX.out HB1.out)
    have HKt := hid_mk (boxAt HK.out HB1.out)
    have HQt := hid_mk (boxAt HQ.out HB1.out)
    have HWVt := hid_mk (HWV.out.below HB1.out)
    have HENt := hid_mk (HEN.out.below HB1.out)
    clear k0 k1 k2 k3 q0 q1 q2 q3 o0 o1 o2 o3 o4 o5 zw zk zq
    obtain ⟨k0, k1, k2, k3⟩ := blk4 HKt.out
    obtain ⟨q0, q1, q2, q3⟩ := blk4 HQt.out
    have zk : W.heap.size < w1.heap.size := (Array.getElem?_eq_some_iff.1 HKt.out).1
    have zq : W.heap.size + 1 < w1.heap.size := (Array.getElem?_eq_some_iff.1 HQt.out).1
    have zw : w3.heap.size < w1.heap.size := (Array.getElem?_eq_some_iff.1 HBXt.out).1
    go_wp2_with fail
    refine (run_yes_s w1 _ _ p bu l (HT.out.below HBt.out) (HP.out.below HBt.out) ((HENt.out.evs (by have := HLK.out; have := HL30.out; omega)).any) HS.out HF.out (fun k hk _ => HY.out.sms (by have := HLK.out; have := HL30.out; omega) k hk)).mono ?_
    rintro r w8 ⟨v8, X8, n8, er8, rfl, hv8, hE8, hb8⟩
    obtain ⟨hn8, hX8, rfl⟩ := hE8.all HY.out.ok
    subst hn8
    have hX8' := hX8.trans HX.out
    subst hX8'
    have HV8 := hid_mk hv8.wld
    obtain ⟨a8, m8, rfl, ha8, hm8⟩ := hv8
    obtain ⟨A8, c8, rfl, _⟩ := ha8.form
    obtain ⟨M8, d8, rfl, _⟩ := hm8.form
    have HB8 := hid_mk hb8
    clear k0 k1 k2 k3 q0 q1 q2 q3 zw zk zq ha8 hm8 hE8 hX8
    obtain ⟨o0, o1, o2, o3, o4, o5⟩ := blk6 (boxAt HBXt.out hb8)
    have zw : w3.heap.size < w8.heap.size := (Array.getElem?_eq_some_iff.1 (boxAt HBXt.out hb8)).1
    clear hb8
    go_wp2_with fail
    refine (sameW_any _ _ _ X8 X8 (HV8.out.below (bAlloc (bRefl _) _)) (HWVt.out.below (bTrans HB8.out (bAlloc (bRefl _) _)))).mono ?_
    rw [eqB_self]
    rintro r w9 ⟨rfl, hb9⟩
    have HB9 := hid_mk (bTrans (bTrans HBt.out HB8.out) (bTrans (bAlloc (bRefl _) _) hb9))
    clear hb9
    go_wp2_with fail
    refine (swake_any _ (HT.out.below HB9.out)).mono ?_
    rintro r w10 ⟨rfl, hb10⟩
    go_wp2
    go_ret
    exact ⟨rfl, bTrans HB9.out hb10⟩
   ·have hel := enab_len p bu x
    have hsm1 := HSM.out.mail
    have hsm2 := HSM.out.n
    obtain ⟨bI, oI, pk, rfl, hpk, hq⟩ := HI.out.cell HBW1.out HLT.out
    have hrb := rnd_bd pk (show (0 : Int) < ((enabP p bu x).length : Int) by omega)
    obtain ⟨j, hj⟩ := Int.eq_ofNat_of_zero_le hrb.1
    have hjl : j < (enabP p bu x).length := by omega
    have hji : (j : Int) < ((enabP p bu x).length : Int) := by omega
    obtain ⟨ev, hev⟩ := at_lt hjl
    have HIS : Hid (isP p bu x ev = true) := enab_is HSR.out (List.mem_of_getElem? hev)
    have hE := hen1.evs (by omega)
    obtain ⟨gE, oE, rfl, _, hzE, hcE⟩ := hE.at (by omega)
    obtain ⟨e0, e1, e2, e3, e4⟩ := hcE j ev hev
    obtain ⟨X', hX'⟩ : ∃ X', doP p x ev = X' := ⟨_, rfl⟩
    have HX' := hid_mk hX'
    have hWN := HY.out.next (e := ev) (by have := HLK.out; have := HL30.out; omega) (by rw [HX.out]; exact HIS.out)
    rw [HX.out, hX'] at hWN
    obtain ⟨hwy, hgX⟩ := hWN
    have HWY := hid_mk hwy
    have HGX := hid_mk hgX
    have hlen : (l ++ [ev]).length = l.length + 1 := by rw [List.length_append, List.length_singleton]
    have hwk := hwy.wk
    have hsu := hwy.su
    have hub := hwy.ub (isP_parts HIS.out).1
    rw [hgX] at hwk hsu hub
    rw [hlen] at hwk
    have hl30 : l.length ≤ 30 := by have := HLK.out; have := HL30.out; omega
    have HCK : Hid (chkW p X' = true) := hwk.chk (by omega) (by omega)
    have HSX := hid_mk hwk.sm
    have hu := hwk.used
    have u1 := hu.a.1
    have u2 := hu.b.1
    have u3 := hu.c.1
    have u4 := hu.d.1
    have y1 : X'.used.drop ≤ 30000 := by have := hu.a.2; omega
    have y2 : X'.used.dup ≤ 30000 := by have := hu.b.2; omega
    have y3 : X'.used.time ≤ 30000 := by have := hu.c.2; omega
    have y4 : X'.used.crash ≤ 30000 := by have := hu.d.2; omega
    have v1 : ¬ bu.drop < X'.used.drop := by have := hub.a; omega
    have v2 : ¬ bu.dup < X'.used.dup := by have := hub.b; omega
    have v3 : ¬ bu.time < X'.used.time := by have := hub.c; omega
    have v4 : ¬ bu.crash < X'.used.crash := by have := hub.d; omega
    have hfl : (fau l : Int) ≤ 30 := by have := fau_le l; omega
    have hfs : fau (l ++ [ev]) = fau l + if ev.kind ≠ 1 then 1 else 0 := fau_snoc l ev
    unfold sumU at hsu
    have HSU := hid_mk hsu
    have HFS := hid_mk hfs
    have HLEN := hid_mk hlen
    have hlb : (enabP p bu x).length ≤ 2000 := by omega
    clear hwy hgX hwk hsu hub hu hel hcE hE hev hpk hX' hfs hlen hsm1 hsm2
    have hzb : (((enabP p bu x).length : Int) == 0) = false := beq_eq_false_iff_ne.2 (by omega)
    go_wp2_with fail
    refine (round_any _ _ _ (by omega) (by omega)).mono ?_
    rw [hj]
    rintro r w' ⟨rfl, hw'⟩
    have hw2 := hw'.symm
    subst hw2
    clear hw'
    have HK1 := hid_mk (boxAt HK.out HB1.out)
    have HQ1 := hid_mk (boxAt HQ.out HB1.out)
    have HX1 := hid_mk (boxAt HBX.out HB1.out)
    clear k0 k1 k2 k3 q0 q1 q2 q3 o0 o1 o2 o3 o4 o5 zw zk zq
    obtain ⟨o0, o1, o2, o3, o4, o5⟩ := blk6 HX1.out
    have zw : w3.heap.size < w1.heap.size := (Array.getElem?_eq_some_iff.1 HX1.out).1
    go_wp2_with fail
    have hE2 := heap_new w1 (.cells #[.int .i64 ev.kind, .int .i64 ev.id.f, .int .i64 ev.id.n, .int .i64 ev.id.c, .int .i64 ev.who] 62)
    have hbe : Below w1.heap.size w1 (w1.alloc (.cells #[.int .i64 ev.kind, .int .i64 ev.id.f, .int .i64 ev.id.n, .int .i64 ev.id.c, .int .i64 ev.who] 62)) := bAlloc (bRefl _) _
    have nE : w1.heap.size < (w1.alloc (.cells #[.int .i64 ev.kind, .int .i64 ev.id.f, .int .i64 ev.id.n, .int .i64 ev.id.c, .int .i64 ev.who] 62)).heap.size := (Array.getElem?_eq_some_iff.1 hE2).1
    generalize w1.alloc (.cells #[.int .i64 ev.kind, .int .i64 ev.id.f, .int .i64 ev.id.n, .int .i64 ev.id.c, .int .i64 ev.who] 62) = we at hE2 hbe nE ⊢
    refine (copyW_any we _ x (HWV.out.below (bTrans HB1.out hbe)) HSM.out).mono ?_
    rintro r w4 ⟨a4, m4, lo4, hi4, rfl, hwn4, hb4⟩
    obtain ⟨A4, c4, rfl⟩ := hwn4.acts.form
    obtain ⟨M4, d4, rfl, _⟩ := hwn4.mail.form
    have HWV4 := hid_mk (hwn4.wld HSM.out)
    have hb14 := bTrans hbe hb4
    have HB4 := hid_mk (bTrans HB1.out hb14)
    have HK4 := hid_mk (boxAt HK1.out hb14)
    have HQ4 := hid_mk (boxAt HQ1.out hb14)
    have HX4 := hid_mk (boxAt HX1.out hb14)
    have HE4 := hid_mk (boxAt hE2 hb4)
    clear o0 o1 o2 o3 o4 o5 zw e0 e1 e2 e3 e4 hwn4 hb4 hb14 hE2 hbe hq
    obtain ⟨o0, o1, o2, o3, o4, o5⟩ := blk6 HX4.out
    obtain ⟨k0, k1, k2, k3⟩ := blk4 HK4.out
    obtain ⟨q0, q1, q2, q3⟩ := blk4 HQ4.out
    obtain ⟨e0, e1, e2, e3, e4⟩ := blk5 HE4.out
    have zw : w3.heap.size < w4.heap.size := (Array.getElem?_eq_some_iff.1 HX4.out).1
    have zk : W.heap.size < w4.heap.size := (Array.getElem?_eq_some_iff.1 HK4.out).1
    have zq : W.heap.size + 1 < w4.heap.size := (Array.getElem?_eq_some_iff.1 HQ4.out).1
    have ze : w1.heap.size < w4.heap.size := (Array.getElem?_eq_some_iff.1 HE4.out).1
    go_wp2_with fail
    have hS4 := heap_new w4 (.cells #[.slice A4 x.acts.length c4, .slice M4 x.mail.length d4, .int .i64 x.used.drop, .int .i64 x.used.dup, .int .i64 x.used.time, .int .i64 x.used.crash] 44)
    have hb4 : Below w4.heap.size w4 (w4.alloc (.cells #[.slice A4 x.acts.length c4, .slice M4 x.mail.length d4, .int .i64 x.used.drop, .int .i64 x.used.dup, .int .i64 x.used.time, .int .i64 x.used.crash] 44)) := bAlloc (bRefl _) _
    generalize w4.alloc (.cells #[.slice A4 x.acts.length c4, .slice M4 x.mail.length d4, .int .i64 x.used.drop, .int .i64 x.used.dup, .int .i64 x.used.time, .int .i64 x.used.crash] 44) = w5 at hS4 hb4 ⊢
    have HB5 := hid_mk (bTrans HB4.out hb4)
    refine (do_yes w5 _ _ p bu x ev (HT.out.below (bTrans HBW.out HB5.out)) (HP.out.below (bTrans HBW.out HB5.out)) (HWV.out.below HB5.out) HSM.out HIS.out).mono ?_
    rw [HX'.out]
    rintro r w6 ⟨v6, rfl, hv6, hb6⟩
    have HV6 := hid_mk hv6
    obtain ⟨a6, m6, rfl, ha6, hm6⟩ := hv6
    obtain ⟨A6, c6, rfl, _⟩ := ha6.form
    obtain ⟨M6, d6, rfl, _⟩ := hm6.form
    have hb46 := bTrans hb4 hb6
    have HB6 := hid_mk (bTrans HB5.out hb6)
    have HK6 := hid_mk (boxAt HK4.out hb46)
    have HQ6 := hid_mk (boxAt HQ4.out hb46)
    have HX6 := hid_mk (boxAt HX4.out hb46)
    have HE6 := hid_mk (boxAt HE4.out hb46)
    have HS6 := hid_mk (boxAt hS4 hb6)
    have HWV6 := hid_mk (HWV4.out.below hb46)
    have hN5 := HB5.out.size
    clear o0 o1 o2 o3 o4 o5 k0 k1 k2 k3 q0 q1 q2 q3 e0 e1 e2 e3 e4 zw zk zq ze ha6 hm6 hb4 hb6 hb46 hS4
    obtain ⟨o0, o1, o2, o3, o4, o5⟩ := blk6 HX6.out
    obtain ⟨s0, s1, s2, s3, s4, s5⟩ := blk6 HS6.out
    obtain ⟨k0, k1, k2, k3⟩ := blk4 HK6.out
    have zw : w3.heap.size < w6.heap.size := (Array.getElem?_eq_some_iff.1 HX6.out).1
    have zs : w4.heap.size < w6.heap.size := (Array.getElem?_eq_some_iff.1 HS6.out).1
    have zk : W.heap.size < w6.heap.size := (Array.getElem?_eq_some_iff.1 HK6.out).1
    go_wp2_with fail
    have hV7 := heap_new w6 (.cells #[.slice A6 X'.acts.length c6, .slice M6 X'.mail.length d6, .int .i64 X'.used.drop, .int .i64 X'.used.dup, .int .i64 X'.used.time, .int .i64 X'.used.crash] 44)
    have hb7 : Below w6.heap.size w6 (w6.alloc (.cells #[.slice A6 X'.acts.length c6, .slice M6 X'.mail.length d6, .int .i64 X'.used.drop, .int .i64 X'.used.dup, .int .i64 X'.used.time, .int .i64 X'.used.crash] 44)) := bAlloc (bRefl _) _
    generalize w6.alloc (.cells #[.slice A6 X'.acts.length c6, .slice M6 X'.mail.length d6, .int .i64 X'.used.drop, .int .i64 X'.used.dup, .int .i64 X'.used.time, .int .i64 X'.used.crash] 44) = w7 at hV7 hb7 ⊢
    refine (sameW_any w7 _ _ x x (HWV.out.below (bTrans HB6.out hb7)) (HWV6.out.below hb7)).mono ?_
    rw [eqB_self]
    rintro r w8 ⟨rfl, hb8⟩
    have hb68 := bTrans hb7 hb8
    have HB8 := hid_mk (bTrans HB6.out hb68)
    have HV8 := hid_mk (boxAt hV7 hb8)
    have HK8 := hid_mk (boxAt HK6.out hb68)
    have HQ8 := hid_mk (boxAt HQ6.out hb68)
    have HX8 := hid_mk (boxAt HX6.out hb68)
    have HE8 := hid_mk (boxAt HE6.out hb68)
    have HW8 := hid_mk (HV6.out.below hb68)
    clear o0 o1 o2 o3 o4 o5 k0 k1 k2 k3 s0 s1 s2 s3 s4 s5 zw zk zs hb7 hb8 hb68 hV7
    obtain ⟨k0, k1, k2, k3⟩ := blk4 HK8.out
    obtain ⟨o0, o1, o2, o3, o4, o5⟩ := blk6 HV8.out
    have zk : W.heap.size < w8.heap.size := (Array.getElem?_eq_some_iff.1 HK8.out).1
    have zv : w6.heap.size < w8.heap.size := (Array.getElem?_eq_some_iff.1 HV8.out).1
    go_wp2_with fail
    refine (check_W w8 _ _ p X' (HT.out.below (bTrans HBW.out HB8.out)) (HP.out.below (bTrans HBW.out HB8.out)) HW8.out.wld).mono ?_
    rw [HCK.out]
    rintro r w9 ⟨rfl, hb9⟩
    have HB9 := hid_mk (bTrans HB8.out hb9)
    have HV9 := hid_mk (boxAt HV8.out hb9)
    have HQ9 := hid_mk (boxAt HQ8.out hb9)
    have HX9 := hid_mk (boxAt HX8.out hb9)
    have HE9 := hid_mk (boxAt HE8.out hb9)
    have HW9 := hid_mk (HW8.out.below hb9)
    clear o0 o1 o2 o3 o4 o5 k0 k1 k2 k3 zk zv hb9
    obtain ⟨q0, q1, q2, q3⟩ := blk4 HQ9.out
    obtain ⟨o0, o1, o2, o3, o4, o5⟩ := blk6 HV9.out
    obtain ⟨e0, e1, e2, e3, e4⟩ := blk5 HE9.out
    have zq : W.heap.size + 1 < w9.heap.size := (Array.getElem?_eq_some_iff.1 HQ9.out).1
    have zv : w6.heap.size < w9.heap.size := (Array.getElem?_eq_some_iff.1 HV9.out).1
    have ze : w1.heap.size < w9.heap.size := (Array.getElem?_eq_some_iff.1 HE9.out).1
    have HENa : Hid (∀ X Y, EN w3 ((w9.alloc X).alloc Y) (.slice Aw l.length cw) l) := fun X Y => HEN.out.below (bTrans HB9.out (bAlloc (bAlloc (bRefl _) _) _))
    have HRW : Hid (∀ X Y : Obj, ((w9.alloc X).alloc Y).heap[w9.heap.size + 1]? = some Y) := fun X Y => (two_new w9 X Y).2.1
    have HOW : Hid (∀ g, (Value.slice Aw l.length cw).ownBlock = some g → g < wr.heap.size) := fun g hg => (own_lt HEN.out.own hg).2
    have HWA9 : Hid (∀ (X Y : Obj) (w11 : World), ((w9.alloc X).alloc Y).grownBy w11 (Value.slice Aw l.length cw).ownBlock → WldA (fun b => w5.heap.size ≤ b) w11 (wVal X'.used (.slice A6 X'.acts.length c6) (.slice M6 X'.mail.length d6)) X') := fun X Y w11 hg => (HW9.out.below (bAlloc (bAlloc (bRefl _) _) _)).grown hg fun b hb e => by have hb' : w5.heap.size ≤ b := hb; have := HOW.out b e; omega
    have HXX9 : Hid (∀ (X Y : Obj) (w11 : World), ((w9.alloc X).alloc Y).grownBy w11 (Value.slice Aw l.length cw).ownBlock → w11.heap[w3.heap.size]? = some (.cells #[.slice Ak x.acts.length ck, .slice Mk x.mail.length dk, .int .i64 x.used.drop, .int .i64 x.used.dup, .int .i64 x.used.time, .int .i64 x.used.crash] 44)) := fun X Y w11 hg => by
     have h1 := boxAt HX9.out (bAlloc (bAlloc (bRefl w9) X) Y)
     exact (hg.block _ (Array.getElem?_eq_some_iff.1 h1).1 (fun e => (HENa.out X Y).box h1 e.symm)).trans h1
    have HVV9 : Hid (∀ (X Y : Obj) (w11 : World), ((w9.alloc X).alloc Y).grownBy w11 (Value.slice Aw l.length cw).ownBlock → w11.heap[w6.heap.size]? = some (.cells #[.slice A6 X'.acts.length c6, .slice M6 X'.mail.length d6, .int .i64 X'.used.drop, .int .i64 X'.used.dup, .int .i64 X'.used.time, .int .i64 X'.used.crash] 44)) := fun X Y w11 hg => by
     have h1 := boxAt HV9.out (bAlloc (bAlloc (bRefl w9) X) Y)
     exact (hg.block _ (Array.getElem?_eq_some_iff.1 h1).1 (fun e => (HENa.out X Y).box h1 e.symm)).trans h1
    have hl6 : l.length ≤ 100000 := by omega
    by_cases hkind : ev.kind = 1
    ·have HKI := hid_mk hkind
     clear hkind
     have hF : (fau (l ++ [ev]) : Int) = (fau l : Int) := by
      rw [HFS.out, if_neg (by simpa using HKI.out)]; rfl
     have hsb : (X'.used.drop + X'.used.dup + X'.used.time + X'.used.crash != (fau l : Int)) = false := by rw [HSU.out, hF]; simp
     have hkb : (ev.kind != 1) = false := ne_no HKI.out
     have HF1 := hid_mk hF
     clear hF
     go_wp2_with (first
      | (at_builtin; refine appE2 (W := w3) (l := l) (e := ev) (A := Aw) (c := cw) (b := w9.heap.size + 1) rfl _ _ rfl rfl rfl (HENa.out _ _) (HRW.out _ _) (by omega) ?_; intro g cap w11 hen11 hgr hat; have HEN11 := hid_mk hen11; have HW11 := hid_mk (HWA9.out _ _ _ hgr); have HX11 := hid_mk (HXX9.out _ _ _ hgr); have HV11 := hid_mk (HVV9.out _ _ _ hgr); clear hen11 hgr hat; obtain ⟨r0, r1, r2, r3, r4, r5⟩ := blk6 HV11.out; obtain ⟨o0, o1, o2, o3, o4, o5⟩ := blk6 HX11.out; have fk11 : ∀ o, w11.frozen? ⟨w3.heap.size, o, none⟩ = false := (fun o => heap_frozen HX11.out); have zw11 : w3.heap.size < w11.heap.size := (Array.getElem?_eq_some_iff.1 HX11.out).1)
      | fail)
     go_roundg (ks.length - (l.length + 1))
     case measure => have := HLT.out; omega
     case rel =>
      refine ⟨l ++ [ev], by rw [HLEN.out], by rw [HLEN.out]; have := HLT.out; omega, by rw [HF1.out], by rw [HLEN.out]; go_num, ?_⟩
      exact WS.next HWY.out HGX.out HX11.out rfl HEN11.out (HW11.out.weak fun b hb => by have hb' : w5.heap.size ≤ b := hb; have h3 := (Array.getElem?_eq_some_iff.1 HBX.out).1; show b ≠ w3.heap.size; omega)
    ·have HKI : Hid (ev.kind ≠ 1) := hkind
     clear hkind
     have hF : (fau (l ++ [ev]) : Int) = (fau l : Int) + 1 := by
      rw [HFS.out, if_pos HKI.out]; rfl
     have hsb : (X'.used.drop + X'.used.dup + X'.used.time + X'.used.crash != (fau l : Int) + 1) = false := by rw [HSU.out, hF]; simp
     have hkb : (ev.kind != 1) = true := ne_yes HKI.out
     have HF1 := hid_mk hF
     clear hF
     go_wp2_with (first
      | (at_builtin; refine appE2 (W := w3) (l := l) (e := ev) (A := Aw) (c := cw) (b := w9.heap.size + 1) rfl _ _ rfl rfl rfl (HENa.out _ _) (HRW.out _ _) (by omega) ?_; intro g cap w11 hen11 hgr hat; have HEN11 := hid_mk hen11; have HW11 := hid_mk (HWA9.out _ _ _ hgr); have HX11 := hid_mk (HXX9.out _ _ _ hgr); have HV11 := hid_mk (HVV9.out _ _ _ hgr); clear hen11 hgr hat; obtain ⟨r0, r1, r2, r3, r4, r5⟩ := blk6 HV11.out; obtain ⟨o0, o1, o2, o3, o4, o5⟩ := blk6 HX11.out; have fk11 : ∀ o, w11.frozen? ⟨w3.heap.size, o, none⟩ = false := (fun o => heap_frozen HX11.out); have zw11 : w3.heap.size < w11.heap.size := (Array.getElem?_eq_some_iff.1 HX11.out).1)
      | fail)
     go_roundg (ks.length - (l.length + 1))
     case measure => have := HLT.out; omega
     case rel =>
      refine ⟨l ++ [ev], by rw [HLEN.out], by rw [HLEN.out]; have := HLT.out; omega, by rw [HF1.out], by rw [HLEN.out]; go_num, ?_⟩
      exact WS.next HWY.out HGX.out HX11.out rfl HEN11.out (HW11.out.weak fun b hb => by have hb' : w5.heap.size ≤ b := hb; have h3 := (Array.getElem?_eq_some_iff.1 HBX.out).1; show b ≠ w3.heap.size; omega)
  ·have hki : ¬ (l.length : Int) < (ks.length : Int) := by omega
   have HBt := hid_mk (bTrans HBW.out (bRefl wr))
   have HBXt := hid_mk (boxAt HBX.out (bRefl wr))
   have HKt := hid_mk (boxAt HK.out (bRefl wr))
   have HQt := hid_mk (boxAt HQ.out (bRefl wr))
   have HWVt := hid_mk (HWV.out.below (bRefl wr))
   have HENt := hid_mk (HEN.out.below (bRefl wr))
   clear k0 k1 k2 k3 q0 q1 q2 q3 o0 o1 o2 o3 o4 o5 zw zk zq
   obtain ⟨k0, k1, k2, k3⟩ := blk4 HKt.out
   obtain ⟨q0, q1, q2, q3⟩ := blk4 HQt.out
   have zk : W.heap.size < wr.heap.size := (Array.getElem?_eq_some_iff.1 HKt.out).1
   have zq : W.heap.size + 1 < wr.heap.size := (Array.getElem?_eq_some_iff.1 HQt.out).1
   have zw : w3.heap.size < wr.heap.size := (Array.getElem?_eq_some_iff.1 HBXt.out).1
   go_wp2_with fail
   refine (run_yes_s wr _ _ p bu l (HT.out.below HBt.out) (HP.out.below HBt.out) ((HENt.out.evs (by have := HLK.out; have := HL30.out; omega)).any) HS.out HF.out (fun k hk _ => HY.out.sms (by have := HLK.out; have := HL30.out; omega) k hk)).mono ?_
   rintro r w8 ⟨v8, X8, n8, er8, rfl, hv8, hE8, hb8⟩
   obtain ⟨hn8, hX8, rfl⟩ := hE8.all HY.out.ok
   subst hn8
   have hX8' := hX8.trans HX.out
   subst hX8'
   have HV8 := hid_mk hv8.wld
   obtain ⟨a8, m8, rfl, ha8, hm8⟩ := hv8
   obtain ⟨A8, c8, rfl, _⟩ := ha8.form
   obtain ⟨M8, d8, rfl, _⟩ := hm8.form
   have HB8 := hid_mk hb8
   clear k0 k1 k2 k3 q0 q1 q2 q3 zw zk zq ha8 hm8 hE8 hX8
   obtain ⟨o0, o1, o2, o3, o4, o5⟩ := blk6 (boxAt HBXt.out hb8)
   have zw : w3.heap.size < w8.heap.size := (Array.getElem?_eq_some_iff.1 (boxAt HBXt.out hb8)).1
   clear hb8
   go_wp2_with fail
   refine (sameW_any _ _ _ X8 X8 (HV8.out.below (bAlloc (bRefl _) _)) (HWVt.out.below (bTrans HB8.out (bAlloc (bRefl _) _)))).mono ?_
   rw [eqB_self]
   rintro r w9 ⟨rfl, hb9⟩
   have HB9 := hid_mk (bTrans (bTrans HBt.out HB8.out) (bTrans (bAlloc (bRefl _) _) hb9))
   clear hb9
   go_wp2_with fail
   refine (swake_any _ (HT.out.below HB9.out)).mono ?_
   rintro r w10 ⟨rfl, hb10⟩
   go_wp2
   go_ret
   exact ⟨rfl, bTrans HB9.out hb10⟩
theorem walks_any (W : World) (vp vi : Value) (p : PPrg) (bu : PBud) (ks : List Int) (ht : Tab W) (hp : PrgV W vp p) (hi : Ints anyB W vi ks) : Calls Tryd.prog 8 #[vp, uVal bu, vi] W fun e w' => e = .returned (.bool true) ∧ Below W.heap.size W w' := by
 by_cases hs : Small p
 ·by_cases hl : ks.length ≤ 30
  ·by_cases hf : fc p = 0
   ·exact walk_go W vp vi p bu ks ht hp hi hs hl hf
   ·exact walk_no W vp vi p bu ks ht hp hi hs hl hf
  ·exact walk_long W vp vi p bu ks ht hp hi hs (by omega)
 ·exact walk_big W vp vi p bu ks ht hp hi hs
end Go.Proofs.YtgdloonpemaijaaDoor
