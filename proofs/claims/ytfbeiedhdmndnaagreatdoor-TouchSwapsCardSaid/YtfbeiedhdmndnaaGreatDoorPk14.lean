/-
  step.Notes and step.Run.
-/
import Derived.Test.YtfbeiedhdmndnaaGreatDoorPk12
import Derived.Test.YtfbeiedhdmndnaaGreatDoorPk13
import Derived.Test.YtfbeiedhdmndnaaGreatDoorPk1
import Derived.ProofKit
import Derived.LaidMore
import Derived.OpenShut
import Derived.HandedShaped
import Derived.Handed
import Derived.Shelf.Vars
import Derived.Lib.SmallJoins
import Derived.Lib.LaidTab
import Derived.Stop.Joined
import Derived.Stop.LaidErr
namespace Go.Proofs.YtfbeiedhdmndnaaGreatDoor
open Go.RowKit
def mn0 (a : Int) : Int := if 0 < a then 0 else a
def askW (x : PWld) : PWld := { x with used := { x.used with time := mn0 x.used.time } }
noncomputable def rhP (p : PPrg) (x : PWld) (e : PEv) : Bool := isP p ⟨0, 0, 1, 0⟩ (askW x) e
theorem run_mn0 (P : Program) (w : World) (ts : Array TypeId) (t : TypeId) (a : Int) : (Builtin.min_ ts t #[.int .i64 a, .int .i64 0]).run P w = .ok (.int .i64 (mn0 a)) w := by
 rw [run_min_int2]; rfl
section
attribute [local go_sem ↓] run_mn0
set_option maxHeartbeats 2000000 in
theorem rh_any (W : World) (vp vw : Value) (p : PPrg) (x : PWld) (e : PEv) (ht : Tab W) (hp : PrgV W vp p) (hx : WldV W vw x) :
  Calls Tryz.prog 43 #[vp, vw, eVal e] W fun r w' => r = .returned (.bool (rhP p x e)) ∧ Below W.heap.size W w' := by
 have HT := hid_mk ht
 have HP := hid_mk hp
 have HX := hid_mk hx
 obtain ⟨κ, ⟨f, n, c⟩, who⟩ := e
 obtain ⟨vh, vb, vc, rfl, h1, h2, h3⟩ := hp
 obtain ⟨A1, c1, rfl, _⟩ := h1.form
 obtain ⟨A2, c2, rfl, _⟩ := h2.form
 obtain ⟨A3, c3, rfl, _⟩ := h3.form
 obtain ⟨va, vm, rfl, g1, g2⟩ := hx
 obtain ⟨B1, d1, rfl, _⟩ := g1.form
 obtain ⟨B2, d2, rfl, _⟩ := g2.form
 have HG1 := hid_mk g1
 have HG2 := hid_mk g2
 have HBA : Hid (∀ X Y Z, Below W.heap.size W (((W.alloc X).alloc Y).alloc Z)) := fun X Y Z => bAlloc (bAlloc (bAlloc (bRefl _) _) _) _
 clear h1 h2 h3 g1 g2 ht
 go_enter Tryz.func43, Tryz.ntmps43
 go_wp2_with fail
 refine (is_any _ _ _ p ⟨0, 0, 1, 0⟩ (askW x) ⟨κ, ⟨f, n, c⟩, who⟩ (HT.out.below (HBA.out _ _ _)) (HP.out.below (HBA.out _ _ _)) ⟨_, _, rfl, HG1.out.below (HBA.out _ _ _), HG2.out.below (HBA.out _ _ _)⟩).mono ?_
 rintro e w2 ⟨rfl, hb2⟩
 go_wp2
 go_ret
 exact ⟨rfl, bTrans (HBA.out _ _ _) hb2⟩
end
theorem Ntes.weak2 {ok ok' inn inn' : Nat → Prop} {w : World} {v : Value} {l : List PNte} (h : Ntes ok inn w v l) (k : ∀ b, ok b → ok' b) (k' : ∀ b, inn b → inn' b) : Ntes ok' inn' w v l :=
 h.imp k (Nat.le_refl _) fun _ _ _ _ _ ⟨a1, a2, c, a3, a4⟩ => ⟨a1, a2, c, a3, Ints.weak a4 k'⟩
noncomputable def notesP (p : PPrg) (x : PWld) (e : PEv) : List PNte := if rhP p x e = true then (hdlR (runP p) p x e).notes else []
theorem rest_zero {a : Int} (h : 0 ≤ a) (h1 : a ≤ 9223372036854775807) : ¬ 0 < restI 0 a := by
 unfold restI
 rw [IntWalk.wrap64_in _ ⟨by omega, by omega⟩, if_neg (by omega)]; omega
structure RgU (u : PBud) : Prop where
 drop : u.drop ≤ 9223372036854775807
 dup : u.dup ≤ 9223372036854775807
 crash : u.crash ≤ 9223372036854775807
theorem rh_kind {p : PPrg} {x : PWld} {e : PEv} (hr : RgU x.used) (h : rhP p x e = true) : e.kind = 1 ∨ e.kind = 4 := by
 rcases isP_kind h with hk | hk | hk | hk | hk
 ·exact Or.inl hk
 ·obtain ⟨k, y, j, z, _, _, _, _, _, _, ho⟩ := isP_msg h (Or.inr (Or.inl hk))
  rw [hk] at ho
  have hd : (leftB ⟨0, 0, 1, 0⟩ (askW x).used).drop = restI 0 x.used.drop := rfl
  obtain ⟨_, hc, _⟩ := isP_parts h
  have hu : 0 ≤ x.used.drop := by
   unfold chkW chkUsed at hc
   simp only [Bool.and_eq_true, decide_eq_true_eq] at hc
   exact hc.2.2.2.1
  have : ofM (leftB ⟨0, 0, 1, 0⟩ (askW x).used) (askW x) 2 y = false := by
   unfold ofM
   rw [hd]
   simp only [Int.reduceEq, ↓reduceIte, decide_eq_false_iff_not]
   exact rest_zero hu hr.drop
  rw [this] at ho; cases ho
 ·obtain ⟨k, y, j, z, _, _, _, _, _, _, ho⟩ := isP_msg h (Or.inr (Or.inr hk))
  rw [hk] at ho
  have hd : (leftB ⟨0, 0, 1, 0⟩ (askW x).used).dup = restI 0 x.used.dup := rfl
  obtain ⟨_, hc, _⟩ := isP_parts h
  have hu : 0 ≤ x.used.dup := by
   unfold chkW chkUsed at hc
   simp only [Bool.and_eq_true, decide_eq_true_eq] at hc
   exact hc.2.2.2.2.1
  have : ofM (leftB ⟨0, 0, 1, 0⟩ (askW x).used) (askW x) 3 y = false := by
   unfold ofM
   rw [hd]
   simp only [Int.reduceEq, ↓reduceIte, decide_eq_false_iff_not]
   exact rest_zero hu hr.dup
  rw [this] at ho; cases ho
 ·exact Or.inr hk
 ·obtain ⟨j, z, ac, _, _, _, _, _, ho⟩ := isP_act h (Or.inr hk)
  rw [hk] at ho
  have hd : (leftB ⟨0, 0, 1, 0⟩ (askW x).used).crash = restI 0 x.used.crash := rfl
  obtain ⟨_, hc, _⟩ := isP_parts h
  have hu : 0 ≤ x.used.crash := by
   unfold chkW chkUsed at hc
   simp only [Bool.and_eq_true, decide_eq_true_eq] at hc
   exact hc.2.2.2.2.2.2
  have : ofA (leftB ⟨0, 0, 1, 0⟩ (askW x).used) 5 z = false := by
   unfold ofA
   rw [hd]
   simp only [Int.reduceEq, ↓reduceIte, Bool.and_eq_false_iff, decide_eq_false_iff_not]
   exact Or.inr (rest_zero hu hr.crash)
  rw [this] at ho; cases ho
set_option maxHeartbeats 8000000 in
set_option maxRecDepth 100000 in
theorem notes_hdl (W : World) (vp vw : Value) (p : PPrg) (x x1 : PWld) (e : PEv) (j : Nat) (R : PRes) (ht : Tab W) (hp : PrgV W vp p) (hx : WldV W vw x) (hs : SmW x) (hi : rhP p x e = true) (hH : Hdl W vp x x1 e j R) :
  Calls Tryz.prog 14 #[vp, vw, eVal e] W fun r w' => ∃ v, r = .returned v ∧ Ntes (fun b => W.heap.size ≤ b) (fun b => W.heap.size ≤ b) w' v R.notes ∧ Below W.heap.size W w' := by
 have HT := hid_mk ht
 have HP := hid_mk hp
 have HX := hid_mk hx
 have HS := hid_mk hs
 have HI := hid_mk hi
 have HH := hid_mk hH
 obtain ⟨κ, ⟨f, n, c⟩, who⟩ := e
 obtain ⟨vh, vb, vc, rfl, h1, h2, h3⟩ := hp
 obtain ⟨A1, c1, rfl, _⟩ := h1.form
 obtain ⟨A2, c2, rfl, _⟩ := h2.form
 obtain ⟨A3, c3, rfl, _⟩ := h3.form
 obtain ⟨va, vm, rfl, g1, g2⟩ := hx
 obtain ⟨B1, d1, rfl, _⟩ := g1.form
 obtain ⟨B2, d2, rfl, _⟩ := g2.form
 clear h1 h2 h3 g1 g2 ht hs hi hH
 have hA := three_new W (.cells #[.slice A1 p.hs.length c1, .slice A2 p.acs.length c2, .slice A3 p.bs.length c3, .int .i64 p.fuel] 26) (.cells #[.slice B1 x.acts.length d1, .slice B2 x.mail.length d2, .int .i64 x.used.drop, .int .i64 x.used.dup, .int .i64 x.used.time, .int .i64 x.used.crash] 32) (.cells #[.int .i64 κ, .int .i64 f, .int .i64 n, .int .i64 c, .int .i64 who] 36)
 have HL : Below W.heap.size W (((W.alloc (.cells #[.slice A1 p.hs.length c1, .slice A2 p.acs.length c2, .slice A3 p.bs.length c3, .int .i64 p.fuel] 26)).alloc (.cells #[.slice B1 x.acts.length d1, .slice B2 x.mail.length d2, .int .i64 x.used.drop, .int .i64 x.used.dup, .int .i64 x.used.time, .int .i64 x.used.crash] 32)).alloc (.cells #[.int .i64 κ, .int .i64 f, .int .i64 n, .int .i64 c, .int .i64 who] 36)) := bAlloc (bAlloc (bAlloc (bRefl _) _) _) _
 go_enter Tryz.func14, Tryz.ntmps14
 go_wp2_with fail
 generalize (((W.alloc (.cells #[.slice A1 p.hs.length c1, .slice A2 p.acs.length c2, .slice A3 p.bs.length c3, .int .i64 p.fuel] 26)).alloc (.cells #[.slice B1 x.acts.length d1, .slice B2 x.mail.length d2, .int .i64 x.used.drop, .int .i64 x.used.dup, .int .i64 x.used.time, .int .i64 x.used.crash] 32)).alloc (.cells #[.int .i64 κ, .int .i64 f, .int .i64 n, .int .i64 c, .int .i64 who] 36)) = w1 at hA HL ⊢
 refine (rh_any _ _ _ p x ⟨κ, ⟨f, n, c⟩, who⟩ (HT.out.below HL) (HP.out.below HL) (HX.out.below HL)).mono ?_
 rw [HI.out]
 rintro e w2 ⟨rfl, hb2⟩
 have HW2 := hid_mk (bTrans HL hb2)
 have HK0 := hid_mk (boxAt hA.1 hb2)
 have HK1 := hid_mk (boxAt hA.2.1 hb2)
 have HK2 := hid_mk (boxAt hA.2.2.1 hb2)
 have hs2 : W.heap.size + 3 ≤ w2.heap.size := by have := hb2.size; have := hA.2.2.2; omega
 clear hA HL hb2
 obtain ⟨k0, k1, k2, k3, k4, k5⟩ := blk6 HK1.out
 go_wp2_with fail
 refine (copyW_any _ _ x (HX.out.below HW2.out) HS.out).mono ?_
 rintro e w3 ⟨a, m, lo, hi, rfl, hwn, hb3⟩
 obtain ⟨A', c', rfl⟩ := hwn.acts.form
 obtain ⟨B', d', rfl, _⟩ := hwn.mail.form
 have hs3 := hb3.size
 have HPW := hid_mk (hwn.toPW hb3.size).bw
 have hb4 : Below w2.heap.size w2 (w3.alloc (.cells #[.slice A' x.acts.length c', .slice B' x.mail.length d', .int .i64 x.used.drop, .int .i64 x.used.dup, .int .i64 x.used.time, .int .i64 x.used.crash] 32)) := bAlloc hb3 _
 have HW4 := hid_mk (bTrans HW2.out hb4)
 obtain ⟨e0, e1, e2, e3, e4⟩ := blk5 (boxAt HK2.out hb3)
 obtain ⟨q0, q1, q2, q3⟩ := blk4 (boxAt HK0.out hb3)
 have z2 : W.heap.size + 2 < w3.heap.size := by omega
 have z0 : W.heap.size < w3.heap.size := by omega
 clear hwn hb3 hb4 k0 k1 k2 k3 k4 k5
 go_wp2_with fail
 have hz4 : (w3.alloc (.cells #[.slice A' x.acts.length c', .slice B' x.mail.length d', .int .i64 x.used.drop, .int .i64 x.used.dup, .int .i64 x.used.time, .int .i64 x.used.crash] 32)).heap.size = w3.heap.size + 1 := by simp
 generalize (w3.alloc (.cells #[.slice A' x.acts.length c', .slice B' x.mail.length d', .int .i64 x.used.drop, .int .i64 x.used.dup, .int .i64 x.used.time, .int .i64 x.used.crash] 32)) = w4 at HPW HW4 hz4 ⊢
 have HZ4 := hid_mk hz4
 refine (HH.out w2.heap.size w3.heap.size w4 _ _ HW4.out (by omega) (by omega) (by omega) HPW.out).mono ?_
 rintro e w5 ⟨u, m5, rfl, hbw5, hres, hex5⟩
 obtain ⟨cr, cn, rfl, hr1, hr2⟩ := hres
 obtain ⟨C1, e5, rfl, _⟩ := hr1.form
 obtain ⟨C2, e6, rfl, _⟩ := hr2.form
 have HR2 := hid_mk hr2
 have HE5 := hid_mk hex5
 clear hbw5 hr1 hr2 hex5 hz4
 go_wp2
 go_ret
 have hq : ∀ b, w4.heap.size ≤ b → W.heap.size ≤ b := fun b hb => by have := HZ4.out; omega
 exact ⟨_, rfl, Ntes.below (Ntes.weak2 HR2.out hq hq) (bAlloc (bRefl _) _), bAlloc (HW4.out.trans (HE5.out.below HW4.out.size fun b hb => by show ¬ (b = w3.heap.size ∨ w2.heap.size ≤ b); omega)) _⟩
theorem rh_of {p : PPrg} {x : PWld} {e : PEv} (h : rhP p x e = true) : isP p ⟨0, 0, 1, 0⟩ (askW x) e = true := h
theorem notes_any (W : World) (vp vw : Value) (p : PPrg) (x : PWld) (e : PEv) (ht : Tab W) (hp : PrgV W vp p) (hx : WldV W vw x) (hs : SmW x) (hr : RgU x.used) :
  Calls Tryz.prog 14 #[vp, vw, eVal e] W fun r w' => ∃ v, r = .returned v ∧ Ntes (fun b => W.heap.size ≤ b) (fun b => W.heap.size ≤ b) w' v (notesP p x e) ∧ Below W.heap.size W w' := by
 have hsz : x.acts.length ≤ 1000 := by have := hs.n; omega
 have hF : Few x.mail := ⟨by have := hs.mail; omega, hs.args⟩
 cases hi : rhP p x e with
 | false =>
  have hN : notesP p x e = [] := by unfold notesP; rw [hi]; rfl
  rw [hN]
  have HT := hid_mk ht
  have HP := hid_mk hp
  have HX := hid_mk hx
  have HI := hid_mk hi
  obtain ⟨κ, ⟨f, n, c⟩, who⟩ := e
  obtain ⟨vh, vb, vc, rfl, h1, h2, h3⟩ := hp
  obtain ⟨A1, c1, rfl, _⟩ := h1.form
  obtain ⟨A2, c2, rfl, _⟩ := h2.form
  obtain ⟨A3, c3, rfl, _⟩ := h3.form
  obtain ⟨va, vm, rfl, g1, g2⟩ := hx
  obtain ⟨B1, d1, rfl, _⟩ := g1.form
  obtain ⟨B2, d2, rfl, _⟩ := g2.form
  have HBA : Hid (∀ X Y Z, Below W.heap.size W (((W.alloc X).alloc Y).alloc Z)) := fun X Y Z => bAlloc (bAlloc (bAlloc (bRefl _) _) _) _
  clear h1 h2 h3 g1 g2 ht hi hN
  go_enter Tryz.func14, Tryz.ntmps14
  go_wp2_with fail
  refine (rh_any _ _ _ p x ⟨κ, ⟨f, n, c⟩, who⟩ (HT.out.below (HBA.out _ _ _)) (HP.out.below (HBA.out _ _ _)) (HX.out.below (HBA.out _ _ _))).mono ?_
  rw [HI.out]
  rintro e w2 ⟨rfl, hb2⟩
  have HB2 := hid_mk (bTrans (HBA.out _ _ _) hb2)
  clear hb2
  go_wp2
  go_ret
  exact ⟨_, rfl, ⟨_, _, rfl, by simp, by simp, Or.inl rfl⟩, HB2.out⟩
 | true =>
  have hN : notesP p x e = (hdlR (runP p) p x e).notes := by unfold notesP; rw [hi]; rfl
  rw [hN]
  rcases rh_kind hr hi with hk | hk
  ·obtain ⟨k, ⟨yd, ⟨t, hd, args⟩⟩, j, z, hf, hy, _, hj, hz, _⟩ := isP_msg (rh_of hi) (Or.inl hk)
   dsimp only at hj
   subst hj
   have hf' : fnd x.mail e.id = k := hf
   have hy' : x.mail[k]? = some ⟨yd, ⟨(j : Int), hd, args⟩⟩ := hy
   have hz' : x.acts[j]? = some z := hz
   have e1 : hdlR (runP p) p x e = runP p j z hd args := by
    unfold hdlR
    have h4 : ¬ e.kind = 4 := by omega
    rw [if_neg h4, msgOf_eq hf' hy', tookP_eq hf']
    show runP p (j : Int) (locAt { x with mail := cutP x.mail k } (Int.toNat (j : Int))) hd args = _
    rw [Int.toNat_natCast]
    have : locAt { x with mail := cutP x.mail k } j = z := getD_at hz'
    rw [this]
   rw [e1]
   refine notes_hdl W vp vw p x { x with mail := cutP x.mail k } e j _ ht hp hx hs hi ?_
   intro N bo W4 a m hb hbo hWN hN4 hbw
   obtain ⟨κ, d, who⟩ := e
   dsimp only at hk hf'
   refine (handle_1 (fun b => N ≤ b) bo W4 vp a m p x κ who d yd k j hd args z W (fun b hb => by omega) ht hp hb hbo hbw (by omega) hf' hy' hF hz' hsz).mono ?_
   rintro r w' ⟨u, m', h1, h2, h3, h4⟩
   exact ⟨u, m', h1, h2, h3, h4.weak fun b hb => Or.inl hb⟩
  ·obtain ⟨j, z, ac, hj, hz, hac, _⟩ := isP_act (rh_of hi) (Or.inl hk)
   have hz' : x.acts[j]? = some z := hz
   have e1 : hdlR (runP p) p x e = runP p j { z with armed := false } ac.timer [] := by
    unfold hdlR
    rw [if_pos hk, hj, Int.toNat_natCast]
    have hlz : locAt x j = z := getD_at hz'
    have h1 : locAt (calmP x j) j = { z with armed := false } := by
     unfold calmP
     rw [hlz]
     exact getD_at (List.getElem?_set_self (List.getElem?_eq_some_iff.1 hz').1)
    have h2 : tmOf p j = ac.timer := by unfold tmOf; rw [getD_at hac]
    rw [h1, h2]
   rw [e1]
   refine notes_hdl W vp vw p x (calmP x j) e j _ ht hp hx hs hi ?_
   intro N bo W4 a m hb hbo hWN hN4 hbw
   obtain ⟨κ, d, who⟩ := e
   dsimp only at hk hj
   subst hk hj
   refine (handle_4 (fun b => N ≤ b) bo W4 vp a m p x d j z ac W (fun b hb => by omega) (fun b hb => by omega) ht hp hb hbo hbw hz' hac hsz).mono ?_
   rintro r w' ⟨u, h1, h2, h3, h4⟩
   exact ⟨u, m, h1, h2, h3, h4⟩
end Go.Proofs.YtfbeiedhdmndnaaGreatDoor
namespace Go.Proofs.YtfbeiedhdmndnaaGreatDoor
open Go.RowKit
noncomputable def goP (p : PPrg) (x0 : PWld) (l : List PEv) : Nat → PWld
 | 0 => x0
 | k + 1 => doP p (goP p x0 l k) (l.getD k default)
def okAt (p : PPrg) (b : PBud) (x0 : PWld) (l : List PEv) (k : Nat) : Prop := isP p b (goP p x0 l k) (l.getD k default) = true
structure RN (W : World) (P B : Obj) (x : PWld) (wr : World) : Prop where
 bp : wr.heap[W.heap.size]? = some P
 bb : wr.heap[W.heap.size + 1]? = some B
 bw : ∃ a m, wr.heap[W.heap.size + 2]? = some (.cells #[a, m, .int .i64 x.used.drop, .int .i64 x.used.dup, .int .i64 x.used.time, .int .i64 x.used.crash] 32) ∧ WldA (fun b => W.heap.size + 3 ≤ b) wr (wVal x.used a m) x
 low : Below W.heap.size W wr
theorem RN.below {W wr wa : World} {P B : Obj} {x : PWld} (h : RN W P B x wr) (hb : Below wr.heap.size wr wa) : RN W P B x wa :=
 let ⟨a, m, h1, h2⟩ := h.bw
 ⟨boxAt h.bp hb, boxAt h.bb hb, ⟨a, m, boxAt h1 hb, h2.below hb⟩, bTrans h.low hb⟩
theorem RN.next {W wr wa : World} {P B : Obj} {x x' : PWld} {a m : Value} (h : RN W P B x wr) (hb : Below wr.heap.size wr wa) (hx : WldA (fun b => W.heap.size + 3 ≤ b) wa (wVal x'.used a m) x') :
  RN W P B x' (put6 wa (W.heap.size + 2) a m (.int .i64 x'.used.drop) (.int .i64 x'.used.dup) (.int .i64 x'.used.time) (.int .i64 x'.used.crash)) := by
 obtain ⟨a0, m0, h1, _⟩ := h.bw
 have hS : Same (fun d => d ≠ W.heap.size + 2) wa (put6 wa (W.heap.size + 2) a m (.int .i64 x'.used.drop) (.int .i64 x'.used.dup) (.int .i64 x'.used.time) (.int .i64 x'.used.crash)) := put6_same
 have hz := (Array.getElem?_eq_some_iff.1 (boxAt h1 hb)).1
 exact ⟨(hS.block _ (by show _ ≠ _; omega) (by omega)).trans (boxAt h.bp hb), (hS.block _ (by show _ ≠ _; omega) (by omega)).trans (boxAt h.bb hb), ⟨a, m, put6_heap (boxAt h1 hb), hx.same (hS.weak fun b hb => by have hb' : W.heap.size + 3 ≤ b := hb; show b ≠ _; omega)⟩, put6_below (bTrans h.low hb) (by omega)⟩
structure RunE (p : PPrg) (b : PBud) (l : List PEv) (X : PWld) (n : Nat) (er : Int) : Prop where
 done : ∀ i, i < n → okAt p b (startP p) l i
 res : (n = l.length ∧ X = goP p (startP p) l n ∧ er = 0) ∨ (n < l.length ∧ ¬ okAt p b (startP p) l n ∧ X = ⟨[], [], ⟨0, 0, 0, 0⟩⟩ ∧ er = 8)
end Go.Proofs.YtfbeiedhdmndnaaGreatDoor
namespace Go.Proofs.YtfbeiedhdmndnaaGreatDoor
open Go.RowKit
theorem allocs_at : ∀ (l : List Obj) (w : World) (i : Nat) (X : Obj), l[i]? = some X → (l.foldl World.alloc w).heap[w.heap.size + i]? = some X ∧ Below w.heap.size w (l.foldl World.alloc w)
 | [], _, i, X, h => by simp at h
 | Y :: l, w, 0, X, h => by
  cases h
  have hb : Below (w.alloc Y).heap.size (w.alloc Y) (l.foldl World.alloc (w.alloc Y)) := allocs_below l (w.alloc Y)
  exact ⟨boxAt (heap_new w Y) hb, bTrans (bAlloc (bRefl _) _) hb⟩
 | Y :: l, w, i + 1, X, h => by
  obtain ⟨h1, h2⟩ := allocs_at l (w.alloc Y) i X h
  rw [show (w.alloc Y).heap.size = w.heap.size + 1 by simp] at h1
  exact ⟨by rw [show w.heap.size + (i + 1) = w.heap.size + 1 + i by omega]; exact h1, bTrans (bAlloc (bRefl _) _) h2⟩
where
 allocs_below : ∀ (l : List Obj) (w : World), Below w.heap.size w (l.foldl World.alloc w)
  | [], w => bRefl w
  | Y :: l, w => bTrans (bAlloc (bRefl _) Y) (allocs_below l (w.alloc Y))
def pc1 : List PIns := [⟨7, 0⟩, ⟨21, 13⟩, ⟨5, 0⟩, ⟨7, 0⟩, ⟨9, 0⟩, ⟨6, 0⟩, ⟨7, 0⟩, ⟨1, 1⟩, ⟨10, 0⟩, ⟨1, 1⟩, ⟨8, 0⟩, ⟨10, 0⟩, ⟨22, 0⟩]
def pc2 : List PIns := [⟨1, 9⟩, ⟨6, 0⟩, ⟨23, 0⟩]
def pairP (n : Int) : PPrg := ⟨[⟨1, pc1⟩, ⟨0, pc2⟩], [⟨[0], 4, 1, true⟩, ⟨[0], 4, -1, false⟩], [⟨0, 0, [n]⟩], 20⟩
abbrev pairV (N : Nat) : Value := .agg #[.slice (some ⟨N + 1 + 1 + 1, 0, none⟩) 2 2, .slice (some ⟨N + 1 + 1 + 1 + 1 + 1 + 1, 0, none⟩) 2 2, .slice (some ⟨N + 1 + 1 + 1 + 1 + 1 + 1 + 1 + 1, 0, none⟩) 1 1, .int .i64 20]
structure PairB (N : Nat) (n : Int) (w : World) : Prop where
 b1 : w.heap[N + 1]? = some (.cells #[.int .i64 7, .int .i64 0, .int .i64 21, .int .i64 13, .int .i64 5, .int .i64 0, .int .i64 7, .int .i64 0, .int .i64 9, .int .i64 0, .int .i64 6, .int .i64 0, .int .i64 7, .int .i64 0, .int .i64 1, .int .i64 1, .int .i64 10, .int .i64 0, .int .i64 1, .int .i64 1, .int .i64 8, .int .i64 0, .int .i64 10, .int .i64 0, .int .i64 22, .int .i64 0] 70)
 b2 : w.heap[N + 1 + 1]? = some (.cells #[.int .i64 1, .int .i64 9, .int .i64 6, .int .i64 0, .int .i64 23, .int .i64 0] 70)
 b3 : w.heap[N + 1 + 1 + 1]? = some (.cells #[.int .i64 1, .slice (some ⟨N + 1, 0, none⟩) 13 13, .int .i64 0, .slice (some ⟨N + 1 + 1, 0, none⟩) 3 3] 73)
 b4 : w.heap[N + 1 + 1 + 1 + 1]? = some (.cells #[.int .i64 0] 3)
 b5 : w.heap[N + 1 + 1 + 1 + 1 + 1]? = some (.cells #[.int .i64 0] 3)
 b6 : w.heap[N + 1 + 1 + 1 + 1 + 1 + 1]? = some (.cells #[.slice (some ⟨N + 1 + 1 + 1 + 1, 0, none⟩) 1 1, .int .i64 4, .int .i64 1, .bool true, .slice (some ⟨N + 1 + 1 + 1 + 1 + 1, 0, none⟩) 1 1, .int .i64 4, .int .i64 (-1), .bool false] 75)
 b7 : w.heap[N + 1 + 1 + 1 + 1 + 1 + 1 + 1]? = some (.cells #[.int .i64 n] 3)
 b8 : w.heap[N + 1 + 1 + 1 + 1 + 1 + 1 + 1 + 1]? = some (.cells #[.int .i64 0, .int .i64 0, .slice (some ⟨N + 1 + 1 + 1 + 1 + 1 + 1 + 1, 0, none⟩) 1 1] 79)
section
variable {N : Nat} {n : Int} {w w' : World}
theorem PairB.below (h : PairB N n w) (hb : Below w.heap.size w w') : PairB N n w' := ⟨boxAt h.b1 hb, boxAt h.b2 hb, boxAt h.b3 hb, boxAt h.b4 hb, boxAt h.b5 hb, boxAt h.b6 hb, boxAt h.b7 hb, boxAt h.b8 hb⟩
theorem PairB.top (h : PairB N n w) : N + 1 + 1 + 1 + 1 + 1 + 1 + 1 + 1 < w.heap.size := (Array.getElem?_eq_some_iff.1 h.b8).1
theorem PairB.c1 (h : PairB N n w) : Code anyB w (.slice (some ⟨N + 1, 0, none⟩) 13 13) pc1 := by
 have t := h.top
 refine ⟨_, 13, rfl, by simp [pc1], by simp [pc1], Or.inr ⟨N + 1, 0, rfl, trivial, by omega, fun j y hy => ?_⟩⟩
 match j, hy with
 | 0, hy => cases hy; exact ⟨by rw [cell_of_row _ _ _ _ _ _ h.b1]; rfl, by rw [cell_of_row _ _ _ _ _ _ h.b1]; rfl⟩
 | 1, hy => cases hy; exact ⟨by rw [cell_of_row _ _ _ _ _ _ h.b1]; rfl, by rw [cell_of_row _ _ _ _ _ _ h.b1]; rfl⟩
 | 2, hy => cases hy; exact ⟨by rw [cell_of_row _ _ _ _ _ _ h.b1]; rfl, by rw [cell_of_row _ _ _ _ _ _ h.b1]; rfl⟩
 | 3, hy => cases hy; exact ⟨by rw [cell_of_row _ _ _ _ _ _ h.b1]; rfl, by rw [cell_of_row _ _ _ _ _ _ h.b1]; rfl⟩
 | 4, hy => cases hy; exact ⟨by rw [cell_of_row _ _ _ _ _ _ h.b1]; rfl, by rw [cell_of_row _ _ _ _ _ _ h.b1]; rfl⟩
 | 5, hy => cases hy; exact ⟨by rw [cell_of_row _ _ _ _ _ _ h.b1]; rfl, by rw [cell_of_row _ _ _ _ _ _ h.b1]; rfl⟩
 | 6, hy => cases hy; exact ⟨by rw [cell_of_row _ _ _ _ _ _ h.b1]; rfl, by rw [cell_of_row _ _ _ _ _ _ h.b1]; rfl⟩
 | 7, hy => cases hy; exact ⟨by rw [cell_of_row _ _ _ _ _ _ h.b1]; rfl, by rw [cell_of_row _ _ _ _ _ _ h.b1]; rfl⟩
 | 8, hy => cases hy; exact ⟨by rw [cell_of_row _ _ _ _ _ _ h.b1]; rfl, by rw [cell_of_row _ _ _ _ _ _ h.b1]; rfl⟩
 | 9, hy => cases hy; exact ⟨by rw [cell_of_row _ _ _ _ _ _ h.b1]; rfl, by rw [cell_of_row _ _ _ _ _ _ h.b1]; rfl⟩
 | 10, hy => cases hy; exact ⟨by rw [cell_of_row _ _ _ _ _ _ h.b1]; rfl, by rw [cell_of_row _ _ _ _ _ _ h.b1]; rfl⟩
 | 11, hy => cases hy; exact ⟨by rw [cell_of_row _ _ _ _ _ _ h.b1]; rfl, by rw [cell_of_row _ _ _ _ _ _ h.b1]; rfl⟩
 | 12, hy => cases hy; exact ⟨by rw [cell_of_row _ _ _ _ _ _ h.b1]; rfl, by rw [cell_of_row _ _ _ _ _ _ h.b1]; rfl⟩
theorem PairB.c2 (h : PairB N n w) : Code anyB w (.slice (some ⟨N + 1 + 1, 0, none⟩) 3 3) pc2 := by
 have t := h.top
 refine ⟨_, 3, rfl, by simp [pc2], by simp [pc2], Or.inr ⟨N + 1 + 1, 0, rfl, trivial, by omega, fun j y hy => ?_⟩⟩
 match j, hy with
 | 0, hy => cases hy; exact ⟨by rw [cell_of_row _ _ _ _ _ _ h.b2]; rfl, by rw [cell_of_row _ _ _ _ _ _ h.b2]; rfl⟩
 | 1, hy => cases hy; exact ⟨by rw [cell_of_row _ _ _ _ _ _ h.b2]; rfl, by rw [cell_of_row _ _ _ _ _ _ h.b2]; rfl⟩
 | 2, hy => cases hy; exact ⟨by rw [cell_of_row _ _ _ _ _ _ h.b2]; rfl, by rw [cell_of_row _ _ _ _ _ _ h.b2]; rfl⟩
theorem PairB.i4 (h : PairB N n w) : Ints anyB w (.slice (some ⟨N + 1 + 1 + 1 + 1, 0, none⟩) 1 1) [0] := by
 have t := h.top
 refine ⟨_, 1, rfl, by simp, by simp, Or.inr ⟨N + 1 + 1 + 1 + 1, 0, rfl, trivial, by omega, fun j y hy => ?_⟩⟩
 match j, hy with
 | 0, hy => cases hy; show w.cell? _ = _; rw [cell_of_row _ _ _ _ _ _ h.b4]; rfl
theorem PairB.i5 (h : PairB N n w) : Ints anyB w (.slice (some ⟨N + 1 + 1 + 1 + 1 + 1, 0, none⟩) 1 1) [0] := by
 have t := h.top
 refine ⟨_, 1, rfl, by simp, by simp, Or.inr ⟨N + 1 + 1 + 1 + 1 + 1, 0, rfl, trivial, by omega, fun j y hy => ?_⟩⟩
 match j, hy with
 | 0, hy => cases hy; show w.cell? _ = _; rw [cell_of_row _ _ _ _ _ _ h.b5]; rfl
theorem PairB.i7 (h : PairB N n w) : Ints anyB w (.slice (some ⟨N + 1 + 1 + 1 + 1 + 1 + 1 + 1, 0, none⟩) 1 1) [n] := by
 have t := h.top
 refine ⟨_, 1, rfl, by simp, by simp, Or.inr ⟨N + 1 + 1 + 1 + 1 + 1 + 1 + 1, 0, rfl, trivial, by omega, fun j y hy => ?_⟩⟩
 match j, hy with
 | 0, hy => cases hy; show w.cell? _ = _; rw [cell_of_row _ _ _ _ _ _ h.b7]; rfl
theorem PairB.hs (h : PairB N n w) : Hnds anyB anyB w (.slice (some ⟨N + 1 + 1 + 1, 0, none⟩) 2 2) [⟨1, pc1⟩, ⟨0, pc2⟩] := by
 have t := h.top
 obtain ⟨c0, c1, c2, c3⟩ := blk4 h.b3
 refine ⟨_, 2, rfl, by simp, by simp, Or.inr ⟨N + 1 + 1 + 1, 0, rfl, trivial, by omega, fun j y hy => ?_⟩⟩
 match j, hy with
 | 0, hy => cases hy; exact ⟨c0, _, c1, h.c1⟩
 | 1, hy => cases hy; exact ⟨c2, _, c3, h.c2⟩
theorem PairB.acs (h : PairB N n w) : Acts anyB anyB w (.slice (some ⟨N + 1 + 1 + 1 + 1 + 1 + 1, 0, none⟩) 2 2) [⟨[0], 4, 1, true⟩, ⟨[0], 4, -1, false⟩] := by
 have t := h.top
 obtain ⟨c0, c1, c2, c3, c4, c5, c6, c7⟩ := blk8 h.b6
 refine ⟨_, 2, rfl, by simp, by simp, Or.inr ⟨N + 1 + 1 + 1 + 1 + 1 + 1, 0, rfl, trivial, by omega, fun j y hy => ?_⟩⟩
 match j, hy with
 | 0, hy => cases hy; exact ⟨⟨_, c0, h.i4⟩, c1, c2, c3⟩
 | 1, hy => cases hy; exact ⟨⟨_, c4, h.i5⟩, c5, c6, c7⟩
theorem PairB.bs (h : PairB N n w) : Ntes anyB anyB w (.slice (some ⟨N + 1 + 1 + 1 + 1 + 1 + 1 + 1 + 1, 0, none⟩) 1 1) [⟨0, 0, [n]⟩] := by
 have t := h.top
 obtain ⟨c0, c1, c2⟩ := blk3 h.b8
 refine ⟨_, 1, rfl, by simp, by simp, Or.inr ⟨N + 1 + 1 + 1 + 1 + 1 + 1 + 1 + 1, 0, rfl, trivial, by omega, fun j y hy => ?_⟩⟩
 match j, hy with
 | 0, hy => cases hy; exact ⟨c0, c1, _, c2, h.i7⟩
theorem PairB.prg (h : PairB N n w) : PrgV w (pairV N) (pairP n) := ⟨_, _, _, rfl, h.hs, h.acs, h.bs⟩
end
end Go.Proofs.YtfbeiedhdmndnaaGreatDoor
namespace Go.Proofs.YtfbeiedhdmndnaaGreatDoor
open Go.RowKit
theorem RunE.all {p : PPrg} {b : PBud} {l : List PEv} {X : PWld} {n : Nat} {er : Int} (h : RunE p b l X n er) (ho : ∀ i, i < l.length → okAt p b (startP p) l i) : n = l.length ∧ X = goP p (startP p) l l.length ∧ er = 0 := by
 rcases h.res with ⟨h1, h2, h3⟩ | ⟨h1, h2, _⟩
 ·subst h1; exact ⟨rfl, h2, h3⟩
 ·exact absurd (ho n h1) h2
theorem fc_mk {p : PPrg} (h : chk p = 0) (hc : ∀ x ∈ p.hs, de p.hs x.code = 0) : fc p = 0 := by
 unfold fc
 rw [if_pos h]
 have : ∀ l : List PHnd, (∀ x ∈ l, de p.hs x.code = 0) → scan (fun h => de p.hs h.code) l = 0 := by
  intro l hl
  induction l with
  | nil => rfl
  | cons x r ih =>
   unfold scan
   rw [hl x (List.mem_cons_self ..), if_pos rfl]
   exact ih fun y hy => hl y (List.mem_cons_of_mem _ hy)
 exact this _ hc
end Go.Proofs.YtfbeiedhdmndnaaGreatDoor
namespace Go.Proofs.YtfbeiedhdmndnaaGreatDoor
open Go.RowKit
theorem ints_lit {w : World} {B : Nat} {n : Int} (h : w.heap[B]? = some (.cells #[.int .i64 n] 3)) : Ints anyB w (.slice (some ⟨B, 0, none⟩) 1 1) [n] := by
 refine ⟨_, 1, rfl, by simp, by simp, Or.inr ⟨B, 0, rfl, trivial, (Array.getElem?_eq_some_iff.1 h).1, fun j y hy => ?_⟩⟩
 match j, hy with
 | 0, hy => cases hy; show w.cell? _ = _; rw [cell_of_row _ _ _ _ _ _ h]; rfl
section
attribute [local go_sem ↓] eq8
end
end Go.Proofs.YtfbeiedhdmndnaaGreatDoor
namespace Go.Proofs.YtfbeiedhdmndnaaGreatDoor
open Go.ChangeShapes Go.WideShapes Go.ChangeAt Go.RowKit

theorem one_of {α : Type} {l : List α} {k : Nat} {a : α} (h : (l.drop k).take 1 = [a]) : l[k]? = some a := by
 have := congrArg (·[0]?) h
 simpa [List.getElem?_take, List.getElem?_drop] using this
theorem own : ownKnob Tryz.prog.godebug = none := by kernel_rfl
def nmAt (k : Nat) : String := (Rows.stepTellsRow.laid.map (·.1)).getD k ""
theorem gTab : Tryz.prog.globalNamed (nmAt 0) = some 0 := by kernel_rfl
theorem tTab : (Tryz.prog.globals[0]?).map (·.type) = some 208 := by kernel_rfl
theorem cells3 : Tryz.prog.cellsOf 3 = 1 := by kernel_rfl
theorem cellsT : Tryz.prog.cellsOf 203 = 4 := by kernel_rfl
theorem cells9 : Tryz.prog.cellsOf 9 = 1 := by kernel_rfl
def rowD (i : Nat) : DataW Unit := .agg [.lit (.string (nmL.getD i [])), .lit (.int .i64 (po i)), .lit (.int .i64 (pu i)), .lit (.int .i64 (od i))]
theorem table_rows : (Rows.laid_gavotte_ops_table : DataW Unit) = .agg ((List.range 26).map rowD) := by kernel_rfl

theorem four_of {α : Type} {l : List α} {i j : Nat} {a : α} (hj : j < 4) (h : ((l.drop (i * 4)).take 4)[j]? = some a) : l[i * 4 + j]? = some a := by
 rw [List.getElem?_take, if_pos hj, List.getElem?_drop] at h
 exact h

theorem str_of {s : ByteArray} {l : List UInt8} (h : l = s.data.toList) : s = ⟨l.toArray⟩ := by
 subst h
 rfl

theorem tab_of {rest : List (String × DataW Unit)} {W : World} (h : laidMet Tryz.prog ((nmAt 0, Rows.laid_gavotte_ops_table) :: rest) W) : Tab W := by
 obtain ⟨ps, ⟨g0, t0, cs0, f0, p0, q0, hg0, ht0, hv0, hd0, _, _⟩, _, _⟩ := h
 obtain rfl := Option.some.inj (gTab.symm.trans hg0)
 obtain rfl := Option.some.inj (tTab.symm.trans ht0)
 obtain ⟨xs, m, rfl, hx, hlen, hn, hel⟩ := DataW.trod_array Tryz.underlying208 hd0
 rw [table_rows] at hx
 simp only [Prod.mk.injEq, DataW.agg.injEq] at hx
 have key : ∀ i, i < 26 → cs0[i * 4]? = some (.string (nm i)) ∧ cs0[i * 4 + 1]? = some (.int .i64 (po i)) ∧ cs0[i * 4 + 2]? = some (.int .i64 (pu i)) ∧ cs0[i * 4 + 3]? = some (.int .i64 (od i)) := by
  intro i hi
  have he := hel i hi
  have hxi : (xs.map (·.1))[i]? = some (rowD i) := by rw [← hx.1]; simp [hi]
  rw [List.getElem?_map] at hxi
  obtain ⟨x, hx1, hx2⟩ := Option.map_eq_some_iff.1 hxi
  rw [hx1, cellsT] at he
  obtain ⟨y0, y1, y2, y3, n, hy, _, e0, e1, e2, e3⟩ := Go.Joins.trod_struct4 Tryz.underlying203 he
  rw [hy] at hx2
  simp only [rowD, DataW.agg.injEq, List.cons.injEq, and_true] at hx2
  obtain ⟨r0, r1, r2, r3⟩ := hx2
  rw [cells9] at e0
  rw [cells3] at e1 e2 e3
  obtain ⟨s, c0, rfl, _⟩ := DataW.trod_string Tryz.underlying9 e0
  obtain ⟨a, c1, rfl, _⟩ := DataW.trod_int Tryz.underlying3 e1
  obtain ⟨b, c2, rfl, _⟩ := DataW.trod_int Tryz.underlying3 e2
  obtain ⟨c, c3, rfl, _⟩ := DataW.trod_int Tryz.underlying3 e3
  simp only [DataW.lit.injEq, Lit.string.injEq, Lit.int.injEq, true_and] at r0 r1 r2 r3
  obtain rfl := r1
  obtain rfl := r2
  obtain rfl := r3
  have hs : s = nm i := str_of r0.symm
  subst hs
  have d0 := four_of (j := 0) (by decide) (one_of c0)
  have d1 := four_of (j := 1) (by decide) (one_of c1)
  have d2 := four_of (j := 2) (by decide) (one_of c2)
  have d3 := four_of (j := 3) (by decide) (one_of c3)
  simp only [Array.getElem?_toList] at d0 d1 d2 d3
  exact ⟨d0, d1, d2, d3⟩
 have look := fun k => World.var?_cell hg0 hv0 k
 have first : W.cell? ⟨0, 0 * 4, none⟩ = some (.string (nm 0)) := (look (0 * 4)).trans (key 0 (by decide)).1
 refine ⟨fun i hi => (look _).trans (key i hi).1, fun i hi => (look _).trans (key i hi).2.1, fun i hi => (look _).trans (key i hi).2.2.1, fun i hi => (look _).trans (key i hi).2.2.2, ?_⟩
 apply Classical.byContradiction
 intro hz
 have : W.heap[0]? = none := by rw [Array.getElem?_eq_none]; omega
 simp [World.cell?, this] at first


def laidE : List (String × DataW Unit) := [(nmAt 0, Rows.laid_gavotte_ops_table)]
theorem of_laidE {W : World} (h : laidMetH Tryz.prog laidE W) : Tab W := by
 rw [MakeChecks.laidMetH_plain _ _ _ (by kernel_rfl)] at h
 exact tab_of h
theorem handed_both {H : Type} {enc : TypeId × Value → H} {a : Assume} {C : Checked} {os : Os} {f : FuncId} {fn : Func} {s : ChangeSpec} {conds : List PathCond} {apart fresh handsOn again : Bool} {X : World → Array Value → Prop}
  (hX : ∀ (w w' : World) (args : Array Value), w.heap = w'.heap → X w args → X w' args)
  (own : ownKnob C.prog.godebug = none) (started : os.Started) (noInit : C.prog.inits.idxOf? f = none) (hfn : C.prog.funcs[f]? = some fn)
  (witness : ∃ (w : World) (tape : Tape) (i : Input), w.os = os ∧ (w.forCall tape i).Shaped C.prog ∧ i.vars = [] ∧ Input.okWide C.prog (w.forCall tape i) .any w.heap.size f i ∧
   ((s.pre enc C.prog fn conds apart (w.forCall tape i).memory i.args ∧ X (w.forCall tape i).memory i.args) ∧ sizedMet enc C.prog fn (OpenSpec.ofChange s) apart (w.forCall tape i).memory i.args) ∧ a.holds C.prog (lone (Frame.enter C.prog f i.args .normal) [] (w.forCall tape i)))
  (contract : ∀ (W : World) (base : Nat) (args : Array Value) (ds gs : List (DataW H)) (before : List MemPlace),
   (∀ (j : Nat) t v, fn.params[j]? = some t → args[j]? = some v → Value.okWide C.prog W .any base t v) →
   DataW.Whole enc C.prog fn.params.toList s.vars apart W args.toList ds gs before → X W args → W.ShapedOpen C.prog →
   Calls C.prog f args W fun e W' => ∃ v, e = .returned v ∧ s.post enc C.prog fn apart fresh handsOn again W args v W') :
  ReturnsInHanded a C os f .any (fun w args => (s.pre enc C.prog fn conds apart w args ∧ X w args) ∧ sizedMet enc C.prog fn (OpenSpec.ofChange s) apart w args) (s.post enc C.prog fn apart fresh handsOn again) := by
 refine returnsInHanded_of_calls own started noInit witness fun w tape i _ hsh _ hok hpre _ => ?_
 obtain ⟨_, _, _, fn', hfn', _, _, _, _, hval⟩ := hok
 cases Option.some.inj (hfn'.symm.trans hfn)
 obtain ⟨⟨⟨ds, gs, before, hw, _⟩, hx⟩, _⟩ := hpre
 refine (contract (w.forCall tape i) w.heap.size i.args ds gs before hval (DataW.Whole.of_heap (w' := w.forCall tape i) (by rfl) hw) (hX _ _ _ (by rfl) hx) hsh).mono fun e W' ⟨v, he, hp⟩ => ?_
 subst he
 exact ChangeSpec.post_blind hp

theorem door_metE (os : Os) (args : Array Value) : laidMetH Tryz.prog laidE ((World.doorLaid Tryz.prog 400 os).forCall (fun _ _ => 0) ⟨#[], args, []⟩).memory :=
 laidMetH_of_parts3 (fuel := 8) (laidMet_of_run' 8 (by kernel_rfl) (by kernel_rfl)) (by kernel_rfl) (by kernel_rfl)
end Go.Proofs.YtfbeiedhdmndnaaGreatDoor
