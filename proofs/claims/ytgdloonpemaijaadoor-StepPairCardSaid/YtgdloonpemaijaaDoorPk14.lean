/-
  step.Notes and step.Run. Conditions: the table of the instructions is in the world; the worlds are not too great. step.Run. Conditions: the table of the instructions is in the world; the program is small; the worlds on the way are not too great. law 11's program of two actors that tell each other a number. No conditions. Programs that may be, gone through plainly: the document's answers as functions that can be computed. Condition: the program may be. What the document fixes of chapter 11 (the law's awake). Condition: the table of the instructions is in the world. From the row's condition (the listed variables read as they are laid) to the variables' cells. No conditions.
-/
import Derived.Test.YtgdloonpemaijaaDoorPk12
import Derived.Test.YtgdloonpemaijaaDoorPk13
import Derived.Test.YtgdloonpemaijaaDoorPk1
import Derived.ProofKit
import Derived.LaidMore
import Derived.OpenShut
import Derived.HandedShaped
import Derived.Handed
import Derived.Shelf.Vars
import Derived.Lib.SmallJoins
import Derived.Lib.LaidTab
import Derived.Stop.Joined
import Derived.Stop.LaidErr
namespace Go.Proofs.YtgdloonpemaijaaDoor
open Go.RowKit
def mn0 (a : Int) : Int := if 0 < a then 0 else a
/-- The world that is asked whether an event runs a handler. -/
def askW (x : PWld) : PWld := { x with used := { x.used with time := mn0 x.used.time } }
noncomputable def rhP (p : PPrg) (x : PWld) (e : PEv) : Bool := isP p ⟨0, 0, 1, 0⟩ (askW x) e
theorem run_mn0 (P : Program) (w : World) (ts : Array TypeId) (t : TypeId) (a : Int) : (Builtin.min_ ts t #[.int .i64 a, .int .i64 0]).run P w = .ok (.int .i64 (mn0 a)) w := by
  rw [run_min_int2]; rfl
section
attribute [local go_sem ↓] run_mn0
set_option maxHeartbeats 2000000 in
theorem rh_any (W : World) (vp vw : Value) (p : PPrg) (x : PWld) (e : PEv) (ht : Tab W) (hp : PrgV W vp p) (hx : WldV W vw x) :
    Calls Tryd.prog 114 #[vp, vw, eVal e] W fun r w' => r = .returned (.bool (rhP p x e)) ∧ Below W.heap.size W w' := by
  have HT := hid_mk ht
  have HP := hid_mk hp
  have HX := hid_mk hx
  obtain ⟨κ, ⟨f, n, c⟩, who⟩ := e
  obtain ⟨vh, vb, vc, rfl, h1, h2, h3⟩ := hp
  obtain ⟨A1, c1, rfl, _⟩ := h1.form
  obtain ⟨A2, c2, rfl, _⟩ := h2.form
  obtain ⟨A3, c3, rfl, _⟩ := h3.form
  obtain ⟨va, vm, rfl, g1, g2⟩ := hx
  obtain ⟨B1, d1, rfl, _⟩ := g1.form
  obtain ⟨B2, d2, rfl, _⟩ := g2.form
  have HG1 := hid_mk g1
  have HG2 := hid_mk g2
  have HBA : Hid (∀ X Y Z, Below W.heap.size W (((W.alloc X).alloc Y).alloc Z)) := fun X Y Z => bAlloc (bAlloc (bAlloc (bRefl _) _) _) _
  clear h1 h2 h3 g1 g2 ht
  go_enter Tryd.func114, Tryd.ntmps114
  go_wp2_with fail
  refine (is_any _ _ _ p ⟨0, 0, 1, 0⟩ (askW x) ⟨κ, ⟨f, n, c⟩, who⟩ (HT.out.below (HBA.out _ _ _)) (HP.out.below (HBA.out _ _ _)) ⟨_, _, rfl, HG1.out.below (HBA.out _ _ _), HG2.out.below (HBA.out _ _ _)⟩).mono ?_
  rintro e w2 ⟨rfl, hb2⟩
  go_wp2
  go_ret
  exact ⟨rfl, bTrans (HBA.out _ _ _) hb2⟩
end
theorem Ntes.weak2 {ok ok' inn inn' : Nat → Prop} {w : World} {v : Value} {l : List PNte} (h : Ntes ok inn w v l) (k : ∀ b, ok b → ok' b) (k' : ∀ b, inn b → inn' b) : Ntes ok' inn' w v l :=
  h.imp k (Nat.le_refl _) fun _ _ _ _ _ ⟨a1, a2, c, a3, a4⟩ => ⟨a1, a2, c, a3, Ints.weak a4 k'⟩
/-- P11.2: what an event would send. -/
noncomputable def notesP (p : PPrg) (x : PWld) (e : PEv) : List PNte := if rhP p x e = true then (hdlR (runP p) p x e).notes else []
theorem rest_zero {a : Int} (h : 0 ≤ a) (h1 : a ≤ 9223372036854775807) : ¬ 0 < restI 0 a := by
  unfold restI
  rw [IntWalk.wrap64_in _ ⟨by omega, by omega⟩, if_neg (by omega)]; omega
/-- Numbers of Used are of 64 bits. -/
structure RgU (u : PBud) : Prop where
  drop : u.drop ≤ 9223372036854775807
  dup : u.dup ≤ 9223372036854775807
  crash : u.crash ≤ 9223372036854775807
theorem rh_kind {p : PPrg} {x : PWld} {e : PEv} (hr : RgU x.used) (h : rhP p x e = true) : e.kind = 1 ∨ e.kind = 4 := by
  rcases isP_kind h with hk | hk | hk | hk | hk
  · exact Or.inl hk
  · obtain ⟨k, y, j, z, _, _, _, _, _, _, ho⟩ := isP_msg h (Or.inr (Or.inl hk))
    rw [hk] at ho
    have hd : (leftB ⟨0, 0, 1, 0⟩ (askW x).used).drop = restI 0 x.used.drop := rfl
    obtain ⟨_, hc, _⟩ := isP_parts h
    have hu : 0 ≤ x.used.drop := by
      unfold chkW chkUsed at hc
      simp only [Bool.and_eq_true, decide_eq_true_eq] at hc
      exact hc.2.2.2.1
    have : ofM (leftB ⟨0, 0, 1, 0⟩ (askW x).used) (askW x) 2 y = false := by
      unfold ofM
      rw [hd]
      simp only [Int.reduceEq, ↓reduceIte, decide_eq_false_iff_not]
      exact rest_zero hu hr.drop
    rw [this] at ho; cases ho
  · obtain ⟨k, y, j, z, _, _, _, _, _, _, ho⟩ := isP_msg h (Or.inr (Or.inr hk))
    rw [hk] at ho
    have hd : (leftB ⟨0, 0, 1, 0⟩ (askW x).used).dup = restI 0 x.used.dup := rfl
    obtain ⟨_, hc, _⟩ := isP_parts h
    have hu : 0 ≤ x.used.dup := by
      unfold chkW chkUsed at hc
      simp only [Bool.and_eq_true, decide_eq_true_eq] at hc
      exact hc.2.2.2.2.1
    have : ofM (leftB ⟨0, 0, 1, 0⟩ (askW x).used) (askW x) 3 y = false := by
      unfold ofM
      rw [hd]
      simp only [Int.reduceEq, ↓reduceIte, decide_eq_false_iff_not]
      exact rest_zero hu hr.dup
    rw [this] at ho; cases ho
  · exact Or.inr hk
  · obtain ⟨j, z, ac, _, _, _, _, _, ho⟩ := isP_act h (Or.inr hk)
    rw [hk] at ho
    have hd : (leftB ⟨0, 0, 1, 0⟩ (askW x).used).crash = restI 0 x.used.crash := rfl
    obtain ⟨_, hc, _⟩ := isP_parts h
    have hu : 0 ≤ x.used.crash := by
      unfold chkW chkUsed at hc
      simp only [Bool.and_eq_true, decide_eq_true_eq] at hc
      exact hc.2.2.2.2.2.2
    have : ofA (leftB ⟨0, 0, 1, 0⟩ (askW x).used) 5 z = false := by
      unfold ofA
      rw [hd]
      simp only [Int.reduceEq, ↓reduceIte, Bool.and_eq_false_iff, decide_eq_false_iff_not]
      exact Or.inr (rest_zero hu hr.crash)
    rw [this] at ho; cases ho
set_option maxHeartbeats 8000000 in
set_option maxRecDepth 100000 in
theorem notes_hdl (W : World) (vp vw : Value) (p : PPrg) (x x1 : PWld) (e : PEv) (j : Nat) (R : PRes) (ht : Tab W) (hp : PrgV W vp p) (hx : WldV W vw x) (hs : SmW x) (hi : rhP p x e = true) (hH : Hdl W vp x x1 e j R) :
    Calls Tryd.prog 82 #[vp, vw, eVal e] W fun r w' => ∃ v, r = .returned v ∧ Ntes (fun b => W.heap.size ≤ b) (fun b => W.heap.size ≤ b) w' v R.notes ∧ Below W.heap.size W w' := by
  have HT := hid_mk ht
  have HP := hid_mk hp
  have HX := hid_mk hx
  have HS := hid_mk hs
  have HI := hid_mk hi
  have HH := hid_mk hH
  obtain ⟨κ, ⟨f, n, c⟩, who⟩ := e
  obtain ⟨vh, vb, vc, rfl, h1, h2, h3⟩ := hp
  obtain ⟨A1, c1, rfl, _⟩ := h1.form
  obtain ⟨A2, c2, rfl, _⟩ := h2.form
  obtain ⟨A3, c3, rfl, _⟩ := h3.form
  obtain ⟨va, vm, rfl, g1, g2⟩ := hx
  obtain ⟨B1, d1, rfl, _⟩ := g1.form
  obtain ⟨B2, d2, rfl, _⟩ := g2.form
  clear h1 h2 h3 g1 g2 ht hs hi hH
  have hA := three_new W (.cells #[.slice A1 p.hs.length c1, .slice A2 p.acs.length c2, .slice A3 p.bs.length c3, .int .i64 p.fuel] 26) (.cells #[.slice B1 x.acts.length d1, .slice B2 x.mail.length d2, .int .i64 x.used.drop, .int .i64 x.used.dup, .int .i64 x.used.time, .int .i64 x.used.crash] 44) (.cells #[.int .i64 κ, .int .i64 f, .int .i64 n, .int .i64 c, .int .i64 who] 62)
  have HL : Below W.heap.size W (((W.alloc (.cells #[.slice A1 p.hs.length c1, .slice A2 p.acs.length c2, .slice A3 p.bs.length c3, .int .i64 p.fuel] 26)).alloc (.cells #[.slice B1 x.acts.length d1, .slice B2 x.mail.length d2, .int .i64 x.used.drop, .int .i64 x.used.dup, .int .i64 x.used.time, .int .i64 x.used.crash] 44)).alloc (.cells #[.int .i64 κ, .int .i64 f, .int .i64 n, .int .i64 c, .int .i64 who] 62)) := bAlloc (bAlloc (bAlloc (bRefl _) _) _) _
  go_enter Tryd.func82, Tryd.ntmps82
  go_wp2_with fail
  generalize (((W.alloc (.cells #[.slice A1 p.hs.length c1, .slice A2 p.acs.length c2, .slice A3 p.bs.length c3, .int .i64 p.fuel] 26)).alloc (.cells #[.slice B1 x.acts.length d1, .slice B2 x.mail.length d2, .int .i64 x.used.drop, .int .i64 x.used.dup, .int .i64 x.used.time, .int .i64 x.used.crash] 44)).alloc (.cells #[.int .i64 κ, .int .i64 f, .int .i64 n, .int .i64 c, .int .i64 who] 62)) = w1 at hA HL ⊢
  refine (rh_any _ _ _ p x ⟨κ, ⟨f, n, c⟩, who⟩ (HT.out.below HL) (HP.out.below HL) (HX.out.below HL)).mono ?_
  rw [HI.out]
  rintro e w2 ⟨rfl, hb2⟩
  have HW2 := hid_mk (bTrans HL hb2)
  have HK0 := hid_mk (boxAt hA.1 hb2)
  have HK1 := hid_mk (boxAt hA.2.1 hb2)
  have HK2 := hid_mk (boxAt hA.2.2.1 hb2)
  have hs2 : W.heap.size + 3 ≤ w2.heap.size := by have := hb2.size; have := hA.2.2.2; omega
  clear hA HL hb2
  obtain ⟨k0, k1, k2, k3, k4, k5⟩ := blk6 HK1.out
  go_wp2_with fail
  refine (copyW_any _ _ x (HX.out.below HW2.out) HS.out).mono ?_
  rintro e w3 ⟨a, m, lo, hi, rfl, hwn, hb3⟩
  obtain ⟨A', c', rfl⟩ := hwn.acts.form
  obtain ⟨B', d', rfl, _⟩ := hwn.mail.form
  have hs3 := hb3.size
  have HPW := hid_mk (hwn.toPW hb3.size).bw
  have hb4 : Below w2.heap.size w2 (w3.alloc (.cells #[.slice A' x.acts.length c', .slice B' x.mail.length d', .int .i64 x.used.drop, .int .i64 x.used.dup, .int .i64 x.used.time, .int .i64 x.used.crash] 44)) := bAlloc hb3 _
  have HW4 := hid_mk (bTrans HW2.out hb4)
  obtain ⟨e0, e1, e2, e3, e4⟩ := blk5 (boxAt HK2.out hb3)
  obtain ⟨q0, q1, q2, q3⟩ := blk4 (boxAt HK0.out hb3)
  have z2 : W.heap.size + 2 < w3.heap.size := by omega
  have z0 : W.heap.size < w3.heap.size := by omega
  clear hwn hb3 hb4 k0 k1 k2 k3 k4 k5
  go_wp2_with fail
  have hz4 : (w3.alloc (.cells #[.slice A' x.acts.length c', .slice B' x.mail.length d', .int .i64 x.used.drop, .int .i64 x.used.dup, .int .i64 x.used.time, .int .i64 x.used.crash] 44)).heap.size = w3.heap.size + 1 := by simp
  generalize (w3.alloc (.cells #[.slice A' x.acts.length c', .slice B' x.mail.length d', .int .i64 x.used.drop, .int .i64 x.used.dup, .int .i64 x.used.time, .int .i64 x.used.crash] 44)) = w4 at HPW HW4 hz4 ⊢
  have HZ4 := hid_mk hz4
  refine (HH.out w2.heap.size w3.heap.size w4 _ _ HW4.out (by omega) (by omega) (by omega) HPW.out).mono ?_
  rintro e w5 ⟨u, m5, rfl, hbw5, hres, hex5⟩
  obtain ⟨cr, cn, rfl, hr1, hr2⟩ := hres
  obtain ⟨C1, e5, rfl, _⟩ := hr1.form
  obtain ⟨C2, e6, rfl, _⟩ := hr2.form
  have HR2 := hid_mk hr2
  have HE5 := hid_mk hex5
  clear hbw5 hr1 hr2 hex5 hz4
  go_wp2
  go_ret
  have hq : ∀ b, w4.heap.size ≤ b → W.heap.size ≤ b := fun b hb => by have := HZ4.out; omega
  exact ⟨_, rfl, Ntes.below (Ntes.weak2 HR2.out hq hq) (bAlloc (bRefl _) _), bAlloc (HW4.out.trans (HE5.out.below HW4.out.size fun b hb => by show ¬ (b = w3.heap.size ∨ w2.heap.size ≤ b); omega)) _⟩
theorem rh_of {p : PPrg} {x : PWld} {e : PEv} (h : rhP p x e = true) : isP p ⟨0, 0, 1, 0⟩ (askW x) e = true := h
theorem notes_any (W : World) (vp vw : Value) (p : PPrg) (x : PWld) (e : PEv) (ht : Tab W) (hp : PrgV W vp p) (hx : WldV W vw x) (hs : SmW x) (hr : RgU x.used) :
    Calls Tryd.prog 82 #[vp, vw, eVal e] W fun r w' => ∃ v, r = .returned v ∧ Ntes (fun b => W.heap.size ≤ b) (fun b => W.heap.size ≤ b) w' v (notesP p x e) ∧ Below W.heap.size W w' := by
  have hsz : x.acts.length ≤ 1000 := by have := hs.n; omega
  have hF : Few x.mail := ⟨by have := hs.mail; omega, hs.args⟩
  cases hi : rhP p x e with
  | false =>
    have hN : notesP p x e = [] := by unfold notesP; rw [hi]; rfl
    rw [hN]
    have HT := hid_mk ht
    have HP := hid_mk hp
    have HX := hid_mk hx
    have HI := hid_mk hi
    obtain ⟨κ, ⟨f, n, c⟩, who⟩ := e
    obtain ⟨vh, vb, vc, rfl, h1, h2, h3⟩ := hp
    obtain ⟨A1, c1, rfl, _⟩ := h1.form
    obtain ⟨A2, c2, rfl, _⟩ := h2.form
    obtain ⟨A3, c3, rfl, _⟩ := h3.form
    obtain ⟨va, vm, rfl, g1, g2⟩ := hx
    obtain ⟨B1, d1, rfl, _⟩ := g1.form
    obtain ⟨B2, d2, rfl, _⟩ := g2.form
    have HBA : Hid (∀ X Y Z, Below W.heap.size W (((W.alloc X).alloc Y).alloc Z)) := fun X Y Z => bAlloc (bAlloc (bAlloc (bRefl _) _) _) _
    clear h1 h2 h3 g1 g2 ht hi hN
    go_enter Tryd.func82, Tryd.ntmps82
    go_wp2_with fail
    refine (rh_any _ _ _ p x ⟨κ, ⟨f, n, c⟩, who⟩ (HT.out.below (HBA.out _ _ _)) (HP.out.below (HBA.out _ _ _)) (HX.out.below (HBA.out _ _ _))).mono ?_
    rw [HI.out]
    rintro e w2 ⟨rfl, hb2⟩
    have HB2 := hid_mk (bTrans (HBA.out _ _ _) hb2)
    clear hb2
    go_wp2
    go_ret
    exact ⟨_, rfl, ⟨_, _, rfl, by simp, by simp, Or.inl rfl⟩, HB2.out⟩
  | true =>
    have hN : notesP p x e = (hdlR (runP p) p x e).notes := by unfold notesP; rw [hi]; rfl
    rw [hN]
    rcases rh_kind hr hi with hk | hk
    · obtain ⟨k, ⟨yd, ⟨t, hd, args⟩⟩, j, z, hf, hy, _, hj, hz, _⟩ := isP_msg (rh_of hi) (Or.inl hk)
      dsimp only at hj
      subst hj
      have hf' : fnd x.mail e.id = k := hf
      have hy' : x.mail[k]? = some ⟨yd, ⟨(j : Int), hd, args⟩⟩ := hy
      have hz' : x.acts[j]? = some z := hz
      have e1 : hdlR (runP p) p x e = runP p j z hd args := by
        unfold hdlR
        have h4 : ¬ e.kind = 4 := by omega
        rw [if_neg h4, msgOf_eq hf' hy', tookP_eq hf']
        show runP p (j : Int) (locAt { x with mail := cutP x.mail k } (Int.toNat (j : Int))) hd args = _
        rw [Int.toNat_natCast]
        have : locAt { x with mail := cutP x.mail k } j = z := getD_at hz'
        rw [this]
      rw [e1]
      refine notes_hdl W vp vw p x { x with mail := cutP x.mail k } e j _ ht hp hx hs hi ?_
      intro N bo W4 a m hb hbo hWN hN4 hbw
      obtain ⟨κ, d, who⟩ := e
      dsimp only at hk hf'
      refine (handle_1 (fun b => N ≤ b) bo W4 vp a m p x κ who d yd k j hd args z W (fun b hb => by omega) ht hp hb hbo hbw (by omega) hf' hy' hF hz' hsz).mono ?_
      rintro r w' ⟨u, m', h1, h2, h3, h4⟩
      exact ⟨u, m', h1, h2, h3, h4.weak fun b hb => Or.inl hb⟩
    · obtain ⟨j, z, ac, hj, hz, hac, _⟩ := isP_act (rh_of hi) (Or.inl hk)
      have hz' : x.acts[j]? = some z := hz
      have e1 : hdlR (runP p) p x e = runP p j { z with armed := false } ac.timer [] := by
        unfold hdlR
        rw [if_pos hk, hj, Int.toNat_natCast]
        have hlz : locAt x j = z := getD_at hz'
        have h1 : locAt (calmP x j) j = { z with armed := false } := by
          unfold calmP
          rw [hlz]
          exact getD_at (List.getElem?_set_self (List.getElem?_eq_some_iff.1 hz').1)
        have h2 : tmOf p j = ac.timer := by unfold tmOf; rw [getD_at hac]
        rw [h1, h2]
      rw [e1]
      refine notes_hdl W vp vw p x (calmP x j) e j _ ht hp hx hs hi ?_
      intro N bo W4 a m hb hbo hWN hN4 hbw
      obtain ⟨κ, d, who⟩ := e
      dsimp only at hk hj
      subst hk hj
      refine (handle_4 (fun b => N ≤ b) bo W4 vp a m p x d j z ac W (fun b hb => by omega) (fun b hb => by omega) ht hp hb hbo hbw hz' hac hsz).mono ?_
      rintro r w' ⟨u, h1, h2, h3, h4⟩
      exact ⟨u, m, h1, h2, h3, h4⟩
end Go.Proofs.YtgdloonpemaijaaDoor
namespace Go.Proofs.YtgdloonpemaijaaDoor
open Go.RowKit
/-- The world behind the first k events. -/
noncomputable def goP (p : PPrg) (x0 : PWld) (l : List PEv) : Nat → PWld
  | 0 => x0
  | k + 1 => doP p (goP p x0 l k) (l.getD k default)
def okAt (p : PPrg) (b : PBud) (x0 : PWld) (l : List PEv) (k : Nat) : Prop := isP p b (goP p x0 l k) (l.getD k default) = true
/-- Between two events. -/
structure RN (W : World) (P B : Obj) (x : PWld) (wr : World) : Prop where
  bp : wr.heap[W.heap.size]? = some P
  bb : wr.heap[W.heap.size + 1]? = some B
  bw : ∃ a m, wr.heap[W.heap.size + 2]? = some (.cells #[a, m, .int .i64 x.used.drop, .int .i64 x.used.dup, .int .i64 x.used.time, .int .i64 x.used.crash] 44) ∧ WldA (fun b => W.heap.size + 3 ≤ b) wr (wVal x.used a m) x
  low : Below W.heap.size W wr
theorem RN.below {W wr wa : World} {P B : Obj} {x : PWld} (h : RN W P B x wr) (hb : Below wr.heap.size wr wa) : RN W P B x wa :=
  let ⟨a, m, h1, h2⟩ := h.bw
  ⟨boxAt h.bp hb, boxAt h.bb hb, ⟨a, m, boxAt h1 hb, h2.below hb⟩, bTrans h.low hb⟩
theorem RN.next {W wr wa : World} {P B : Obj} {x x' : PWld} {a m : Value} (h : RN W P B x wr) (hb : Below wr.heap.size wr wa) (hx : WldA (fun b => W.heap.size + 3 ≤ b) wa (wVal x'.used a m) x') :
    RN W P B x' (put6 wa (W.heap.size + 2) a m (.int .i64 x'.used.drop) (.int .i64 x'.used.dup) (.int .i64 x'.used.time) (.int .i64 x'.used.crash)) := by
  obtain ⟨a0, m0, h1, _⟩ := h.bw
  have hS : Same (fun d => d ≠ W.heap.size + 2) wa (put6 wa (W.heap.size + 2) a m (.int .i64 x'.used.drop) (.int .i64 x'.used.dup) (.int .i64 x'.used.time) (.int .i64 x'.used.crash)) := put6_same
  have hz := (Array.getElem?_eq_some_iff.1 (boxAt h1 hb)).1
  exact ⟨(hS.block _ (by show _ ≠ _; omega) (by omega)).trans (boxAt h.bp hb), (hS.block _ (by show _ ≠ _; omega) (by omega)).trans (boxAt h.bb hb), ⟨a, m, put6_heap (boxAt h1 hb), hx.same (hS.weak fun b hb => by have hb' : W.heap.size + 3 ≤ b := hb; show b ≠ _; omega)⟩, put6_below (bTrans h.low hb) (by omega)⟩
theorem zeroA (N : Nat) (w : World) : WldA (fun b => N ≤ b) w (wVal ⟨0, 0, 0, 0⟩ (.slice none 0 0) (.slice none 0 0)) ⟨[], [], ⟨0, 0, 0, 0⟩⟩ := ⟨_, _, rfl, ⟨_, _, rfl, by simp, by simp, Or.inl rfl⟩, ⟨_, _, rfl, by simp, by simp, Or.inl rfl⟩⟩
/-- What Run is to come to, k done. -/
structure RunE (p : PPrg) (b : PBud) (l : List PEv) (X : PWld) (n : Nat) (er : Int) : Prop where
  done : ∀ i, i < n → okAt p b (startP p) l i
  res : (n = l.length ∧ X = goP p (startP p) l n ∧ er = 0) ∨ (n < l.length ∧ ¬ okAt p b (startP p) l n ∧ X = ⟨[], [], ⟨0, 0, 0, 0⟩⟩ ∧ er = 8)
set_option maxHeartbeats 8000000 in
set_option maxRecDepth 100000 in
theorem run_yes_s (W : World) (vp vl : Value) (p : PPrg) (b : PBud) (l : List PEv) (ht : Tab W) (hp : PrgV W vp p) (hl : Evs anyB W vl l) (hsm : Small p) (he : fc p = 0) (hsw : ∀ k, k ≤ l.length → (∀ i, i < k → okAt p b (startP p) l i) → SmW (goP p (startP p) l k)) :
    Calls Tryd.prog 41 #[vp, uVal b, vl] W fun r w' => ∃ v X, ∃ (n : Nat) (er : Int), r = .returned (.tuple #[v, .int .i64 (n : Int), .int .i64 er]) ∧ WldA (fun b => W.heap.size ≤ b) w' v X ∧ RunE p b l X n er ∧ Below W.heap.size W w' := by
  have HT := hid_mk ht
  have HP := hid_mk hp
  have HF := hid_mk he
  have HSM := hid_mk hsm
  have HSW := hid_mk hsw
  have HLL := hid_mk hl
  obtain ⟨vh, vb, vc, rfl, h1, h2, h3⟩ := hp
  obtain ⟨A1, c1, rfl, _⟩ := h1.form
  obtain ⟨A2, c2, rfl, _⟩ := h2.form
  obtain ⟨A3, c3, rfl, _⟩ := h3.form
  obtain ⟨C, cl, rfl, hll⟩ := hl.form
  have hA := three_new W (.cells #[.slice A1 p.hs.length c1, .slice A2 p.acs.length c2, .slice A3 p.bs.length c3, .int .i64 p.fuel] 26) (.cells #[.int .i64 b.drop, .int .i64 b.dup, .int .i64 b.time, .int .i64 b.crash] 42) zW
  have HL : Below W.heap.size W (((W.alloc (.cells #[.slice A1 p.hs.length c1, .slice A2 p.acs.length c2, .slice A3 p.bs.length c3, .int .i64 p.fuel] 26)).alloc (.cells #[.int .i64 b.drop, .int .i64 b.dup, .int .i64 b.time, .int .i64 b.crash] 42)).alloc zW) := bAlloc (bAlloc (bAlloc (bRefl _) _) _) _
  clear h1 h2 h3 ht hl he hsm hsw
  go_enter Tryd.func41, Tryd.ntmps41
  go_wp2_with fail
  generalize (((W.alloc (.cells #[.slice A1 p.hs.length c1, .slice A2 p.acs.length c2, .slice A3 p.bs.length c3, .int .i64 p.fuel] 26)).alloc (.cells #[.int .i64 b.drop, .int .i64 b.dup, .int .i64 b.time, .int .i64 b.crash] 42)).alloc zW) = w1 at hA HL ⊢
  refine (start_yes w1 _ p (HT.out.below HL) (HP.out.below HL) HSM.out HF.out).mono ?_
  rintro e w2 ⟨a, m, lo, hi, rfl, hwn, hb2⟩
  obtain ⟨A', c', rfl⟩ := hwn.acts.form
  obtain ⟨B', d', rfl, _⟩ := hwn.mail.form
  have hk5 := boxAt hA.2.2.1 hb2
  obtain ⟨u0, u1, u2, u3, u4, u5⟩ := blk6 hk5
  have fz : ∀ o, w2.frozen? ⟨W.heap.size + 1 + 1, o, none⟩ = false := fun o => heap_frozen hk5
  have HS0 : Hid (RN W (.cells #[.slice A1 p.hs.length c1, .slice A2 p.acs.length c2, .slice A3 p.bs.length c3, .int .i64 p.fuel] 26) (.cells #[.int .i64 b.drop, .int .i64 b.dup, .int .i64 b.time, .int .i64 b.crash] 42) (startP p) (put6 w2 (W.heap.size + 2) (.slice A' (startP p).acts.length c') (.slice B' (startP p).mail.length d') (.int .i64 (startP p).used.drop) (.int .i64 (startP p).used.dup) (.int .i64 (startP p).used.time) (.int .i64 (startP p).used.crash))) :=
    RN.next (x := ⟨[], [], ⟨0, 0, 0, 0⟩⟩) ⟨hA.1, hA.2.1, ⟨_, _, hA.2.2.1, zeroA _ _⟩, HL⟩ hb2 (wldNA hwn (by have := (HSW.out 0 (by omega) (fun i hi => by omega)).n; show (goP p (startP p) l 0).acts.length ≤ 1000; omega) (by have := hA.2.2.2; omega))
  clear hA HL hwn hb2 hk5
  have hlow := HS0.out.low.size
  go_wp2
  go_loopg [8, 9, 10, 22] l.length (fun g i8 i9 i10 i22 wr => ∃ k : Nat, g = l.length - k ∧ k ≤ l.length ∧ i8 = .int .i64 0 ∧ i22 = .int .i64 (k : Int) ∧ (∀ i, i < k → okAt p b (startP p) l i) ∧ RN W (.cells #[.slice A1 p.hs.length c1, .slice A2 p.acs.length c2, .slice A3 p.bs.length c3, .int .i64 p.fuel] 26) (.cells #[.int .i64 b.drop, .int .i64 b.dup, .int .i64 b.time, .int .i64 b.crash] 42) (goP p (startP p) l k) wr)
  case atStart => exact ⟨0, rfl, by omega, rfl, rfl, fun i hi => by omega, HS0.out⟩
  case round =>
    obtain ⟨k, rfl, hk, rfl, rfl, hdone, rn⟩ := hrel
    have hsk := HSW.out k hk hdone
    have HD := hid_mk hdone
    have HSK := hid_mk hsk
    have HB := hid_mk rn.low
    obtain ⟨am, mm, hbx, hwa⟩ := rn.bw
    have hwa' := hwa
    obtain ⟨a0, m0, he0, hac, hml⟩ := hwa'
    simp only [Value.agg.injEq, Array.mk.injEq, List.cons.injEq, and_true] at he0
    obtain ⟨rfl, rfl⟩ := he0
    obtain ⟨Ak, ck, rfl, _⟩ := hac.form
    obtain ⟨Mk, dk, rfl, _⟩ := hml.form
    obtain ⟨p0, p1, p2, p3⟩ := blk4 rn.bp
    obtain ⟨d0, d1, d2, d3⟩ := blk4 rn.bb
    obtain ⟨o0, o1, o2, o3, o4, o5⟩ := blk6 hbx
    have fk : ∀ o, wr.frozen? ⟨W.heap.size + 1 + 1, o, none⟩ = false := fun o => heap_frozen hbx
    have z2 : W.heap.size + 1 + 1 < wr.heap.size := (Array.getElem?_eq_some_iff.1 hbx).1
    have z1 : W.heap.size + 1 < wr.heap.size := by omega
    have z0 : W.heap.size < wr.heap.size := by omega
    have HRN := hid_mk rn
    have HWA := hid_mk hwa.wld
    have HWA3 := hid_mk hwa
    have HBX := hid_mk hbx
    clear rn hac hml hwa hbx hsk hdone
    by_cases hlt : k < l.length
    · obtain ⟨ev, hev⟩ := at_lt hlt
      obtain ⟨bE, oE, rfl, _, hzE, hcE⟩ := HLL.out.at (by omega)
      obtain ⟨v0, v1, v2, v3, v4⟩ := hcE k ev hev
      have g0 := (HB.out.cell (p := ⟨bE, oE + k * 5, none⟩) hzE).trans v0
      have g1 := (HB.out.cell (p := ⟨bE, oE + k * 5 + 1, none⟩) hzE).trans v1
      have g2 := (HB.out.cell (p := ⟨bE, oE + k * 5 + 2, none⟩) hzE).trans v2
      have g3 := (HB.out.cell (p := ⟨bE, oE + k * 5 + 3, none⟩) hzE).trans v3
      have g4 := (HB.out.cell (p := ⟨bE, oE + k * 5 + 4, none⟩) hzE).trans v4
      have hgd : l.getD k default = ev := getD_at hev
      have HGD := hid_mk hgd
      have hki : (k : Int) < l.length := by omega
      clear v0 v1 v2 v3 v4 hcE hgd hev
      have HBA : Hid (Below wr.heap.size wr (wr.alloc (.cells #[.int .i64 ev.kind, .int .i64 ev.id.f, .int .i64 ev.id.n, .int .i64 ev.id.c, .int .i64 ev.who] 62))) := bAlloc (bRefl _) _
      by_cases ho : okAt p b (startP p) l k
      · have HO : Hid (isP p b (goP p (startP p) l k) ev = true) := by unfold okAt at ho; rw [HGD.out] at ho; exact ho
        have HOK := hid_mk ho
        clear ho
        go_wp2_with fail
        obtain ⟨X', hX'⟩ : ∃ X', X' = goP p (startP p) l (k + 1) := ⟨_, rfl⟩
        have HX' := hid_mk hX'
        have HDO : Hid (∀ (W2 : World) (vp vw : Value), Tab W2 → PrgV W2 vp p → WldV W2 vw (goP p (startP p) l k) → Calls Tryd.prog 40 #[vp, uVal b, vw, eVal ev] W2 fun r w' => ∃ v, r = .returned (.tuple #[v, .int .i64 0]) ∧ WldA (fun b => W2.heap.size ≤ b) w' v X' ∧ Below W2.heap.size W2 w') := fun W2 vp vw h1 h2 h3 => by
          have e9 : X' = doP p (goP p (startP p) l k) ev := by rw [hX', goP, HGD.out]
          rw [e9]
          exact do_yes W2 vp vw p b _ ev h1 h2 h3 HSK.out HO.out
        clear hX'
        refine (HDO.out _ _ _ (HT.out.below (bTrans HB.out HBA.out)) (HP.out.below (bTrans HB.out HBA.out)) (HWA.out.below HBA.out)).mono ?_
        rintro e w3 ⟨v3, rfl, hv3, hb3⟩
        obtain ⟨a3, m3, rfl, ha3, hm3⟩ := hv3
        obtain ⟨A3', c3', rfl, _⟩ := ha3.form
        obtain ⟨M3', d3', rfl, _⟩ := hm3.form
        have fk3 : ∀ o, w3.frozen? ⟨W.heap.size + 1 + 1, o, none⟩ = false := fun o => heap_frozen (boxAt (boxAt HBX.out HBA.out) hb3)
        clear o0 o1 o2 o3 o4 o5 p0 p1 p2 p3 d0 d1 d2 d3 g0 g1 g2 g3 g4
        obtain ⟨o0, o1, o2, o3, o4, o5⟩ := blk6 (boxAt (boxAt HBX.out HBA.out) hb3)
        have HN3 := hid_mk (HRN.out.next (x' := X') (bTrans HBA.out hb3) (WldA.weak (ok := fun b => (wr.alloc (.cells #[.int .i64 ev.kind, .int .i64 ev.id.f, .int .i64 ev.id.n, .int .i64 ev.id.c, .int .i64 ev.who] 62)).heap.size ≤ b) ⟨_, _, rfl, ha3, hm3⟩ (fun b hb => by simp at hb; omega)))
        clear ha3 hm3 hb3
        go_wp2
        go_roundg (l.length - (k + 1))
        case measure => omega
        case rel =>
          refine ⟨k + 1, rfl, by omega, rfl, by go_num, fun i hi => ?_, by rw [← HX'.out]; exact HN3.out⟩
          by_cases e : i = k
          · subst e; exact HOK.out
          · exact HD.out i (by omega)
      · have HO : Hid (isP p b (goP p (startP p) l k) ev = false) := by unfold okAt at ho; rw [HGD.out] at ho; exact Bool.eq_false_iff.2 ho
        have HOK := hid_mk ho
        clear ho
        go_wp2_with fail
        refine (do_no _ _ _ p b (goP p (startP p) l k) ev (HT.out.below (bTrans HB.out HBA.out)) (HP.out.below (bTrans HB.out HBA.out)) (HWA.out.below HBA.out) HO.out).mono ?_
        rintro e w3 ⟨rfl, hb3⟩
        have hk3 := boxAt (boxAt HBX.out HBA.out) hb3
        have fk3 : ∀ o, w3.frozen? ⟨W.heap.size + 1 + 1, o, none⟩ = false := fun o => heap_frozen hk3
        obtain ⟨o0, o1, o2, o3, o4, o5⟩ := blk6 hk3
        have HB3 := hid_mk (bTrans (bTrans HB.out HBA.out) hb3)
        have HK3 := hid_mk hk3
        clear hb3 hk3
        go_wp2
        have hz := put6_heap (a0 := .slice none 0 0) (a1 := .slice none 0 0) (a2 := .int .i64 0) (a3 := .int .i64 0) (a4 := .int .i64 0) (a5 := .int .i64 0) (put6_heap (a0 := .slice none 0 0) (a1 := .slice none 0 0) (a2 := .int .i64 0) (a3 := .int .i64 0) (a4 := .int .i64 0) (a5 := .int .i64 0) HK3.out)
        have hl := put6_below (b := W.heap.size + 2) (a0 := .slice none 0 0) (a1 := .slice none 0 0) (a2 := .int .i64 0) (a3 := .int .i64 0) (a4 := .int .i64 0) (a5 := .int .i64 0) (put6_below (b := W.heap.size + 2) (a0 := .slice none 0 0) (a1 := .slice none 0 0) (a2 := .int .i64 0) (a3 := .int .i64 0) (a4 := .int .i64 0) (a5 := .int .i64 0) HB3.out (by omega)) (by omega)
        change bodyPost _ _ _ _ _ (put6 (put6 w3 (W.heap.size + 2) (.slice none 0 0) (.slice none 0 0) (.int .i64 0) (.int .i64 0) (.int .i64 0) (.int .i64 0)) (W.heap.size + 2) (.slice none 0 0) (.slice none 0 0) (.int .i64 0) (.int .i64 0) (.int .i64 0) (.int .i64 0))
        generalize put6 (put6 w3 (W.heap.size + 2) (.slice none 0 0) (.slice none 0 0) (.int .i64 0) (.int .i64 0) (.int .i64 0) (.int .i64 0)) (W.heap.size + 2) (.slice none 0 0) (.slice none 0 0) (.int .i64 0) (.int .i64 0) (.int .i64 0) (.int .i64 0) = wz at hz hl ⊢
        clear o0 o1 o2 o3 o4 o5 fk3
        obtain ⟨y0, y1, y2, y3, y4, y5⟩ := blk6 hz
        refine bodyPost_ret (v := .tuple #[wVal ⟨0, 0, 0, 0⟩ (.slice none 0 0) (.slice none 0 0), .int .i64 (k : Int), .int .i64 8]) (by simp [results, Tryd.results41, go_sem, y0, y1, y2, y3, y4, y5]) rfl ⟨_, ⟨[], [], ⟨0, 0, 0, 0⟩⟩, k, 8, rfl, zeroA _ _, ⟨HD.out, Or.inr ⟨hlt, HOK.out, rfl, rfl⟩⟩, hl⟩
    · obtain rfl : k = l.length := by omega
      go_wp2
      generalize hXX : goP p (startP p) l l.length = X at *
      have HXX := hid_mk hXX
      clear hXX
      refine bodyPost_ret (v := .tuple #[wVal X.used (.slice Ak X.acts.length ck) (.slice Mk X.mail.length dk), .int .i64 (l.length : Int), .int .i64 0]) (by simp [results, Tryd.results41, go_sem, o0, o1, o2, o3, o4, o5]) rfl ⟨_, X, l.length, 0, rfl, ?_, ⟨HD.out, Or.inl ⟨rfl, HXX.out.symm, rfl⟩⟩, ?_⟩
      · exact WldA.weak (WldA.same HWA3.out (put6_same.weak fun b hb => by have hb' : W.heap.size + 3 ≤ b := hb; show b ≠ W.heap.size + 1 + 1; omega)) fun b hb => by have hb' : W.heap.size + 3 ≤ b := hb; show W.heap.size ≤ b; omega
      · exact put6_below HB.out (by omega)
end Go.Proofs.YtgdloonpemaijaaDoor
namespace Go.Proofs.YtgdloonpemaijaaDoor
open Go.RowKit
/-- Blocks laid one behind the other. -/
theorem allocs_at : ∀ (l : List Obj) (w : World) (i : Nat) (X : Obj), l[i]? = some X → (l.foldl World.alloc w).heap[w.heap.size + i]? = some X ∧ Below w.heap.size w (l.foldl World.alloc w)
  | [], _, i, X, h => by simp at h
  | Y :: l, w, 0, X, h => by
    cases h
    have hb : Below (w.alloc Y).heap.size (w.alloc Y) (l.foldl World.alloc (w.alloc Y)) := allocs_below l (w.alloc Y)
    exact ⟨boxAt (heap_new w Y) hb, bTrans (bAlloc (bRefl _) _) hb⟩
  | Y :: l, w, i + 1, X, h => by
    obtain ⟨h1, h2⟩ := allocs_at l (w.alloc Y) i X h
    rw [show (w.alloc Y).heap.size = w.heap.size + 1 by simp] at h1
    exact ⟨by rw [show w.heap.size + (i + 1) = w.heap.size + 1 + i by omega]; exact h1, bTrans (bAlloc (bRefl _) _) h2⟩
where
  allocs_below : ∀ (l : List Obj) (w : World), Below w.heap.size w (l.foldl World.alloc w)
    | [], w => bRefl w
    | Y :: l, w => bTrans (bAlloc (bRefl _) Y) (allocs_below l (w.alloc Y))
def pc1 : List PIns := [⟨7, 0⟩, ⟨21, 13⟩, ⟨5, 0⟩, ⟨7, 0⟩, ⟨9, 0⟩, ⟨6, 0⟩, ⟨7, 0⟩, ⟨1, 1⟩, ⟨10, 0⟩, ⟨1, 1⟩, ⟨8, 0⟩, ⟨10, 0⟩, ⟨22, 0⟩]
def pc2 : List PIns := [⟨1, 9⟩, ⟨6, 0⟩, ⟨23, 0⟩]
def pairP (n : Int) : PPrg := ⟨[⟨1, pc1⟩, ⟨0, pc2⟩], [⟨[0], 4, 1, true⟩, ⟨[0], 4, -1, false⟩], [⟨0, 0, [n]⟩], 20⟩
abbrev pairV (N : Nat) : Value := .agg #[.slice (some ⟨N + 1 + 1 + 1, 0, none⟩) 2 2, .slice (some ⟨N + 1 + 1 + 1 + 1 + 1 + 1, 0, none⟩) 2 2, .slice (some ⟨N + 1 + 1 + 1 + 1 + 1 + 1 + 1 + 1, 0, none⟩) 1 1, .int .i64 20]
structure PairB (N : Nat) (n : Int) (w : World) : Prop where
  b1 : w.heap[N + 1]? = some (.cells #[.int .i64 7, .int .i64 0, .int .i64 21, .int .i64 13, .int .i64 5, .int .i64 0, .int .i64 7, .int .i64 0, .int .i64 9, .int .i64 0, .int .i64 6, .int .i64 0, .int .i64 7, .int .i64 0, .int .i64 1, .int .i64 1, .int .i64 10, .int .i64 0, .int .i64 1, .int .i64 1, .int .i64 8, .int .i64 0, .int .i64 10, .int .i64 0, .int .i64 22, .int .i64 0] 78)
  b2 : w.heap[N + 1 + 1]? = some (.cells #[.int .i64 1, .int .i64 9, .int .i64 6, .int .i64 0, .int .i64 23, .int .i64 0] 78)
  b3 : w.heap[N + 1 + 1 + 1]? = some (.cells #[.int .i64 1, .slice (some ⟨N + 1, 0, none⟩) 13 13, .int .i64 0, .slice (some ⟨N + 1 + 1, 0, none⟩) 3 3] 81)
  b4 : w.heap[N + 1 + 1 + 1 + 1]? = some (.cells #[.int .i64 0] 3)
  b5 : w.heap[N + 1 + 1 + 1 + 1 + 1]? = some (.cells #[.int .i64 0] 3)
  b6 : w.heap[N + 1 + 1 + 1 + 1 + 1 + 1]? = some (.cells #[.slice (some ⟨N + 1 + 1 + 1 + 1, 0, none⟩) 1 1, .int .i64 4, .int .i64 1, .bool true, .slice (some ⟨N + 1 + 1 + 1 + 1 + 1, 0, none⟩) 1 1, .int .i64 4, .int .i64 (-1), .bool false] 83)
  b7 : w.heap[N + 1 + 1 + 1 + 1 + 1 + 1 + 1]? = some (.cells #[.int .i64 n] 3)
  b8 : w.heap[N + 1 + 1 + 1 + 1 + 1 + 1 + 1 + 1]? = some (.cells #[.int .i64 0, .int .i64 0, .slice (some ⟨N + 1 + 1 + 1 + 1 + 1 + 1 + 1, 0, none⟩) 1 1] 54)
section
variable {N : Nat} {n : Int} {w w' : World}
theorem PairB.below (h : PairB N n w) (hb : Below w.heap.size w w') : PairB N n w' := ⟨boxAt h.b1 hb, boxAt h.b2 hb, boxAt h.b3 hb, boxAt h.b4 hb, boxAt h.b5 hb, boxAt h.b6 hb, boxAt h.b7 hb, boxAt h.b8 hb⟩
theorem PairB.top (h : PairB N n w) : N + 1 + 1 + 1 + 1 + 1 + 1 + 1 + 1 < w.heap.size := (Array.getElem?_eq_some_iff.1 h.b8).1
theorem PairB.c1 (h : PairB N n w) : Code anyB w (.slice (some ⟨N + 1, 0, none⟩) 13 13) pc1 := by
  have t := h.top
  refine ⟨_, 13, rfl, by simp [pc1], by simp [pc1], Or.inr ⟨N + 1, 0, rfl, trivial, by omega, fun j y hy => ?_⟩⟩
  match j, hy with
  | 0, hy => cases hy; exact ⟨by rw [cell_of_row _ _ _ _ _ _ h.b1]; rfl, by rw [cell_of_row _ _ _ _ _ _ h.b1]; rfl⟩
  | 1, hy => cases hy; exact ⟨by rw [cell_of_row _ _ _ _ _ _ h.b1]; rfl, by rw [cell_of_row _ _ _ _ _ _ h.b1]; rfl⟩
  | 2, hy => cases hy; exact ⟨by rw [cell_of_row _ _ _ _ _ _ h.b1]; rfl, by rw [cell_of_row _ _ _ _ _ _ h.b1]; rfl⟩
  | 3, hy => cases hy; exact ⟨by rw [cell_of_row _ _ _ _ _ _ h.b1]; rfl, by rw [cell_of_row _ _ _ _ _ _ h.b1]; rfl⟩
  | 4, hy => cases hy; exact ⟨by rw [cell_of_row _ _ _ _ _ _ h.b1]; rfl, by rw [cell_of_row _ _ _ _ _ _ h.b1]; rfl⟩
  | 5, hy => cases hy; exact ⟨by rw [cell_of_row _ _ _ _ _ _ h.b1]; rfl, by rw [cell_of_row _ _ _ _ _ _ h.b1]; rfl⟩
  | 6, hy => cases hy; exact ⟨by rw [cell_of_row _ _ _ _ _ _ h.b1]; rfl, by rw [cell_of_row _ _ _ _ _ _ h.b1]; rfl⟩
  | 7, hy => cases hy; exact ⟨by rw [cell_of_row _ _ _ _ _ _ h.b1]; rfl, by rw [cell_of_row _ _ _ _ _ _ h.b1]; rfl⟩
  | 8, hy => cases hy; exact ⟨by rw [cell_of_row _ _ _ _ _ _ h.b1]; rfl, by rw [cell_of_row _ _ _ _ _ _ h.b1]; rfl⟩
  | 9, hy => cases hy; exact ⟨by rw [cell_of_row _ _ _ _ _ _ h.b1]; rfl, by rw [cell_of_row _ _ _ _ _ _ h.b1]; rfl⟩
  | 10, hy => cases hy; exact ⟨by rw [cell_of_row _ _ _ _ _ _ h.b1]; rfl, by rw [cell_of_row _ _ _ _ _ _ h.b1]; rfl⟩
  | 11, hy => cases hy; exact ⟨by rw [cell_of_row _ _ _ _ _ _ h.b1]; rfl, by rw [cell_of_row _ _ _ _ _ _ h.b1]; rfl⟩
  | 12, hy => cases hy; exact ⟨by rw [cell_of_row _ _ _ _ _ _ h.b1]; rfl, by rw [cell_of_row _ _ _ _ _ _ h.b1]; rfl⟩
theorem PairB.c2 (h : PairB N n w) : Code anyB w (.slice (some ⟨N + 1 + 1, 0, none⟩) 3 3) pc2 := by
  have t := h.top
  refine ⟨_, 3, rfl, by simp [pc2], by simp [pc2], Or.inr ⟨N + 1 + 1, 0, rfl, trivial, by omega, fun j y hy => ?_⟩⟩
  match j, hy with
  | 0, hy => cases hy; exact ⟨by rw [cell_of_row _ _ _ _ _ _ h.b2]; rfl, by rw [cell_of_row _ _ _ _ _ _ h.b2]; rfl⟩
  | 1, hy => cases hy; exact ⟨by rw [cell_of_row _ _ _ _ _ _ h.b2]; rfl, by rw [cell_of_row _ _ _ _ _ _ h.b2]; rfl⟩
  | 2, hy => cases hy; exact ⟨by rw [cell_of_row _ _ _ _ _ _ h.b2]; rfl, by rw [cell_of_row _ _ _ _ _ _ h.b2]; rfl⟩
theorem PairB.i4 (h : PairB N n w) : Ints anyB w (.slice (some ⟨N + 1 + 1 + 1 + 1, 0, none⟩) 1 1) [0] := by
  have t := h.top
  refine ⟨_, 1, rfl, by simp, by simp, Or.inr ⟨N + 1 + 1 + 1 + 1, 0, rfl, trivial, by omega, fun j y hy => ?_⟩⟩
  match j, hy with
  | 0, hy => cases hy; show w.cell? _ = _; rw [cell_of_row _ _ _ _ _ _ h.b4]; rfl
theorem PairB.i5 (h : PairB N n w) : Ints anyB w (.slice (some ⟨N + 1 + 1 + 1 + 1 + 1, 0, none⟩) 1 1) [0] := by
  have t := h.top
  refine ⟨_, 1, rfl, by simp, by simp, Or.inr ⟨N + 1 + 1 + 1 + 1 + 1, 0, rfl, trivial, by omega, fun j y hy => ?_⟩⟩
  match j, hy with
  | 0, hy => cases hy; show w.cell? _ = _; rw [cell_of_row _ _ _ _ _ _ h.b5]; rfl
theorem PairB.i7 (h : PairB N n w) : Ints anyB w (.slice (some ⟨N + 1 + 1 + 1 + 1 + 1 + 1 + 1, 0, none⟩) 1 1) [n] := by
  have t := h.top
  refine ⟨_, 1, rfl, by simp, by simp, Or.inr ⟨N + 1 + 1 + 1 + 1 + 1 + 1 + 1, 0, rfl, trivial, by omega, fun j y hy => ?_⟩⟩
  match j, hy with
  | 0, hy => cases hy; show w.cell? _ = _; rw [cell_of_row _ _ _ _ _ _ h.b7]; rfl
theorem PairB.hs (h : PairB N n w) : Hnds anyB anyB w (.slice (some ⟨N + 1 + 1 + 1, 0, none⟩) 2 2) [⟨1, pc1⟩, ⟨0, pc2⟩] := by
  have t := h.top
  obtain ⟨c0, c1, c2, c3⟩ := blk4 h.b3
  refine ⟨_, 2, rfl, by simp, by simp, Or.inr ⟨N + 1 + 1 + 1, 0, rfl, trivial, by omega, fun j y hy => ?_⟩⟩
  match j, hy with
  | 0, hy => cases hy; exact ⟨c0, _, c1, h.c1⟩
  | 1, hy => cases hy; exact ⟨c2, _, c3, h.c2⟩
theorem PairB.acs (h : PairB N n w) : Acts anyB anyB w (.slice (some ⟨N + 1 + 1 + 1 + 1 + 1 + 1, 0, none⟩) 2 2) [⟨[0], 4, 1, true⟩, ⟨[0], 4, -1, false⟩] := by
  have t := h.top
  obtain ⟨c0, c1, c2, c3, c4, c5, c6, c7⟩ := blk8 h.b6
  refine ⟨_, 2, rfl, by simp, by simp, Or.inr ⟨N + 1 + 1 + 1 + 1 + 1 + 1, 0, rfl, trivial, by omega, fun j y hy => ?_⟩⟩
  match j, hy with
  | 0, hy => cases hy; exact ⟨⟨_, c0, h.i4⟩, c1, c2, c3⟩
  | 1, hy => cases hy; exact ⟨⟨_, c4, h.i5⟩, c5, c6, c7⟩
theorem PairB.bs (h : PairB N n w) : Ntes anyB anyB w (.slice (some ⟨N + 1 + 1 + 1 + 1 + 1 + 1 + 1 + 1, 0, none⟩) 1 1) [⟨0, 0, [n]⟩] := by
  have t := h.top
  obtain ⟨c0, c1, c2⟩ := blk3 h.b8
  refine ⟨_, 1, rfl, by simp, by simp, Or.inr ⟨N + 1 + 1 + 1 + 1 + 1 + 1 + 1 + 1, 0, rfl, trivial, by omega, fun j y hy => ?_⟩⟩
  match j, hy with
  | 0, hy => cases hy; exact ⟨c0, c1, _, c2, h.i7⟩
theorem PairB.prg (h : PairB N n w) : PrgV w (pairV N) (pairP n) := ⟨_, _, _, rfl, h.hs, h.acs, h.bs⟩
end
set_option maxHeartbeats 4000000 in
theorem pair_any (n : Int) (W : World) : Calls Tryd.prog 42 #[.int .i64 n] W fun e w' => e = .returned (pairV W.heap.size) ∧ PairB W.heap.size n w' ∧ Below W.heap.size W w' := by
  have hL := fun i X h => allocs_at [(.cells #[.slice (some ⟨W.heap.size + 1 + 1 + 1, 0, none⟩) 2 2, .slice (some ⟨W.heap.size + 1 + 1 + 1 + 1 + 1 + 1, 0, none⟩) 2 2, .slice (some ⟨W.heap.size + 1 + 1 + 1 + 1 + 1 + 1 + 1 + 1, 0, none⟩) 1 1, .int .i64 20] 26), (.cells #[.int .i64 7, .int .i64 0, .int .i64 21, .int .i64 13, .int .i64 5, .int .i64 0, .int .i64 7, .int .i64 0, .int .i64 9, .int .i64 0, .int .i64 6, .int .i64 0, .int .i64 7, .int .i64 0, .int .i64 1, .int .i64 1, .int .i64 10, .int .i64 0, .int .i64 1, .int .i64 1, .int .i64 8, .int .i64 0, .int .i64 10, .int .i64 0, .int .i64 22, .int .i64 0] 78), (.cells #[.int .i64 1, .int .i64 9, .int .i64 6, .int .i64 0, .int .i64 23, .int .i64 0] 78), (.cells #[.int .i64 1, .slice (some ⟨W.heap.size + 1, 0, none⟩) 13 13, .int .i64 0, .slice (some ⟨W.heap.size + 1 + 1, 0, none⟩) 3 3] 81), (.cells #[.int .i64 0] 3), (.cells #[.int .i64 0] 3), (.cells #[.slice (some ⟨W.heap.size + 1 + 1 + 1 + 1, 0, none⟩) 1 1, .int .i64 4, .int .i64 1, .bool true, .slice (some ⟨W.heap.size + 1 + 1 + 1 + 1 + 1, 0, none⟩) 1 1, .int .i64 4, .int .i64 (-1), .bool false] 83), (.cells #[.int .i64 n] 3), (.cells #[.int .i64 0, .int .i64 0, .slice (some ⟨W.heap.size + 1 + 1 + 1 + 1 + 1 + 1 + 1, 0, none⟩) 1 1] 54)] W i X h
  have h0 := hL 0 _ rfl
  have hM : PairB W.heap.size n ([(.cells #[.slice (some ⟨W.heap.size + 1 + 1 + 1, 0, none⟩) 2 2, .slice (some ⟨W.heap.size + 1 + 1 + 1 + 1 + 1 + 1, 0, none⟩) 2 2, .slice (some ⟨W.heap.size + 1 + 1 + 1 + 1 + 1 + 1 + 1 + 1, 0, none⟩) 1 1, .int .i64 20] 26), (.cells #[.int .i64 7, .int .i64 0, .int .i64 21, .int .i64 13, .int .i64 5, .int .i64 0, .int .i64 7, .int .i64 0, .int .i64 9, .int .i64 0, .int .i64 6, .int .i64 0, .int .i64 7, .int .i64 0, .int .i64 1, .int .i64 1, .int .i64 10, .int .i64 0, .int .i64 1, .int .i64 1, .int .i64 8, .int .i64 0, .int .i64 10, .int .i64 0, .int .i64 22, .int .i64 0] 78), (.cells #[.int .i64 1, .int .i64 9, .int .i64 6, .int .i64 0, .int .i64 23, .int .i64 0] 78), (.cells #[.int .i64 1, .slice (some ⟨W.heap.size + 1, 0, none⟩) 13 13, .int .i64 0, .slice (some ⟨W.heap.size + 1 + 1, 0, none⟩) 3 3] 81), (.cells #[.int .i64 0] 3), (.cells #[.int .i64 0] 3), (.cells #[.slice (some ⟨W.heap.size + 1 + 1 + 1 + 1, 0, none⟩) 1 1, .int .i64 4, .int .i64 1, .bool true, .slice (some ⟨W.heap.size + 1 + 1 + 1 + 1 + 1, 0, none⟩) 1 1, .int .i64 4, .int .i64 (-1), .bool false] 83), (.cells #[.int .i64 n] 3), (.cells #[.int .i64 0, .int .i64 0, .slice (some ⟨W.heap.size + 1 + 1 + 1 + 1 + 1 + 1 + 1, 0, none⟩) 1 1] 54)].foldl World.alloc W) := ⟨(hL 1 _ rfl).1, (hL 2 _ rfl).1, (hL 3 _ rfl).1, (hL 4 _ rfl).1, (hL 5 _ rfl).1, (hL 6 _ rfl).1, (hL 7 _ rfl).1, (hL 8 _ rfl).1⟩
  have HM := hid_mk hM
  have H0 := hid_mk h0
  clear hL hM h0
  go_enter Tryd.func42, Tryd.ntmps42
  go_wp2
  have hr := H0.out.1
  simp only [List.foldl_cons, List.foldl_nil, Nat.add_zero] at hr
  obtain ⟨r0, r1, r2, r3⟩ := blk4 hr
  exact bodyPost_ret (v := pairV W.heap.size) (by simp [results, Tryd.results42, go_sem, r0, r1, r2, r3]) rfl ⟨rfl, HM.out, H0.out.2⟩
end Go.Proofs.YtgdloonpemaijaaDoor
namespace Go.Proofs.YtgdloonpemaijaaDoor
open Go.RowKit
/-- Whether an event may happen, of a program that may be. -/
def isQ (p : PPrg) (b : PBud) (x : PWld) (e : PEv) : Bool := mayB b && ((chkAs p x.acts && (chkM p x && chkUsed x.used)) && isL (leftB b x.used) x e)
theorem isP_Q {p : PPrg} (hf : fc p = 0) (b : PBud) (x : PWld) (e : PEv) : isP p b x e = isQ p b x e := by
  unfold isP fitsP chkW isQ
  rw [decide_eq_true hf, Bool.true_and, Bool.and_assoc]
def goQ (p : PPrg) (x0 : PWld) (l : List PEv) : Nat → PWld
  | 0 => x0
  | k + 1 => doQ p (goQ p x0 l k) (l.getD k default)
theorem goP_Q {p : PPrg} (hf : fc p = 0) (x0 : PWld) (l : List PEv) : ∀ k, goP p x0 l k = goQ p x0 l k
  | 0 => rfl
  | k + 1 => by rw [goP, goQ, goP_Q hf x0 l k, doP_Q hf]
def okQ (p : PPrg) (b : PBud) (x0 : PWld) (l : List PEv) (k : Nat) : Bool := isQ p b (goQ p x0 l k) (l.getD k default)
theorem okAt_Q {p : PPrg} (hf : fc p = 0) {b : PBud} {x0 : PWld} {l : List PEv} {k : Nat} : okAt p b x0 l k ↔ okQ p b x0 l k = true := by
  unfold okAt okQ
  rw [goP_Q hf, isP_Q hf]
theorem RunE.all {p : PPrg} {b : PBud} {l : List PEv} {X : PWld} {n : Nat} {er : Int} (h : RunE p b l X n er) (ho : ∀ i, i < l.length → okAt p b (startP p) l i) : n = l.length ∧ X = goP p (startP p) l l.length ∧ er = 0 := by
  rcases h.res with ⟨h1, h2, h3⟩ | ⟨h1, h2, _⟩
  · subst h1; exact ⟨rfl, h2, h3⟩
  · exact absurd (ho n h1) h2
theorem RunE.stop {p : PPrg} {b : PBud} {l : List PEv} {X : PWld} {n k : Nat} {er : Int} (h : RunE p b l X n er) (hk : k < l.length) (ho : ∀ i, i < k → okAt p b (startP p) l i) (hn : ¬ okAt p b (startP p) l k) : n = k ∧ X = ⟨[], [], ⟨0, 0, 0, 0⟩⟩ ∧ er = 8 := by
  have h1 : n ≤ k := by
    apply Classical.byContradiction
    intro e
    exact hn (h.done k (by omega))
  rcases h.res with ⟨h2, _⟩ | ⟨h2, h3, h4, h5⟩
  · omega
  · by_cases e : n = k
    · exact ⟨e, h4, h5⟩
    · exact absurd (ho n (by omega)) h3
theorem fc_mk {p : PPrg} (h : chk p = 0) (hc : ∀ x ∈ p.hs, de p.hs x.code = 0) : fc p = 0 := by
  unfold fc
  rw [if_pos h]
  have : ∀ l : List PHnd, (∀ x ∈ l, de p.hs x.code = 0) → scan (fun h => de p.hs h.code) l = 0 := by
    intro l hl
    induction l with
    | nil => rfl
    | cons x r ih =>
      unfold scan
      rw [hl x (List.mem_cons_self ..), if_pos rfl]
      exact ih fun y hy => hl y (List.mem_cons_of_mem _ hy)
  exact this _ hc
def pprv (k : Nat) : Nat := if k = 12 then 11 else if k = 13 then 1 else k - 1
theorem pair_chk (n : Int) : chk (pairP n) = 0 := by kernel_rfl
theorem pair_fc (n : Int) : fc (pairP n) = 0 := fc_mk (pair_chk n) fun x hx => by
  have hx' : x ∈ [(⟨1, pc1⟩ : PHnd), ⟨0, pc2⟩] := hx
  simp only [List.mem_cons, List.not_mem_nil, or_false] at hx'
  rcases hx' with rfl | rfl
  · exact (goodB_good (hs := [⟨1, pc1⟩, ⟨0, pc2⟩]) (code := pc1) (l := [0, 1, 0, 1, 2, 1, 0, 1, 2, 1, 2, 3, 2, 0]) (pr := pprv) (by decide +kernel)).de
  · exact (goodB_good (hs := [⟨1, pc1⟩, ⟨0, pc2⟩]) (code := pc2) (l := [0, 1, 0, 0]) (pr := fun k => k - 1) (by decide +kernel)).de
theorem pair_small (n : Int) : Small (pairP n) := by
  refine ⟨show 2 ≤ 18 by decide, show 2 ≤ 10 by decide, show 1 ≤ 18 by decide, ?_, ?_, ?_⟩
  · intro h hh
    have hh' : h ∈ [(⟨1, pc1⟩ : PHnd), ⟨0, pc2⟩] := hh
    simp only [List.mem_cons, List.not_mem_nil, or_false] at hh'
    rcases hh' with rfl | rfl <;> decide
  · intro a ha
    have ha' : a ∈ [(⟨[0], 4, 1, true⟩ : PAct), ⟨[0], 4, -1, false⟩] := ha
    simp only [List.mem_cons, List.not_mem_nil, or_false] at ha'
    rcases ha' with rfl | rfl <;> decide
  · intro m hm
    have hm' : m ∈ [(⟨0, 0, [n]⟩ : PNte)] := hm
    simp only [List.mem_cons, List.not_mem_nil, or_false] at hm'
    subst hm'; simp
def al1 : List PEv := [⟨1, ⟨-1, 0, 0⟩, 0⟩, ⟨4, ⟨0, 0, 0⟩, 0⟩, ⟨2, ⟨0, 0, 0⟩, 0⟩]
def al2 : List PEv := [⟨1, ⟨-1, 0, 0⟩, 0⟩, ⟨5, ⟨0, 0, 0⟩, 0⟩]
def abu : PBud := ⟨1, 0, 1, 0⟩
def smwB (x : PWld) : Bool := decide (x.acts.length ≤ 100) && (x.acts.all (fun a => decide (a.regs.length ≤ 1000)) && (decide (x.mail.length ≤ 500) && x.mail.all (fun m => decide (m.nt.args.length ≤ 1000))))
theorem smW_of {x : PWld} (h : smwB x = true) : SmW x := by
  unfold smwB at h
  simp only [Bool.and_eq_true, decide_eq_true_eq, List.all_eq_true] at h
  exact ⟨h.1, h.2.1, h.2.2.1, h.2.2.2⟩
def ax1 : PWld := ⟨[⟨[9], true, 0, 1, 0⟩, ⟨[0], false, 0, 0, 0⟩], [], ⟨1, 0, 1, 0⟩⟩
theorem aw_x1 : goP (pairP 2) (startP (pairP 2)) al1 3 = ax1 := by rw [goP_Q (pair_fc 2)]; decide +kernel
theorem aw_o1 : ∀ i, i < 3 → okAt (pairP 2) abu (startP (pairP 2)) al1 i := fun i hi => (okAt_Q (pair_fc 2)).2 ((by decide +kernel : ∀ i, i < 3 → okQ (pairP 2) abu (startP (pairP 2)) al1 i = true) i hi)
theorem aw_o2 : ∀ i, i < 1 → okAt (pairP 2) abu (startP (pairP 2)) al2 i := fun i hi => (okAt_Q (pair_fc 2)).2 ((by decide +kernel : ∀ i, i < 1 → okQ (pairP 2) abu (startP (pairP 2)) al2 i = true) i hi)
theorem aw_n2 : ¬ okAt (pairP 2) abu (startP (pairP 2)) al2 1 := fun h => by
  have h1 := (okAt_Q (pair_fc 2)).1 h
  have h2 : okQ (pairP 2) abu (startP (pairP 2)) al2 1 = false := by decide +kernel
  rw [h2] at h1; cases h1
theorem aw_s1 : ∀ k, k ≤ 3 → SmW (goP (pairP 2) (startP (pairP 2)) al1 k) := fun k hk => by
  rw [goP_Q (pair_fc 2)]; exact smW_of ((by decide +kernel : ∀ k, k ≤ 3 → smwB (goQ (pairP 2) (startP (pairP 2)) al1 k) = true) k hk)
theorem aw_s2 : ∀ k, k ≤ 2 → SmW (goP (pairP 2) (startP (pairP 2)) al2 k) := fun k hk => by
  rw [goP_Q (pair_fc 2)]; exact smW_of ((by decide +kernel : ∀ k, k ≤ 2 → smwB (goQ (pairP 2) (startP (pairP 2)) al2 k) = true) k hk)
def ax0 : PWld := ⟨[⟨[0], true, 0, 0, 0⟩, ⟨[0], false, 0, 0, 0⟩], [⟨⟨-1, 0, 0⟩, ⟨0, 0, [2]⟩⟩], ⟨0, 0, 0, 0⟩⟩
theorem aw_st : startP (pairP 2) = ax0 := by decide +kernel
theorem aw_nt : notesP (pairP 2) ax0 ⟨1, ⟨-1, 0, 0⟩, 0⟩ = [⟨1, 0, [1]⟩] := by
  have h1 : rhP (pairP 2) ax0 ⟨1, ⟨-1, 0, 0⟩, 0⟩ = true := by unfold rhP; rw [isP_Q (pair_fc 2)]; decide +kernel
  have h2 : runP (pairP 2) = runQ (pairP 2) := by funext a b c d; exact runP_Q (pair_fc 2) a b c d
  unfold notesP
  rw [h1, h2]
  decide +kernel
/-- A list of events written down. -/
theorem evs_lit {w : World} {B : Nat} {l : List PEv} {T : TypeId} (h : w.heap[B]? = some (.cells ((l.map erow).flatten).toArray T)) (h0 : 0 < l.length) (hl : l.length ≤ 1000) : Evs anyB w (.slice (some ⟨B, 0, none⟩) l.length l.length) l := by
  refine ⟨_, _, rfl, by omega, Nat.le_refl _, Or.inr ⟨B, 0, rfl, trivial, (Array.getElem?_eq_some_iff.1 h).1, fun k e he => ?_⟩⟩
  have hk := (List.getElem?_eq_some_iff.1 he).1
  have hf : ∀ j, j < 5 → w.cell? ⟨B, 0 + k * 5 + j, none⟩ = (erow e)[j]? := fun j hj => by
    rw [Nat.zero_add, cell_of_row _ _ _ _ _ _ h, List.getElem?_toArray, flat_at (l.map erow) (fun r hr => by obtain ⟨x, _, rfl⟩ := List.mem_map.1 hr; rfl) k j hj, List.getElem?_map, he]; rfl
  exact ⟨hf 0 (by omega), hf 1 (by omega), hf 2 (by omega), hf 3 (by omega), hf 4 (by omega)⟩
end Go.Proofs.YtgdloonpemaijaaDoor
namespace Go.Proofs.YtgdloonpemaijaaDoor
open Go.RowKit
theorem ints_lit {w : World} {B : Nat} {n : Int} (h : w.heap[B]? = some (.cells #[.int .i64 n] 3)) : Ints anyB w (.slice (some ⟨B, 0, none⟩) 1 1) [n] := by
  refine ⟨_, 1, rfl, by simp, by simp, Or.inr ⟨B, 0, rfl, trivial, (Array.getElem?_eq_some_iff.1 h).1, fun j y hy => ?_⟩⟩
  match j, hy with
  | 0, hy => cases hy; show w.cell? _ = _; rw [cell_of_row _ _ _ _ _ _ h]; rfl
section
attribute [local go_sem ↓] eq8
set_option maxHeartbeats 8000000 in
set_option maxRecDepth 100000 in
theorem swake_any (w : World) (ht : Tab w) : Calls Tryd.prog 39 #[] w fun e w' => e = .returned (.bool true) ∧ Below w.heap.size w w' := by
  have HT := hid_mk ht
  clear ht
  go_enter Tryd.func39, Tryd.ntmps39
  go_wp2_with fail
  refine (pair_any 2 w).mono ?_
  rintro e w1 ⟨rfl, hp1, hb1⟩
  have HP1 := hid_mk hp1
  have HB1 := hid_mk hb1
  clear hp1 hb1
  go_wp2_with fail
  have hA := three_new w1 (.cells #[.slice (some ⟨w.heap.size + 1 + 1 + 1, 0, none⟩) 2 2, .slice (some ⟨w.heap.size + 1 + 1 + 1 + 1 + 1 + 1, 0, none⟩) 2 2, .slice (some ⟨w.heap.size + 1 + 1 + 1 + 1 + 1 + 1 + 1 + 1, 0, none⟩) 1 1, .int .i64 20] 26) (.cells #[.int .i64 1, .int .i64 0, .int .i64 1, .int .i64 0] 42) (.cells #[.int .i64 1, .int .i64 (-1), .int .i64 0, .int .i64 0, .int .i64 0, .int .i64 4, .int .i64 0, .int .i64 0, .int .i64 0, .int .i64 0, .int .i64 2, .int .i64 0, .int .i64 0, .int .i64 0, .int .i64 0] 62)
  have HL : Below w1.heap.size w1 (((w1.alloc (.cells #[.slice (some ⟨w.heap.size + 1 + 1 + 1, 0, none⟩) 2 2, .slice (some ⟨w.heap.size + 1 + 1 + 1 + 1 + 1 + 1, 0, none⟩) 2 2, .slice (some ⟨w.heap.size + 1 + 1 + 1 + 1 + 1 + 1 + 1 + 1, 0, none⟩) 1 1, .int .i64 20] 26)).alloc (.cells #[.int .i64 1, .int .i64 0, .int .i64 1, .int .i64 0] 42)).alloc (.cells #[.int .i64 1, .int .i64 (-1), .int .i64 0, .int .i64 0, .int .i64 0, .int .i64 4, .int .i64 0, .int .i64 0, .int .i64 0, .int .i64 0, .int .i64 2, .int .i64 0, .int .i64 0, .int .i64 0, .int .i64 0] 62)) := bAlloc (bAlloc (bAlloc (bRefl _) _) _) _
  generalize (((w1.alloc (.cells #[.slice (some ⟨w.heap.size + 1 + 1 + 1, 0, none⟩) 2 2, .slice (some ⟨w.heap.size + 1 + 1 + 1 + 1 + 1 + 1, 0, none⟩) 2 2, .slice (some ⟨w.heap.size + 1 + 1 + 1 + 1 + 1 + 1 + 1 + 1, 0, none⟩) 1 1, .int .i64 20] 26)).alloc (.cells #[.int .i64 1, .int .i64 0, .int .i64 1, .int .i64 0] 42)).alloc (.cells #[.int .i64 1, .int .i64 (-1), .int .i64 0, .int .i64 0, .int .i64 0, .int .i64 4, .int .i64 0, .int .i64 0, .int .i64 0, .int .i64 0, .int .i64 2, .int .i64 0, .int .i64 0, .int .i64 0, .int .i64 0] 62)) = w2 at hA HL ⊢
  have HW2 := hid_mk (bTrans HB1.out HL)
  have HP2 := hid_mk (HP1.out.below HL)
  refine (run_yes_s w2 _ _ (pairP 2) abu al1 (HT.out.below HW2.out) HP2.out.prg (evs_lit (l := al1) hA.2.2.1 (by decide) (by decide)) (pair_small 2) (pair_fc 2) (fun k hk _ => aw_s1 k hk)).mono ?_
  rintro e w3 ⟨v3, X3, n3, er3, rfl, hv3, hE3, hb3⟩
  obtain ⟨hn3, hX3, rfl⟩ := hE3.all aw_o1
  have hn3' : n3 = 3 := hn3
  subst hn3'
  have hX3' : X3 = ax1 := hX3.trans aw_x1
  subst hX3'
  obtain ⟨a3, m3, rfl, ha3, hm3⟩ := hv3
  obtain ⟨A3, c3, rfl, _⟩ := ha3.form
  obtain ⟨M3, d3, rfl, _⟩ := hm3.form
  have HP3 := hid_mk (HP2.out.below hb3)
  have HK0 := hid_mk (boxAt hA.1 hb3)
  have HK1 := hid_mk (boxAt hA.2.1 hb3)
  have HW3 := hid_mk (bTrans HW2.out hb3)
  have HA3 := hid_mk ha3
  have HM3 := hid_mk hm3
  have z1 : w1.heap.size < w3.heap.size := (Array.getElem?_eq_some_iff.1 HK0.out).1
  have z2 : w1.heap.size + 1 < w3.heap.size := (Array.getElem?_eq_some_iff.1 HK1.out).1
  clear hA HL hE3 hn3 hX3 ha3 hm3 hb3
  obtain ⟨p0, p1, p2, p3⟩ := blk4 HK0.out
  obtain ⟨q0, q1, q2, q3⟩ := blk4 HK1.out
  go_wp2_with fail
  have hA := two_new w3 (.cells #[.slice A3 ax1.acts.length c3, .slice M3 ax1.mail.length d3, .int .i64 ax1.used.drop, .int .i64 ax1.used.dup, .int .i64 ax1.used.time, .int .i64 ax1.used.crash] 44) (.cells #[.int .i64 1, .int .i64 (-1), .int .i64 0, .int .i64 0, .int .i64 0, .int .i64 5, .int .i64 0, .int .i64 0, .int .i64 0, .int .i64 0] 62)
  have HL : Below w3.heap.size w3 ((w3.alloc (.cells #[.slice A3 ax1.acts.length c3, .slice M3 ax1.mail.length d3, .int .i64 ax1.used.drop, .int .i64 ax1.used.dup, .int .i64 ax1.used.time, .int .i64 ax1.used.crash] 44)).alloc (.cells #[.int .i64 1, .int .i64 (-1), .int .i64 0, .int .i64 0, .int .i64 0, .int .i64 5, .int .i64 0, .int .i64 0, .int .i64 0, .int .i64 0] 62)) := bAlloc (bAlloc (bRefl _) _) _
  generalize ((w3.alloc (.cells #[.slice A3 ax1.acts.length c3, .slice M3 ax1.mail.length d3, .int .i64 ax1.used.drop, .int .i64 ax1.used.dup, .int .i64 ax1.used.time, .int .i64 ax1.used.crash] 44)).alloc (.cells #[.int .i64 1, .int .i64 (-1), .int .i64 0, .int .i64 0, .int .i64 0, .int .i64 5, .int .i64 0, .int .i64 0, .int .i64 0, .int .i64 0] 62)) = w4 at hA HL ⊢
  have HW4 := hid_mk (bTrans HW3.out HL)
  have HP4 := hid_mk (HP3.out.below HL)
  have HK0 := hid_mk (boxAt HK0.out HL)
  have HA4 := hid_mk (HA3.out.below HL)
  refine (run_yes_s w4 _ _ (pairP 2) abu al2 (HT.out.below HW4.out) HP4.out.prg (evs_lit (l := al2) hA.2.1 (by decide) (by decide)) (pair_small 2) (pair_fc 2) (fun k hk _ => aw_s2 k hk)).mono ?_
  rintro e w5 ⟨v5, X5, n5, er5, rfl, hv5, hE5, hb5⟩
  obtain ⟨rfl, rfl, rfl⟩ := hE5.stop (k := 1) (by decide) aw_o2 aw_n2
  obtain ⟨a5, m5, rfl, ha5, hm5⟩ := hv5
  obtain ⟨A5, c5, rfl, _⟩ := ha5.form
  obtain ⟨M5, d5, rfl, _⟩ := hm5.form
  have HP5 := hid_mk (HP4.out.below hb5)
  have HK0 := hid_mk (boxAt HK0.out hb5)
  have HK3 := hid_mk (boxAt hA.1 hb5)
  have HW5 := hid_mk (bTrans HW4.out hb5)
  have HA5 := hid_mk (HA4.out.below hb5)
  clear hA HL hE5 ha5 hm5 hb5 p0 p1 p2 p3 q0 q1 q2 q3 z1 z2
  obtain ⟨p0, p1, p2, p3⟩ := blk4 HK0.out
  obtain ⟨x0, x1, x2, x3, x4, x5⟩ := blk6 HK3.out
  have z1 : w1.heap.size < w5.heap.size := (Array.getElem?_eq_some_iff.1 HK0.out).1
  have z3 : w3.heap.size < w5.heap.size := (Array.getElem?_eq_some_iff.1 HK3.out).1
  have l2 : ax1.acts.length = 2 := rfl
  have l0 : ax1.mail.length = 0 := rfl
  go_wp2_with fail
  have HL6 : Below w5.heap.size w5 (w5.alloc (.cells #[.slice A5 0 c5, .slice M5 0 d5, .int .i64 0, .int .i64 0, .int .i64 0, .int .i64 0] 44)) := bAlloc (bRefl _) _
  generalize w5.alloc (.cells #[.slice A5 0 c5, .slice M5 0 d5, .int .i64 0, .int .i64 0, .int .i64 0, .int .i64 0] 44) = w6 at HL6 ⊢
  have HW6 := hid_mk (bTrans HW5.out HL6)
  have HP6 := hid_mk (HP5.out.below HL6)
  refine (start_yes w6 _ (pairP 2) (HT.out.below HW6.out) HP6.out.prg (pair_small 2) (pair_fc 2)).mono ?_
  rw [aw_st]
  rintro e w7 ⟨a7, m7, lo7, hi7, rfl, hwn7, hb7⟩
  have HWV := hid_mk (hwn7.wld (smW_of (by decide)))
  obtain ⟨A7, c7, rfl⟩ := hwn7.acts.form
  obtain ⟨M7, d7, rfl, _⟩ := hwn7.mail.form
  have HP7 := hid_mk (HP6.out.below hb7)
  have hb57 := bTrans HL6 hb7
  have HK0 := hid_mk (boxAt HK0.out hb57)
  have HK3 := hid_mk (boxAt HK3.out hb57)
  have HW7 := hid_mk (bTrans HW6.out hb7)
  have HA7 := hid_mk (HA5.out.below hb57)
  clear HL6 hwn7 hb7 hb57 p0 p1 p2 p3 x0 x1 x2 x3 x4 x5 z1 z3
  obtain ⟨p0, p1, p2, p3⟩ := blk4 HK0.out
  have z1 : w1.heap.size < w7.heap.size := (Array.getElem?_eq_some_iff.1 HK0.out).1
  go_wp2_with fail
  have HL8 : Below w7.heap.size w7 (w7.alloc (.cells #[.slice A7 ax0.acts.length c7, .slice M7 ax0.mail.length d7, .int .i64 ax0.used.drop, .int .i64 ax0.used.dup, .int .i64 ax0.used.time, .int .i64 ax0.used.crash] 44)) := bAlloc (bRefl _) _
  generalize w7.alloc (.cells #[.slice A7 ax0.acts.length c7, .slice M7 ax0.mail.length d7, .int .i64 ax0.used.drop, .int .i64 ax0.used.dup, .int .i64 ax0.used.time, .int .i64 ax0.used.crash] 44) = w8 at HL8 ⊢
  refine (notes_any w8 _ _ (pairP 2) ax0 ⟨1, ⟨-1, 0, 0⟩, 0⟩ (HT.out.below (bTrans HW7.out HL8)) (HP7.out.below HL8).prg (HWV.out.below HL8) (smW_of (by decide)) ⟨by decide, by decide, by decide⟩).mono ?_
  rw [aw_nt]
  rintro e w9 ⟨v9, rfl, hv9, hb9⟩
  obtain ⟨A9, c9, rfl, _⟩ := hv9.form
  have hb79 := bTrans HL8 hb9
  have HK3 := hid_mk (boxAt HK3.out hb79)
  have HW9 := hid_mk (bTrans HW7.out hb79)
  obtain ⟨bA, oA, xA, vA, rfl, hxA, hzA, s0, s1, s2, s3, s4, hvA⟩ := HA7.out.cell hb79 (k := 0) (by decide)
  cases hxA
  obtain ⟨VA, cA, rfl, _⟩ := hvA.form
  obtain ⟨bN, oN, xN, vN, rfl, hxN, hzN, t0, t1, t2, _⟩ := hv9.cell (bRefl w9) (k := 0) (by decide)
  cases hxN
  have HVA := hid_mk hvA
  clear HL8 hb9 hb79 p0 p1 p2 p3 z1 hvA hv9
  obtain ⟨x0, x1, x2, x3, x4, x5⟩ := blk6 HK3.out
  have z3 : w3.heap.size < w9.heap.size := (Array.getElem?_eq_some_iff.1 HK3.out).1
  rw [Nat.zero_mul, Nat.add_zero] at s0 s1 s2 s3 s4 t0 t1 t2
  have e9 : eqB ([9] : List Int) [9] = true := by decide
  have hqb : eqB (⟨1, 0, 1, 0⟩ : PBud) ⟨1, 0, 1, 0⟩ = true := by decide
  have u1 : ax1.used.drop = 1 := rfl
  have u2 : ax1.used.dup = 0 := rfl
  have u3 : ax1.used.time = 1 := rfl
  have u4 : ax1.used.crash = 0 := rfl
  have hBI : Hid (∀ X, Below w9.heap.size w9 (w9.alloc X)) := fun X => bAlloc (bRefl _) _
  have hI9 : Hid (Ints anyB (w9.alloc (.cells #[.int .i64 9] 3)) (.slice (some ⟨w9.heap.size, 0, none⟩) 1 1) [9]) := ints_lit (heap_new _ _)
  go_wp2_with (first
    | (go_at_call 43; refine (alikeI _ _ _ _ _ [9] [9] (HVA.out.below (hBI.out _)) hI9.out).mono ?_; rw [e9]; rintro e w10 ⟨rfl, n10, h10⟩; have hb10 : Below w9.heap.size w9 w10 := (by rw [h10]; exact bDrewN (hBI.out _) n10); have hc10 := bcell hb10; have HB10 := hid_mk hb10; clear h10 hb10))
  go_ret
  exact ⟨rfl, bTrans HW9.out HB10.out⟩
end
end Go.Proofs.YtgdloonpemaijaaDoor
namespace Go.Proofs.YtgdloonpemaijaaDoor
open Go.ChangeShapes Go.WideShapes Go.ChangeAt Go.RowKit

theorem one_of {α : Type} {l : List α} {k : Nat} {a : α} (h : (l.drop k).take 1 = [a]) : l[k]? = some a := by
  have := congrArg (·[0]?) h
  simpa [List.getElem?_take, List.getElem?_drop] using this
theorem own : ownKnob Tryd.prog.godebug = none := by kernel_rfl
def nmAt (k : Nat) : String := (Rows.stepTimersRow.laid.map (·.1)).getD k ""
theorem gTab : Tryd.prog.globalNamed (nmAt 0) = some 0 := by kernel_rfl
theorem tTab : (Tryd.prog.globals[0]?).map (·.type) = some 197 := by kernel_rfl
theorem cells3 : Tryd.prog.cellsOf 3 = 1 := by kernel_rfl
theorem cellsT : Tryd.prog.cellsOf 187 = 4 := by kernel_rfl
theorem cellsTb : Tryd.prog.cellsOf 197 = 104 := by kernel_rfl
theorem cells9 : Tryd.prog.cellsOf 9 = 1 := by kernel_rfl
/-- The datum, row by row. -/
def rowD (i : Nat) : DataW Unit := .agg [.lit (.string (nmL.getD i [])), .lit (.int .i64 (po i)), .lit (.int .i64 (pu i)), .lit (.int .i64 (od i))]
theorem table_rows : (Rows.laid_gavotte_ops_table : DataW Unit) = .agg ((List.range 26).map rowD) := by kernel_rfl

theorem four_of {α : Type} {l : List α} {i j : Nat} {a : α} (hj : j < 4) (h : ((l.drop (i * 4)).take 4)[j]? = some a) : l[i * 4 + j]? = some a := by
  rw [List.getElem?_take, if_pos hj, List.getElem?_drop] at h
  exact h

theorem str_of {s : ByteArray} {l : List UInt8} (h : l = s.data.toList) : s = ⟨l.toArray⟩ := by
  subst h
  rfl

theorem tab_of {rest : List (String × DataW Unit)} {W : World} (h : laidMet Tryd.prog ((nmAt 0, Rows.laid_gavotte_ops_table) :: rest) W) : Tab W := by
  obtain ⟨ps, ⟨g0, t0, cs0, f0, p0, q0, hg0, ht0, hv0, hd0, _, _⟩, _, _⟩ := h
  obtain rfl := Option.some.inj (gTab.symm.trans hg0)
  obtain rfl := Option.some.inj (tTab.symm.trans ht0)
  obtain ⟨xs, m, rfl, hx, hlen, hn, hel⟩ := DataW.trod_array Tryd.underlying197 hd0
  rw [table_rows] at hx
  simp only [Prod.mk.injEq, DataW.agg.injEq] at hx
  have key : ∀ i, i < 26 → cs0[i * 4]? = some (.string (nm i)) ∧ cs0[i * 4 + 1]? = some (.int .i64 (po i)) ∧ cs0[i * 4 + 2]? = some (.int .i64 (pu i)) ∧ cs0[i * 4 + 3]? = some (.int .i64 (od i)) := by
    intro i hi
    have he := hel i hi
    have hxi : (xs.map (·.1))[i]? = some (rowD i) := by rw [← hx.1]; simp [hi]
    rw [List.getElem?_map] at hxi
    obtain ⟨x, hx1, hx2⟩ := Option.map_eq_some_iff.1 hxi
    rw [hx1, cellsT] at he
    obtain ⟨y0, y1, y2, y3, n, hy, _, e0, e1, e2, e3⟩ := Go.Joins.trod_struct4 Tryd.underlying187 he
    rw [hy] at hx2
    simp only [rowD, DataW.agg.injEq, List.cons.injEq, and_true] at hx2
    obtain ⟨r0, r1, r2, r3⟩ := hx2
    rw [cells9] at e0
    rw [cells3] at e1 e2 e3
    obtain ⟨s, c0, rfl, _⟩ := DataW.trod_string Tryd.underlying9 e0
    obtain ⟨a, c1, rfl, _⟩ := DataW.trod_int Tryd.underlying3 e1
    obtain ⟨b, c2, rfl, _⟩ := DataW.trod_int Tryd.underlying3 e2
    obtain ⟨c, c3, rfl, _⟩ := DataW.trod_int Tryd.underlying3 e3
    simp only [DataW.lit.injEq, Lit.string.injEq, Lit.int.injEq, true_and] at r0 r1 r2 r3
    obtain rfl := r1
    obtain rfl := r2
    obtain rfl := r3
    have hs : s = nm i := str_of r0.symm
    subst hs
    have d0 := four_of (j := 0) (by decide) (one_of c0)
    have d1 := four_of (j := 1) (by decide) (one_of c1)
    have d2 := four_of (j := 2) (by decide) (one_of c2)
    have d3 := four_of (j := 3) (by decide) (one_of c3)
    simp only [Array.getElem?_toList] at d0 d1 d2 d3
    exact ⟨d0, d1, d2, d3⟩
  have look := fun k => World.var?_cell hg0 hv0 k
  have first : W.cell? ⟨0, 0 * 4, none⟩ = some (.string (nm 0)) := (look (0 * 4)).trans (key 0 (by decide)).1
  refine ⟨fun i hi => (look _).trans (key i hi).1, fun i hi => (look _).trans (key i hi).2.1, fun i hi => (look _).trans (key i hi).2.2.1, fun i hi => (look _).trans (key i hi).2.2.2, ?_⟩
  apply Classical.byContradiction
  intro hz
  have : W.heap[0]? = none := by rw [Array.getElem?_eq_none]; omega
  simp [World.cell?, this] at first


def laidE : List (String × DataW Unit) := [(nmAt 0, Rows.laid_gavotte_ops_table)]
theorem of_laidE {W : World} (h : laidMetH Tryd.prog laidE W) : Tab W := by
  rw [MakeChecks.laidMetH_plain _ _ _ (by kernel_rfl)] at h
  exact tab_of h
/-- The wrap of a row that lists variables, the world's shape kept. -/
theorem handed_both {H : Type} {enc : TypeId × Value → H} {a : Assume} {C : Checked} {os : Os} {f : FuncId} {fn : Func} {s : ChangeSpec} {conds : List PathCond} {apart fresh handsOn again : Bool} {X : World → Array Value → Prop}
    (hX : ∀ (w w' : World) (args : Array Value), w.heap = w'.heap → X w args → X w' args)
    (own : ownKnob C.prog.godebug = none) (started : os.Started) (noInit : C.prog.inits.idxOf? f = none) (hfn : C.prog.funcs[f]? = some fn)
    (witness : ∃ (w : World) (tape : Tape) (i : Input), w.os = os ∧ (w.forCall tape i).Shaped C.prog ∧ i.vars = [] ∧ Input.okWide C.prog (w.forCall tape i) .any w.heap.size f i ∧
      ((s.pre enc C.prog fn conds apart (w.forCall tape i).memory i.args ∧ X (w.forCall tape i).memory i.args) ∧ sizedMet enc C.prog fn (OpenSpec.ofChange s) apart (w.forCall tape i).memory i.args) ∧ a.holds C.prog (lone (Frame.enter C.prog f i.args .normal) [] (w.forCall tape i)))
    (contract : ∀ (W : World) (base : Nat) (args : Array Value) (ds gs : List (DataW H)) (before : List MemPlace),
      (∀ (j : Nat) t v, fn.params[j]? = some t → args[j]? = some v → Value.okWide C.prog W .any base t v) →
      DataW.Whole enc C.prog fn.params.toList s.vars apart W args.toList ds gs before → X W args → W.ShapedOpen C.prog →
      Calls C.prog f args W fun e W' => ∃ v, e = .returned v ∧ s.post enc C.prog fn apart fresh handsOn again W args v W') :
    ReturnsInHanded a C os f .any (fun w args => (s.pre enc C.prog fn conds apart w args ∧ X w args) ∧ sizedMet enc C.prog fn (OpenSpec.ofChange s) apart w args) (s.post enc C.prog fn apart fresh handsOn again) := by
  refine returnsInHanded_of_calls own started noInit witness fun w tape i _ hsh _ hok hpre _ => ?_
  obtain ⟨_, _, _, fn', hfn', _, _, _, _, hval⟩ := hok
  cases Option.some.inj (hfn'.symm.trans hfn)
  obtain ⟨⟨⟨ds, gs, before, hw, _⟩, hx⟩, _⟩ := hpre
  refine (contract (w.forCall tape i) w.heap.size i.args ds gs before hval (DataW.Whole.of_heap (w' := w.forCall tape i) (by rfl) hw) (hX _ _ _ (by rfl) hx) hsh).mono fun e W' ⟨v, he, hp⟩ => ?_
  subst he
  exact ChangeSpec.post_blind hp

theorem door_metE (os : Os) (args : Array Value) : laidMetH Tryd.prog laidE ((World.doorLaid Tryd.prog 400 os).forCall (fun _ _ => 0) ⟨#[], args, []⟩).memory :=
  laidMetH_of_parts3 (fuel := 8) (laidMet_of_run' 8 (by kernel_rfl) (by kernel_rfl)) (by kernel_rfl) (by kernel_rfl)
end Go.Proofs.YtgdloonpemaijaaDoor
