/-
 Whether two events are free of each other: what touch.Free answers (P12.1). Conditions: the table of the instructions is in the world; the world is not too great.
-/
import Derived.Test.YtfbeiedhdmndnaaGreatDoorTe
namespace Go.Proofs.YtfbeiedhdmndnaaGreatDoor
open Go.RowKit
attribute [local go_sem ↓] Go.wp_at_zero Go.wp_at_succ eq10
set_option maxHeartbeats 400000 in
theorem fault_any (e : PEv) (w : World) : Calls Tryz.prog 56 #[eVal e] w fun r w' => r = .returned (.bool (fauB e)) ∧ Below w.heap.size w w' := by
 obtain ⟨κ, ⟨f, n, c⟩, who⟩ := e
 have HB := hid_mk (bAlloc (bRefl w) (.cells #[.int .i64 κ, .int .i64 f, .int .i64 n, .int .i64 c, .int .i64 who] 36))
 obtain ⟨e0, e1, e2, e3, e4⟩ := blk5 (heap_new w (.cells #[.int .i64 κ, .int .i64 f, .int .i64 n, .int .i64 c, .int .i64 who] 36))
 by_cases h2 : 2 ≤ κ
 ·by_cases h5 : κ ≤ 5
  ·have HF : Hid (fauB ⟨κ, ⟨f, n, c⟩, who⟩ = true) := decide_eq_true ⟨h2, h5⟩
   go_enter Tryz.func56, Tryz.ntmps56
   go_wp2
   go_ret
   exact ⟨ret_b HF.out.symm, HB.out⟩
  ·have HF : Hid (fauB ⟨κ, ⟨f, n, c⟩, who⟩ = false) := decide_eq_false fun h => h5 h.2
   go_enter Tryz.func56, Tryz.ntmps56
   go_wp2
   go_ret
   exact ⟨ret_b HF.out.symm, HB.out⟩
 ·have HF : Hid (fauB ⟨κ, ⟨f, n, c⟩, who⟩ = false) := decide_eq_false fun h => h2 h.1
  go_enter Tryz.func56, Tryz.ntmps56
  go_wp2
  go_ret
  exact ⟨ret_b HF.out.symm, HB.out⟩
theorem who_is (W : World) (vp vw : Value) (p : PPrg) (x : PWld) (e : PEv) (l : List Int) (hl : whoP p x e = l) (ht : Tab W) (hp : PrgV W vp p) (hx : WldV W vw x) (hs : SmW x) (hr : RgU x.used) :
  Calls Tryz.prog 25 #[vp, vw, eVal e] W fun r w' => ∃ v, r = .returned v ∧ OwnIV W.heap.size w' v l ∧ Below W.heap.size W w' := hl ▸ who_any W vp vw p x e ht hp hx hs hr
theorem fault_is (e : PEv) (w : World) (b : Bool) (h : fauB e = b) : Calls Tryz.prog 56 #[eVal e] w fun r w' => r = .returned (.bool b) ∧ Below w.heap.size w w' := h ▸ fault_any e w
theorem who_le (p : PPrg) (x : PWld) (e : PEv) : (whoP p x e).length ≤ 1000 := by
 unfold whoP
 split
 ·split
  ·exact Nat.zero_le _
  ·rename_i f _
   have h1 := notesP_len p x e
   have h2 := Lib.compact_length_le ((f :: (notesP p x e).map (·.to)).mergeSort fun x y => decide (x ≤ y))
   rw [List.length_mergeSort, List.length_cons, List.length_map] at h2
   unfold risI
   omega
 ·exact Nat.zero_le _
theorem new4 (W : World) (X0 X1 X2 X3 : Obj) : ((((W.alloc X0).alloc X1).alloc X2).alloc X3).heap[W.heap.size]? = some X0 ∧ ((((W.alloc X0).alloc X1).alloc X2).alloc X3).heap[W.heap.size + 1]? = some X1 ∧
  ((((W.alloc X0).alloc X1).alloc X2).alloc X3).heap[W.heap.size + 1 + 1]? = some X2 ∧ ((((W.alloc X0).alloc X1).alloc X2).alloc X3).heap[W.heap.size + 1 + 1 + 1]? = some X3 ∧ Below W.heap.size W ((((W.alloc X0).alloc X1).alloc X2).alloc X3) :=
 have h := fun i X e => allocs_at [X0, X1, X2, X3] W i X e
 ⟨(h 0 _ rfl).1, (h 1 _ rfl).1, (h 2 _ rfl).1, (h 3 _ rfl).1, (h 0 _ rfl).2⟩
set_option maxHeartbeats 4000000 in
set_option maxRecDepth 100000 in
theorem free_any (W : World) (vp vw : Value) (p : PPrg) (x : PWld) (a b : PEv) (ht : Tab W) (hp : PrgV W vp p) (hx : WldV W vw x) (hs : SmW x) (hr : RgU x.used) :
  Calls Tryz.prog 22 #[vp, vw, eVal a, eVal b] W fun r w' => r = .returned (.bool (freeP p x a b)) ∧ Below W.heap.size W w' := by
 have HT := hid_mk ht
 have HP := hid_mk hp
 have HX := hid_mk hx
 have HS := hid_mk hs
 have HRU := hid_mk hr
 obtain ⟨R, hR⟩ : ∃ R, freeP p x a b = R := ⟨_, rfl⟩
 rw [hR]
 obtain ⟨la, hla⟩ : ∃ la, whoP p x a = la := ⟨_, rfl⟩
 obtain ⟨lb, hlb⟩ : ∃ lb, whoP p x b = lb := ⟨_, rfl⟩
 have hnla : la.length ≤ 1000000 := by have := who_le p x a; rw [hla] at this; omega
 have hnlb : lb.length ≤ 1000000 := by have := who_le p x b; rw [hlb] at this; omega
 obtain ⟨fa, hfa⟩ : ∃ fa, fauB a = fa := ⟨_, rfl⟩
 have HF := hid_mk hR
 unfold freeP at HF
 rw [hla, hlb, hfa] at HF
 have Hla := hid_mk hla
 have Hlb := hid_mk hlb
 have HFA := hid_mk hfa
 clear hR hla hlb hfa
 obtain ⟨κ, ⟨f, n, c⟩, who⟩ := a
 obtain ⟨κ', ⟨f', n', c'⟩, who'⟩ := b
 obtain ⟨vh, vb, vc, rfl, h1, h2, h3⟩ := hp
 obtain ⟨A1, c1, rfl, _⟩ := h1.form
 obtain ⟨A2, c2, rfl, _⟩ := h2.form
 obtain ⟨A3, c3, rfl, _⟩ := h3.form
 obtain ⟨va, vm, rfl, g1, g2⟩ := hx
 obtain ⟨B1, d1, rfl, _⟩ := g1.form
 obtain ⟨B2, d2, rfl, _⟩ := g2.form
 clear h1 h2 h3 g1 g2 ht hs hr
 have hA := new4 W (.cells #[.slice A1 p.hs.length c1, .slice A2 p.acs.length c2, .slice A3 p.bs.length c3, .int .i64 p.fuel] 26) (.cells #[.slice B1 x.acts.length d1, .slice B2 x.mail.length d2, .int .i64 x.used.drop, .int .i64 x.used.dup, .int .i64 x.used.time, .int .i64 x.used.crash] 32) (.cells #[.int .i64 κ, .int .i64 f, .int .i64 n, .int .i64 c, .int .i64 who] 36) (.cells #[.int .i64 κ', .int .i64 f', .int .i64 n', .int .i64 c', .int .i64 who'] 36)
 by_cases hab : (⟨κ, ⟨f, n, c⟩, who⟩ : PEv) = ⟨κ', ⟨f', n', c'⟩, who'⟩
 ·have he := sameE_yes hab
  have HR : Hid (R = false) := by show _ = _; rw [← HF.out, decide_eq_true hab]; rfl
  have HL := hid_mk hA.2.2.2.2
  obtain ⟨e0, e1, e2, e3, e4⟩ := blk5 hA.2.2.1
  obtain ⟨q0, q1, q2, q3, q4⟩ := blk5 hA.2.2.2.1
  clear hA hab
  go_enter Tryz.func22, Tryz.ntmps22
  go_wp2
  go_ret
  exact ⟨ret_b HR.out.symm, HL.out⟩
 have he := sameE_no hab
 have HAB := hid_mk hab
 clear hab
 have HL := hid_mk hA.2.2.2.2
 obtain ⟨e0, e1, e2, e3, e4⟩ := blk5 hA.2.2.1
 obtain ⟨q0, q1, q2, q3, q4⟩ := blk5 hA.2.2.2.1
 have HK := hid_mk hA
 clear hA
 go_enter Tryz.func22, Tryz.ntmps22
 go_wp2_with fail
 refine (fault_is ⟨κ, ⟨f, n, c⟩, who⟩ _ fa HFA.out).mono ?_
 rintro r w2 ⟨rfl, hb2⟩
 have HK0 := hid_mk (boxAt HK.out.1 hb2)
 have HK1 := hid_mk (boxAt HK.out.2.1 hb2)
 have HK2 := hid_mk (boxAt HK.out.2.2.1 hb2)
 have HK3 := hid_mk (boxAt HK.out.2.2.2.1 hb2)
 have hlow := bTrans HL.out hb2
 clear hb2 e0 e1 e2 e3 e4 q0 q1 q2 q3 q4 HK HL he
 cases fa with
 | false =>
  have HZ : Hid ((decide ((⟨κ, ⟨f, n, c⟩, who⟩ : PEv) = ⟨κ', ⟨f', n', c'⟩, who'⟩) || (false && decide (κ = κ'))) = false) := by show _ = _; rw [decide_eq_false HAB.out]; rfl
  obtain ⟨p0, p1, p2, p3⟩ := blk4 HK0.out
  obtain ⟨a0, a1, a2, a3, a4, a5⟩ := blk6 HK1.out
  obtain ⟨e0, e1, e2, e3, e4⟩ := blk5 HK2.out
  obtain ⟨g0, g1, g2, g3, g4⟩ := blk5 HK3.out
  have z0 : W.heap.size < w2.heap.size := (Array.getElem?_eq_some_iff.1 HK0.out).1
  have z1 : W.heap.size + 1 < w2.heap.size := (Array.getElem?_eq_some_iff.1 HK1.out).1
  have z2 : W.heap.size + 1 + 1 < w2.heap.size := (Array.getElem?_eq_some_iff.1 HK2.out).1
  have z3 : W.heap.size + 1 + 1 + 1 < w2.heap.size := (Array.getElem?_eq_some_iff.1 HK3.out).1
  have HWla : Hid (∀ w', Below W.heap.size W w' → Calls Tryz.prog 25 #[.agg #[.slice A1 p.hs.length c1, .slice A2 p.acs.length c2, .slice A3 p.bs.length c3, .int .i64 p.fuel], .agg #[.slice B1 x.acts.length d1, .slice B2 x.mail.length d2, .int .i64 x.used.drop, .int .i64 x.used.dup, .int .i64 x.used.time, .int .i64 x.used.crash], .agg #[.int .i64 κ, .int .i64 f, .int .i64 n, .int .i64 c, .int .i64 who]] w' fun r w'' => ∃ v, r = .returned v ∧ OwnIV w'.heap.size w'' v la ∧ Below w'.heap.size w' w'') := fun w' hl => who_is w' _ _ p x ⟨κ, ⟨f, n, c⟩, who⟩ la Hla.out (HT.out.below hl) (HP.out.below hl) (HX.out.below hl) HS.out HRU.out
  have HWlb : Hid (∀ w', Below W.heap.size W w' → Calls Tryz.prog 25 #[.agg #[.slice A1 p.hs.length c1, .slice A2 p.acs.length c2, .slice A3 p.bs.length c3, .int .i64 p.fuel], .agg #[.slice B1 x.acts.length d1, .slice B2 x.mail.length d2, .int .i64 x.used.drop, .int .i64 x.used.dup, .int .i64 x.used.time, .int .i64 x.used.crash], .agg #[.int .i64 κ', .int .i64 f', .int .i64 n', .int .i64 c', .int .i64 who']] w' fun r w'' => ∃ v, r = .returned v ∧ OwnIV w'.heap.size w'' v lb ∧ Below w'.heap.size w' w'') := fun w' hl => who_is w' _ _ p x ⟨κ', ⟨f', n', c'⟩, who'⟩ lb Hlb.out (HT.out.below hl) (HP.out.below hl) (HX.out.below hl) HS.out HRU.out
  go_wp2_with fail
  go_region_held3 (fun w' => w'.cell? ⟨W.heap.size, 0, none⟩ = some (.slice A1 p.hs.length c1) ∧ w'.cell? ⟨W.heap.size, 1, none⟩ = some (.slice A2 p.acs.length c2) ∧ w'.cell? ⟨W.heap.size, 2, none⟩ = some (.slice A3 p.bs.length c3) ∧ w'.cell? ⟨W.heap.size, 3, none⟩ = some (.int .i64 p.fuel) ∧ w'.cell? ⟨W.heap.size + 1, 0, none⟩ = some (.slice B1 x.acts.length d1) ∧ w'.cell? ⟨W.heap.size + 1, 1, none⟩ = some (.slice B2 x.mail.length d2) ∧ w'.cell? ⟨W.heap.size + 1, 2, none⟩ = some (.int .i64 x.used.drop) ∧ w'.cell? ⟨W.heap.size + 1, 3, none⟩ = some (.int .i64 x.used.dup) ∧ w'.cell? ⟨W.heap.size + 1, 4, none⟩ = some (.int .i64 x.used.time) ∧ w'.cell? ⟨W.heap.size + 1, 5, none⟩ = some (.int .i64 x.used.crash) ∧ w'.cell? ⟨W.heap.size + 1 + 1, 0, none⟩ = some (.int .i64 κ) ∧ w'.cell? ⟨W.heap.size + 1 + 1, 1, none⟩ = some (.int .i64 f) ∧ w'.cell? ⟨W.heap.size + 1 + 1, 2, none⟩ = some (.int .i64 n) ∧ w'.cell? ⟨W.heap.size + 1 + 1, 3, none⟩ = some (.int .i64 c) ∧ w'.cell? ⟨W.heap.size + 1 + 1, 4, none⟩ = some (.int .i64 who) ∧ w'.cell? ⟨W.heap.size + 1 + 1 + 1, 0, none⟩ = some (.int .i64 κ') ∧ w'.cell? ⟨W.heap.size + 1 + 1 + 1, 1, none⟩ = some (.int .i64 f') ∧ w'.cell? ⟨W.heap.size + 1 + 1 + 1, 2, none⟩ = some (.int .i64 n') ∧ w'.cell? ⟨W.heap.size + 1 + 1 + 1, 3, none⟩ = some (.int .i64 c') ∧ w'.cell? ⟨W.heap.size + 1 + 1 + 1, 4, none⟩ = some (.int .i64 who')) (go_keep)
   (first | (go_at_call 25; (with_reducible refine (HWla.out _ (by first | exact hlow | exact hlow.drew)).mono ?_); rintro r wla ⟨vla, rfl, hola, hbla⟩; obtain ⟨Ala, cla, rfl⟩ := hola.form; have HIla : Hid (Ints anyB wla (.slice Ala la.length cla) la) := (OwnIV.ints hola hnla).any; (try replace HIlb := hid_mk (Ints.below HIlb.out hbla)); replace hlow := (by first | exact bTrans hlow hbla | exact bTrans hlow.drew hbla); (first | (have hcla := bcell (W := w2) (undrew hbla)) | (have hcla := bcell hbla)); (first | (have hzla : w2.heap.size ≤ wla.heap.size := hbla.size) | (have hzla := hbla.size)); have y0la : W.heap.size < wla.heap.size := (by omega); have y1la : W.heap.size + 1 < wla.heap.size := (by omega); have y2la : W.heap.size + 1 + 1 < wla.heap.size := (by omega); have y3la : W.heap.size + 1 + 1 + 1 < wla.heap.size := (by omega); clear hzla hola hbla) | (go_at_call 25; (with_reducible refine (HWlb.out _ (by first | exact hlow | exact hlow.drew)).mono ?_); rintro r wlb ⟨vlb, rfl, holb, hblb⟩; obtain ⟨Alb, clb, rfl⟩ := holb.form; have HIlb : Hid (Ints anyB wlb (.slice Alb lb.length clb) lb) := (OwnIV.ints holb hnlb).any; (try replace HIla := hid_mk (Ints.below HIla.out hblb)); replace hlow := (by first | exact bTrans hlow hblb | exact bTrans hlow.drew hblb); (first | (have hclb := bcell (W := w2) (undrew hblb)) | (have hclb := bcell hblb)); (first | (have hzlb : w2.heap.size ≤ wlb.heap.size := hblb.size) | (have hzlb := hblb.size)); have y0lb : W.heap.size < wlb.heap.size := (by omega); have y1lb : W.heap.size + 1 < wlb.heap.size := (by omega); have y2lb : W.heap.size + 1 + 1 < wlb.heap.size := (by omega); have y3lb : W.heap.size + 1 + 1 + 1 < wlb.heap.size := (by omega); clear hzlb holb hblb))
  all_goals
   have HLOW := hid_mk hlow
   clear hlow hcla hclb y0la y1la y2la y3la y0lb y1lb y2lb y3lb p0 p1 p2 p3 a0 a1 a2 a3 a4 a5 e0 e1 e2 e3 e4 g0 g1 g2 g3 g4 z0 z1 z2 z3 HK0 HK1 HK2 HK3 HWla HWlb
   by_cases h1 : la = []
   ·have HR : Hid (R = false) := by show _ = _; rw [← HF.out, h1]; simp
    have e1 : (la.length : Int) = 0 := by rw [h1]; rfl
    go_wp2
    go_ret
    exact ⟨ret_b HR.out.symm, HLOW.out⟩
   ·have l1 : (0 : Int) < la.length := by have := List.length_pos_iff.2 h1; omega
    by_cases h2 : lb = []
    ·have HR : Hid (R = false) := by show _ = _; rw [← HF.out, h2]; simp
     have e1 : (lb.length : Int) = 0 := by rw [h2]; rfl
     go_wp2
     go_ret
     exact ⟨ret_b HR.out.symm, HLOW.out⟩
    ·have l2 : (0 : Int) < lb.length := by have := List.length_pos_iff.2 h2; omega
     have HR : Hid ((!meetB la lb) = R) := by
      show _ = _
      rw [← HF.out, HZ.out]
      cases la with
      | nil => exact absurd rfl h1
      | cons _ _ => cases lb with
       | nil => exact absurd rfl h2
       | cons _ _ => rfl
     go_wp2_with fail
     refine (meets_any anyB anyB _ _ _ la lb HIla.out HIlb.out (by have h := who_le p x ⟨κ, ⟨f, n, c⟩, who⟩; rw [Hla.out] at h; omega) (by have h := who_le p x ⟨κ', ⟨f', n', c'⟩, who'⟩; rw [Hlb.out] at h; omega)).mono ?_
     rintro r w9 ⟨rfl, hb9⟩
     have HB9 := hid_mk (bTrans HLOW.out hb9)
     clear hb9
     go_wp2
     go_ret
     exact ⟨ret_b HR.out, HB9.out⟩
 | true =>
  by_cases hk : κ = κ'
  ·have HR : Hid (R = false) := by show _ = _; rw [← HF.out, decide_eq_true hk]; simp
   have hk2 : (κ == κ') = true := beq_iff_eq.2 hk
   obtain ⟨e0, e1, e2, e3, e4⟩ := blk5 HK2.out
   obtain ⟨g0, g1, g2, g3, g4⟩ := blk5 HK3.out
   have HLOW := hid_mk hlow
   clear hlow hk
   go_wp2
   go_ret
   exact ⟨ret_b HR.out.symm, HLOW.out⟩
  ·have HZ : Hid ((decide ((⟨κ, ⟨f, n, c⟩, who⟩ : PEv) = ⟨κ', ⟨f', n', c'⟩, who'⟩) || (true && decide (κ = κ'))) = false) := by show _ = _; rw [decide_eq_false HAB.out, decide_eq_false hk]; rfl
   have hk2 : (κ == κ') = false := beq_eq_false_iff_ne.2 hk
   clear hk
   obtain ⟨p0, p1, p2, p3⟩ := blk4 HK0.out
   obtain ⟨a0, a1, a2, a3, a4, a5⟩ := blk6 HK1.out
   obtain ⟨e0, e1, e2, e3, e4⟩ := blk5 HK2.out
   obtain ⟨g0, g1, g2, g3, g4⟩ := blk5 HK3.out
   have z0 : W.heap.size < w2.heap.size := (Array.getElem?_eq_some_iff.1 HK0.out).1
   have z1 : W.heap.size + 1 < w2.heap.size := (Array.getElem?_eq_some_iff.1 HK1.out).1
   have z2 : W.heap.size + 1 + 1 < w2.heap.size := (Array.getElem?_eq_some_iff.1 HK2.out).1
   have z3 : W.heap.size + 1 + 1 + 1 < w2.heap.size := (Array.getElem?_eq_some_iff.1 HK3.out).1
   have HWla : Hid (∀ w', Below W.heap.size W w' → Calls Tryz.prog 25 #[.agg #[.slice A1 p.hs.length c1, .slice A2 p.acs.length c2, .slice A3 p.bs.length c3, .int .i64 p.fuel], .agg #[.slice B1 x.acts.length d1, .slice B2 x.mail.length d2, .int .i64 x.used.drop, .int .i64 x.used.dup, .int .i64 x.used.time, .int .i64 x.used.crash], .agg #[.int .i64 κ, .int .i64 f, .int .i64 n, .int .i64 c, .int .i64 who]] w' fun r w'' => ∃ v, r = .returned v ∧ OwnIV w'.heap.size w'' v la ∧ Below w'.heap.size w' w'') := fun w' hl => who_is w' _ _ p x ⟨κ, ⟨f, n, c⟩, who⟩ la Hla.out (HT.out.below hl) (HP.out.below hl) (HX.out.below hl) HS.out HRU.out
   have HWlb : Hid (∀ w', Below W.heap.size W w' → Calls Tryz.prog 25 #[.agg #[.slice A1 p.hs.length c1, .slice A2 p.acs.length c2, .slice A3 p.bs.length c3, .int .i64 p.fuel], .agg #[.slice B1 x.acts.length d1, .slice B2 x.mail.length d2, .int .i64 x.used.drop, .int .i64 x.used.dup, .int .i64 x.used.time, .int .i64 x.used.crash], .agg #[.int .i64 κ', .int .i64 f', .int .i64 n', .int .i64 c', .int .i64 who']] w' fun r w'' => ∃ v, r = .returned v ∧ OwnIV w'.heap.size w'' v lb ∧ Below w'.heap.size w' w'') := fun w' hl => who_is w' _ _ p x ⟨κ', ⟨f', n', c'⟩, who'⟩ lb Hlb.out (HT.out.below hl) (HP.out.below hl) (HX.out.below hl) HS.out HRU.out
   go_wp2_with fail
   go_region_held3 (fun w' => w'.cell? ⟨W.heap.size, 0, none⟩ = some (.slice A1 p.hs.length c1) ∧ w'.cell? ⟨W.heap.size, 1, none⟩ = some (.slice A2 p.acs.length c2) ∧ w'.cell? ⟨W.heap.size, 2, none⟩ = some (.slice A3 p.bs.length c3) ∧ w'.cell? ⟨W.heap.size, 3, none⟩ = some (.int .i64 p.fuel) ∧ w'.cell? ⟨W.heap.size + 1, 0, none⟩ = some (.slice B1 x.acts.length d1) ∧ w'.cell? ⟨W.heap.size + 1, 1, none⟩ = some (.slice B2 x.mail.length d2) ∧ w'.cell? ⟨W.heap.size + 1, 2, none⟩ = some (.int .i64 x.used.drop) ∧ w'.cell? ⟨W.heap.size + 1, 3, none⟩ = some (.int .i64 x.used.dup) ∧ w'.cell? ⟨W.heap.size + 1, 4, none⟩ = some (.int .i64 x.used.time) ∧ w'.cell? ⟨W.heap.size + 1, 5, none⟩ = some (.int .i64 x.used.crash) ∧ w'.cell? ⟨W.heap.size + 1 + 1, 0, none⟩ = some (.int .i64 κ) ∧ w'.cell? ⟨W.heap.size + 1 + 1, 1, none⟩ = some (.int .i64 f) ∧ w'.cell? ⟨W.heap.size + 1 + 1, 2, none⟩ = some (.int .i64 n) ∧ w'.cell? ⟨W.heap.size + 1 + 1, 3, none⟩ = some (.int .i64 c) ∧ w'.cell? ⟨W.heap.size + 1 + 1, 4, none⟩ = some (.int .i64 who) ∧ w'.cell? ⟨W.heap.size + 1 + 1 + 1, 0, none⟩ = some (.int .i64 κ') ∧ w'.cell? ⟨W.heap.size + 1 + 1 + 1, 1, none⟩ = some (.int .i64 f') ∧ w'.cell? ⟨W.heap.size + 1 + 1 + 1, 2, none⟩ = some (.int .i64 n') ∧ w'.cell? ⟨W.heap.size + 1 + 1 + 1, 3, none⟩ = some (.int .i64 c') ∧ w'.cell? ⟨W.heap.size + 1 + 1 + 1, 4, none⟩ = some (.int .i64 who')) (go_keep)
    (first | (go_at_call 25; (with_reducible refine (HWla.out _ (by first | exact hlow | exact hlow.drew)).mono ?_); rintro r wla ⟨vla, rfl, hola, hbla⟩; obtain ⟨Ala, cla, rfl⟩ := hola.form; have HIla : Hid (Ints anyB wla (.slice Ala la.length cla) la) := (OwnIV.ints hola hnla).any; (try replace HIlb := hid_mk (Ints.below HIlb.out hbla)); replace hlow := (by first | exact bTrans hlow hbla | exact bTrans hlow.drew hbla); (first | (have hcla := bcell (W := w2) (undrew hbla)) | (have hcla := bcell hbla)); (first | (have hzla : w2.heap.size ≤ wla.heap.size := hbla.size) | (have hzla := hbla.size)); have y0la : W.heap.size < wla.heap.size := (by omega); have y1la : W.heap.size + 1 < wla.heap.size := (by omega); have y2la : W.heap.size + 1 + 1 < wla.heap.size := (by omega); have y3la : W.heap.size + 1 + 1 + 1 < wla.heap.size := (by omega); clear hzla hola hbla) | (go_at_call 25; (with_reducible refine (HWlb.out _ (by first | exact hlow | exact hlow.drew)).mono ?_); rintro r wlb ⟨vlb, rfl, holb, hblb⟩; obtain ⟨Alb, clb, rfl⟩ := holb.form; have HIlb : Hid (Ints anyB wlb (.slice Alb lb.length clb) lb) := (OwnIV.ints holb hnlb).any; (try replace HIla := hid_mk (Ints.below HIla.out hblb)); replace hlow := (by first | exact bTrans hlow hblb | exact bTrans hlow.drew hblb); (first | (have hclb := bcell (W := w2) (undrew hblb)) | (have hclb := bcell hblb)); (first | (have hzlb : w2.heap.size ≤ wlb.heap.size := hblb.size) | (have hzlb := hblb.size)); have y0lb : W.heap.size < wlb.heap.size := (by omega); have y1lb : W.heap.size + 1 < wlb.heap.size := (by omega); have y2lb : W.heap.size + 1 + 1 < wlb.heap.size := (by omega); have y3lb : W.heap.size + 1 + 1 + 1 < wlb.heap.size := (by omega); clear hzlb holb hblb))
   all_goals
    have HLOW := hid_mk hlow
    clear hlow hcla hclb y0la y1la y2la y3la y0lb y1lb y2lb y3lb p0 p1 p2 p3 a0 a1 a2 a3 a4 a5 e0 e1 e2 e3 e4 g0 g1 g2 g3 g4 z0 z1 z2 z3 HK0 HK1 HK2 HK3 HWla HWlb
    by_cases h1 : la = []
    ·have HR : Hid (R = false) := by show _ = _; rw [← HF.out, h1]; simp
     have e1 : (la.length : Int) = 0 := by rw [h1]; rfl
     go_wp2
     go_ret
     exact ⟨ret_b HR.out.symm, HLOW.out⟩
    ·have l1 : (0 : Int) < la.length := by have := List.length_pos_iff.2 h1; omega
     by_cases h2 : lb = []
     ·have HR : Hid (R = false) := by show _ = _; rw [← HF.out, h2]; simp
      have e1 : (lb.length : Int) = 0 := by rw [h2]; rfl
      go_wp2
      go_ret
      exact ⟨ret_b HR.out.symm, HLOW.out⟩
     ·have l2 : (0 : Int) < lb.length := by have := List.length_pos_iff.2 h2; omega
      have HR : Hid ((!meetB la lb) = R) := by
       show _ = _
       rw [← HF.out, HZ.out]
       cases la with
       | nil => exact absurd rfl h1
       | cons _ _ => cases lb with
        | nil => exact absurd rfl h2
        | cons _ _ => rfl
      go_wp2_with fail
      refine (meets_any anyB anyB _ _ _ la lb HIla.out HIlb.out (by have h := who_le p x ⟨κ, ⟨f, n, c⟩, who⟩; rw [Hla.out] at h; omega) (by have h := who_le p x ⟨κ', ⟨f', n', c'⟩, who'⟩; rw [Hlb.out] at h; omega)).mono ?_
      rintro r w9 ⟨rfl, hb9⟩
      have HB9 := hid_mk (bTrans HLOW.out hb9)
      clear hb9
      go_wp2
      go_ret
      exact ⟨ret_b HR.out, HB9.out⟩
end Go.Proofs.YtfbeiedhdmndnaaGreatDoor
