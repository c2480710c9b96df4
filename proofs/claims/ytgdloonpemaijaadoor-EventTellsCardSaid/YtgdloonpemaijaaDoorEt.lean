/-
  EventTells: of any program, budget, world and event, what may happen is as the document says. Condition: the table of the instructions is in the world.
-/
import Derived.Test.YtgdloonpemaijaaDoorPe7
namespace Go.Proofs.YtgdloonpemaijaaDoor
open Go.RowKit
set_option maxHeartbeats 2000000 in
theorem et_big (W : World) (vp vw : Value) (p : PPrg) (b : PBud) (x : PWld) (e : PEv) (ht : Tab W) (hp : PrgV W vp p) (hx : WldV W vw x) (hs : ¬ (Small p ∧ SmallW x)) :
    Calls Tryd.prog 7 #[vp, uVal b, vw, eVal e] W fun r w' => r = .returned (.bool true) ∧ Below W.heap.size W w' := by
  have HT := hid_mk ht
  have HP := hid_mk hp
  have HX := hid_mk hx
  obtain ⟨κ, ⟨f, n, c⟩, who⟩ := e
  obtain ⟨vh, vb, vc, rfl, h1, h2, h3⟩ := hp
  obtain ⟨A1, c1, rfl, _⟩ := h1.form
  obtain ⟨A2, c2, rfl, _⟩ := h2.form
  obtain ⟨A3, c3, rfl, _⟩ := h3.form
  obtain ⟨va, vm, rfl, g1, g2⟩ := hx
  obtain ⟨B1, d1, rfl, _⟩ := g1.form
  obtain ⟨B2, d2, rfl, _⟩ := g2.form
  clear h1 h2 h3 g1 g2 ht
  have HBA : Hid (∀ X Y Z U, Below W.heap.size W ((((W.alloc X).alloc Y).alloc Z).alloc U)) := fun _ _ _ _ => bAlloc (bAlloc (bAlloc (bAlloc (bRefl _) _) _) _) _
  have HFN : Hid (∀ X Y Z U : Obj, ((((W.alloc X).alloc Y).alloc Z).alloc U).heap[W.heap.size + 1 + 1]? = some Z) := fun X Y Z U => (four_new W X Y Z U).2.2.1
  by_cases hsm : Small p
  · have hsx : ¬ SmallW x := fun h => hs ⟨hsm, h⟩
    have h1 : small p = true := decide_eq_true hsm
    have h2 : decide (SmallW x) = false := decide_eq_false hsx
    have H1 := hid_mk h1
    have H2 := hid_mk h2
    clear hs hsm hsx h1 h2
    go_enter Tryd.func7, Tryd.ntmps7
    go_wp2_with fail
    refine (small_any _ _ p (HP.out.below (HBA.out _ _ _ _))).mono ?_
    rw [H1.out]
    rintro r w2 ⟨rfl, hb2⟩
    obtain ⟨x0, x1, x2, x3, x4, x5⟩ := blk6 (boxAt (HFN.out _ _ _ _) hb2)
    have HB2 := hid_mk (bTrans (HBA.out _ _ _ _) hb2)
    clear hb2
    go_wp2_with fail
    refine (aWorld_any _ _ x (HX.out.below HB2.out)).mono ?_
    rw [H2.out]
    rintro r w3 ⟨rfl, hb3⟩
    have HB3 := hid_mk (bTrans HB2.out hb3)
    clear hb3
    go_wp2_with fail
    refine (ewake_any _ (HT.out.below HB3.out)).mono ?_
    rintro r w4 ⟨rfl, hb4⟩
    go_wp2
    go_ret
    exact ⟨rfl, bTrans HB3.out hb4⟩
  · have h1 : small p = false := decide_eq_false hsm
    have H1 := hid_mk h1
    clear hs hsm h1
    go_enter Tryd.func7, Tryd.ntmps7
    go_wp2_with fail
    refine (small_any _ _ p (HP.out.below (HBA.out _ _ _ _))).mono ?_
    rw [H1.out]
    rintro r w2 ⟨rfl, hb2⟩
    have HB2 := hid_mk (bTrans (HBA.out _ _ _ _) hb2)
    clear hb2
    go_wp2_with fail
    refine (ewake_any _ (HT.out.below HB2.out)).mono ?_
    rintro r w4 ⟨rfl, hb4⟩
    go_wp2
    go_ret
    exact ⟨rfl, bTrans HB2.out hb4⟩
theorem Evs.any {ok : Nat → Prop} {w : World} {v : Value} {l : List PEv} (h : Evs ok w v l) : Evs anyB w v l := Sl.any h
section
attribute [local go_sem ↓] eq8
set_option maxHeartbeats 16000000 in
set_option maxRecDepth 100000 in
theorem et_yes (W : World) (vp vw : Value) (p : PPrg) (b : PBud) (x : PWld) (e : PEv) (ht : Tab W) (hp : PrgV W vp p) (hx : WldV W vw x) (hsm : Small p) (hsx : SmallW x) (hL : (enabP p b x).length ≤ 1000000) :
    Calls Tryd.prog 7 #[vp, uVal b, vw, eVal e] W fun r w' => r = .returned (.bool true) ∧ Below W.heap.size W w' := by
  have HT := hid_mk ht
  have HP := hid_mk hp
  have HX := hid_mk hx
  have HM : Hid (x.mail.length ≤ 1000) := by have := hsx.2.1.1; show _ ≤ _; omega
  have HA : Hid (x.acts.length ≤ 1000) := by have := hsx.1; show _ ≤ _; omega
  have HEL := hid_mk hL
  obtain ⟨κ, ⟨f, n, c⟩, who⟩ := e
  obtain ⟨vh, vb, vc, rfl, h1, h2, h3⟩ := hp
  obtain ⟨A1, c1, rfl, _⟩ := h1.form
  obtain ⟨A2, c2, rfl, _⟩ := h2.form
  obtain ⟨A3, c3, rfl, _⟩ := h3.form
  obtain ⟨va, vm, rfl, g1, g2⟩ := hx
  obtain ⟨B1, d1, rfl, _⟩ := g1.form
  obtain ⟨B2, d2, rfl, _⟩ := g2.form
  have H1 : Hid (small p = true) := decide_eq_true hsm
  have H2 : Hid (decide (SmallW x) = true) := decide_eq_true hsx
  clear h1 h2 h3 g1 g2 ht hsm hsx hL
  have HBA : Hid (∀ X Y Z U, Below W.heap.size W ((((W.alloc X).alloc Y).alloc Z).alloc U)) := fun _ _ _ _ => bAlloc (bAlloc (bAlloc (bAlloc (bRefl _) _) _) _) _
  have HFN : Hid (∀ X Y Z U : Obj, ((((W.alloc X).alloc Y).alloc Z).alloc U).heap[W.heap.size]? = some X ∧ ((((W.alloc X).alloc Y).alloc Z).alloc U).heap[W.heap.size + 1]? = some Y ∧ ((((W.alloc X).alloc Y).alloc Z).alloc U).heap[W.heap.size + 1 + 1]? = some Z ∧ ((((W.alloc X).alloc Y).alloc Z).alloc U).heap[W.heap.size + 1 + 1 + 1]? = some U ∧ ((((W.alloc X).alloc Y).alloc Z).alloc U).heap.size = W.heap.size + 4) := fun X Y Z U => four_new W X Y Z U
  go_enter Tryd.func7, Tryd.ntmps7
  go_wp2_with fail
  refine (small_any _ _ p (HP.out.below (HBA.out _ _ _ _))).mono ?_
  rw [H1.out]
  rintro r w2 ⟨rfl, hb2⟩
  have K0 := hid_mk (boxAt (HFN.out _ _ _ _).1 hb2)
  have K1 := hid_mk (boxAt (HFN.out _ _ _ _).2.1 hb2)
  have K2 := hid_mk (boxAt (HFN.out _ _ _ _).2.2.1 hb2)
  have K3 := hid_mk (boxAt (HFN.out _ _ _ _).2.2.2.1 hb2)
  obtain ⟨x0, x1, x2, x3, x4, x5⟩ := blk6 K2.out
  have HB2 := hid_mk (bTrans (HBA.out _ _ _ _) hb2)
  clear hb2
  go_wp2_with fail
  refine (aWorld_any _ _ x (HX.out.below HB2.out)).mono ?_
  rw [H2.out]
  rintro r w3 ⟨rfl, hb3⟩
  have K0 := hid_mk (boxAt K0.out hb3)
  have K1 := hid_mk (boxAt K1.out hb3)
  have K2 := hid_mk (boxAt K2.out hb3)
  have K3 := hid_mk (boxAt K3.out hb3)
  have HB3 := hid_mk (bTrans HB2.out hb3)
  clear hb3 x0 x1 x2 x3 x4 x5
  have HT3 := hid_mk (HT.out.below HB3.out)
  have HP3 := hid_mk (HP.out.below HB3.out)
  have HX3 := hid_mk (HX.out.below HB3.out)
  obtain ⟨p0, p1, p2, p3⟩ := blk4 K0.out
  obtain ⟨b0, b1, b2, b3⟩ := blk4 K1.out
  obtain ⟨x0, x1, x2, x3, x4, x5⟩ := blk6 K2.out
  obtain ⟨e0', e1', e2', e3', e4'⟩ := blk5 K3.out
  have hbb : Below w3.heap.size w3 w3 := bRefl _
  have hqb : ∀ z : PBud, eqB (⟨z.drop, z.dup, z.time, z.crash⟩ : PBud) ⟨z.drop, z.dup, z.time, z.crash⟩ = true := fun z => eqB_self _
  have hdl : decide (enabP p b x = enabP p b x) = true := decide_eq_true rfl
  go_wp2_with fail
  go_region_held3 (fun w' => w'.cell? ⟨W.heap.size, 0, none⟩ = some (.slice A1 p.hs.length c1) ∧ w'.cell? ⟨W.heap.size, 1, none⟩ = some (.slice A2 p.acs.length c2) ∧ w'.cell? ⟨W.heap.size, 2, none⟩ = some (.slice A3 p.bs.length c3) ∧ w'.cell? ⟨W.heap.size, 3, none⟩ = some (.int .i64 p.fuel) ∧ w'.cell? ⟨W.heap.size + 1, 0, none⟩ = some (.int .i64 b.drop) ∧ w'.cell? ⟨W.heap.size + 1, 1, none⟩ = some (.int .i64 b.dup) ∧ w'.cell? ⟨W.heap.size + 1, 2, none⟩ = some (.int .i64 b.time) ∧ w'.cell? ⟨W.heap.size + 1, 3, none⟩ = some (.int .i64 b.crash) ∧ w'.cell? ⟨W.heap.size + 1 + 1, 0, none⟩ = some (.slice B1 x.acts.length d1) ∧ w'.cell? ⟨W.heap.size + 1 + 1, 1, none⟩ = some (.slice B2 x.mail.length d2) ∧ w'.cell? ⟨W.heap.size + 1 + 1, 2, none⟩ = some (.int .i64 x.used.drop) ∧ w'.cell? ⟨W.heap.size + 1 + 1, 3, none⟩ = some (.int .i64 x.used.dup) ∧ w'.cell? ⟨W.heap.size + 1 + 1, 4, none⟩ = some (.int .i64 x.used.time) ∧ w'.cell? ⟨W.heap.size + 1 + 1, 5, none⟩ = some (.int .i64 x.used.crash) ∧ w'.cell? ⟨W.heap.size + 1 + 1 + 1, 0, none⟩ = some (.int .i64 κ) ∧ w'.cell? ⟨W.heap.size + 1 + 1 + 1, 1, none⟩ = some (.int .i64 f) ∧ w'.cell? ⟨W.heap.size + 1 + 1 + 1, 2, none⟩ = some (.int .i64 n) ∧ w'.cell? ⟨W.heap.size + 1 + 1 + 1, 3, none⟩ = some (.int .i64 c) ∧ w'.cell? ⟨W.heap.size + 1 + 1 + 1, 4, none⟩ = some (.int .i64 who)) (go_keep)
    (first
      | (go_at_call 30; refine (is_any _ _ _ p b x ⟨κ, ⟨f, n, c⟩, who⟩ (HT3.out.below (by first | exact hbb | exact hbb.drew)) (HP3.out.below (by first | exact hbb | exact hbb.drew)) (HX3.out.below (by first | exact hbb | exact hbb.drew))).mono ?_; rintro r w' ⟨rfl, hb'⟩; replace hbb := bTrans (by first | exact hbb | exact hbb.drew) hb'; clear hb'; clear p0 p1 p2 p3 b0 b1 b2 b3 x0 x1 x2 x3 x4 x5 e0' e1' e2' e3' e4'; obtain ⟨p0, p1, p2, p3⟩ := blk4 (boxAt K0.out hbb); obtain ⟨b0, b1, b2, b3⟩ := blk4 (boxAt K1.out hbb); obtain ⟨x0, x1, x2, x3, x4, x5⟩ := blk6 (boxAt K2.out hbb); obtain ⟨e0', e1', e2', e3', e4'⟩ := blk5 (boxAt K3.out hbb))
      | (go_at_call 31; refine (rIs_any _ _ _ p b x ⟨κ, ⟨f, n, c⟩, who⟩ (HP3.out.below (by first | exact hbb | exact hbb.drew)) (HX3.out.below (by first | exact hbb | exact hbb.drew))).mono ?_; rintro r w' ⟨rfl, hb'⟩; replace hbb := bTrans (by first | exact hbb | exact hbb.drew) hb'; clear hb'; clear p0 p1 p2 p3 b0 b1 b2 b3 x0 x1 x2 x3 x4 x5 e0' e1' e2' e3' e4'; obtain ⟨p0, p1, p2, p3⟩ := blk4 (boxAt K0.out hbb); obtain ⟨b0, b1, b2, b3⟩ := blk4 (boxAt K1.out hbb); obtain ⟨x0, x1, x2, x3, x4, x5⟩ := blk6 (boxAt K2.out hbb); obtain ⟨e0', e1', e2', e3', e4'⟩ := blk5 (boxAt K3.out hbb))
      | (go_at_call 33; refine (enab_any _ _ _ p b x (HT3.out.below (by first | exact hbb | exact hbb.drew)) (HP3.out.below (by first | exact hbb | exact hbb.drew)) (HX3.out.below (by first | exact hbb | exact hbb.drew)) HM.out HA.out).mono ?_; rintro r w' ⟨v', rfl, hen'⟩; obtain ⟨AE, cE, rfl⟩ := hen'.form; have HEA := hid_mk (Evs.any (hen'.evs HEL.out)); have hb' := hen'.low; have HBA' := hid_mk (show Below _ _ _ from hb'); clear hen'; replace hbb := bTrans (by first | exact hbb | exact hbb.drew) hb'; clear hb'; clear p0 p1 p2 p3 b0 b1 b2 b3 x0 x1 x2 x3 x4 x5 e0' e1' e2' e3' e4'; obtain ⟨p0, p1, p2, p3⟩ := blk4 (boxAt K0.out hbb); obtain ⟨b0, b1, b2, b3⟩ := blk4 (boxAt K1.out hbb); obtain ⟨x0, x1, x2, x3, x4, x5⟩ := blk6 (boxAt K2.out hbb); obtain ⟨e0', e1', e2', e3', e4'⟩ := blk5 (boxAt K3.out hbb))
      | (go_at_call 34; refine (rEnabled_any _ _ _ p b x (HP3.out.below (by first | exact hbb | exact hbb.drew)) (HX3.out.below (by first | exact hbb | exact hbb.drew)) HM.out HA.out).mono ?_; rintro r w' ⟨v', rfl, hen'⟩; obtain ⟨AF, cF, rfl⟩ := hen'.form; have HEB := hid_mk (Evs.any (hen'.evs HEL.out)); have hb' := hen'.low; have HBB' := hid_mk (show Below _ _ _ from hb'); clear hen'; replace hbb := bTrans (by first | exact hbb | exact hbb.drew) hb'; clear hb'; clear p0 p1 p2 p3 b0 b1 b2 b3 x0 x1 x2 x3 x4 x5 e0' e1' e2' e3' e4'; obtain ⟨p0, p1, p2, p3⟩ := blk4 (boxAt K0.out hbb); obtain ⟨b0, b1, b2, b3⟩ := blk4 (boxAt K1.out hbb); obtain ⟨x0, x1, x2, x3, x4, x5⟩ := blk6 (boxAt K2.out hbb); obtain ⟨e0', e1', e2', e3', e4'⟩ := blk5 (boxAt K3.out hbb))
      | (go_at_call 32; refine (lsame_any _ _ _ (enabP p b x) (enabP p b x) (by first | exact HEA.out | exact HEA.out.below HBB'.out | exact HEA.out.below (undrew HBB'.out)) (by first | exact HEB.out | exact HEB.out.below HBA'.out | exact HEB.out.below (undrew HBA'.out))).mono ?_; rintro r w' ⟨rfl, n', h'⟩; have hb' : Below _ _ w' := (by rw [h']; exact bDrewN (bRefl _) n'); clear h'; replace hbb := bTrans (by first | exact hbb | exact hbb.drew) hb'; clear hb'; clear p0 p1 p2 p3 b0 b1 b2 b3 x0 x1 x2 x3 x4 x5 e0' e1' e2' e3' e4'; obtain ⟨p0, p1, p2, p3⟩ := blk4 (boxAt K0.out hbb); obtain ⟨b0, b1, b2, b3⟩ := blk4 (boxAt K1.out hbb); obtain ⟨x0, x1, x2, x3, x4, x5⟩ := blk6 (boxAt K2.out hbb); obtain ⟨e0', e1', e2', e3', e4'⟩ := blk5 (boxAt K3.out hbb))
      | (go_at_call 35; refine (left_any _ b x.used _ _ _ _ _ _).mono ?_; rintro r w' ⟨rfl, hb'⟩; replace hbb := bTrans (by first | exact hbb | exact hbb.drew) hb'; clear hb'; clear p0 p1 p2 p3 b0 b1 b2 b3 x0 x1 x2 x3 x4 x5 e0' e1' e2' e3' e4'; obtain ⟨p0, p1, p2, p3⟩ := blk4 (boxAt K0.out hbb); obtain ⟨b0, b1, b2, b3⟩ := blk4 (boxAt K1.out hbb); obtain ⟨x0, x1, x2, x3, x4, x5⟩ := blk6 (boxAt K2.out hbb); obtain ⟨e0', e1', e2', e3', e4'⟩ := blk5 (boxAt K3.out hbb))
      | (go_at_call 36; refine (rLeft_any _ b x.used _ _ _ _ _ _).mono ?_; rintro r w' ⟨rfl, hb'⟩; replace hbb := bTrans (by first | exact hbb | exact hbb.drew) hb'; clear hb'; clear p0 p1 p2 p3 b0 b1 b2 b3 x0 x1 x2 x3 x4 x5 e0' e1' e2' e3' e4'; obtain ⟨p0, p1, p2, p3⟩ := blk4 (boxAt K0.out hbb); obtain ⟨b0, b1, b2, b3⟩ := blk4 (boxAt K1.out hbb); obtain ⟨x0, x1, x2, x3, x4, x5⟩ := blk6 (boxAt K2.out hbb); obtain ⟨e0', e1', e2', e3', e4'⟩ := blk5 (boxAt K3.out hbb))
      | (go_at_call 37; refine (may_any _ b).mono ?_; rintro r w' ⟨rfl, hb'⟩; replace hbb := bTrans (by first | exact hbb | exact hbb.drew) hb'; clear hb'; clear p0 p1 p2 p3 b0 b1 b2 b3 x0 x1 x2 x3 x4 x5 e0' e1' e2' e3' e4'; obtain ⟨p0, p1, p2, p3⟩ := blk4 (boxAt K0.out hbb); obtain ⟨b0, b1, b2, b3⟩ := blk4 (boxAt K1.out hbb); obtain ⟨x0, x1, x2, x3, x4, x5⟩ := blk6 (boxAt K2.out hbb); obtain ⟨e0', e1', e2', e3', e4'⟩ := blk5 (boxAt K3.out hbb))
      | (go_at_call 38; refine (rMay_any _ b).mono ?_; rintro r w' ⟨rfl, hb'⟩; replace hbb := bTrans (by first | exact hbb | exact hbb.drew) hb'; clear hb'; clear p0 p1 p2 p3 b0 b1 b2 b3 x0 x1 x2 x3 x4 x5 e0' e1' e2' e3' e4'; obtain ⟨p0, p1, p2, p3⟩ := blk4 (boxAt K0.out hbb); obtain ⟨b0, b1, b2, b3⟩ := blk4 (boxAt K1.out hbb); obtain ⟨x0, x1, x2, x3, x4, x5⟩ := blk6 (boxAt K2.out hbb); obtain ⟨e0', e1', e2', e3', e4'⟩ := blk5 (boxAt K3.out hbb))
      | (go_at_call 29; refine (ewake_any _ (HT3.out.below (by first | exact hbb | exact hbb.drew))).mono ?_; rintro r w' ⟨rfl, hb'⟩; replace hbb := bTrans (by first | exact hbb | exact hbb.drew) hb'; clear hb'; clear p0 p1 p2 p3 b0 b1 b2 b3 x0 x1 x2 x3 x4 x5 e0' e1' e2' e3' e4'; obtain ⟨p0, p1, p2, p3⟩ := blk4 (boxAt K0.out hbb); obtain ⟨b0, b1, b2, b3⟩ := blk4 (boxAt K1.out hbb); obtain ⟨x0, x1, x2, x3, x4, x5⟩ := blk6 (boxAt K2.out hbb); obtain ⟨e0', e1', e2', e3', e4'⟩ := blk5 (boxAt K3.out hbb)))
  all_goals
    go_wp2_with fail
    go_ret
    exact ⟨ret_b (by simp), bTrans HB3.out hbb⟩
end
theorem en_len (p : PPrg) (b : PBud) (x : PWld) (hm : x.mail.length ≤ 1000) (ha : x.acts.length ≤ 1000) : (enabP p b x).length ≤ 1000000 := by
  unfold enabP
  split
  · have := enQ_len (leftB b x.used) x 2; omega
  · simp
theorem etells_any (W : World) (vp vw : Value) (p : PPrg) (b : PBud) (x : PWld) (e : PEv) (ht : Tab W) (hp : PrgV W vp p) (hx : WldV W vw x) :
    Calls Tryd.prog 7 #[vp, uVal b, vw, eVal e] W fun r w' => r = .returned (.bool true) ∧ Below W.heap.size W w' := by
  by_cases h : Small p ∧ SmallW x
  · exact et_yes W vp vw p b x e ht hp hx h.1 h.2 (en_len p b x (by have := h.2.2.1.1; omega) (by have := h.2.1; omega))
  · exact et_big W vp vw p b x e ht hp hx h
end Go.Proofs.YtgdloonpemaijaaDoor
