/-
  The reference's CheckWorld of chapter 9, where it ends early. No conditions.
-/
import Derived.Test.YtgdloonpemaijaaDoorRTl
import Derived.Test.YtgdloonpemaijaaDoorW5
import Derived.Test.YtgdloonpemaijaaDoorE5
namespace Go.Proofs.YtgdloonpemaijaaDoor
open Go.RowKit
theorem chkW_f {p : PPrg} {x : PWld} (h : fc p ≠ 0) : false = chkW p x := by unfold chkW; rw [decide_eq_false h]; rfl
theorem chkW_l {p : PPrg} {x : PWld} (h : x.acts.length ≠ p.acs.length) : false = chkW p x := by unfold chkW; rw [← chkAs_len h]; simp
theorem chkW_s {p : PPrg} {x : PWld} (h : srt x.mail = false) : false = chkW p x := by unfold chkW chkM; rw [h]; simp
set_option maxHeartbeats 16000000 in
set_option maxRecDepth 100000 in
theorem rcw_f (w : World) (vp vw : Value) (p : PPrg) (x : PWld) (hp : PrgV w vp p) (hx : WldV w vw x) (hf : fc p ≠ 0) :
    Calls Tryd.prog 75 #[vp, vw] w fun e w' => e = .returned (.bool (chkW p x)) ∧ Below w.heap.size w w' := by
  have HP := hid_mk hp
  have HX := hid_mk hx
  obtain ⟨vh, vb, vc, rfl, h1, h2, h3⟩ := hp
  obtain ⟨A1, c1, rfl, _⟩ := h1.form
  obtain ⟨A2, c2, rfl, _⟩ := h2.form
  obtain ⟨A3, c3, rfl, _⟩ := h3.form
  obtain ⟨va, vm, rfl, g1, g2⟩ := hx
  obtain ⟨B1, d1, rfl, _⟩ := g1.form
  obtain ⟨B2, d2, rfl, _⟩ := g2.form
  have HG1 := hid_mk g1
  have HG2 := hid_mk g2
  have HH2 := hid_mk h2
  have HR := hid_mk (chkW_f (x := x) hf)
  have hfn : (fc p != 0) = true := ne_yes hf
  clear hf
  clear h1 h2 h3 g1 g2
  go_enter Tryd.func75, Tryd.ntmps75
  go_wp2_with fail
  have k0 : ((w.alloc (.cells #[.slice A1 p.hs.length c1, .slice A2 p.acs.length c2, .slice A3 p.bs.length c3, .int .i64 p.fuel] 26)).alloc (.cells #[.slice B1 x.acts.length d1, .slice B2 x.mail.length d2, .int .i64 x.used.drop, .int .i64 x.used.dup, .int .i64 x.used.time, .int .i64 x.used.crash] 44)).heap[w.heap.size]? = some (.cells #[.slice A1 p.hs.length c1, .slice A2 p.acs.length c2, .slice A3 p.bs.length c3, .int .i64 p.fuel] 26) := boxAt (heap_new w (.cells #[.slice A1 p.hs.length c1, .slice A2 p.acs.length c2, .slice A3 p.bs.length c3, .int .i64 p.fuel] 26)) (bAlloc (bRefl _) _)
  have k1 : ((w.alloc (.cells #[.slice A1 p.hs.length c1, .slice A2 p.acs.length c2, .slice A3 p.bs.length c3, .int .i64 p.fuel] 26)).alloc (.cells #[.slice B1 x.acts.length d1, .slice B2 x.mail.length d2, .int .i64 x.used.drop, .int .i64 x.used.dup, .int .i64 x.used.time, .int .i64 x.used.crash] 44)).heap[w.heap.size + 1]? = some (.cells #[.slice B1 x.acts.length d1, .slice B2 x.mail.length d2, .int .i64 x.used.drop, .int .i64 x.used.dup, .int .i64 x.used.time, .int .i64 x.used.crash] 44) := heap_new2 (by simp)
  have HL : Hid (Below w.heap.size w ((w.alloc (.cells #[.slice A1 p.hs.length c1, .slice A2 p.acs.length c2, .slice A3 p.bs.length c3, .int .i64 p.fuel] 26)).alloc (.cells #[.slice B1 x.acts.length d1, .slice B2 x.mail.length d2, .int .i64 x.used.drop, .int .i64 x.used.dup, .int .i64 x.used.time, .int .i64 x.used.crash] 44))) := bAlloc (bAlloc (bRefl _) _) _
  generalize ((w.alloc (.cells #[.slice A1 p.hs.length c1, .slice A2 p.acs.length c2, .slice A3 p.bs.length c3, .int .i64 p.fuel] 26)).alloc (.cells #[.slice B1 x.acts.length d1, .slice B2 x.mail.length d2, .int .i64 x.used.drop, .int .i64 x.used.dup, .int .i64 x.used.time, .int .i64 x.used.crash] 44)) = w1 at k0 k1 HL ⊢
  refine (rflow_any _ _ p (HP.out.below HL.out)).mono ?_
  rintro e w2 ⟨rfl, hb2⟩
  replace k0 := boxAt k0 hb2
  replace k1 := boxAt k1 hb2
  have HL2 := hid_mk (bTrans HL.out hb2)
  clear hb2 HL
  obtain ⟨p0, p1, p2, p3⟩ := blk4 k0
  obtain ⟨x0, x1, x2, x3, x4, x5⟩ := blk6 k1
  go_wp2
  go_ret
  exact ⟨ret_b HR.out, HL2.out⟩
set_option maxHeartbeats 16000000 in
set_option maxRecDepth 100000 in
theorem rcw_l (w : World) (vp vw : Value) (p : PPrg) (x : PWld) (hp : PrgV w vp p) (hx : WldV w vw x) (hf : fc p = 0) (hl : x.acts.length ≠ p.acs.length) :
    Calls Tryd.prog 75 #[vp, vw] w fun e w' => e = .returned (.bool (chkW p x)) ∧ Below w.heap.size w w' := by
  have HP := hid_mk hp
  have HX := hid_mk hx
  obtain ⟨vh, vb, vc, rfl, h1, h2, h3⟩ := hp
  obtain ⟨A1, c1, rfl, _⟩ := h1.form
  obtain ⟨A2, c2, rfl, _⟩ := h2.form
  obtain ⟨A3, c3, rfl, _⟩ := h3.form
  obtain ⟨va, vm, rfl, g1, g2⟩ := hx
  obtain ⟨B1, d1, rfl, _⟩ := g1.form
  obtain ⟨B2, d2, rfl, _⟩ := g2.form
  have HG1 := hid_mk g1
  have HG2 := hid_mk g2
  have HH2 := hid_mk h2
  have HR := hid_mk (chkW_l (p := p) (x := x) hl)
  have hl' : ((x.acts.length : Int) != (p.acs.length : Int)) = true := lt_ne hl
  clear hl
  clear h1 h2 h3 g1 g2
  go_enter Tryd.func75, Tryd.ntmps75
  go_wp2_with fail
  have k0 : ((w.alloc (.cells #[.slice A1 p.hs.length c1, .slice A2 p.acs.length c2, .slice A3 p.bs.length c3, .int .i64 p.fuel] 26)).alloc (.cells #[.slice B1 x.acts.length d1, .slice B2 x.mail.length d2, .int .i64 x.used.drop, .int .i64 x.used.dup, .int .i64 x.used.time, .int .i64 x.used.crash] 44)).heap[w.heap.size]? = some (.cells #[.slice A1 p.hs.length c1, .slice A2 p.acs.length c2, .slice A3 p.bs.length c3, .int .i64 p.fuel] 26) := boxAt (heap_new w (.cells #[.slice A1 p.hs.length c1, .slice A2 p.acs.length c2, .slice A3 p.bs.length c3, .int .i64 p.fuel] 26)) (bAlloc (bRefl _) _)
  have k1 : ((w.alloc (.cells #[.slice A1 p.hs.length c1, .slice A2 p.acs.length c2, .slice A3 p.bs.length c3, .int .i64 p.fuel] 26)).alloc (.cells #[.slice B1 x.acts.length d1, .slice B2 x.mail.length d2, .int .i64 x.used.drop, .int .i64 x.used.dup, .int .i64 x.used.time, .int .i64 x.used.crash] 44)).heap[w.heap.size + 1]? = some (.cells #[.slice B1 x.acts.length d1, .slice B2 x.mail.length d2, .int .i64 x.used.drop, .int .i64 x.used.dup, .int .i64 x.used.time, .int .i64 x.used.crash] 44) := heap_new2 (by simp)
  have HL : Hid (Below w.heap.size w ((w.alloc (.cells #[.slice A1 p.hs.length c1, .slice A2 p.acs.length c2, .slice A3 p.bs.length c3, .int .i64 p.fuel] 26)).alloc (.cells #[.slice B1 x.acts.length d1, .slice B2 x.mail.length d2, .int .i64 x.used.drop, .int .i64 x.used.dup, .int .i64 x.used.time, .int .i64 x.used.crash] 44))) := bAlloc (bAlloc (bRefl _) _) _
  generalize ((w.alloc (.cells #[.slice A1 p.hs.length c1, .slice A2 p.acs.length c2, .slice A3 p.bs.length c3, .int .i64 p.fuel] 26)).alloc (.cells #[.slice B1 x.acts.length d1, .slice B2 x.mail.length d2, .int .i64 x.used.drop, .int .i64 x.used.dup, .int .i64 x.used.time, .int .i64 x.used.crash] 44)) = w1 at k0 k1 HL ⊢
  refine (rflow_any _ _ p (HP.out.below HL.out)).mono ?_
  rintro e w2 ⟨rfl, hb2⟩
  replace k0 := boxAt k0 hb2
  replace k1 := boxAt k1 hb2
  have HL2 := hid_mk (bTrans HL.out hb2)
  clear hb2 HL
  obtain ⟨p0, p1, p2, p3⟩ := blk4 k0
  obtain ⟨x0, x1, x2, x3, x4, x5⟩ := blk6 k1
  go_wp2
  go_ret
  exact ⟨ret_b HR.out, HL2.out⟩
set_option maxHeartbeats 16000000 in
set_option maxRecDepth 100000 in
theorem rcw_s (w : World) (vp vw : Value) (p : PPrg) (x : PWld) (hp : PrgV w vp p) (hx : WldV w vw x) (hf : fc p = 0) (hl : x.acts.length = p.acs.length) (hs : srt x.mail = false) :
    Calls Tryd.prog 75 #[vp, vw] w fun e w' => e = .returned (.bool (chkW p x)) ∧ Below w.heap.size w w' := by
  have HP := hid_mk hp
  have HX := hid_mk hx
  obtain ⟨vh, vb, vc, rfl, h1, h2, h3⟩ := hp
  obtain ⟨A1, c1, rfl, _⟩ := h1.form
  obtain ⟨A2, c2, rfl, _⟩ := h2.form
  obtain ⟨A3, c3, rfl, _⟩ := h3.form
  obtain ⟨va, vm, rfl, g1, g2⟩ := hx
  obtain ⟨B1, d1, rfl, _⟩ := g1.form
  obtain ⟨B2, d2, rfl, _⟩ := g2.form
  have HG1 := hid_mk g1
  have HG2 := hid_mk g2
  have HH2 := hid_mk h2
  have HR := hid_mk (chkW_s (p := p) hs)
  have hl' : ((x.acts.length : Int) != (p.acs.length : Int)) = false := lt_eq hl
  have HLEN := hid_mk hl
  clear hl
  clear h1 h2 h3 g1 g2
  go_enter Tryd.func75, Tryd.ntmps75
  go_wp2_with fail
  have k0 : ((w.alloc (.cells #[.slice A1 p.hs.length c1, .slice A2 p.acs.length c2, .slice A3 p.bs.length c3, .int .i64 p.fuel] 26)).alloc (.cells #[.slice B1 x.acts.length d1, .slice B2 x.mail.length d2, .int .i64 x.used.drop, .int .i64 x.used.dup, .int .i64 x.used.time, .int .i64 x.used.crash] 44)).heap[w.heap.size]? = some (.cells #[.slice A1 p.hs.length c1, .slice A2 p.acs.length c2, .slice A3 p.bs.length c3, .int .i64 p.fuel] 26) := boxAt (heap_new w (.cells #[.slice A1 p.hs.length c1, .slice A2 p.acs.length c2, .slice A3 p.bs.length c3, .int .i64 p.fuel] 26)) (bAlloc (bRefl _) _)
  have k1 : ((w.alloc (.cells #[.slice A1 p.hs.length c1, .slice A2 p.acs.length c2, .slice A3 p.bs.length c3, .int .i64 p.fuel] 26)).alloc (.cells #[.slice B1 x.acts.length d1, .slice B2 x.mail.length d2, .int .i64 x.used.drop, .int .i64 x.used.dup, .int .i64 x.used.time, .int .i64 x.used.crash] 44)).heap[w.heap.size + 1]? = some (.cells #[.slice B1 x.acts.length d1, .slice B2 x.mail.length d2, .int .i64 x.used.drop, .int .i64 x.used.dup, .int .i64 x.used.time, .int .i64 x.used.crash] 44) := heap_new2 (by simp)
  have HL : Hid (Below w.heap.size w ((w.alloc (.cells #[.slice A1 p.hs.length c1, .slice A2 p.acs.length c2, .slice A3 p.bs.length c3, .int .i64 p.fuel] 26)).alloc (.cells #[.slice B1 x.acts.length d1, .slice B2 x.mail.length d2, .int .i64 x.used.drop, .int .i64 x.used.dup, .int .i64 x.used.time, .int .i64 x.used.crash] 44))) := bAlloc (bAlloc (bRefl _) _) _
  generalize ((w.alloc (.cells #[.slice A1 p.hs.length c1, .slice A2 p.acs.length c2, .slice A3 p.bs.length c3, .int .i64 p.fuel] 26)).alloc (.cells #[.slice B1 x.acts.length d1, .slice B2 x.mail.length d2, .int .i64 x.used.drop, .int .i64 x.used.dup, .int .i64 x.used.time, .int .i64 x.used.crash] 44)) = w1 at k0 k1 HL ⊢
  refine (rflow_any _ _ p (HP.out.below HL.out)).mono ?_
  rintro e w2 ⟨rfl, hb2⟩
  replace k0 := boxAt k0 hb2
  replace k1 := boxAt k1 hb2
  have HL2 := hid_mk (bTrans HL.out hb2)
  clear hb2 HL
  obtain ⟨p0, p1, p2, p3⟩ := blk4 k0
  obtain ⟨x0, x1, x2, x3, x4, x5⟩ := blk6 k1
  go_wp2_with fail
  refine (rsorted_any _ _ x.mail (HG2.out.below HL2.out)).mono ?_
  rintro e w3 ⟨rfl, hb3⟩
  replace k0 := boxAt k0 hb3
  replace k1 := boxAt k1 hb3
  have HL3 := hid_mk (bTrans HL2.out hb3)
  clear hb3 HL2 p0 p1 p2 p3 x0 x1 x2 x3 x4 x5
  go_wp2
  go_ret
  exact ⟨ret_b HR.out, HL3.out⟩
end Go.Proofs.YtgdloonpemaijaaDoor
