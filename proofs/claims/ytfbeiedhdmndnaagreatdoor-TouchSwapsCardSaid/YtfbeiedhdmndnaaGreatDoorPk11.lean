/-
  Whether an event may befall an actor, and whether one may happen at all (event.Is).
-/
import Derived.Test.YtfbeiedhdmndnaaGreatDoorPk7
namespace Go.Proofs.YtfbeiedhdmndnaaGreatDoor
open Go.RowKit
attribute [local go_sem ↓] eq6
set_option maxHeartbeats 8000000 in
set_option maxRecDepth 100000 in
theorem is_a4a (w : World) (vp vw : Value) (p : PPrg) (b : PBud) (x : PWld) (f n c who : Int) (ht : Tab w) (hp : PrgV w vp p) (hx : WldV w vw x) (hf : fitsP p b x = true) (hz : (⟨f, n, c⟩ : PID) ≠ ⟨0, 0, 0⟩) (hw : 0 ≤ who) :
  Calls Tryz.prog 23 #[vp, uVal b, vw, eVal ⟨4, ⟨f, n, c⟩, who⟩] w fun e w' => e = .returned (.bool (isP p b x ⟨4, ⟨f, n, c⟩, who⟩)) ∧ Below w.heap.size w w' := by
 have HP := hid_mk hp
 have HX := hid_mk hx
 have HT := hid_mk ht
 obtain ⟨vh, vb, vc, rfl, h1, h2, h3⟩ := hp
 obtain ⟨A1, c1, rfl, _⟩ := h1.form
 obtain ⟨A2, c2, rfl, _⟩ := h2.form
 obtain ⟨A3, c3, rfl, _⟩ := h3.form
 obtain ⟨va, vm, rfl, g1, g2⟩ := hx
 obtain ⟨B1, d1, rfl, _⟩ := g1.form
 obtain ⟨B2, d2, rfl, _⟩ := g2.form
 have HG1 := hid_mk g1
 have HG2 := hid_mk g2
 have HR := hid_mk (isP_A (p := p) (b := b) (e := ⟨4, ⟨f, n, c⟩, who⟩) hf (by simp) (by unfold isA; rw [decide_eq_false hz]; first | done | rfl))
 have hsd : sameD ⟨f, n, c⟩ ⟨0, 0, 0⟩ = false := sameD_no hz
 clear hz
 clear h1 h2 h3 g1 g2 ht
 have hgD := gD
 go_enter Tryz.func23, Tryz.ntmps23
 go_wp2_with fail
 obtain ⟨k0, k1, k2, k3, k4⟩ := four_new w (.cells #[.slice A1 p.hs.length c1, .slice A2 p.acs.length c2, .slice A3 p.bs.length c3, .int .i64 p.fuel] 26) (.cells #[.int .i64 b.drop, .int .i64 b.dup, .int .i64 b.time, .int .i64 b.crash] 28) (.cells #[.slice B1 x.acts.length d1, .slice B2 x.mail.length d2, .int .i64 x.used.drop, .int .i64 x.used.dup, .int .i64 x.used.time, .int .i64 x.used.crash] 32) (.cells #[.int .i64 4, .int .i64 f, .int .i64 n, .int .i64 c, .int .i64 who] 36)
 have HL : Hid (Below w.heap.size w ((((w.alloc (.cells #[.slice A1 p.hs.length c1, .slice A2 p.acs.length c2, .slice A3 p.bs.length c3, .int .i64 p.fuel] 26)).alloc (.cells #[.int .i64 b.drop, .int .i64 b.dup, .int .i64 b.time, .int .i64 b.crash] 28)).alloc (.cells #[.slice B1 x.acts.length d1, .slice B2 x.mail.length d2, .int .i64 x.used.drop, .int .i64 x.used.dup, .int .i64 x.used.time, .int .i64 x.used.crash] 32)).alloc (.cells #[.int .i64 4, .int .i64 f, .int .i64 n, .int .i64 c, .int .i64 who] 36))) := bAlloc (bAlloc (bAlloc (bAlloc (bRefl _) _) _) _) _
 generalize ((((w.alloc (.cells #[.slice A1 p.hs.length c1, .slice A2 p.acs.length c2, .slice A3 p.bs.length c3, .int .i64 p.fuel] 26)).alloc (.cells #[.int .i64 b.drop, .int .i64 b.dup, .int .i64 b.time, .int .i64 b.crash] 28)).alloc (.cells #[.slice B1 x.acts.length d1, .slice B2 x.mail.length d2, .int .i64 x.used.drop, .int .i64 x.used.dup, .int .i64 x.used.time, .int .i64 x.used.crash] 32)).alloc (.cells #[.int .i64 4, .int .i64 f, .int .i64 n, .int .i64 c, .int .i64 who] 36)) = w1 at k0 k1 k2 k3 k4 HL ⊢
 refine (fits_any _ _ _ p b x (HT.out.below HL.out) (HP.out.below HL.out) (HX.out.below HL.out)).mono ?_
 rintro e w2 ⟨rfl, hb2⟩
 replace k0 := boxAt k0 hb2
 replace k1 := boxAt k1 hb2
 replace k2 := boxAt k2 hb2
 replace k3 := boxAt k3 hb2
 have HL2 := hid_mk (bTrans HL.out hb2)
 obtain ⟨b0, b1, b2, b3⟩ := blk4 k1
 obtain ⟨x0, x1, x2, x3, x4, x5⟩ := blk6 k2
 obtain ⟨e0, e1, e2, e3, e4⟩ := blk5 k3
 clear k4 HL hb2
 go_wp2_with fail
 refine (left_any _ b x.used _ _ _ _ _ _).mono ?_
 rintro e w3 ⟨rfl, hb3⟩
 have hbx : Below w2.heap.size w2 (w3.alloc (.cells #[.int .i64 (leftB b x.used).drop, .int .i64 (leftB b x.used).dup, .int .i64 (leftB b x.used).time, .int .i64 (leftB b x.used).crash] 28)) := bAlloc hb3 _
 have hK := heap_new w3 (.cells #[.int .i64 (leftB b x.used).drop, .int .i64 (leftB b x.used).dup, .int .i64 (leftB b x.used).time, .int .i64 (leftB b x.used).crash] 28)
 replace k0 := boxAt k0 hbx
 replace k2 := boxAt k2 hbx
 replace k3 := boxAt k3 hbx
 have HL3 := hid_mk (bTrans HL2.out hbx)
 clear k1 b0 b1 b2 b3 x0 x1 x2 x3 x4 x5 e0 e1 e2 e3 e4 HL2 hb3 hbx
 obtain ⟨x0, x1, x2, x3, x4, x5⟩ := blk6 k2
 obtain ⟨e0, e1, e2, e3, e4⟩ := blk5 k3
 obtain ⟨l0, l1, l2, l3⟩ := blk4 hK
 go_wp2_with fail
 generalize w3.alloc (.cells #[.int .i64 (leftB b x.used).drop, .int .i64 (leftB b x.used).dup, .int .i64 (leftB b x.used).time, .int .i64 (leftB b x.used).crash] 28) = w4 at k0 k2 k3 hK HL3 x0 x1 x2 x3 x4 x5 e0 e1 e2 e3 e4 l0 l1 l2 l3 ⊢
 have HL5 := HL3
 have s2 := (Array.getElem?_eq_some_iff.1 k2).1
 have s3 := (Array.getElem?_eq_some_iff.1 k3).1
 have s4 := (Array.getElem?_eq_some_iff.1 hK).1
 have hbb : Below w4.heap.size w4 w4 := bRefl w4
 clear k0 k2 k3 hK HL3
 refine wp_region_held_drew (S := fun w' => w'.cell? ⟨w.heap.size + 1 + 1 + 1, 0, none⟩ = some (.int .i64 4) ∧ w'.cell? ⟨w.heap.size + 1 + 1 + 1, 1, none⟩ = some (.int .i64 f) ∧ w'.cell? ⟨w.heap.size + 1 + 1 + 1, 2, none⟩ = some (.int .i64 n) ∧ w'.cell? ⟨w.heap.size + 1 + 1 + 1, 3, none⟩ = some (.int .i64 c) ∧ w'.cell? ⟨w.heap.size + 1 + 1 + 1, 4, none⟩ = some (.int .i64 who) ∧ w'.cell? ⟨w.heap.size + 1 + 1, 0, none⟩ = some (.slice B1 x.acts.length d1) ∧ w'.cell? ⟨w.heap.size + 1 + 1, 1, none⟩ = some (.slice B2 x.mail.length d2) ∧ w'.cell? ⟨w.heap.size + 1 + 1, 2, none⟩ = some (.int .i64 x.used.drop) ∧ w'.cell? ⟨w.heap.size + 1 + 1, 3, none⟩ = some (.int .i64 x.used.dup) ∧ w'.cell? ⟨w.heap.size + 1 + 1, 4, none⟩ = some (.int .i64 x.used.time) ∧ w'.cell? ⟨w.heap.size + 1 + 1, 5, none⟩ = some (.int .i64 x.used.crash) ∧ w'.cell? ⟨w3.heap.size, 0, none⟩ = some (.int .i64 (leftB b x.used).drop) ∧ w'.cell? ⟨w3.heap.size, 1, none⟩ = some (.int .i64 (leftB b x.used).dup) ∧ w'.cell? ⟨w3.heap.size, 2, none⟩ = some (.int .i64 (leftB b x.used).time) ∧ w'.cell? ⟨w3.heap.size, 3, none⟩ = some (.int .i64 (leftB b x.used).crash)) (by kernel_rfl) ?_ (fun hHeld => ?_)
 ·try dsimp only
  go_keep
 refine tKh (i := 0) (oi := ⟨some 64, .fieldAddr 36 (.tmp 7) 1, 0, "event.go:49", #[], none⟩) (v := ?_) (hy := .inl ⟨by rfl, ?_⟩) (h := ?_)
 rotate_left
 ·intro w hSw
  try dsimp only at hSw
  go_simp
  try with_reducible rfl
 try simp only [Act.put, sqA, sqB, sqC]
 refine tKh (i := 1) (oi := ⟨some 65, .load 34 (.tmp 64), 34, "event.go:49", #[⟨0, .data⟩], none⟩) (v := ?_) (hy := .inl ⟨by rfl, ?_⟩) (h := ?_)
 rotate_left
 ·intro w hSw
  try dsimp only at hSw
  go_simp
  try with_reducible rfl
 try simp only [Act.put, sqA, sqB, sqC]
 refine tKh (i := 2) (oi := ⟨some 66, .build 34 #[], 34, "event.go:49", #[], none⟩) (v := ?_) (hy := .inl ⟨by rfl, ?_⟩) (h := ?_)
 rotate_left
 ·intro w hSw
  try dsimp only at hSw
  go_simp
  try with_reducible rfl
 try simp only [Act.put, sqA, sqB, sqC]
 refine tKh (i := 3) (oi := ⟨some 67, .binOp .eql 34 (.tmp 65) (.tmp 66) 34, 4, "event.go:49", #[⟨1, .data⟩, ⟨2, .data⟩], none⟩) (v := ?_) (hy := .inl ⟨by rfl, ?_⟩) (h := ?_)
 rotate_left
 ·intro w hSw
  try dsimp only at hSw
  go_simp
  try with_reducible rfl
 try simp only [Act.put, sqA, sqB, sqC]
 refine tKh (i := 4) (oi := ⟨some 68, .move (.tmp 67), 4, "event.go:49", #[⟨3, .data⟩], none⟩) (v := ?_) (hy := .inl ⟨by rfl, ?_⟩) (h := ?_)
 rotate_left
 ·intro w hSw
  try dsimp only at hSw
  go_simp
  try with_reducible rfl
 try simp only [Act.put, sqA, sqB, sqC]
 refine tKh (i := 5) (oi := ⟨some 69, .move (.tmp 11), 4, "event.go:49", #[⟨4, .guard⟩], some (4, true)⟩) (v := undef) (hy := .inr ⟨by rfl, rfl⟩) (h := ?_)
 try simp only [Act.put, sqA, sqB, sqC]
 refine tKh (i := 6) (oi := ⟨some 70, .pick (.tmp 68) (.tmp 69) (.const (.bool false)), 4, "event.go:49", #[⟨4, .data⟩, ⟨5, .data⟩], none⟩) (v := ?_) (hy := .inl ⟨by rfl, ?_⟩) (h := ?_)
 rotate_left
 ·intro w hSw
  try dsimp only at hSw
  go_simp
  try with_reducible rfl
 try simp only [Act.put, sqA, sqB, sqC]
 refine tKh (i := 7) (oi := ⟨some 71, .move (.tmp 70), 4, "event.go:49", #[⟨6, .data⟩, ⟨4, .chain⟩], none⟩) (v := ?_) (hy := .inl ⟨by rfl, ?_⟩) (h := ?_)
 rotate_left
 ·intro w hSw
  try dsimp only at hSw
  go_simp
  try with_reducible rfl
 try simp only [Act.put, sqA, sqB, sqC]
 refine tKh (i := 8) (oi := ⟨some 72, .load 28 (.tmp 9), 28, "event.go:49", #[⟨7, .guard⟩], some (7, true)⟩) (v := undef) (hy := .inr ⟨by rfl, rfl⟩) (h := ?_)
 try simp only [Act.put, sqA, sqB, sqC]
 refine tKh (i := 9) (oi := ⟨some 73, .fieldAddr 36 (.tmp 7) 0, 0, "event.go:49", #[⟨7, .guard⟩], some (7, true)⟩) (v := undef) (hy := .inr ⟨by rfl, rfl⟩) (h := ?_)
 try simp only [Act.put, sqA, sqB, sqC]
 refine tKh (i := 10) (oi := ⟨some 74, .load 3 (.tmp 73), 3, "event.go:49", #[⟨9, .data⟩, ⟨7, .guard⟩], some (7, true)⟩) (v := undef) (hy := .inr ⟨by rfl, rfl⟩) (h := ?_)
 try simp only [Act.put, sqA, sqB, sqC]
 refine tKh (i := 11) (oi := ⟨some 75, .fieldAddr 32 (.tmp 6) 0, 0, "event.go:49", #[⟨7, .guard⟩], some (7, true)⟩) (v := undef) (hy := .inr ⟨by rfl, rfl⟩) (h := ?_)
 try simp only [Act.put, sqA, sqB, sqC]
 refine tKh (i := 12) (oi := ⟨some 76, .load 29 (.tmp 75), 29, "event.go:49", #[⟨11, .data⟩, ⟨7, .guard⟩], some (7, true)⟩) (v := undef) (hy := .inr ⟨by rfl, rfl⟩) (h := ?_)
 try simp only [Act.put, sqA, sqB, sqC]
 refine tKh (i := 13) (oi := ⟨some 77, .fieldAddr 36 (.tmp 7) 2, 0, "event.go:49", #[⟨7, .guard⟩], some (7, true)⟩) (v := undef) (hy := .inr ⟨by rfl, rfl⟩) (h := ?_)
 try simp only [Act.put, sqA, sqB, sqC]
 refine tKh (i := 14) (oi := ⟨some 78, .load 3 (.tmp 77), 3, "event.go:49", #[⟨13, .data⟩, ⟨7, .guard⟩], some (7, true)⟩) (v := undef) (hy := .inr ⟨by rfl, rfl⟩) (h := ?_)
 try simp only [Act.put, sqA, sqB, sqC]
 refine tKh (i := 15) (oi := ⟨some 79, .indexAddr 29 (.tmp 76) (.tmp 78), 0, "event.go:49", #[⟨12, .data⟩, ⟨14, .data⟩, ⟨7, .guard⟩], some (7, true)⟩) (v := undef) (hy := .inr ⟨by rfl, rfl⟩) (h := ?_)
 try simp only [Act.put, sqA, sqB, sqC]
 refine tKh (i := 16) (oi := ⟨some 80, .load 56 (.tmp 79), 56, "event.go:49", #[⟨15, .data⟩, ⟨7, .guard⟩], some (7, true)⟩) (v := undef) (hy := .inr ⟨by rfl, rfl⟩) (h := ?_)
 try simp only [Act.put, sqA, sqB, sqC]
 refine wpAnyH_ready (rs := [17]) (by kernel_rfl) (by simp) ?_
 refine AllReadyH.cons (o := ⟨some 81, .call { callee := .value (.func 61), args := #[.tmp 72, .tmp 74, .tmp 80], argTypes := #[28, 3, 56] }, 4, "event.go:49", #[⟨8, .data⟩, ⟨10, .data⟩, ⟨16, .data⟩, ⟨7, .chain⟩, ⟨7, .guard⟩], some (7, true)⟩) rfl (fun K hK => ?_) AllReadyH.nil
 go_simp
 refine hK.out _ _ ?_ (fun hHeld => ?_)
 ·try dsimp only
  go_keep
 clear hK K
 try simp only [Act.put, sqA, sqB, sqC]
 refine tKh (i := 18) (oi := ⟨some 82, .pick (.tmp 71) (.tmp 81) (.const (.bool false)), 4, "event.go:49", #[⟨7, .data⟩, ⟨17, .data⟩], none⟩) (v := ?_) (hy := .inl ⟨by rfl, ?_⟩) (h := ?_)
 rotate_left
 ·intro w hSw
  try dsimp only at hSw
  go_simp
  try with_reducible rfl
 try simp only [Act.put, sqA, sqB, sqC]
 refine tKh (i := 19) (oi := ⟨some 8, .assign (.tmp 82), 4, "event.go:49", #[⟨18, .data⟩, ⟨17, .chain⟩, ⟨0, .phase⟩, ⟨1, .phase⟩, ⟨2, .phase⟩, ⟨3, .phase⟩, ⟨4, .phase⟩, ⟨5, .phase⟩, ⟨6, .phase⟩, ⟨7, .phase⟩, ⟨8, .phase⟩, ⟨9, .phase⟩, ⟨10, .phase⟩, ⟨11, .phase⟩, ⟨12, .phase⟩, ⟨13, .phase⟩, ⟨14, .phase⟩, ⟨15, .phase⟩, ⟨16, .phase⟩, ⟨17, .phase⟩, ⟨18, .phase⟩], none⟩) (v := ?_) (hy := .inl ⟨by rfl, ?_⟩) (h := ?_)
 rotate_left
 ·intro w hSw
  try dsimp only at hSw
  go_simp
  try with_reducible rfl
 try simp only [Act.put, sqA, sqB, sqC]
 refine wpAnyH_done (by kernel_rfl) ?_ _
 go_wp2_with fail
 go_ret
 exact ⟨ret_b HR.out, bTrans HL5.out (by first | exact hbb | exact hbb.drew)⟩
set_option maxHeartbeats 8000000 in
set_option maxRecDepth 100000 in
theorem is_a4b (w : World) (vp vw : Value) (p : PPrg) (b : PBud) (x : PWld) (f n c who : Int) (ht : Tab w) (hp : PrgV w vp p) (hx : WldV w vw x) (hf : fitsP p b x = true) (hz : (⟨f, n, c⟩ : PID) ≠ ⟨0, 0, 0⟩) (hw : ¬ 0 ≤ who) :
  Calls Tryz.prog 23 #[vp, uVal b, vw, eVal ⟨4, ⟨f, n, c⟩, who⟩] w fun e w' => e = .returned (.bool (isP p b x ⟨4, ⟨f, n, c⟩, who⟩)) ∧ Below w.heap.size w w' := by
 have HP := hid_mk hp
 have HX := hid_mk hx
 have HT := hid_mk ht
 obtain ⟨vh, vb, vc, rfl, h1, h2, h3⟩ := hp
 obtain ⟨A1, c1, rfl, _⟩ := h1.form
 obtain ⟨A2, c2, rfl, _⟩ := h2.form
 obtain ⟨A3, c3, rfl, _⟩ := h3.form
 obtain ⟨va, vm, rfl, g1, g2⟩ := hx
 obtain ⟨B1, d1, rfl, _⟩ := g1.form
 obtain ⟨B2, d2, rfl, _⟩ := g2.form
 have HG1 := hid_mk g1
 have HG2 := hid_mk g2
 have HR := hid_mk (isP_A (p := p) (b := b) (e := ⟨4, ⟨f, n, c⟩, who⟩) hf (by simp) (by unfold isA; rw [decide_eq_false hz]; first | done | rfl))
 have hsd : sameD ⟨f, n, c⟩ ⟨0, 0, 0⟩ = false := sameD_no hz
 clear hz
 clear h1 h2 h3 g1 g2 ht
 have hgD := gD
 go_enter Tryz.func23, Tryz.ntmps23
 go_wp2_with fail
 obtain ⟨k0, k1, k2, k3, k4⟩ := four_new w (.cells #[.slice A1 p.hs.length c1, .slice A2 p.acs.length c2, .slice A3 p.bs.length c3, .int .i64 p.fuel] 26) (.cells #[.int .i64 b.drop, .int .i64 b.dup, .int .i64 b.time, .int .i64 b.crash] 28) (.cells #[.slice B1 x.acts.length d1, .slice B2 x.mail.length d2, .int .i64 x.used.drop, .int .i64 x.used.dup, .int .i64 x.used.time, .int .i64 x.used.crash] 32) (.cells #[.int .i64 4, .int .i64 f, .int .i64 n, .int .i64 c, .int .i64 who] 36)
 have HL : Hid (Below w.heap.size w ((((w.alloc (.cells #[.slice A1 p.hs.length c1, .slice A2 p.acs.length c2, .slice A3 p.bs.length c3, .int .i64 p.fuel] 26)).alloc (.cells #[.int .i64 b.drop, .int .i64 b.dup, .int .i64 b.time, .int .i64 b.crash] 28)).alloc (.cells #[.slice B1 x.acts.length d1, .slice B2 x.mail.length d2, .int .i64 x.used.drop, .int .i64 x.used.dup, .int .i64 x.used.time, .int .i64 x.used.crash] 32)).alloc (.cells #[.int .i64 4, .int .i64 f, .int .i64 n, .int .i64 c, .int .i64 who] 36))) := bAlloc (bAlloc (bAlloc (bAlloc (bRefl _) _) _) _) _
 generalize ((((w.alloc (.cells #[.slice A1 p.hs.length c1, .slice A2 p.acs.length c2, .slice A3 p.bs.length c3, .int .i64 p.fuel] 26)).alloc (.cells #[.int .i64 b.drop, .int .i64 b.dup, .int .i64 b.time, .int .i64 b.crash] 28)).alloc (.cells #[.slice B1 x.acts.length d1, .slice B2 x.mail.length d2, .int .i64 x.used.drop, .int .i64 x.used.dup, .int .i64 x.used.time, .int .i64 x.used.crash] 32)).alloc (.cells #[.int .i64 4, .int .i64 f, .int .i64 n, .int .i64 c, .int .i64 who] 36)) = w1 at k0 k1 k2 k3 k4 HL ⊢
 refine (fits_any _ _ _ p b x (HT.out.below HL.out) (HP.out.below HL.out) (HX.out.below HL.out)).mono ?_
 rintro e w2 ⟨rfl, hb2⟩
 replace k0 := boxAt k0 hb2
 replace k1 := boxAt k1 hb2
 replace k2 := boxAt k2 hb2
 replace k3 := boxAt k3 hb2
 have HL2 := hid_mk (bTrans HL.out hb2)
 obtain ⟨b0, b1, b2, b3⟩ := blk4 k1
 obtain ⟨x0, x1, x2, x3, x4, x5⟩ := blk6 k2
 obtain ⟨e0, e1, e2, e3, e4⟩ := blk5 k3
 clear k4 HL hb2
 go_wp2_with fail
 refine (left_any _ b x.used _ _ _ _ _ _).mono ?_
 rintro e w3 ⟨rfl, hb3⟩
 have hbx : Below w2.heap.size w2 (w3.alloc (.cells #[.int .i64 (leftB b x.used).drop, .int .i64 (leftB b x.used).dup, .int .i64 (leftB b x.used).time, .int .i64 (leftB b x.used).crash] 28)) := bAlloc hb3 _
 have hK := heap_new w3 (.cells #[.int .i64 (leftB b x.used).drop, .int .i64 (leftB b x.used).dup, .int .i64 (leftB b x.used).time, .int .i64 (leftB b x.used).crash] 28)
 replace k0 := boxAt k0 hbx
 replace k2 := boxAt k2 hbx
 replace k3 := boxAt k3 hbx
 have HL3 := hid_mk (bTrans HL2.out hbx)
 clear k1 b0 b1 b2 b3 x0 x1 x2 x3 x4 x5 e0 e1 e2 e3 e4 HL2 hb3 hbx
 obtain ⟨x0, x1, x2, x3, x4, x5⟩ := blk6 k2
 obtain ⟨e0, e1, e2, e3, e4⟩ := blk5 k3
 obtain ⟨l0, l1, l2, l3⟩ := blk4 hK
 go_wp2_with fail
 generalize w3.alloc (.cells #[.int .i64 (leftB b x.used).drop, .int .i64 (leftB b x.used).dup, .int .i64 (leftB b x.used).time, .int .i64 (leftB b x.used).crash] 28) = w4 at k0 k2 k3 hK HL3 x0 x1 x2 x3 x4 x5 e0 e1 e2 e3 e4 l0 l1 l2 l3 ⊢
 have HL5 := HL3
 have s2 := (Array.getElem?_eq_some_iff.1 k2).1
 have s3 := (Array.getElem?_eq_some_iff.1 k3).1
 have s4 := (Array.getElem?_eq_some_iff.1 hK).1
 have hbb : Below w4.heap.size w4 w4 := bRefl w4
 clear k0 k2 k3 hK HL3
 refine wp_region_held_drew (S := fun w' => w'.cell? ⟨w.heap.size + 1 + 1 + 1, 0, none⟩ = some (.int .i64 4) ∧ w'.cell? ⟨w.heap.size + 1 + 1 + 1, 1, none⟩ = some (.int .i64 f) ∧ w'.cell? ⟨w.heap.size + 1 + 1 + 1, 2, none⟩ = some (.int .i64 n) ∧ w'.cell? ⟨w.heap.size + 1 + 1 + 1, 3, none⟩ = some (.int .i64 c) ∧ w'.cell? ⟨w.heap.size + 1 + 1 + 1, 4, none⟩ = some (.int .i64 who) ∧ w'.cell? ⟨w.heap.size + 1 + 1, 0, none⟩ = some (.slice B1 x.acts.length d1) ∧ w'.cell? ⟨w.heap.size + 1 + 1, 1, none⟩ = some (.slice B2 x.mail.length d2) ∧ w'.cell? ⟨w.heap.size + 1 + 1, 2, none⟩ = some (.int .i64 x.used.drop) ∧ w'.cell? ⟨w.heap.size + 1 + 1, 3, none⟩ = some (.int .i64 x.used.dup) ∧ w'.cell? ⟨w.heap.size + 1 + 1, 4, none⟩ = some (.int .i64 x.used.time) ∧ w'.cell? ⟨w.heap.size + 1 + 1, 5, none⟩ = some (.int .i64 x.used.crash) ∧ w'.cell? ⟨w3.heap.size, 0, none⟩ = some (.int .i64 (leftB b x.used).drop) ∧ w'.cell? ⟨w3.heap.size, 1, none⟩ = some (.int .i64 (leftB b x.used).dup) ∧ w'.cell? ⟨w3.heap.size, 2, none⟩ = some (.int .i64 (leftB b x.used).time) ∧ w'.cell? ⟨w3.heap.size, 3, none⟩ = some (.int .i64 (leftB b x.used).crash)) (by kernel_rfl) ?_ (fun hHeld => ?_)
 ·try dsimp only
  go_keep
 refine tKh (i := 0) (oi := ⟨some 64, .fieldAddr 36 (.tmp 7) 1, 0, "event.go:49", #[], none⟩) (v := ?_) (hy := .inl ⟨by rfl, ?_⟩) (h := ?_)
 rotate_left
 ·intro w hSw
  try dsimp only at hSw
  go_simp
  try with_reducible rfl
 try simp only [Act.put, sqA, sqB, sqC]
 refine tKh (i := 1) (oi := ⟨some 65, .load 34 (.tmp 64), 34, "event.go:49", #[⟨0, .data⟩], none⟩) (v := ?_) (hy := .inl ⟨by rfl, ?_⟩) (h := ?_)
 rotate_left
 ·intro w hSw
  try dsimp only at hSw
  go_simp
  try with_reducible rfl
 try simp only [Act.put, sqA, sqB, sqC]
 refine tKh (i := 2) (oi := ⟨some 66, .build 34 #[], 34, "event.go:49", #[], none⟩) (v := ?_) (hy := .inl ⟨by rfl, ?_⟩) (h := ?_)
 rotate_left
 ·intro w hSw
  try dsimp only at hSw
  go_simp
  try with_reducible rfl
 try simp only [Act.put, sqA, sqB, sqC]
 refine tKh (i := 3) (oi := ⟨some 67, .binOp .eql 34 (.tmp 65) (.tmp 66) 34, 4, "event.go:49", #[⟨1, .data⟩, ⟨2, .data⟩], none⟩) (v := ?_) (hy := .inl ⟨by rfl, ?_⟩) (h := ?_)
 rotate_left
 ·intro w hSw
  try dsimp only at hSw
  go_simp
  try with_reducible rfl
 try simp only [Act.put, sqA, sqB, sqC]
 refine tKh (i := 4) (oi := ⟨some 68, .move (.tmp 67), 4, "event.go:49", #[⟨3, .data⟩], none⟩) (v := ?_) (hy := .inl ⟨by rfl, ?_⟩) (h := ?_)
 rotate_left
 ·intro w hSw
  try dsimp only at hSw
  go_simp
  try with_reducible rfl
 try simp only [Act.put, sqA, sqB, sqC]
 refine tKh (i := 5) (oi := ⟨some 69, .move (.tmp 11), 4, "event.go:49", #[⟨4, .guard⟩], some (4, true)⟩) (v := undef) (hy := .inr ⟨by rfl, rfl⟩) (h := ?_)
 try simp only [Act.put, sqA, sqB, sqC]
 refine tKh (i := 6) (oi := ⟨some 70, .pick (.tmp 68) (.tmp 69) (.const (.bool false)), 4, "event.go:49", #[⟨4, .data⟩, ⟨5, .data⟩], none⟩) (v := ?_) (hy := .inl ⟨by rfl, ?_⟩) (h := ?_)
 rotate_left
 ·intro w hSw
  try dsimp only at hSw
  go_simp
  try with_reducible rfl
 try simp only [Act.put, sqA, sqB, sqC]
 refine tKh (i := 7) (oi := ⟨some 71, .move (.tmp 70), 4, "event.go:49", #[⟨6, .data⟩, ⟨4, .chain⟩], none⟩) (v := ?_) (hy := .inl ⟨by rfl, ?_⟩) (h := ?_)
 rotate_left
 ·intro w hSw
  try dsimp only at hSw
  go_simp
  try with_reducible rfl
 try simp only [Act.put, sqA, sqB, sqC]
 refine tKh (i := 8) (oi := ⟨some 72, .load 28 (.tmp 9), 28, "event.go:49", #[⟨7, .guard⟩], some (7, true)⟩) (v := undef) (hy := .inr ⟨by rfl, rfl⟩) (h := ?_)
 try simp only [Act.put, sqA, sqB, sqC]
 refine tKh (i := 9) (oi := ⟨some 73, .fieldAddr 36 (.tmp 7) 0, 0, "event.go:49", #[⟨7, .guard⟩], some (7, true)⟩) (v := undef) (hy := .inr ⟨by rfl, rfl⟩) (h := ?_)
 try simp only [Act.put, sqA, sqB, sqC]
 refine tKh (i := 10) (oi := ⟨some 74, .load 3 (.tmp 73), 3, "event.go:49", #[⟨9, .data⟩, ⟨7, .guard⟩], some (7, true)⟩) (v := undef) (hy := .inr ⟨by rfl, rfl⟩) (h := ?_)
 try simp only [Act.put, sqA, sqB, sqC]
 refine tKh (i := 11) (oi := ⟨some 75, .fieldAddr 32 (.tmp 6) 0, 0, "event.go:49", #[⟨7, .guard⟩], some (7, true)⟩) (v := undef) (hy := .inr ⟨by rfl, rfl⟩) (h := ?_)
 try simp only [Act.put, sqA, sqB, sqC]
 refine tKh (i := 12) (oi := ⟨some 76, .load 29 (.tmp 75), 29, "event.go:49", #[⟨11, .data⟩, ⟨7, .guard⟩], some (7, true)⟩) (v := undef) (hy := .inr ⟨by rfl, rfl⟩) (h := ?_)
 try simp only [Act.put, sqA, sqB, sqC]
 refine tKh (i := 13) (oi := ⟨some 77, .fieldAddr 36 (.tmp 7) 2, 0, "event.go:49", #[⟨7, .guard⟩], some (7, true)⟩) (v := undef) (hy := .inr ⟨by rfl, rfl⟩) (h := ?_)
 try simp only [Act.put, sqA, sqB, sqC]
 refine tKh (i := 14) (oi := ⟨some 78, .load 3 (.tmp 77), 3, "event.go:49", #[⟨13, .data⟩, ⟨7, .guard⟩], some (7, true)⟩) (v := undef) (hy := .inr ⟨by rfl, rfl⟩) (h := ?_)
 try simp only [Act.put, sqA, sqB, sqC]
 refine tKh (i := 15) (oi := ⟨some 79, .indexAddr 29 (.tmp 76) (.tmp 78), 0, "event.go:49", #[⟨12, .data⟩, ⟨14, .data⟩, ⟨7, .guard⟩], some (7, true)⟩) (v := undef) (hy := .inr ⟨by rfl, rfl⟩) (h := ?_)
 try simp only [Act.put, sqA, sqB, sqC]
 refine tKh (i := 16) (oi := ⟨some 80, .load 56 (.tmp 79), 56, "event.go:49", #[⟨15, .data⟩, ⟨7, .guard⟩], some (7, true)⟩) (v := undef) (hy := .inr ⟨by rfl, rfl⟩) (h := ?_)
 try simp only [Act.put, sqA, sqB, sqC]
 refine wpAnyH_ready (rs := [17]) (by kernel_rfl) (by simp) ?_
 refine AllReadyH.cons (o := ⟨some 81, .call { callee := .value (.func 61), args := #[.tmp 72, .tmp 74, .tmp 80], argTypes := #[28, 3, 56] }, 4, "event.go:49", #[⟨8, .data⟩, ⟨10, .data⟩, ⟨16, .data⟩, ⟨7, .chain⟩, ⟨7, .guard⟩], some (7, true)⟩) rfl (fun K hK => ?_) AllReadyH.nil
 go_simp
 refine hK.out _ _ ?_ (fun hHeld => ?_)
 ·try dsimp only
  go_keep
 clear hK K
 try simp only [Act.put, sqA, sqB, sqC]
 refine tKh (i := 18) (oi := ⟨some 82, .pick (.tmp 71) (.tmp 81) (.const (.bool false)), 4, "event.go:49", #[⟨7, .data⟩, ⟨17, .data⟩], none⟩) (v := ?_) (hy := .inl ⟨by rfl, ?_⟩) (h := ?_)
 rotate_left
 ·intro w hSw
  try dsimp only at hSw
  go_simp
  try with_reducible rfl
 try simp only [Act.put, sqA, sqB, sqC]
 refine tKh (i := 19) (oi := ⟨some 8, .assign (.tmp 82), 4, "event.go:49", #[⟨18, .data⟩, ⟨17, .chain⟩, ⟨0, .phase⟩, ⟨1, .phase⟩, ⟨2, .phase⟩, ⟨3, .phase⟩, ⟨4, .phase⟩, ⟨5, .phase⟩, ⟨6, .phase⟩, ⟨7, .phase⟩, ⟨8, .phase⟩, ⟨9, .phase⟩, ⟨10, .phase⟩, ⟨11, .phase⟩, ⟨12, .phase⟩, ⟨13, .phase⟩, ⟨14, .phase⟩, ⟨15, .phase⟩, ⟨16, .phase⟩, ⟨17, .phase⟩, ⟨18, .phase⟩], none⟩) (v := ?_) (hy := .inl ⟨by rfl, ?_⟩) (h := ?_)
 rotate_left
 ·intro w hSw
  try dsimp only at hSw
  go_simp
  try with_reducible rfl
 try simp only [Act.put, sqA, sqB, sqC]
 refine wpAnyH_done (by kernel_rfl) ?_ _
 go_wp2_with fail
 go_ret
 exact ⟨ret_b HR.out, bTrans HL5.out (by first | exact hbb | exact hbb.drew)⟩
set_option maxHeartbeats 8000000 in
set_option maxRecDepth 100000 in
theorem is_a4c (w : World) (vp vw : Value) (p : PPrg) (b : PBud) (x : PWld) (f n c who : Int) (ht : Tab w) (hp : PrgV w vp p) (hx : WldV w vw x) (hf : fitsP p b x = true) (hz : (⟨f, n, c⟩ : PID) = ⟨0, 0, 0⟩) (hw : ¬ 0 ≤ who) :
  Calls Tryz.prog 23 #[vp, uVal b, vw, eVal ⟨4, ⟨f, n, c⟩, who⟩] w fun e w' => e = .returned (.bool (isP p b x ⟨4, ⟨f, n, c⟩, who⟩)) ∧ Below w.heap.size w w' := by
 have HP := hid_mk hp
 have HX := hid_mk hx
 have HT := hid_mk ht
 obtain ⟨vh, vb, vc, rfl, h1, h2, h3⟩ := hp
 obtain ⟨A1, c1, rfl, _⟩ := h1.form
 obtain ⟨A2, c2, rfl, _⟩ := h2.form
 obtain ⟨A3, c3, rfl, _⟩ := h3.form
 obtain ⟨va, vm, rfl, g1, g2⟩ := hx
 obtain ⟨B1, d1, rfl, _⟩ := g1.form
 obtain ⟨B2, d2, rfl, _⟩ := g2.form
 have HG1 := hid_mk g1
 have HG2 := hid_mk g2
 have HR := hid_mk (isP_A (p := p) (b := b) (e := ⟨4, ⟨f, n, c⟩, who⟩) hf (by simp) (show false = _ by unfold isA; simp [hw]))
 have hsd : sameD ⟨f, n, c⟩ ⟨0, 0, 0⟩ = true := sameD_yes hz
 clear hz
 clear h1 h2 h3 g1 g2 ht
 have hgD := gD
 go_enter Tryz.func23, Tryz.ntmps23
 go_wp2_with fail
 obtain ⟨k0, k1, k2, k3, k4⟩ := four_new w (.cells #[.slice A1 p.hs.length c1, .slice A2 p.acs.length c2, .slice A3 p.bs.length c3, .int .i64 p.fuel] 26) (.cells #[.int .i64 b.drop, .int .i64 b.dup, .int .i64 b.time, .int .i64 b.crash] 28) (.cells #[.slice B1 x.acts.length d1, .slice B2 x.mail.length d2, .int .i64 x.used.drop, .int .i64 x.used.dup, .int .i64 x.used.time, .int .i64 x.used.crash] 32) (.cells #[.int .i64 4, .int .i64 f, .int .i64 n, .int .i64 c, .int .i64 who] 36)
 have HL : Hid (Below w.heap.size w ((((w.alloc (.cells #[.slice A1 p.hs.length c1, .slice A2 p.acs.length c2, .slice A3 p.bs.length c3, .int .i64 p.fuel] 26)).alloc (.cells #[.int .i64 b.drop, .int .i64 b.dup, .int .i64 b.time, .int .i64 b.crash] 28)).alloc (.cells #[.slice B1 x.acts.length d1, .slice B2 x.mail.length d2, .int .i64 x.used.drop, .int .i64 x.used.dup, .int .i64 x.used.time, .int .i64 x.used.crash] 32)).alloc (.cells #[.int .i64 4, .int .i64 f, .int .i64 n, .int .i64 c, .int .i64 who] 36))) := bAlloc (bAlloc (bAlloc (bAlloc (bRefl _) _) _) _) _
 generalize ((((w.alloc (.cells #[.slice A1 p.hs.length c1, .slice A2 p.acs.length c2, .slice A3 p.bs.length c3, .int .i64 p.fuel] 26)).alloc (.cells #[.int .i64 b.drop, .int .i64 b.dup, .int .i64 b.time, .int .i64 b.crash] 28)).alloc (.cells #[.slice B1 x.acts.length d1, .slice B2 x.mail.length d2, .int .i64 x.used.drop, .int .i64 x.used.dup, .int .i64 x.used.time, .int .i64 x.used.crash] 32)).alloc (.cells #[.int .i64 4, .int .i64 f, .int .i64 n, .int .i64 c, .int .i64 who] 36)) = w1 at k0 k1 k2 k3 k4 HL ⊢
 refine (fits_any _ _ _ p b x (HT.out.below HL.out) (HP.out.below HL.out) (HX.out.below HL.out)).mono ?_
 rintro e w2 ⟨rfl, hb2⟩
 replace k0 := boxAt k0 hb2
 replace k1 := boxAt k1 hb2
 replace k2 := boxAt k2 hb2
 replace k3 := boxAt k3 hb2
 have HL2 := hid_mk (bTrans HL.out hb2)
 obtain ⟨b0, b1, b2, b3⟩ := blk4 k1
 obtain ⟨x0, x1, x2, x3, x4, x5⟩ := blk6 k2
 obtain ⟨e0, e1, e2, e3, e4⟩ := blk5 k3
 clear k4 HL hb2
 go_wp2_with fail
 refine (left_any _ b x.used _ _ _ _ _ _).mono ?_
 rintro e w3 ⟨rfl, hb3⟩
 have hbx : Below w2.heap.size w2 (w3.alloc (.cells #[.int .i64 (leftB b x.used).drop, .int .i64 (leftB b x.used).dup, .int .i64 (leftB b x.used).time, .int .i64 (leftB b x.used).crash] 28)) := bAlloc hb3 _
 have hK := heap_new w3 (.cells #[.int .i64 (leftB b x.used).drop, .int .i64 (leftB b x.used).dup, .int .i64 (leftB b x.used).time, .int .i64 (leftB b x.used).crash] 28)
 replace k0 := boxAt k0 hbx
 replace k2 := boxAt k2 hbx
 replace k3 := boxAt k3 hbx
 have HL3 := hid_mk (bTrans HL2.out hbx)
 clear k1 b0 b1 b2 b3 x0 x1 x2 x3 x4 x5 e0 e1 e2 e3 e4 HL2 hb3 hbx
 obtain ⟨x0, x1, x2, x3, x4, x5⟩ := blk6 k2
 obtain ⟨e0, e1, e2, e3, e4⟩ := blk5 k3
 obtain ⟨l0, l1, l2, l3⟩ := blk4 hK
 go_wp2_with fail
 generalize w3.alloc (.cells #[.int .i64 (leftB b x.used).drop, .int .i64 (leftB b x.used).dup, .int .i64 (leftB b x.used).time, .int .i64 (leftB b x.used).crash] 28) = w4 at k0 k2 k3 hK HL3 x0 x1 x2 x3 x4 x5 e0 e1 e2 e3 e4 l0 l1 l2 l3 ⊢
 have HL5 := HL3
 have s2 := (Array.getElem?_eq_some_iff.1 k2).1
 have s3 := (Array.getElem?_eq_some_iff.1 k3).1
 have s4 := (Array.getElem?_eq_some_iff.1 hK).1
 have hbb : Below w4.heap.size w4 w4 := bRefl w4
 clear k0 k2 k3 hK HL3
 refine wp_region_held_drew (S := fun w' => w'.cell? ⟨w.heap.size + 1 + 1 + 1, 0, none⟩ = some (.int .i64 4) ∧ w'.cell? ⟨w.heap.size + 1 + 1 + 1, 1, none⟩ = some (.int .i64 f) ∧ w'.cell? ⟨w.heap.size + 1 + 1 + 1, 2, none⟩ = some (.int .i64 n) ∧ w'.cell? ⟨w.heap.size + 1 + 1 + 1, 3, none⟩ = some (.int .i64 c) ∧ w'.cell? ⟨w.heap.size + 1 + 1 + 1, 4, none⟩ = some (.int .i64 who) ∧ w'.cell? ⟨w.heap.size + 1 + 1, 0, none⟩ = some (.slice B1 x.acts.length d1) ∧ w'.cell? ⟨w.heap.size + 1 + 1, 1, none⟩ = some (.slice B2 x.mail.length d2) ∧ w'.cell? ⟨w.heap.size + 1 + 1, 2, none⟩ = some (.int .i64 x.used.drop) ∧ w'.cell? ⟨w.heap.size + 1 + 1, 3, none⟩ = some (.int .i64 x.used.dup) ∧ w'.cell? ⟨w.heap.size + 1 + 1, 4, none⟩ = some (.int .i64 x.used.time) ∧ w'.cell? ⟨w.heap.size + 1 + 1, 5, none⟩ = some (.int .i64 x.used.crash) ∧ w'.cell? ⟨w3.heap.size, 0, none⟩ = some (.int .i64 (leftB b x.used).drop) ∧ w'.cell? ⟨w3.heap.size, 1, none⟩ = some (.int .i64 (leftB b x.used).dup) ∧ w'.cell? ⟨w3.heap.size, 2, none⟩ = some (.int .i64 (leftB b x.used).time) ∧ w'.cell? ⟨w3.heap.size, 3, none⟩ = some (.int .i64 (leftB b x.used).crash)) (by kernel_rfl) ?_ (fun hHeld => ?_)
 ·try dsimp only
  go_keep
 refine tKh (i := 0) (oi := ⟨some 64, .fieldAddr 36 (.tmp 7) 1, 0, "event.go:49", #[], none⟩) (v := ?_) (hy := .inl ⟨by rfl, ?_⟩) (h := ?_)
 rotate_left
 ·intro w hSw
  try dsimp only at hSw
  go_simp
  try with_reducible rfl
 try simp only [Act.put, sqA, sqB, sqC]
 refine tKh (i := 1) (oi := ⟨some 65, .load 34 (.tmp 64), 34, "event.go:49", #[⟨0, .data⟩], none⟩) (v := ?_) (hy := .inl ⟨by rfl, ?_⟩) (h := ?_)
 rotate_left
 ·intro w hSw
  try dsimp only at hSw
  go_simp
  try with_reducible rfl
 try simp only [Act.put, sqA, sqB, sqC]
 refine tKh (i := 2) (oi := ⟨some 66, .build 34 #[], 34, "event.go:49", #[], none⟩) (v := ?_) (hy := .inl ⟨by rfl, ?_⟩) (h := ?_)
 rotate_left
 ·intro w hSw
  try dsimp only at hSw
  go_simp
  try with_reducible rfl
 try simp only [Act.put, sqA, sqB, sqC]
 refine tKh (i := 3) (oi := ⟨some 67, .binOp .eql 34 (.tmp 65) (.tmp 66) 34, 4, "event.go:49", #[⟨1, .data⟩, ⟨2, .data⟩], none⟩) (v := ?_) (hy := .inl ⟨by rfl, ?_⟩) (h := ?_)
 rotate_left
 ·intro w hSw
  try dsimp only at hSw
  go_simp
  try with_reducible rfl
 try simp only [Act.put, sqA, sqB, sqC]
 refine tKh (i := 4) (oi := ⟨some 68, .move (.tmp 67), 4, "event.go:49", #[⟨3, .data⟩], none⟩) (v := ?_) (hy := .inl ⟨by rfl, ?_⟩) (h := ?_)
 rotate_left
 ·intro w hSw
  try dsimp only at hSw
  go_simp
  try with_reducible rfl
 try simp only [Act.put, sqA, sqB, sqC]
 refine tKh (i := 5) (oi := ⟨some 69, .move (.tmp 11), 4, "event.go:49", #[⟨4, .guard⟩], some (4, true)⟩) (v := ?_) (hy := .inl ⟨by rfl, ?_⟩) (h := ?_)
 rotate_left
 ·intro w hSw
  try dsimp only at hSw
  go_simp
  try with_reducible rfl
 try simp only [Act.put, sqA, sqB, sqC]
 refine tKh (i := 6) (oi := ⟨some 70, .pick (.tmp 68) (.tmp 69) (.const (.bool false)), 4, "event.go:49", #[⟨4, .data⟩, ⟨5, .data⟩], none⟩) (v := ?_) (hy := .inl ⟨by rfl, ?_⟩) (h := ?_)
 rotate_left
 ·intro w hSw
  try dsimp only at hSw
  go_simp
  try with_reducible rfl
 try simp only [Act.put, sqA, sqB, sqC]
 refine tKh (i := 7) (oi := ⟨some 71, .move (.tmp 70), 4, "event.go:49", #[⟨6, .data⟩, ⟨4, .chain⟩], none⟩) (v := ?_) (hy := .inl ⟨by rfl, ?_⟩) (h := ?_)
 rotate_left
 ·intro w hSw
  try dsimp only at hSw
  go_simp
  try with_reducible rfl
 try simp only [Act.put, sqA, sqB, sqC]
 refine tKh (i := 8) (oi := ⟨some 72, .load 28 (.tmp 9), 28, "event.go:49", #[⟨7, .guard⟩], some (7, true)⟩) (v := undef) (hy := .inr ⟨by rfl, rfl⟩) (h := ?_)
 try simp only [Act.put, sqA, sqB, sqC]
 refine tKh (i := 9) (oi := ⟨some 73, .fieldAddr 36 (.tmp 7) 0, 0, "event.go:49", #[⟨7, .guard⟩], some (7, true)⟩) (v := undef) (hy := .inr ⟨by rfl, rfl⟩) (h := ?_)
 try simp only [Act.put, sqA, sqB, sqC]
 refine tKh (i := 10) (oi := ⟨some 74, .load 3 (.tmp 73), 3, "event.go:49", #[⟨9, .data⟩, ⟨7, .guard⟩], some (7, true)⟩) (v := undef) (hy := .inr ⟨by rfl, rfl⟩) (h := ?_)
 try simp only [Act.put, sqA, sqB, sqC]
 refine tKh (i := 11) (oi := ⟨some 75, .fieldAddr 32 (.tmp 6) 0, 0, "event.go:49", #[⟨7, .guard⟩], some (7, true)⟩) (v := undef) (hy := .inr ⟨by rfl, rfl⟩) (h := ?_)
 try simp only [Act.put, sqA, sqB, sqC]
 refine tKh (i := 12) (oi := ⟨some 76, .load 29 (.tmp 75), 29, "event.go:49", #[⟨11, .data⟩, ⟨7, .guard⟩], some (7, true)⟩) (v := undef) (hy := .inr ⟨by rfl, rfl⟩) (h := ?_)
 try simp only [Act.put, sqA, sqB, sqC]
 refine tKh (i := 13) (oi := ⟨some 77, .fieldAddr 36 (.tmp 7) 2, 0, "event.go:49", #[⟨7, .guard⟩], some (7, true)⟩) (v := undef) (hy := .inr ⟨by rfl, rfl⟩) (h := ?_)
 try simp only [Act.put, sqA, sqB, sqC]
 refine tKh (i := 14) (oi := ⟨some 78, .load 3 (.tmp 77), 3, "event.go:49", #[⟨13, .data⟩, ⟨7, .guard⟩], some (7, true)⟩) (v := undef) (hy := .inr ⟨by rfl, rfl⟩) (h := ?_)
 try simp only [Act.put, sqA, sqB, sqC]
 refine tKh (i := 15) (oi := ⟨some 79, .indexAddr 29 (.tmp 76) (.tmp 78), 0, "event.go:49", #[⟨12, .data⟩, ⟨14, .data⟩, ⟨7, .guard⟩], some (7, true)⟩) (v := undef) (hy := .inr ⟨by rfl, rfl⟩) (h := ?_)
 try simp only [Act.put, sqA, sqB, sqC]
 refine tKh (i := 16) (oi := ⟨some 80, .load 56 (.tmp 79), 56, "event.go:49", #[⟨15, .data⟩, ⟨7, .guard⟩], some (7, true)⟩) (v := undef) (hy := .inr ⟨by rfl, rfl⟩) (h := ?_)
 try simp only [Act.put, sqA, sqB, sqC]
 refine wpAnyH_ready (rs := [17]) (by kernel_rfl) (by simp) ?_
 refine AllReadyH.cons (o := ⟨some 81, .call { callee := .value (.func 61), args := #[.tmp 72, .tmp 74, .tmp 80], argTypes := #[28, 3, 56] }, 4, "event.go:49", #[⟨8, .data⟩, ⟨10, .data⟩, ⟨16, .data⟩, ⟨7, .chain⟩, ⟨7, .guard⟩], some (7, true)⟩) rfl (fun K hK => ?_) AllReadyH.nil
 go_simp
 refine hK.out _ _ ?_ (fun hHeld => ?_)
 ·try dsimp only
  go_keep
 clear hK K
 try simp only [Act.put, sqA, sqB, sqC]
 refine tKh (i := 18) (oi := ⟨some 82, .pick (.tmp 71) (.tmp 81) (.const (.bool false)), 4, "event.go:49", #[⟨7, .data⟩, ⟨17, .data⟩], none⟩) (v := ?_) (hy := .inl ⟨by rfl, ?_⟩) (h := ?_)
 rotate_left
 ·intro w hSw
  try dsimp only at hSw
  go_simp
  try with_reducible rfl
 try simp only [Act.put, sqA, sqB, sqC]
 refine tKh (i := 19) (oi := ⟨some 8, .assign (.tmp 82), 4, "event.go:49", #[⟨18, .data⟩, ⟨17, .chain⟩, ⟨0, .phase⟩, ⟨1, .phase⟩, ⟨2, .phase⟩, ⟨3, .phase⟩, ⟨4, .phase⟩, ⟨5, .phase⟩, ⟨6, .phase⟩, ⟨7, .phase⟩, ⟨8, .phase⟩, ⟨9, .phase⟩, ⟨10, .phase⟩, ⟨11, .phase⟩, ⟨12, .phase⟩, ⟨13, .phase⟩, ⟨14, .phase⟩, ⟨15, .phase⟩, ⟨16, .phase⟩, ⟨17, .phase⟩, ⟨18, .phase⟩], none⟩) (v := ?_) (hy := .inl ⟨by rfl, ?_⟩) (h := ?_)
 rotate_left
 ·intro w hSw
  try dsimp only at hSw
  go_simp
  try with_reducible rfl
 try simp only [Act.put, sqA, sqB, sqC]
 refine wpAnyH_done (by kernel_rfl) ?_ _
 go_wp2_with fail
 go_ret
 exact ⟨ret_b HR.out, bTrans HL5.out (by first | exact hbb | exact hbb.drew)⟩
set_option maxHeartbeats 8000000 in
set_option maxRecDepth 100000 in
theorem is_a4d (w : World) (vp vw : Value) (p : PPrg) (b : PBud) (x : PWld) (f n c who : Int) (ht : Tab w) (hp : PrgV w vp p) (hx : WldV w vw x) (hf : fitsP p b x = true) (hz : (⟨f, n, c⟩ : PID) = ⟨0, 0, 0⟩) (hw : 0 ≤ who) (hw1 : ¬ who < x.acts.length) :
  Calls Tryz.prog 23 #[vp, uVal b, vw, eVal ⟨4, ⟨f, n, c⟩, who⟩] w fun e w' => e = .returned (.bool (isP p b x ⟨4, ⟨f, n, c⟩, who⟩)) ∧ Below w.heap.size w w' := by
 have HP := hid_mk hp
 have HX := hid_mk hx
 have HT := hid_mk ht
 obtain ⟨vh, vb, vc, rfl, h1, h2, h3⟩ := hp
 obtain ⟨A1, c1, rfl, _⟩ := h1.form
 obtain ⟨A2, c2, rfl, _⟩ := h2.form
 obtain ⟨A3, c3, rfl, _⟩ := h3.form
 obtain ⟨va, vm, rfl, g1, g2⟩ := hx
 obtain ⟨B1, d1, rfl, _⟩ := g1.form
 obtain ⟨B2, d2, rfl, _⟩ := g2.form
 have HG1 := hid_mk g1
 have HG2 := hid_mk g2
 have HR := hid_mk (isP_A (p := p) (b := b) (e := ⟨4, ⟨f, n, c⟩, who⟩) hf (by simp) (show false = _ by unfold isA; simp [hw1]))
 have hsd : sameD ⟨f, n, c⟩ ⟨0, 0, 0⟩ = true := sameD_yes hz
 clear hz
 have hwd : decide (who < (x.acts.length : Int)) = false := decide_eq_false hw1
 clear hw1
 clear h1 h2 h3 g1 g2 ht
 have hgD := gD
 go_enter Tryz.func23, Tryz.ntmps23
 go_wp2_with fail
 obtain ⟨k0, k1, k2, k3, k4⟩ := four_new w (.cells #[.slice A1 p.hs.length c1, .slice A2 p.acs.length c2, .slice A3 p.bs.length c3, .int .i64 p.fuel] 26) (.cells #[.int .i64 b.drop, .int .i64 b.dup, .int .i64 b.time, .int .i64 b.crash] 28) (.cells #[.slice B1 x.acts.length d1, .slice B2 x.mail.length d2, .int .i64 x.used.drop, .int .i64 x.used.dup, .int .i64 x.used.time, .int .i64 x.used.crash] 32) (.cells #[.int .i64 4, .int .i64 f, .int .i64 n, .int .i64 c, .int .i64 who] 36)
 have HL : Hid (Below w.heap.size w ((((w.alloc (.cells #[.slice A1 p.hs.length c1, .slice A2 p.acs.length c2, .slice A3 p.bs.length c3, .int .i64 p.fuel] 26)).alloc (.cells #[.int .i64 b.drop, .int .i64 b.dup, .int .i64 b.time, .int .i64 b.crash] 28)).alloc (.cells #[.slice B1 x.acts.length d1, .slice B2 x.mail.length d2, .int .i64 x.used.drop, .int .i64 x.used.dup, .int .i64 x.used.time, .int .i64 x.used.crash] 32)).alloc (.cells #[.int .i64 4, .int .i64 f, .int .i64 n, .int .i64 c, .int .i64 who] 36))) := bAlloc (bAlloc (bAlloc (bAlloc (bRefl _) _) _) _) _
 generalize ((((w.alloc (.cells #[.slice A1 p.hs.length c1, .slice A2 p.acs.length c2, .slice A3 p.bs.length c3, .int .i64 p.fuel] 26)).alloc (.cells #[.int .i64 b.drop, .int .i64 b.dup, .int .i64 b.time, .int .i64 b.crash] 28)).alloc (.cells #[.slice B1 x.acts.length d1, .slice B2 x.mail.length d2, .int .i64 x.used.drop, .int .i64 x.used.dup, .int .i64 x.used.time, .int .i64 x.used.crash] 32)).alloc (.cells #[.int .i64 4, .int .i64 f, .int .i64 n, .int .i64 c, .int .i64 who] 36)) = w1 at k0 k1 k2 k3 k4 HL ⊢
 refine (fits_any _ _ _ p b x (HT.out.below HL.out) (HP.out.below HL.out) (HX.out.below HL.out)).mono ?_
 rintro e w2 ⟨rfl, hb2⟩
 replace k0 := boxAt k0 hb2
 replace k1 := boxAt k1 hb2
 replace k2 := boxAt k2 hb2
 replace k3 := boxAt k3 hb2
 have HL2 := hid_mk (bTrans HL.out hb2)
 obtain ⟨b0, b1, b2, b3⟩ := blk4 k1
 obtain ⟨x0, x1, x2, x3, x4, x5⟩ := blk6 k2
 obtain ⟨e0, e1, e2, e3, e4⟩ := blk5 k3
 clear k4 HL hb2
 go_wp2_with fail
 refine (left_any _ b x.used _ _ _ _ _ _).mono ?_
 rintro e w3 ⟨rfl, hb3⟩
 have hbx : Below w2.heap.size w2 (w3.alloc (.cells #[.int .i64 (leftB b x.used).drop, .int .i64 (leftB b x.used).dup, .int .i64 (leftB b x.used).time, .int .i64 (leftB b x.used).crash] 28)) := bAlloc hb3 _
 have hK := heap_new w3 (.cells #[.int .i64 (leftB b x.used).drop, .int .i64 (leftB b x.used).dup, .int .i64 (leftB b x.used).time, .int .i64 (leftB b x.used).crash] 28)
 replace k0 := boxAt k0 hbx
 replace k2 := boxAt k2 hbx
 replace k3 := boxAt k3 hbx
 have HL3 := hid_mk (bTrans HL2.out hbx)
 clear k1 b0 b1 b2 b3 x0 x1 x2 x3 x4 x5 e0 e1 e2 e3 e4 HL2 hb3 hbx
 obtain ⟨x0, x1, x2, x3, x4, x5⟩ := blk6 k2
 obtain ⟨e0, e1, e2, e3, e4⟩ := blk5 k3
 obtain ⟨l0, l1, l2, l3⟩ := blk4 hK
 go_wp2_with fail
 generalize w3.alloc (.cells #[.int .i64 (leftB b x.used).drop, .int .i64 (leftB b x.used).dup, .int .i64 (leftB b x.used).time, .int .i64 (leftB b x.used).crash] 28) = w4 at k0 k2 k3 hK HL3 x0 x1 x2 x3 x4 x5 e0 e1 e2 e3 e4 l0 l1 l2 l3 ⊢
 have HL5 := HL3
 have s2 := (Array.getElem?_eq_some_iff.1 k2).1
 have s3 := (Array.getElem?_eq_some_iff.1 k3).1
 have s4 := (Array.getElem?_eq_some_iff.1 hK).1
 have hbb : Below w4.heap.size w4 w4 := bRefl w4
 clear k0 k2 k3 hK HL3
 refine wp_region_held_drew (S := fun w' => w'.cell? ⟨w.heap.size + 1 + 1 + 1, 0, none⟩ = some (.int .i64 4) ∧ w'.cell? ⟨w.heap.size + 1 + 1 + 1, 1, none⟩ = some (.int .i64 f) ∧ w'.cell? ⟨w.heap.size + 1 + 1 + 1, 2, none⟩ = some (.int .i64 n) ∧ w'.cell? ⟨w.heap.size + 1 + 1 + 1, 3, none⟩ = some (.int .i64 c) ∧ w'.cell? ⟨w.heap.size + 1 + 1 + 1, 4, none⟩ = some (.int .i64 who) ∧ w'.cell? ⟨w.heap.size + 1 + 1, 0, none⟩ = some (.slice B1 x.acts.length d1) ∧ w'.cell? ⟨w.heap.size + 1 + 1, 1, none⟩ = some (.slice B2 x.mail.length d2) ∧ w'.cell? ⟨w.heap.size + 1 + 1, 2, none⟩ = some (.int .i64 x.used.drop) ∧ w'.cell? ⟨w.heap.size + 1 + 1, 3, none⟩ = some (.int .i64 x.used.dup) ∧ w'.cell? ⟨w.heap.size + 1 + 1, 4, none⟩ = some (.int .i64 x.used.time) ∧ w'.cell? ⟨w.heap.size + 1 + 1, 5, none⟩ = some (.int .i64 x.used.crash) ∧ w'.cell? ⟨w3.heap.size, 0, none⟩ = some (.int .i64 (leftB b x.used).drop) ∧ w'.cell? ⟨w3.heap.size, 1, none⟩ = some (.int .i64 (leftB b x.used).dup) ∧ w'.cell? ⟨w3.heap.size, 2, none⟩ = some (.int .i64 (leftB b x.used).time) ∧ w'.cell? ⟨w3.heap.size, 3, none⟩ = some (.int .i64 (leftB b x.used).crash)) (by kernel_rfl) ?_ (fun hHeld => ?_)
 ·try dsimp only
  go_keep
 refine tKh (i := 0) (oi := ⟨some 64, .fieldAddr 36 (.tmp 7) 1, 0, "event.go:49", #[], none⟩) (v := ?_) (hy := .inl ⟨by rfl, ?_⟩) (h := ?_)
 rotate_left
 ·intro w hSw
  try dsimp only at hSw
  go_simp
  try with_reducible rfl
 try simp only [Act.put, sqA, sqB, sqC]
 refine tKh (i := 1) (oi := ⟨some 65, .load 34 (.tmp 64), 34, "event.go:49", #[⟨0, .data⟩], none⟩) (v := ?_) (hy := .inl ⟨by rfl, ?_⟩) (h := ?_)
 rotate_left
 ·intro w hSw
  try dsimp only at hSw
  go_simp
  try with_reducible rfl
 try simp only [Act.put, sqA, sqB, sqC]
 refine tKh (i := 2) (oi := ⟨some 66, .build 34 #[], 34, "event.go:49", #[], none⟩) (v := ?_) (hy := .inl ⟨by rfl, ?_⟩) (h := ?_)
 rotate_left
 ·intro w hSw
  try dsimp only at hSw
  go_simp
  try with_reducible rfl
 try simp only [Act.put, sqA, sqB, sqC]
 refine tKh (i := 3) (oi := ⟨some 67, .binOp .eql 34 (.tmp 65) (.tmp 66) 34, 4, "event.go:49", #[⟨1, .data⟩, ⟨2, .data⟩], none⟩) (v := ?_) (hy := .inl ⟨by rfl, ?_⟩) (h := ?_)
 rotate_left
 ·intro w hSw
  try dsimp only at hSw
  go_simp
  try with_reducible rfl
 try simp only [Act.put, sqA, sqB, sqC]
 refine tKh (i := 4) (oi := ⟨some 68, .move (.tmp 67), 4, "event.go:49", #[⟨3, .data⟩], none⟩) (v := ?_) (hy := .inl ⟨by rfl, ?_⟩) (h := ?_)
 rotate_left
 ·intro w hSw
  try dsimp only at hSw
  go_simp
  try with_reducible rfl
 try simp only [Act.put, sqA, sqB, sqC]
 refine tKh (i := 5) (oi := ⟨some 69, .move (.tmp 11), 4, "event.go:49", #[⟨4, .guard⟩], some (4, true)⟩) (v := ?_) (hy := .inl ⟨by rfl, ?_⟩) (h := ?_)
 rotate_left
 ·intro w hSw
  try dsimp only at hSw
  go_simp
  try with_reducible rfl
 try simp only [Act.put, sqA, sqB, sqC]
 refine tKh (i := 6) (oi := ⟨some 70, .pick (.tmp 68) (.tmp 69) (.const (.bool false)), 4, "event.go:49", #[⟨4, .data⟩, ⟨5, .data⟩], none⟩) (v := ?_) (hy := .inl ⟨by rfl, ?_⟩) (h := ?_)
 rotate_left
 ·intro w hSw
  try dsimp only at hSw
  go_simp
  try with_reducible rfl
 try simp only [Act.put, sqA, sqB, sqC]
 refine tKh (i := 7) (oi := ⟨some 71, .move (.tmp 70), 4, "event.go:49", #[⟨6, .data⟩, ⟨4, .chain⟩], none⟩) (v := ?_) (hy := .inl ⟨by rfl, ?_⟩) (h := ?_)
 rotate_left
 ·intro w hSw
  try dsimp only at hSw
  go_simp
  try with_reducible rfl
 try simp only [Act.put, sqA, sqB, sqC]
 refine tKh (i := 8) (oi := ⟨some 72, .load 28 (.tmp 9), 28, "event.go:49", #[⟨7, .guard⟩], some (7, true)⟩) (v := undef) (hy := .inr ⟨by rfl, rfl⟩) (h := ?_)
 try simp only [Act.put, sqA, sqB, sqC]
 refine tKh (i := 9) (oi := ⟨some 73, .fieldAddr 36 (.tmp 7) 0, 0, "event.go:49", #[⟨7, .guard⟩], some (7, true)⟩) (v := undef) (hy := .inr ⟨by rfl, rfl⟩) (h := ?_)
 try simp only [Act.put, sqA, sqB, sqC]
 refine tKh (i := 10) (oi := ⟨some 74, .load 3 (.tmp 73), 3, "event.go:49", #[⟨9, .data⟩, ⟨7, .guard⟩], some (7, true)⟩) (v := undef) (hy := .inr ⟨by rfl, rfl⟩) (h := ?_)
 try simp only [Act.put, sqA, sqB, sqC]
 refine tKh (i := 11) (oi := ⟨some 75, .fieldAddr 32 (.tmp 6) 0, 0, "event.go:49", #[⟨7, .guard⟩], some (7, true)⟩) (v := undef) (hy := .inr ⟨by rfl, rfl⟩) (h := ?_)
 try simp only [Act.put, sqA, sqB, sqC]
 refine tKh (i := 12) (oi := ⟨some 76, .load 29 (.tmp 75), 29, "event.go:49", #[⟨11, .data⟩, ⟨7, .guard⟩], some (7, true)⟩) (v := undef) (hy := .inr ⟨by rfl, rfl⟩) (h := ?_)
 try simp only [Act.put, sqA, sqB, sqC]
 refine tKh (i := 13) (oi := ⟨some 77, .fieldAddr 36 (.tmp 7) 2, 0, "event.go:49", #[⟨7, .guard⟩], some (7, true)⟩) (v := undef) (hy := .inr ⟨by rfl, rfl⟩) (h := ?_)
 try simp only [Act.put, sqA, sqB, sqC]
 refine tKh (i := 14) (oi := ⟨some 78, .load 3 (.tmp 77), 3, "event.go:49", #[⟨13, .data⟩, ⟨7, .guard⟩], some (7, true)⟩) (v := undef) (hy := .inr ⟨by rfl, rfl⟩) (h := ?_)
 try simp only [Act.put, sqA, sqB, sqC]
 refine tKh (i := 15) (oi := ⟨some 79, .indexAddr 29 (.tmp 76) (.tmp 78), 0, "event.go:49", #[⟨12, .data⟩, ⟨14, .data⟩, ⟨7, .guard⟩], some (7, true)⟩) (v := undef) (hy := .inr ⟨by rfl, rfl⟩) (h := ?_)
 try simp only [Act.put, sqA, sqB, sqC]
 refine tKh (i := 16) (oi := ⟨some 80, .load 56 (.tmp 79), 56, "event.go:49", #[⟨15, .data⟩, ⟨7, .guard⟩], some (7, true)⟩) (v := undef) (hy := .inr ⟨by rfl, rfl⟩) (h := ?_)
 try simp only [Act.put, sqA, sqB, sqC]
 refine wpAnyH_ready (rs := [17]) (by kernel_rfl) (by simp) ?_
 refine AllReadyH.cons (o := ⟨some 81, .call { callee := .value (.func 61), args := #[.tmp 72, .tmp 74, .tmp 80], argTypes := #[28, 3, 56] }, 4, "event.go:49", #[⟨8, .data⟩, ⟨10, .data⟩, ⟨16, .data⟩, ⟨7, .chain⟩, ⟨7, .guard⟩], some (7, true)⟩) rfl (fun K hK => ?_) AllReadyH.nil
 go_simp
 refine hK.out _ _ ?_ (fun hHeld => ?_)
 ·try dsimp only
  go_keep
 clear hK K
 try simp only [Act.put, sqA, sqB, sqC]
 refine tKh (i := 18) (oi := ⟨some 82, .pick (.tmp 71) (.tmp 81) (.const (.bool false)), 4, "event.go:49", #[⟨7, .data⟩, ⟨17, .data⟩], none⟩) (v := ?_) (hy := .inl ⟨by rfl, ?_⟩) (h := ?_)
 rotate_left
 ·intro w hSw
  try dsimp only at hSw
  go_simp
  try with_reducible rfl
 try simp only [Act.put, sqA, sqB, sqC]
 refine tKh (i := 19) (oi := ⟨some 8, .assign (.tmp 82), 4, "event.go:49", #[⟨18, .data⟩, ⟨17, .chain⟩, ⟨0, .phase⟩, ⟨1, .phase⟩, ⟨2, .phase⟩, ⟨3, .phase⟩, ⟨4, .phase⟩, ⟨5, .phase⟩, ⟨6, .phase⟩, ⟨7, .phase⟩, ⟨8, .phase⟩, ⟨9, .phase⟩, ⟨10, .phase⟩, ⟨11, .phase⟩, ⟨12, .phase⟩, ⟨13, .phase⟩, ⟨14, .phase⟩, ⟨15, .phase⟩, ⟨16, .phase⟩, ⟨17, .phase⟩, ⟨18, .phase⟩], none⟩) (v := ?_) (hy := .inl ⟨by rfl, ?_⟩) (h := ?_)
 rotate_left
 ·intro w hSw
  try dsimp only at hSw
  go_simp
  try with_reducible rfl
 try simp only [Act.put, sqA, sqB, sqC]
 refine wpAnyH_done (by kernel_rfl) ?_ _
 go_wp2_with fail
 go_ret
 exact ⟨ret_b HR.out, bTrans HL5.out (by first | exact hbb | exact hbb.drew)⟩
set_option maxHeartbeats 8000000 in
set_option maxRecDepth 100000 in
theorem is_a4e (w : World) (vp vw : Value) (p : PPrg) (b : PBud) (x : PWld) (f n c : Int) (k : Nat) (ht : Tab w) (hp : PrgV w vp p) (hx : WldV w vw x) (hf : fitsP p b x = true) (hz : (⟨f, n, c⟩ : PID) = ⟨0, 0, 0⟩) (hlt : k < x.acts.length) :
  Calls Tryz.prog 23 #[vp, uVal b, vw, eVal ⟨4, ⟨f, n, c⟩, (k : Int)⟩] w fun e w' => e = .returned (.bool (isP p b x ⟨4, ⟨f, n, c⟩, (k : Int)⟩)) ∧ Below w.heap.size w w' := by
 have HP := hid_mk hp
 have HX := hid_mk hx
 have HT := hid_mk ht
 obtain ⟨vh, vb, vc, rfl, h1, h2, h3⟩ := hp
 obtain ⟨A1, c1, rfl, _⟩ := h1.form
 obtain ⟨A2, c2, rfl, _⟩ := h2.form
 obtain ⟨A3, c3, rfl, _⟩ := h3.form
 obtain ⟨va, vm, rfl, g1, g2⟩ := hx
 obtain ⟨B1, d1, rfl, _⟩ := g1.form
 obtain ⟨B2, d2, rfl, _⟩ := g2.form
 have HG1 := hid_mk g1
 have HG2 := hid_mk g2
 have hsd : sameD ⟨f, n, c⟩ ⟨0, 0, 0⟩ = true := sameD_yes hz
 obtain ⟨ba, oa, a, v, rfl, ha, hmlt, j1, j2, j3, j4, j5, hv⟩ := g1.cell (bRefl w) (k := k) (by omega)
 obtain ⟨A6, c6, rfl, _⟩ := hv.form
 have HR : Hid (ofA (leftB b x.used) 4 a = isP p b x ⟨4, ⟨f, n, c⟩, (k : Int)⟩) := isP_A (p := p) (b := b) (e := ⟨4, ⟨f, n, c⟩, (k : Int)⟩) hf (by simp) (by unfold isA; dsimp only; rw [hz, Int.toNat_natCast, show x.acts.getD k default = a by rw [List.getD_eq_getElem?_getD, ha]; rfl]; simp [hlt])
 have hki : (k : Int) < x.acts.length := by omega
 have hk0 : (0 : Int) ≤ k := by omega
 clear ha hv hz
 clear h1 h2 h3 g1 g2 ht
 have hgD := gD
 go_enter Tryz.func23, Tryz.ntmps23
 go_wp2_with fail
 obtain ⟨k0, k1, k2, k3, k4⟩ := four_new w (.cells #[.slice A1 p.hs.length c1, .slice A2 p.acs.length c2, .slice A3 p.bs.length c3, .int .i64 p.fuel] 26) (.cells #[.int .i64 b.drop, .int .i64 b.dup, .int .i64 b.time, .int .i64 b.crash] 28) (.cells #[.slice (some ⟨ba, oa, none⟩) x.acts.length d1, .slice B2 x.mail.length d2, .int .i64 x.used.drop, .int .i64 x.used.dup, .int .i64 x.used.time, .int .i64 x.used.crash] 32) (.cells #[.int .i64 4, .int .i64 f, .int .i64 n, .int .i64 c, .int .i64 (k : Int)] 36)
 have HL : Hid (Below w.heap.size w ((((w.alloc (.cells #[.slice A1 p.hs.length c1, .slice A2 p.acs.length c2, .slice A3 p.bs.length c3, .int .i64 p.fuel] 26)).alloc (.cells #[.int .i64 b.drop, .int .i64 b.dup, .int .i64 b.time, .int .i64 b.crash] 28)).alloc (.cells #[.slice (some ⟨ba, oa, none⟩) x.acts.length d1, .slice B2 x.mail.length d2, .int .i64 x.used.drop, .int .i64 x.used.dup, .int .i64 x.used.time, .int .i64 x.used.crash] 32)).alloc (.cells #[.int .i64 4, .int .i64 f, .int .i64 n, .int .i64 c, .int .i64 (k : Int)] 36))) := bAlloc (bAlloc (bAlloc (bAlloc (bRefl _) _) _) _) _
 generalize ((((w.alloc (.cells #[.slice A1 p.hs.length c1, .slice A2 p.acs.length c2, .slice A3 p.bs.length c3, .int .i64 p.fuel] 26)).alloc (.cells #[.int .i64 b.drop, .int .i64 b.dup, .int .i64 b.time, .int .i64 b.crash] 28)).alloc (.cells #[.slice (some ⟨ba, oa, none⟩) x.acts.length d1, .slice B2 x.mail.length d2, .int .i64 x.used.drop, .int .i64 x.used.dup, .int .i64 x.used.time, .int .i64 x.used.crash] 32)).alloc (.cells #[.int .i64 4, .int .i64 f, .int .i64 n, .int .i64 c, .int .i64 (k : Int)] 36)) = w1 at k0 k1 k2 k3 k4 HL ⊢
 refine (fits_any _ _ _ p b x (HT.out.below HL.out) (HP.out.below HL.out) (HX.out.below HL.out)).mono ?_
 rintro e w2 ⟨rfl, hb2⟩
 replace k0 := boxAt k0 hb2
 replace k1 := boxAt k1 hb2
 replace k2 := boxAt k2 hb2
 replace k3 := boxAt k3 hb2
 have HL2 := hid_mk (bTrans HL.out hb2)
 obtain ⟨b0, b1, b2, b3⟩ := blk4 k1
 obtain ⟨x0, x1, x2, x3, x4, x5⟩ := blk6 k2
 obtain ⟨e0, e1, e2, e3, e4⟩ := blk5 k3
 clear k4 HL hb2
 go_wp2_with fail
 refine (left_any _ b x.used _ _ _ _ _ _).mono ?_
 rintro e w3 ⟨rfl, hb3⟩
 have hbx : Below w2.heap.size w2 (w3.alloc (.cells #[.int .i64 (leftB b x.used).drop, .int .i64 (leftB b x.used).dup, .int .i64 (leftB b x.used).time, .int .i64 (leftB b x.used).crash] 28)) := bAlloc hb3 _
 have hK := heap_new w3 (.cells #[.int .i64 (leftB b x.used).drop, .int .i64 (leftB b x.used).dup, .int .i64 (leftB b x.used).time, .int .i64 (leftB b x.used).crash] 28)
 replace k0 := boxAt k0 hbx
 replace k2 := boxAt k2 hbx
 replace k3 := boxAt k3 hbx
 have HL3 := hid_mk (bTrans HL2.out hbx)
 clear k1 b0 b1 b2 b3 x0 x1 x2 x3 x4 x5 e0 e1 e2 e3 e4 HL2 hb3 hbx
 obtain ⟨x0, x1, x2, x3, x4, x5⟩ := blk6 k2
 obtain ⟨e0, e1, e2, e3, e4⟩ := blk5 k3
 obtain ⟨l0, l1, l2, l3⟩ := blk4 hK
 replace j1 := (HL3.out.cell (p := ⟨ba, _, none⟩) hmlt).trans j1
 replace j2 := (HL3.out.cell (p := ⟨ba, _, none⟩) hmlt).trans j2
 replace j3 := (HL3.out.cell (p := ⟨ba, _, none⟩) hmlt).trans j3
 replace j4 := (HL3.out.cell (p := ⟨ba, _, none⟩) hmlt).trans j4
 replace j5 := (HL3.out.cell (p := ⟨ba, _, none⟩) hmlt).trans j5
 go_wp2_with fail
 generalize w3.alloc (.cells #[.int .i64 (leftB b x.used).drop, .int .i64 (leftB b x.used).dup, .int .i64 (leftB b x.used).time, .int .i64 (leftB b x.used).crash] 28) = w4 at k0 k2 k3 hK HL3 x0 x1 x2 x3 x4 x5 e0 e1 e2 e3 e4 l0 l1 l2 l3 j1 j2 j3 j4 j5 ⊢
 have HL5 := HL3
 have s2 := (Array.getElem?_eq_some_iff.1 k2).1
 have s3 := (Array.getElem?_eq_some_iff.1 k3).1
 have s4 := (Array.getElem?_eq_some_iff.1 hK).1
 have hbb : Below w4.heap.size w4 w4 := bRefl w4
 have hs5 : ba < w4.heap.size := Nat.lt_of_lt_of_le hmlt HL5.out.size
 clear k0 k2 k3 hK HL3
 refine wp_region_held_drew (S := fun w' => w'.cell? ⟨w.heap.size + 1 + 1 + 1, 0, none⟩ = some (.int .i64 4) ∧ w'.cell? ⟨w.heap.size + 1 + 1 + 1, 1, none⟩ = some (.int .i64 f) ∧ w'.cell? ⟨w.heap.size + 1 + 1 + 1, 2, none⟩ = some (.int .i64 n) ∧ w'.cell? ⟨w.heap.size + 1 + 1 + 1, 3, none⟩ = some (.int .i64 c) ∧ w'.cell? ⟨w.heap.size + 1 + 1 + 1, 4, none⟩ = some (.int .i64 (k : Int)) ∧ w'.cell? ⟨w.heap.size + 1 + 1, 0, none⟩ = some (.slice (some ⟨ba, oa, none⟩) x.acts.length d1) ∧ w'.cell? ⟨w.heap.size + 1 + 1, 1, none⟩ = some (.slice B2 x.mail.length d2) ∧ w'.cell? ⟨w.heap.size + 1 + 1, 2, none⟩ = some (.int .i64 x.used.drop) ∧ w'.cell? ⟨w.heap.size + 1 + 1, 3, none⟩ = some (.int .i64 x.used.dup) ∧ w'.cell? ⟨w.heap.size + 1 + 1, 4, none⟩ = some (.int .i64 x.used.time) ∧ w'.cell? ⟨w.heap.size + 1 + 1, 5, none⟩ = some (.int .i64 x.used.crash) ∧ w'.cell? ⟨w3.heap.size, 0, none⟩ = some (.int .i64 (leftB b x.used).drop) ∧ w'.cell? ⟨w3.heap.size, 1, none⟩ = some (.int .i64 (leftB b x.used).dup) ∧ w'.cell? ⟨w3.heap.size, 2, none⟩ = some (.int .i64 (leftB b x.used).time) ∧ w'.cell? ⟨w3.heap.size, 3, none⟩ = some (.int .i64 (leftB b x.used).crash) ∧ w'.cell? ⟨ba, oa + k * 5, none⟩ = some (.slice A6 a.regs.length c6) ∧ w'.cell? ⟨ba, oa + k * 5 + 1, none⟩ = some (.bool a.armed) ∧ w'.cell? ⟨ba, oa + k * 5 + 2, none⟩ = some (.int .i64 a.down) ∧ w'.cell? ⟨ba, oa + k * 5 + 3, none⟩ = some (.int .i64 a.sent) ∧ w'.cell? ⟨ba, oa + k * 5 + 4, none⟩ = some (.int .i64 a.over)) (by kernel_rfl) ?_ (fun hHeld => ?_)
 ·try dsimp only
  go_keep
 refine tKh (i := 0) (oi := ⟨some 64, .fieldAddr 36 (.tmp 7) 1, 0, "event.go:49", #[], none⟩) (v := ?_) (hy := .inl ⟨by rfl, ?_⟩) (h := ?_)
 rotate_left
 ·intro w hSw
  try dsimp only at hSw
  go_simp
  try with_reducible rfl
 try simp only [Act.put, sqA, sqB, sqC]
 refine tKh (i := 1) (oi := ⟨some 65, .load 34 (.tmp 64), 34, "event.go:49", #[⟨0, .data⟩], none⟩) (v := ?_) (hy := .inl ⟨by rfl, ?_⟩) (h := ?_)
 rotate_left
 ·intro w hSw
  try dsimp only at hSw
  go_simp
  try with_reducible rfl
 try simp only [Act.put, sqA, sqB, sqC]
 refine tKh (i := 2) (oi := ⟨some 66, .build 34 #[], 34, "event.go:49", #[], none⟩) (v := ?_) (hy := .inl ⟨by rfl, ?_⟩) (h := ?_)
 rotate_left
 ·intro w hSw
  try dsimp only at hSw
  go_simp
  try with_reducible rfl
 try simp only [Act.put, sqA, sqB, sqC]
 refine tKh (i := 3) (oi := ⟨some 67, .binOp .eql 34 (.tmp 65) (.tmp 66) 34, 4, "event.go:49", #[⟨1, .data⟩, ⟨2, .data⟩], none⟩) (v := ?_) (hy := .inl ⟨by rfl, ?_⟩) (h := ?_)
 rotate_left
 ·intro w hSw
  try dsimp only at hSw
  go_simp
  try with_reducible rfl
 try simp only [Act.put, sqA, sqB, sqC]
 refine tKh (i := 4) (oi := ⟨some 68, .move (.tmp 67), 4, "event.go:49", #[⟨3, .data⟩], none⟩) (v := ?_) (hy := .inl ⟨by rfl, ?_⟩) (h := ?_)
 rotate_left
 ·intro w hSw
  try dsimp only at hSw
  go_simp
  try with_reducible rfl
 try simp only [Act.put, sqA, sqB, sqC]
 refine tKh (i := 5) (oi := ⟨some 69, .move (.tmp 11), 4, "event.go:49", #[⟨4, .guard⟩], some (4, true)⟩) (v := ?_) (hy := .inl ⟨by rfl, ?_⟩) (h := ?_)
 rotate_left
 ·intro w hSw
  try dsimp only at hSw
  go_simp
  try with_reducible rfl
 try simp only [Act.put, sqA, sqB, sqC]
 refine tKh (i := 6) (oi := ⟨some 70, .pick (.tmp 68) (.tmp 69) (.const (.bool false)), 4, "event.go:49", #[⟨4, .data⟩, ⟨5, .data⟩], none⟩) (v := ?_) (hy := .inl ⟨by rfl, ?_⟩) (h := ?_)
 rotate_left
 ·intro w hSw
  try dsimp only at hSw
  go_simp
  try with_reducible rfl
 try simp only [Act.put, sqA, sqB, sqC]
 refine tKh (i := 7) (oi := ⟨some 71, .move (.tmp 70), 4, "event.go:49", #[⟨6, .data⟩, ⟨4, .chain⟩], none⟩) (v := ?_) (hy := .inl ⟨by rfl, ?_⟩) (h := ?_)
 rotate_left
 ·intro w hSw
  try dsimp only at hSw
  go_simp
  try with_reducible rfl
 try simp only [Act.put, sqA, sqB, sqC]
 refine tKh (i := 8) (oi := ⟨some 72, .load 28 (.tmp 9), 28, "event.go:49", #[⟨7, .guard⟩], some (7, true)⟩) (v := ?_) (hy := .inl ⟨by rfl, ?_⟩) (h := ?_)
 rotate_left
 ·intro w hSw
  try dsimp only at hSw
  go_simp
  try with_reducible rfl
 try simp only [Act.put, sqA, sqB, sqC]
 refine tKh (i := 9) (oi := ⟨some 73, .fieldAddr 36 (.tmp 7) 0, 0, "event.go:49", #[⟨7, .guard⟩], some (7, true)⟩) (v := ?_) (hy := .inl ⟨by rfl, ?_⟩) (h := ?_)
 rotate_left
 ·intro w hSw
  try dsimp only at hSw
  go_simp
  try with_reducible rfl
 try simp only [Act.put, sqA, sqB, sqC]
 refine tKh (i := 10) (oi := ⟨some 74, .load 3 (.tmp 73), 3, "event.go:49", #[⟨9, .data⟩, ⟨7, .guard⟩], some (7, true)⟩) (v := ?_) (hy := .inl ⟨by rfl, ?_⟩) (h := ?_)
 rotate_left
 ·intro w hSw
  try dsimp only at hSw
  go_simp
  try with_reducible rfl
 try simp only [Act.put, sqA, sqB, sqC]
 refine tKh (i := 11) (oi := ⟨some 75, .fieldAddr 32 (.tmp 6) 0, 0, "event.go:49", #[⟨7, .guard⟩], some (7, true)⟩) (v := ?_) (hy := .inl ⟨by rfl, ?_⟩) (h := ?_)
 rotate_left
 ·intro w hSw
  try dsimp only at hSw
  go_simp
  try with_reducible rfl
 try simp only [Act.put, sqA, sqB, sqC]
 refine tKh (i := 12) (oi := ⟨some 76, .load 29 (.tmp 75), 29, "event.go:49", #[⟨11, .data⟩, ⟨7, .guard⟩], some (7, true)⟩) (v := ?_) (hy := .inl ⟨by rfl, ?_⟩) (h := ?_)
 rotate_left
 ·intro w hSw
  try dsimp only at hSw
  go_simp
  try with_reducible rfl
 try simp only [Act.put, sqA, sqB, sqC]
 refine tKh (i := 13) (oi := ⟨some 77, .fieldAddr 36 (.tmp 7) 2, 0, "event.go:49", #[⟨7, .guard⟩], some (7, true)⟩) (v := ?_) (hy := .inl ⟨by rfl, ?_⟩) (h := ?_)
 rotate_left
 ·intro w hSw
  try dsimp only at hSw
  go_simp
  try with_reducible rfl
 try simp only [Act.put, sqA, sqB, sqC]
 refine tKh (i := 14) (oi := ⟨some 78, .load 3 (.tmp 77), 3, "event.go:49", #[⟨13, .data⟩, ⟨7, .guard⟩], some (7, true)⟩) (v := ?_) (hy := .inl ⟨by rfl, ?_⟩) (h := ?_)
 rotate_left
 ·intro w hSw
  try dsimp only at hSw
  go_simp
  try with_reducible rfl
 try simp only [Act.put, sqA, sqB, sqC]
 refine tKh (i := 15) (oi := ⟨some 79, .indexAddr 29 (.tmp 76) (.tmp 78), 0, "event.go:49", #[⟨12, .data⟩, ⟨14, .data⟩, ⟨7, .guard⟩], some (7, true)⟩) (v := ?_) (hy := .inl ⟨by rfl, ?_⟩) (h := ?_)
 rotate_left
 ·intro w hSw
  try dsimp only at hSw
  go_simp
  try with_reducible rfl
 try simp only [Act.put, sqA, sqB, sqC]
 refine tKh (i := 16) (oi := ⟨some 80, .load 56 (.tmp 79), 56, "event.go:49", #[⟨15, .data⟩, ⟨7, .guard⟩], some (7, true)⟩) (v := ?_) (hy := .inl ⟨by rfl, ?_⟩) (h := ?_)
 rotate_left
 ·intro w hSw
  try dsimp only at hSw
  go_simp
  try with_reducible rfl
 try simp only [Act.put, sqA, sqB, sqC]
 refine wpAnyH_ready (rs := [17]) (by kernel_rfl) (by simp) ?_
 refine AllReadyH.cons (o := ⟨some 81, .call { callee := .value (.func 61), args := #[.tmp 72, .tmp 74, .tmp 80], argTypes := #[28, 3, 56] }, 4, "event.go:49", #[⟨8, .data⟩, ⟨10, .data⟩, ⟨16, .data⟩, ⟨7, .chain⟩, ⟨7, .guard⟩], some (7, true)⟩) rfl (fun K hK => ?_) AllReadyH.nil
 go_simp
 (go_at_call 61; refine (ofAct_any _ (leftB b x.used) 4 a _ _ _).mono ?_; rintro e w7 ⟨rfl, hb7⟩; have hc7 := (by first | exact bcell (undrew hb7) | exact bcell hb7); replace hbb := bTrans (by first | exact hbb | exact hbb.drew) hb7; clear hb7)
 try (go_wp2_with fail)
 refine hK.out _ _ ?_ (fun hHeld => ?_)
 ·try dsimp only
  go_keep
 clear hK K
 try simp only [Act.put, sqA, sqB, sqC]
 refine tKh (i := 18) (oi := ⟨some 82, .pick (.tmp 71) (.tmp 81) (.const (.bool false)), 4, "event.go:49", #[⟨7, .data⟩, ⟨17, .data⟩], none⟩) (v := ?_) (hy := .inl ⟨by rfl, ?_⟩) (h := ?_)
 rotate_left
 ·intro w hSw
  try dsimp only at hSw
  go_simp
  try with_reducible rfl
 try simp only [Act.put, sqA, sqB, sqC]
 refine tKh (i := 19) (oi := ⟨some 8, .assign (.tmp 82), 4, "event.go:49", #[⟨18, .data⟩, ⟨17, .chain⟩, ⟨0, .phase⟩, ⟨1, .phase⟩, ⟨2, .phase⟩, ⟨3, .phase⟩, ⟨4, .phase⟩, ⟨5, .phase⟩, ⟨6, .phase⟩, ⟨7, .phase⟩, ⟨8, .phase⟩, ⟨9, .phase⟩, ⟨10, .phase⟩, ⟨11, .phase⟩, ⟨12, .phase⟩, ⟨13, .phase⟩, ⟨14, .phase⟩, ⟨15, .phase⟩, ⟨16, .phase⟩, ⟨17, .phase⟩, ⟨18, .phase⟩], none⟩) (v := ?_) (hy := .inl ⟨by rfl, ?_⟩) (h := ?_)
 rotate_left
 ·intro w hSw
  try dsimp only at hSw
  go_simp
  try with_reducible rfl
 try simp only [Act.put, sqA, sqB, sqC]
 refine wpAnyH_done (by kernel_rfl) ?_ _
 go_wp2_with fail
 go_ret
 exact ⟨ret_b HR.out, bTrans HL5.out (by first | exact hbb | exact hbb.drew)⟩
set_option maxHeartbeats 8000000 in
set_option maxRecDepth 100000 in
theorem is_a5a (w : World) (vp vw : Value) (p : PPrg) (b : PBud) (x : PWld) (f n c who : Int) (ht : Tab w) (hp : PrgV w vp p) (hx : WldV w vw x) (hf : fitsP p b x = true) (hz : (⟨f, n, c⟩ : PID) ≠ ⟨0, 0, 0⟩) (hw : 0 ≤ who) :
  Calls Tryz.prog 23 #[vp, uVal b, vw, eVal ⟨5, ⟨f, n, c⟩, who⟩] w fun e w' => e = .returned (.bool (isP p b x ⟨5, ⟨f, n, c⟩, who⟩)) ∧ Below w.heap.size w w' := by
 have HP := hid_mk hp
 have HX := hid_mk hx
 have HT := hid_mk ht
 obtain ⟨vh, vb, vc, rfl, h1, h2, h3⟩ := hp
 obtain ⟨A1, c1, rfl, _⟩ := h1.form
 obtain ⟨A2, c2, rfl, _⟩ := h2.form
 obtain ⟨A3, c3, rfl, _⟩ := h3.form
 obtain ⟨va, vm, rfl, g1, g2⟩ := hx
 obtain ⟨B1, d1, rfl, _⟩ := g1.form
 obtain ⟨B2, d2, rfl, _⟩ := g2.form
 have HG1 := hid_mk g1
 have HG2 := hid_mk g2
 have HR := hid_mk (isP_A (p := p) (b := b) (e := ⟨5, ⟨f, n, c⟩, who⟩) hf (by simp) (by unfold isA; rw [decide_eq_false hz]; first | done | rfl))
 have hsd : sameD ⟨f, n, c⟩ ⟨0, 0, 0⟩ = false := sameD_no hz
 clear hz
 clear h1 h2 h3 g1 g2 ht
 have hgD := gD
 go_enter Tryz.func23, Tryz.ntmps23
 go_wp2_with fail
 obtain ⟨k0, k1, k2, k3, k4⟩ := four_new w (.cells #[.slice A1 p.hs.length c1, .slice A2 p.acs.length c2, .slice A3 p.bs.length c3, .int .i64 p.fuel] 26) (.cells #[.int .i64 b.drop, .int .i64 b.dup, .int .i64 b.time, .int .i64 b.crash] 28) (.cells #[.slice B1 x.acts.length d1, .slice B2 x.mail.length d2, .int .i64 x.used.drop, .int .i64 x.used.dup, .int .i64 x.used.time, .int .i64 x.used.crash] 32) (.cells #[.int .i64 5, .int .i64 f, .int .i64 n, .int .i64 c, .int .i64 who] 36)
 have HL : Hid (Below w.heap.size w ((((w.alloc (.cells #[.slice A1 p.hs.length c1, .slice A2 p.acs.length c2, .slice A3 p.bs.length c3, .int .i64 p.fuel] 26)).alloc (.cells #[.int .i64 b.drop, .int .i64 b.dup, .int .i64 b.time, .int .i64 b.crash] 28)).alloc (.cells #[.slice B1 x.acts.length d1, .slice B2 x.mail.length d2, .int .i64 x.used.drop, .int .i64 x.used.dup, .int .i64 x.used.time, .int .i64 x.used.crash] 32)).alloc (.cells #[.int .i64 5, .int .i64 f, .int .i64 n, .int .i64 c, .int .i64 who] 36))) := bAlloc (bAlloc (bAlloc (bAlloc (bRefl _) _) _) _) _
 generalize ((((w.alloc (.cells #[.slice A1 p.hs.length c1, .slice A2 p.acs.length c2, .slice A3 p.bs.length c3, .int .i64 p.fuel] 26)).alloc (.cells #[.int .i64 b.drop, .int .i64 b.dup, .int .i64 b.time, .int .i64 b.crash] 28)).alloc (.cells #[.slice B1 x.acts.length d1, .slice B2 x.mail.length d2, .int .i64 x.used.drop, .int .i64 x.used.dup, .int .i64 x.used.time, .int .i64 x.used.crash] 32)).alloc (.cells #[.int .i64 5, .int .i64 f, .int .i64 n, .int .i64 c, .int .i64 who] 36)) = w1 at k0 k1 k2 k3 k4 HL ⊢
 refine (fits_any _ _ _ p b x (HT.out.below HL.out) (HP.out.below HL.out) (HX.out.below HL.out)).mono ?_
 rintro e w2 ⟨rfl, hb2⟩
 replace k0 := boxAt k0 hb2
 replace k1 := boxAt k1 hb2
 replace k2 := boxAt k2 hb2
 replace k3 := boxAt k3 hb2
 have HL2 := hid_mk (bTrans HL.out hb2)
 obtain ⟨b0, b1, b2, b3⟩ := blk4 k1
 obtain ⟨x0, x1, x2, x3, x4, x5⟩ := blk6 k2
 obtain ⟨e0, e1, e2, e3, e4⟩ := blk5 k3
 clear k4 HL hb2
 go_wp2_with fail
 refine (left_any _ b x.used _ _ _ _ _ _).mono ?_
 rintro e w3 ⟨rfl, hb3⟩
 have hbx : Below w2.heap.size w2 (w3.alloc (.cells #[.int .i64 (leftB b x.used).drop, .int .i64 (leftB b x.used).dup, .int .i64 (leftB b x.used).time, .int .i64 (leftB b x.used).crash] 28)) := bAlloc hb3 _
 have hK := heap_new w3 (.cells #[.int .i64 (leftB b x.used).drop, .int .i64 (leftB b x.used).dup, .int .i64 (leftB b x.used).time, .int .i64 (leftB b x.used).crash] 28)
 replace k0 := boxAt k0 hbx
 replace k2 := boxAt k2 hbx
 replace k3 := boxAt k3 hbx
 have HL3 := hid_mk (bTrans HL2.out hbx)
 clear k1 b0 b1 b2 b3 x0 x1 x2 x3 x4 x5 e0 e1 e2 e3 e4 HL2 hb3 hbx
 obtain ⟨x0, x1, x2, x3, x4, x5⟩ := blk6 k2
 obtain ⟨e0, e1, e2, e3, e4⟩ := blk5 k3
 obtain ⟨l0, l1, l2, l3⟩ := blk4 hK
 go_wp2_with fail
 generalize w3.alloc (.cells #[.int .i64 (leftB b x.used).drop, .int .i64 (leftB b x.used).dup, .int .i64 (leftB b x.used).time, .int .i64 (leftB b x.used).crash] 28) = w4 at k0 k2 k3 hK HL3 x0 x1 x2 x3 x4 x5 e0 e1 e2 e3 e4 l0 l1 l2 l3 ⊢
 have HL5 := HL3
 have s2 := (Array.getElem?_eq_some_iff.1 k2).1
 have s3 := (Array.getElem?_eq_some_iff.1 k3).1
 have s4 := (Array.getElem?_eq_some_iff.1 hK).1
 have hbb : Below w4.heap.size w4 w4 := bRefl w4
 clear k0 k2 k3 hK HL3
 refine wp_region_held_drew (S := fun w' => w'.cell? ⟨w.heap.size + 1 + 1 + 1, 0, none⟩ = some (.int .i64 5) ∧ w'.cell? ⟨w.heap.size + 1 + 1 + 1, 1, none⟩ = some (.int .i64 f) ∧ w'.cell? ⟨w.heap.size + 1 + 1 + 1, 2, none⟩ = some (.int .i64 n) ∧ w'.cell? ⟨w.heap.size + 1 + 1 + 1, 3, none⟩ = some (.int .i64 c) ∧ w'.cell? ⟨w.heap.size + 1 + 1 + 1, 4, none⟩ = some (.int .i64 who) ∧ w'.cell? ⟨w.heap.size + 1 + 1, 0, none⟩ = some (.slice B1 x.acts.length d1) ∧ w'.cell? ⟨w.heap.size + 1 + 1, 1, none⟩ = some (.slice B2 x.mail.length d2) ∧ w'.cell? ⟨w.heap.size + 1 + 1, 2, none⟩ = some (.int .i64 x.used.drop) ∧ w'.cell? ⟨w.heap.size + 1 + 1, 3, none⟩ = some (.int .i64 x.used.dup) ∧ w'.cell? ⟨w.heap.size + 1 + 1, 4, none⟩ = some (.int .i64 x.used.time) ∧ w'.cell? ⟨w.heap.size + 1 + 1, 5, none⟩ = some (.int .i64 x.used.crash) ∧ w'.cell? ⟨w3.heap.size, 0, none⟩ = some (.int .i64 (leftB b x.used).drop) ∧ w'.cell? ⟨w3.heap.size, 1, none⟩ = some (.int .i64 (leftB b x.used).dup) ∧ w'.cell? ⟨w3.heap.size, 2, none⟩ = some (.int .i64 (leftB b x.used).time) ∧ w'.cell? ⟨w3.heap.size, 3, none⟩ = some (.int .i64 (leftB b x.used).crash)) (by kernel_rfl) ?_ (fun hHeld => ?_)
 ·try dsimp only
  go_keep
 refine tKh (i := 0) (oi := ⟨some 64, .fieldAddr 36 (.tmp 7) 1, 0, "event.go:49", #[], none⟩) (v := ?_) (hy := .inl ⟨by rfl, ?_⟩) (h := ?_)
 rotate_left
 ·intro w hSw
  try dsimp only at hSw
  go_simp
  try with_reducible rfl
 try simp only [Act.put, sqA, sqB, sqC]
 refine tKh (i := 1) (oi := ⟨some 65, .load 34 (.tmp 64), 34, "event.go:49", #[⟨0, .data⟩], none⟩) (v := ?_) (hy := .inl ⟨by rfl, ?_⟩) (h := ?_)
 rotate_left
 ·intro w hSw
  try dsimp only at hSw
  go_simp
  try with_reducible rfl
 try simp only [Act.put, sqA, sqB, sqC]
 refine tKh (i := 2) (oi := ⟨some 66, .build 34 #[], 34, "event.go:49", #[], none⟩) (v := ?_) (hy := .inl ⟨by rfl, ?_⟩) (h := ?_)
 rotate_left
 ·intro w hSw
  try dsimp only at hSw
  go_simp
  try with_reducible rfl
 try simp only [Act.put, sqA, sqB, sqC]
 refine tKh (i := 3) (oi := ⟨some 67, .binOp .eql 34 (.tmp 65) (.tmp 66) 34, 4, "event.go:49", #[⟨1, .data⟩, ⟨2, .data⟩], none⟩) (v := ?_) (hy := .inl ⟨by rfl, ?_⟩) (h := ?_)
 rotate_left
 ·intro w hSw
  try dsimp only at hSw
  go_simp
  try with_reducible rfl
 try simp only [Act.put, sqA, sqB, sqC]
 refine tKh (i := 4) (oi := ⟨some 68, .move (.tmp 67), 4, "event.go:49", #[⟨3, .data⟩], none⟩) (v := ?_) (hy := .inl ⟨by rfl, ?_⟩) (h := ?_)
 rotate_left
 ·intro w hSw
  try dsimp only at hSw
  go_simp
  try with_reducible rfl
 try simp only [Act.put, sqA, sqB, sqC]
 refine tKh (i := 5) (oi := ⟨some 69, .move (.tmp 11), 4, "event.go:49", #[⟨4, .guard⟩], some (4, true)⟩) (v := undef) (hy := .inr ⟨by rfl, rfl⟩) (h := ?_)
 try simp only [Act.put, sqA, sqB, sqC]
 refine tKh (i := 6) (oi := ⟨some 70, .pick (.tmp 68) (.tmp 69) (.const (.bool false)), 4, "event.go:49", #[⟨4, .data⟩, ⟨5, .data⟩], none⟩) (v := ?_) (hy := .inl ⟨by rfl, ?_⟩) (h := ?_)
 rotate_left
 ·intro w hSw
  try dsimp only at hSw
  go_simp
  try with_reducible rfl
 try simp only [Act.put, sqA, sqB, sqC]
 refine tKh (i := 7) (oi := ⟨some 71, .move (.tmp 70), 4, "event.go:49", #[⟨6, .data⟩, ⟨4, .chain⟩], none⟩) (v := ?_) (hy := .inl ⟨by rfl, ?_⟩) (h := ?_)
 rotate_left
 ·intro w hSw
  try dsimp only at hSw
  go_simp
  try with_reducible rfl
 try simp only [Act.put, sqA, sqB, sqC]
 refine tKh (i := 8) (oi := ⟨some 72, .load 28 (.tmp 9), 28, "event.go:49", #[⟨7, .guard⟩], some (7, true)⟩) (v := undef) (hy := .inr ⟨by rfl, rfl⟩) (h := ?_)
 try simp only [Act.put, sqA, sqB, sqC]
 refine tKh (i := 9) (oi := ⟨some 73, .fieldAddr 36 (.tmp 7) 0, 0, "event.go:49", #[⟨7, .guard⟩], some (7, true)⟩) (v := undef) (hy := .inr ⟨by rfl, rfl⟩) (h := ?_)
 try simp only [Act.put, sqA, sqB, sqC]
 refine tKh (i := 10) (oi := ⟨some 74, .load 3 (.tmp 73), 3, "event.go:49", #[⟨9, .data⟩, ⟨7, .guard⟩], some (7, true)⟩) (v := undef) (hy := .inr ⟨by rfl, rfl⟩) (h := ?_)
 try simp only [Act.put, sqA, sqB, sqC]
 refine tKh (i := 11) (oi := ⟨some 75, .fieldAddr 32 (.tmp 6) 0, 0, "event.go:49", #[⟨7, .guard⟩], some (7, true)⟩) (v := undef) (hy := .inr ⟨by rfl, rfl⟩) (h := ?_)
 try simp only [Act.put, sqA, sqB, sqC]
 refine tKh (i := 12) (oi := ⟨some 76, .load 29 (.tmp 75), 29, "event.go:49", #[⟨11, .data⟩, ⟨7, .guard⟩], some (7, true)⟩) (v := undef) (hy := .inr ⟨by rfl, rfl⟩) (h := ?_)
 try simp only [Act.put, sqA, sqB, sqC]
 refine tKh (i := 13) (oi := ⟨some 77, .fieldAddr 36 (.tmp 7) 2, 0, "event.go:49", #[⟨7, .guard⟩], some (7, true)⟩) (v := undef) (hy := .inr ⟨by rfl, rfl⟩) (h := ?_)
 try simp only [Act.put, sqA, sqB, sqC]
 refine tKh (i := 14) (oi := ⟨some 78, .load 3 (.tmp 77), 3, "event.go:49", #[⟨13, .data⟩, ⟨7, .guard⟩], some (7, true)⟩) (v := undef) (hy := .inr ⟨by rfl, rfl⟩) (h := ?_)
 try simp only [Act.put, sqA, sqB, sqC]
 refine tKh (i := 15) (oi := ⟨some 79, .indexAddr 29 (.tmp 76) (.tmp 78), 0, "event.go:49", #[⟨12, .data⟩, ⟨14, .data⟩, ⟨7, .guard⟩], some (7, true)⟩) (v := undef) (hy := .inr ⟨by rfl, rfl⟩) (h := ?_)
 try simp only [Act.put, sqA, sqB, sqC]
 refine tKh (i := 16) (oi := ⟨some 80, .load 56 (.tmp 79), 56, "event.go:49", #[⟨15, .data⟩, ⟨7, .guard⟩], some (7, true)⟩) (v := undef) (hy := .inr ⟨by rfl, rfl⟩) (h := ?_)
 try simp only [Act.put, sqA, sqB, sqC]
 refine wpAnyH_ready (rs := [17]) (by kernel_rfl) (by simp) ?_
 refine AllReadyH.cons (o := ⟨some 81, .call { callee := .value (.func 61), args := #[.tmp 72, .tmp 74, .tmp 80], argTypes := #[28, 3, 56] }, 4, "event.go:49", #[⟨8, .data⟩, ⟨10, .data⟩, ⟨16, .data⟩, ⟨7, .chain⟩, ⟨7, .guard⟩], some (7, true)⟩) rfl (fun K hK => ?_) AllReadyH.nil
 go_simp
 refine hK.out _ _ ?_ (fun hHeld => ?_)
 ·try dsimp only
  go_keep
 clear hK K
 try simp only [Act.put, sqA, sqB, sqC]
 refine tKh (i := 18) (oi := ⟨some 82, .pick (.tmp 71) (.tmp 81) (.const (.bool false)), 4, "event.go:49", #[⟨7, .data⟩, ⟨17, .data⟩], none⟩) (v := ?_) (hy := .inl ⟨by rfl, ?_⟩) (h := ?_)
 rotate_left
 ·intro w hSw
  try dsimp only at hSw
  go_simp
  try with_reducible rfl
 try simp only [Act.put, sqA, sqB, sqC]
 refine tKh (i := 19) (oi := ⟨some 8, .assign (.tmp 82), 4, "event.go:49", #[⟨18, .data⟩, ⟨17, .chain⟩, ⟨0, .phase⟩, ⟨1, .phase⟩, ⟨2, .phase⟩, ⟨3, .phase⟩, ⟨4, .phase⟩, ⟨5, .phase⟩, ⟨6, .phase⟩, ⟨7, .phase⟩, ⟨8, .phase⟩, ⟨9, .phase⟩, ⟨10, .phase⟩, ⟨11, .phase⟩, ⟨12, .phase⟩, ⟨13, .phase⟩, ⟨14, .phase⟩, ⟨15, .phase⟩, ⟨16, .phase⟩, ⟨17, .phase⟩, ⟨18, .phase⟩], none⟩) (v := ?_) (hy := .inl ⟨by rfl, ?_⟩) (h := ?_)
 rotate_left
 ·intro w hSw
  try dsimp only at hSw
  go_simp
  try with_reducible rfl
 try simp only [Act.put, sqA, sqB, sqC]
 refine wpAnyH_done (by kernel_rfl) ?_ _
 go_wp2_with fail
 go_ret
 exact ⟨ret_b HR.out, bTrans HL5.out (by first | exact hbb | exact hbb.drew)⟩
set_option maxHeartbeats 8000000 in
set_option maxRecDepth 100000 in
theorem is_a5b (w : World) (vp vw : Value) (p : PPrg) (b : PBud) (x : PWld) (f n c who : Int) (ht : Tab w) (hp : PrgV w vp p) (hx : WldV w vw x) (hf : fitsP p b x = true) (hz : (⟨f, n, c⟩ : PID) ≠ ⟨0, 0, 0⟩) (hw : ¬ 0 ≤ who) :
  Calls Tryz.prog 23 #[vp, uVal b, vw, eVal ⟨5, ⟨f, n, c⟩, who⟩] w fun e w' => e = .returned (.bool (isP p b x ⟨5, ⟨f, n, c⟩, who⟩)) ∧ Below w.heap.size w w' := by
 have HP := hid_mk hp
 have HX := hid_mk hx
 have HT := hid_mk ht
 obtain ⟨vh, vb, vc, rfl, h1, h2, h3⟩ := hp
 obtain ⟨A1, c1, rfl, _⟩ := h1.form
 obtain ⟨A2, c2, rfl, _⟩ := h2.form
 obtain ⟨A3, c3, rfl, _⟩ := h3.form
 obtain ⟨va, vm, rfl, g1, g2⟩ := hx
 obtain ⟨B1, d1, rfl, _⟩ := g1.form
 obtain ⟨B2, d2, rfl, _⟩ := g2.form
 have HG1 := hid_mk g1
 have HG2 := hid_mk g2
 have HR := hid_mk (isP_A (p := p) (b := b) (e := ⟨5, ⟨f, n, c⟩, who⟩) hf (by simp) (by unfold isA; rw [decide_eq_false hz]; first | done | rfl))
 have hsd : sameD ⟨f, n, c⟩ ⟨0, 0, 0⟩ = false := sameD_no hz
 clear hz
 clear h1 h2 h3 g1 g2 ht
 have hgD := gD
 go_enter Tryz.func23, Tryz.ntmps23
 go_wp2_with fail
 obtain ⟨k0, k1, k2, k3, k4⟩ := four_new w (.cells #[.slice A1 p.hs.length c1, .slice A2 p.acs.length c2, .slice A3 p.bs.length c3, .int .i64 p.fuel] 26) (.cells #[.int .i64 b.drop, .int .i64 b.dup, .int .i64 b.time, .int .i64 b.crash] 28) (.cells #[.slice B1 x.acts.length d1, .slice B2 x.mail.length d2, .int .i64 x.used.drop, .int .i64 x.used.dup, .int .i64 x.used.time, .int .i64 x.used.crash] 32) (.cells #[.int .i64 5, .int .i64 f, .int .i64 n, .int .i64 c, .int .i64 who] 36)
 have HL : Hid (Below w.heap.size w ((((w.alloc (.cells #[.slice A1 p.hs.length c1, .slice A2 p.acs.length c2, .slice A3 p.bs.length c3, .int .i64 p.fuel] 26)).alloc (.cells #[.int .i64 b.drop, .int .i64 b.dup, .int .i64 b.time, .int .i64 b.crash] 28)).alloc (.cells #[.slice B1 x.acts.length d1, .slice B2 x.mail.length d2, .int .i64 x.used.drop, .int .i64 x.used.dup, .int .i64 x.used.time, .int .i64 x.used.crash] 32)).alloc (.cells #[.int .i64 5, .int .i64 f, .int .i64 n, .int .i64 c, .int .i64 who] 36))) := bAlloc (bAlloc (bAlloc (bAlloc (bRefl _) _) _) _) _
 generalize ((((w.alloc (.cells #[.slice A1 p.hs.length c1, .slice A2 p.acs.length c2, .slice A3 p.bs.length c3, .int .i64 p.fuel] 26)).alloc (.cells #[.int .i64 b.drop, .int .i64 b.dup, .int .i64 b.time, .int .i64 b.crash] 28)).alloc (.cells #[.slice B1 x.acts.length d1, .slice B2 x.mail.length d2, .int .i64 x.used.drop, .int .i64 x.used.dup, .int .i64 x.used.time, .int .i64 x.used.crash] 32)).alloc (.cells #[.int .i64 5, .int .i64 f, .int .i64 n, .int .i64 c, .int .i64 who] 36)) = w1 at k0 k1 k2 k3 k4 HL ⊢
 refine (fits_any _ _ _ p b x (HT.out.below HL.out) (HP.out.below HL.out) (HX.out.below HL.out)).mono ?_
 rintro e w2 ⟨rfl, hb2⟩
 replace k0 := boxAt k0 hb2
 replace k1 := boxAt k1 hb2
 replace k2 := boxAt k2 hb2
 replace k3 := boxAt k3 hb2
 have HL2 := hid_mk (bTrans HL.out hb2)
 obtain ⟨b0, b1, b2, b3⟩ := blk4 k1
 obtain ⟨x0, x1, x2, x3, x4, x5⟩ := blk6 k2
 obtain ⟨e0, e1, e2, e3, e4⟩ := blk5 k3
 clear k4 HL hb2
 go_wp2_with fail
 refine (left_any _ b x.used _ _ _ _ _ _).mono ?_
 rintro e w3 ⟨rfl, hb3⟩
 have hbx : Below w2.heap.size w2 (w3.alloc (.cells #[.int .i64 (leftB b x.used).drop, .int .i64 (leftB b x.used).dup, .int .i64 (leftB b x.used).time, .int .i64 (leftB b x.used).crash] 28)) := bAlloc hb3 _
 have hK := heap_new w3 (.cells #[.int .i64 (leftB b x.used).drop, .int .i64 (leftB b x.used).dup, .int .i64 (leftB b x.used).time, .int .i64 (leftB b x.used).crash] 28)
 replace k0 := boxAt k0 hbx
 replace k2 := boxAt k2 hbx
 replace k3 := boxAt k3 hbx
 have HL3 := hid_mk (bTrans HL2.out hbx)
 clear k1 b0 b1 b2 b3 x0 x1 x2 x3 x4 x5 e0 e1 e2 e3 e4 HL2 hb3 hbx
 obtain ⟨x0, x1, x2, x3, x4, x5⟩ := blk6 k2
 obtain ⟨e0, e1, e2, e3, e4⟩ := blk5 k3
 obtain ⟨l0, l1, l2, l3⟩ := blk4 hK
 go_wp2_with fail
 generalize w3.alloc (.cells #[.int .i64 (leftB b x.used).drop, .int .i64 (leftB b x.used).dup, .int .i64 (leftB b x.used).time, .int .i64 (leftB b x.used).crash] 28) = w4 at k0 k2 k3 hK HL3 x0 x1 x2 x3 x4 x5 e0 e1 e2 e3 e4 l0 l1 l2 l3 ⊢
 have HL5 := HL3
 have s2 := (Array.getElem?_eq_some_iff.1 k2).1
 have s3 := (Array.getElem?_eq_some_iff.1 k3).1
 have s4 := (Array.getElem?_eq_some_iff.1 hK).1
 have hbb : Below w4.heap.size w4 w4 := bRefl w4
 clear k0 k2 k3 hK HL3
 refine wp_region_held_drew (S := fun w' => w'.cell? ⟨w.heap.size + 1 + 1 + 1, 0, none⟩ = some (.int .i64 5) ∧ w'.cell? ⟨w.heap.size + 1 + 1 + 1, 1, none⟩ = some (.int .i64 f) ∧ w'.cell? ⟨w.heap.size + 1 + 1 + 1, 2, none⟩ = some (.int .i64 n) ∧ w'.cell? ⟨w.heap.size + 1 + 1 + 1, 3, none⟩ = some (.int .i64 c) ∧ w'.cell? ⟨w.heap.size + 1 + 1 + 1, 4, none⟩ = some (.int .i64 who) ∧ w'.cell? ⟨w.heap.size + 1 + 1, 0, none⟩ = some (.slice B1 x.acts.length d1) ∧ w'.cell? ⟨w.heap.size + 1 + 1, 1, none⟩ = some (.slice B2 x.mail.length d2) ∧ w'.cell? ⟨w.heap.size + 1 + 1, 2, none⟩ = some (.int .i64 x.used.drop) ∧ w'.cell? ⟨w.heap.size + 1 + 1, 3, none⟩ = some (.int .i64 x.used.dup) ∧ w'.cell? ⟨w.heap.size + 1 + 1, 4, none⟩ = some (.int .i64 x.used.time) ∧ w'.cell? ⟨w.heap.size + 1 + 1, 5, none⟩ = some (.int .i64 x.used.crash) ∧ w'.cell? ⟨w3.heap.size, 0, none⟩ = some (.int .i64 (leftB b x.used).drop) ∧ w'.cell? ⟨w3.heap.size, 1, none⟩ = some (.int .i64 (leftB b x.used).dup) ∧ w'.cell? ⟨w3.heap.size, 2, none⟩ = some (.int .i64 (leftB b x.used).time) ∧ w'.cell? ⟨w3.heap.size, 3, none⟩ = some (.int .i64 (leftB b x.used).crash)) (by kernel_rfl) ?_ (fun hHeld => ?_)
 ·try dsimp only
  go_keep
 refine tKh (i := 0) (oi := ⟨some 64, .fieldAddr 36 (.tmp 7) 1, 0, "event.go:49", #[], none⟩) (v := ?_) (hy := .inl ⟨by rfl, ?_⟩) (h := ?_)
 rotate_left
 ·intro w hSw
  try dsimp only at hSw
  go_simp
  try with_reducible rfl
 try simp only [Act.put, sqA, sqB, sqC]
 refine tKh (i := 1) (oi := ⟨some 65, .load 34 (.tmp 64), 34, "event.go:49", #[⟨0, .data⟩], none⟩) (v := ?_) (hy := .inl ⟨by rfl, ?_⟩) (h := ?_)
 rotate_left
 ·intro w hSw
  try dsimp only at hSw
  go_simp
  try with_reducible rfl
 try simp only [Act.put, sqA, sqB, sqC]
 refine tKh (i := 2) (oi := ⟨some 66, .build 34 #[], 34, "event.go:49", #[], none⟩) (v := ?_) (hy := .inl ⟨by rfl, ?_⟩) (h := ?_)
 rotate_left
 ·intro w hSw
  try dsimp only at hSw
  go_simp
  try with_reducible rfl
 try simp only [Act.put, sqA, sqB, sqC]
 refine tKh (i := 3) (oi := ⟨some 67, .binOp .eql 34 (.tmp 65) (.tmp 66) 34, 4, "event.go:49", #[⟨1, .data⟩, ⟨2, .data⟩], none⟩) (v := ?_) (hy := .inl ⟨by rfl, ?_⟩) (h := ?_)
 rotate_left
 ·intro w hSw
  try dsimp only at hSw
  go_simp
  try with_reducible rfl
 try simp only [Act.put, sqA, sqB, sqC]
 refine tKh (i := 4) (oi := ⟨some 68, .move (.tmp 67), 4, "event.go:49", #[⟨3, .data⟩], none⟩) (v := ?_) (hy := .inl ⟨by rfl, ?_⟩) (h := ?_)
 rotate_left
 ·intro w hSw
  try dsimp only at hSw
  go_simp
  try with_reducible rfl
 try simp only [Act.put, sqA, sqB, sqC]
 refine tKh (i := 5) (oi := ⟨some 69, .move (.tmp 11), 4, "event.go:49", #[⟨4, .guard⟩], some (4, true)⟩) (v := undef) (hy := .inr ⟨by rfl, rfl⟩) (h := ?_)
 try simp only [Act.put, sqA, sqB, sqC]
 refine tKh (i := 6) (oi := ⟨some 70, .pick (.tmp 68) (.tmp 69) (.const (.bool false)), 4, "event.go:49", #[⟨4, .data⟩, ⟨5, .data⟩], none⟩) (v := ?_) (hy := .inl ⟨by rfl, ?_⟩) (h := ?_)
 rotate_left
 ·intro w hSw
  try dsimp only at hSw
  go_simp
  try with_reducible rfl
 try simp only [Act.put, sqA, sqB, sqC]
 refine tKh (i := 7) (oi := ⟨some 71, .move (.tmp 70), 4, "event.go:49", #[⟨6, .data⟩, ⟨4, .chain⟩], none⟩) (v := ?_) (hy := .inl ⟨by rfl, ?_⟩) (h := ?_)
 rotate_left
 ·intro w hSw
  try dsimp only at hSw
  go_simp
  try with_reducible rfl
 try simp only [Act.put, sqA, sqB, sqC]
 refine tKh (i := 8) (oi := ⟨some 72, .load 28 (.tmp 9), 28, "event.go:49", #[⟨7, .guard⟩], some (7, true)⟩) (v := undef) (hy := .inr ⟨by rfl, rfl⟩) (h := ?_)
 try simp only [Act.put, sqA, sqB, sqC]
 refine tKh (i := 9) (oi := ⟨some 73, .fieldAddr 36 (.tmp 7) 0, 0, "event.go:49", #[⟨7, .guard⟩], some (7, true)⟩) (v := undef) (hy := .inr ⟨by rfl, rfl⟩) (h := ?_)
 try simp only [Act.put, sqA, sqB, sqC]
 refine tKh (i := 10) (oi := ⟨some 74, .load 3 (.tmp 73), 3, "event.go:49", #[⟨9, .data⟩, ⟨7, .guard⟩], some (7, true)⟩) (v := undef) (hy := .inr ⟨by rfl, rfl⟩) (h := ?_)
 try simp only [Act.put, sqA, sqB, sqC]
 refine tKh (i := 11) (oi := ⟨some 75, .fieldAddr 32 (.tmp 6) 0, 0, "event.go:49", #[⟨7, .guard⟩], some (7, true)⟩) (v := undef) (hy := .inr ⟨by rfl, rfl⟩) (h := ?_)
 try simp only [Act.put, sqA, sqB, sqC]
 refine tKh (i := 12) (oi := ⟨some 76, .load 29 (.tmp 75), 29, "event.go:49", #[⟨11, .data⟩, ⟨7, .guard⟩], some (7, true)⟩) (v := undef) (hy := .inr ⟨by rfl, rfl⟩) (h := ?_)
 try simp only [Act.put, sqA, sqB, sqC]
 refine tKh (i := 13) (oi := ⟨some 77, .fieldAddr 36 (.tmp 7) 2, 0, "event.go:49", #[⟨7, .guard⟩], some (7, true)⟩) (v := undef) (hy := .inr ⟨by rfl, rfl⟩) (h := ?_)
 try simp only [Act.put, sqA, sqB, sqC]
 refine tKh (i := 14) (oi := ⟨some 78, .load 3 (.tmp 77), 3, "event.go:49", #[⟨13, .data⟩, ⟨7, .guard⟩], some (7, true)⟩) (v := undef) (hy := .inr ⟨by rfl, rfl⟩) (h := ?_)
 try simp only [Act.put, sqA, sqB, sqC]
 refine tKh (i := 15) (oi := ⟨some 79, .indexAddr 29 (.tmp 76) (.tmp 78), 0, "event.go:49", #[⟨12, .data⟩, ⟨14, .data⟩, ⟨7, .guard⟩], some (7, true)⟩) (v := undef) (hy := .inr ⟨by rfl, rfl⟩) (h := ?_)
 try simp only [Act.put, sqA, sqB, sqC]
 refine tKh (i := 16) (oi := ⟨some 80, .load 56 (.tmp 79), 56, "event.go:49", #[⟨15, .data⟩, ⟨7, .guard⟩], some (7, true)⟩) (v := undef) (hy := .inr ⟨by rfl, rfl⟩) (h := ?_)
 try simp only [Act.put, sqA, sqB, sqC]
 refine wpAnyH_ready (rs := [17]) (by kernel_rfl) (by simp) ?_
 refine AllReadyH.cons (o := ⟨some 81, .call { callee := .value (.func 61), args := #[.tmp 72, .tmp 74, .tmp 80], argTypes := #[28, 3, 56] }, 4, "event.go:49", #[⟨8, .data⟩, ⟨10, .data⟩, ⟨16, .data⟩, ⟨7, .chain⟩, ⟨7, .guard⟩], some (7, true)⟩) rfl (fun K hK => ?_) AllReadyH.nil
 go_simp
 refine hK.out _ _ ?_ (fun hHeld => ?_)
 ·try dsimp only
  go_keep
 clear hK K
 try simp only [Act.put, sqA, sqB, sqC]
 refine tKh (i := 18) (oi := ⟨some 82, .pick (.tmp 71) (.tmp 81) (.const (.bool false)), 4, "event.go:49", #[⟨7, .data⟩, ⟨17, .data⟩], none⟩) (v := ?_) (hy := .inl ⟨by rfl, ?_⟩) (h := ?_)
 rotate_left
 ·intro w hSw
  try dsimp only at hSw
  go_simp
  try with_reducible rfl
 try simp only [Act.put, sqA, sqB, sqC]
 refine tKh (i := 19) (oi := ⟨some 8, .assign (.tmp 82), 4, "event.go:49", #[⟨18, .data⟩, ⟨17, .chain⟩, ⟨0, .phase⟩, ⟨1, .phase⟩, ⟨2, .phase⟩, ⟨3, .phase⟩, ⟨4, .phase⟩, ⟨5, .phase⟩, ⟨6, .phase⟩, ⟨7, .phase⟩, ⟨8, .phase⟩, ⟨9, .phase⟩, ⟨10, .phase⟩, ⟨11, .phase⟩, ⟨12, .phase⟩, ⟨13, .phase⟩, ⟨14, .phase⟩, ⟨15, .phase⟩, ⟨16, .phase⟩, ⟨17, .phase⟩, ⟨18, .phase⟩], none⟩) (v := ?_) (hy := .inl ⟨by rfl, ?_⟩) (h := ?_)
 rotate_left
 ·intro w hSw
  try dsimp only at hSw
  go_simp
  try with_reducible rfl
 try simp only [Act.put, sqA, sqB, sqC]
 refine wpAnyH_done (by kernel_rfl) ?_ _
 go_wp2_with fail
 go_ret
 exact ⟨ret_b HR.out, bTrans HL5.out (by first | exact hbb | exact hbb.drew)⟩
set_option maxHeartbeats 8000000 in
set_option maxRecDepth 100000 in
theorem is_a5c (w : World) (vp vw : Value) (p : PPrg) (b : PBud) (x : PWld) (f n c who : Int) (ht : Tab w) (hp : PrgV w vp p) (hx : WldV w vw x) (hf : fitsP p b x = true) (hz : (⟨f, n, c⟩ : PID) = ⟨0, 0, 0⟩) (hw : ¬ 0 ≤ who) :
  Calls Tryz.prog 23 #[vp, uVal b, vw, eVal ⟨5, ⟨f, n, c⟩, who⟩] w fun e w' => e = .returned (.bool (isP p b x ⟨5, ⟨f, n, c⟩, who⟩)) ∧ Below w.heap.size w w' := by
 have HP := hid_mk hp
 have HX := hid_mk hx
 have HT := hid_mk ht
 obtain ⟨vh, vb, vc, rfl, h1, h2, h3⟩ := hp
 obtain ⟨A1, c1, rfl, _⟩ := h1.form
 obtain ⟨A2, c2, rfl, _⟩ := h2.form
 obtain ⟨A3, c3, rfl, _⟩ := h3.form
 obtain ⟨va, vm, rfl, g1, g2⟩ := hx
 obtain ⟨B1, d1, rfl, _⟩ := g1.form
 obtain ⟨B2, d2, rfl, _⟩ := g2.form
 have HG1 := hid_mk g1
 have HG2 := hid_mk g2
 have HR := hid_mk (isP_A (p := p) (b := b) (e := ⟨5, ⟨f, n, c⟩, who⟩) hf (by simp) (show false = _ by unfold isA; simp [hw]))
 have hsd : sameD ⟨f, n, c⟩ ⟨0, 0, 0⟩ = true := sameD_yes hz
 clear hz
 clear h1 h2 h3 g1 g2 ht
 have hgD := gD
 go_enter Tryz.func23, Tryz.ntmps23
 go_wp2_with fail
 obtain ⟨k0, k1, k2, k3, k4⟩ := four_new w (.cells #[.slice A1 p.hs.length c1, .slice A2 p.acs.length c2, .slice A3 p.bs.length c3, .int .i64 p.fuel] 26) (.cells #[.int .i64 b.drop, .int .i64 b.dup, .int .i64 b.time, .int .i64 b.crash] 28) (.cells #[.slice B1 x.acts.length d1, .slice B2 x.mail.length d2, .int .i64 x.used.drop, .int .i64 x.used.dup, .int .i64 x.used.time, .int .i64 x.used.crash] 32) (.cells #[.int .i64 5, .int .i64 f, .int .i64 n, .int .i64 c, .int .i64 who] 36)
 have HL : Hid (Below w.heap.size w ((((w.alloc (.cells #[.slice A1 p.hs.length c1, .slice A2 p.acs.length c2, .slice A3 p.bs.length c3, .int .i64 p.fuel] 26)).alloc (.cells #[.int .i64 b.drop, .int .i64 b.dup, .int .i64 b.time, .int .i64 b.crash] 28)).alloc (.cells #[.slice B1 x.acts.length d1, .slice B2 x.mail.length d2, .int .i64 x.used.drop, .int .i64 x.used.dup, .int .i64 x.used.time, .int .i64 x.used.crash] 32)).alloc (.cells #[.int .i64 5, .int .i64 f, .int .i64 n, .int .i64 c, .int .i64 who] 36))) := bAlloc (bAlloc (bAlloc (bAlloc (bRefl _) _) _) _) _
 generalize ((((w.alloc (.cells #[.slice A1 p.hs.length c1, .slice A2 p.acs.length c2, .slice A3 p.bs.length c3, .int .i64 p.fuel] 26)).alloc (.cells #[.int .i64 b.drop, .int .i64 b.dup, .int .i64 b.time, .int .i64 b.crash] 28)).alloc (.cells #[.slice B1 x.acts.length d1, .slice B2 x.mail.length d2, .int .i64 x.used.drop, .int .i64 x.used.dup, .int .i64 x.used.time, .int .i64 x.used.crash] 32)).alloc (.cells #[.int .i64 5, .int .i64 f, .int .i64 n, .int .i64 c, .int .i64 who] 36)) = w1 at k0 k1 k2 k3 k4 HL ⊢
 refine (fits_any _ _ _ p b x (HT.out.below HL.out) (HP.out.below HL.out) (HX.out.below HL.out)).mono ?_
 rintro e w2 ⟨rfl, hb2⟩
 replace k0 := boxAt k0 hb2
 replace k1 := boxAt k1 hb2
 replace k2 := boxAt k2 hb2
 replace k3 := boxAt k3 hb2
 have HL2 := hid_mk (bTrans HL.out hb2)
 obtain ⟨b0, b1, b2, b3⟩ := blk4 k1
 obtain ⟨x0, x1, x2, x3, x4, x5⟩ := blk6 k2
 obtain ⟨e0, e1, e2, e3, e4⟩ := blk5 k3
 clear k4 HL hb2
 go_wp2_with fail
 refine (left_any _ b x.used _ _ _ _ _ _).mono ?_
 rintro e w3 ⟨rfl, hb3⟩
 have hbx : Below w2.heap.size w2 (w3.alloc (.cells #[.int .i64 (leftB b x.used).drop, .int .i64 (leftB b x.used).dup, .int .i64 (leftB b x.used).time, .int .i64 (leftB b x.used).crash] 28)) := bAlloc hb3 _
 have hK := heap_new w3 (.cells #[.int .i64 (leftB b x.used).drop, .int .i64 (leftB b x.used).dup, .int .i64 (leftB b x.used).time, .int .i64 (leftB b x.used).crash] 28)
 replace k0 := boxAt k0 hbx
 replace k2 := boxAt k2 hbx
 replace k3 := boxAt k3 hbx
 have HL3 := hid_mk (bTrans HL2.out hbx)
 clear k1 b0 b1 b2 b3 x0 x1 x2 x3 x4 x5 e0 e1 e2 e3 e4 HL2 hb3 hbx
 obtain ⟨x0, x1, x2, x3, x4, x5⟩ := blk6 k2
 obtain ⟨e0, e1, e2, e3, e4⟩ := blk5 k3
 obtain ⟨l0, l1, l2, l3⟩ := blk4 hK
 go_wp2_with fail
 generalize w3.alloc (.cells #[.int .i64 (leftB b x.used).drop, .int .i64 (leftB b x.used).dup, .int .i64 (leftB b x.used).time, .int .i64 (leftB b x.used).crash] 28) = w4 at k0 k2 k3 hK HL3 x0 x1 x2 x3 x4 x5 e0 e1 e2 e3 e4 l0 l1 l2 l3 ⊢
 have HL5 := HL3
 have s2 := (Array.getElem?_eq_some_iff.1 k2).1
 have s3 := (Array.getElem?_eq_some_iff.1 k3).1
 have s4 := (Array.getElem?_eq_some_iff.1 hK).1
 have hbb : Below w4.heap.size w4 w4 := bRefl w4
 clear k0 k2 k3 hK HL3
 refine wp_region_held_drew (S := fun w' => w'.cell? ⟨w.heap.size + 1 + 1 + 1, 0, none⟩ = some (.int .i64 5) ∧ w'.cell? ⟨w.heap.size + 1 + 1 + 1, 1, none⟩ = some (.int .i64 f) ∧ w'.cell? ⟨w.heap.size + 1 + 1 + 1, 2, none⟩ = some (.int .i64 n) ∧ w'.cell? ⟨w.heap.size + 1 + 1 + 1, 3, none⟩ = some (.int .i64 c) ∧ w'.cell? ⟨w.heap.size + 1 + 1 + 1, 4, none⟩ = some (.int .i64 who) ∧ w'.cell? ⟨w.heap.size + 1 + 1, 0, none⟩ = some (.slice B1 x.acts.length d1) ∧ w'.cell? ⟨w.heap.size + 1 + 1, 1, none⟩ = some (.slice B2 x.mail.length d2) ∧ w'.cell? ⟨w.heap.size + 1 + 1, 2, none⟩ = some (.int .i64 x.used.drop) ∧ w'.cell? ⟨w.heap.size + 1 + 1, 3, none⟩ = some (.int .i64 x.used.dup) ∧ w'.cell? ⟨w.heap.size + 1 + 1, 4, none⟩ = some (.int .i64 x.used.time) ∧ w'.cell? ⟨w.heap.size + 1 + 1, 5, none⟩ = some (.int .i64 x.used.crash) ∧ w'.cell? ⟨w3.heap.size, 0, none⟩ = some (.int .i64 (leftB b x.used).drop) ∧ w'.cell? ⟨w3.heap.size, 1, none⟩ = some (.int .i64 (leftB b x.used).dup) ∧ w'.cell? ⟨w3.heap.size, 2, none⟩ = some (.int .i64 (leftB b x.used).time) ∧ w'.cell? ⟨w3.heap.size, 3, none⟩ = some (.int .i64 (leftB b x.used).crash)) (by kernel_rfl) ?_ (fun hHeld => ?_)
 ·try dsimp only
  go_keep
 refine tKh (i := 0) (oi := ⟨some 64, .fieldAddr 36 (.tmp 7) 1, 0, "event.go:49", #[], none⟩) (v := ?_) (hy := .inl ⟨by rfl, ?_⟩) (h := ?_)
 rotate_left
 ·intro w hSw
  try dsimp only at hSw
  go_simp
  try with_reducible rfl
 try simp only [Act.put, sqA, sqB, sqC]
 refine tKh (i := 1) (oi := ⟨some 65, .load 34 (.tmp 64), 34, "event.go:49", #[⟨0, .data⟩], none⟩) (v := ?_) (hy := .inl ⟨by rfl, ?_⟩) (h := ?_)
 rotate_left
 ·intro w hSw
  try dsimp only at hSw
  go_simp
  try with_reducible rfl
 try simp only [Act.put, sqA, sqB, sqC]
 refine tKh (i := 2) (oi := ⟨some 66, .build 34 #[], 34, "event.go:49", #[], none⟩) (v := ?_) (hy := .inl ⟨by rfl, ?_⟩) (h := ?_)
 rotate_left
 ·intro w hSw
  try dsimp only at hSw
  go_simp
  try with_reducible rfl
 try simp only [Act.put, sqA, sqB, sqC]
 refine tKh (i := 3) (oi := ⟨some 67, .binOp .eql 34 (.tmp 65) (.tmp 66) 34, 4, "event.go:49", #[⟨1, .data⟩, ⟨2, .data⟩], none⟩) (v := ?_) (hy := .inl ⟨by rfl, ?_⟩) (h := ?_)
 rotate_left
 ·intro w hSw
  try dsimp only at hSw
  go_simp
  try with_reducible rfl
 try simp only [Act.put, sqA, sqB, sqC]
 refine tKh (i := 4) (oi := ⟨some 68, .move (.tmp 67), 4, "event.go:49", #[⟨3, .data⟩], none⟩) (v := ?_) (hy := .inl ⟨by rfl, ?_⟩) (h := ?_)
 rotate_left
 ·intro w hSw
  try dsimp only at hSw
  go_simp
  try with_reducible rfl
 try simp only [Act.put, sqA, sqB, sqC]
 refine tKh (i := 5) (oi := ⟨some 69, .move (.tmp 11), 4, "event.go:49", #[⟨4, .guard⟩], some (4, true)⟩) (v := ?_) (hy := .inl ⟨by rfl, ?_⟩) (h := ?_)
 rotate_left
 ·intro w hSw
  try dsimp only at hSw
  go_simp
  try with_reducible rfl
 try simp only [Act.put, sqA, sqB, sqC]
 refine tKh (i := 6) (oi := ⟨some 70, .pick (.tmp 68) (.tmp 69) (.const (.bool false)), 4, "event.go:49", #[⟨4, .data⟩, ⟨5, .data⟩], none⟩) (v := ?_) (hy := .inl ⟨by rfl, ?_⟩) (h := ?_)
 rotate_left
 ·intro w hSw
  try dsimp only at hSw
  go_simp
  try with_reducible rfl
 try simp only [Act.put, sqA, sqB, sqC]
 refine tKh (i := 7) (oi := ⟨some 71, .move (.tmp 70), 4, "event.go:49", #[⟨6, .data⟩, ⟨4, .chain⟩], none⟩) (v := ?_) (hy := .inl ⟨by rfl, ?_⟩) (h := ?_)
 rotate_left
 ·intro w hSw
  try dsimp only at hSw
  go_simp
  try with_reducible rfl
 try simp only [Act.put, sqA, sqB, sqC]
 refine tKh (i := 8) (oi := ⟨some 72, .load 28 (.tmp 9), 28, "event.go:49", #[⟨7, .guard⟩], some (7, true)⟩) (v := undef) (hy := .inr ⟨by rfl, rfl⟩) (h := ?_)
 try simp only [Act.put, sqA, sqB, sqC]
 refine tKh (i := 9) (oi := ⟨some 73, .fieldAddr 36 (.tmp 7) 0, 0, "event.go:49", #[⟨7, .guard⟩], some (7, true)⟩) (v := undef) (hy := .inr ⟨by rfl, rfl⟩) (h := ?_)
 try simp only [Act.put, sqA, sqB, sqC]
 refine tKh (i := 10) (oi := ⟨some 74, .load 3 (.tmp 73), 3, "event.go:49", #[⟨9, .data⟩, ⟨7, .guard⟩], some (7, true)⟩) (v := undef) (hy := .inr ⟨by rfl, rfl⟩) (h := ?_)
 try simp only [Act.put, sqA, sqB, sqC]
 refine tKh (i := 11) (oi := ⟨some 75, .fieldAddr 32 (.tmp 6) 0, 0, "event.go:49", #[⟨7, .guard⟩], some (7, true)⟩) (v := undef) (hy := .inr ⟨by rfl, rfl⟩) (h := ?_)
 try simp only [Act.put, sqA, sqB, sqC]
 refine tKh (i := 12) (oi := ⟨some 76, .load 29 (.tmp 75), 29, "event.go:49", #[⟨11, .data⟩, ⟨7, .guard⟩], some (7, true)⟩) (v := undef) (hy := .inr ⟨by rfl, rfl⟩) (h := ?_)
 try simp only [Act.put, sqA, sqB, sqC]
 refine tKh (i := 13) (oi := ⟨some 77, .fieldAddr 36 (.tmp 7) 2, 0, "event.go:49", #[⟨7, .guard⟩], some (7, true)⟩) (v := undef) (hy := .inr ⟨by rfl, rfl⟩) (h := ?_)
 try simp only [Act.put, sqA, sqB, sqC]
 refine tKh (i := 14) (oi := ⟨some 78, .load 3 (.tmp 77), 3, "event.go:49", #[⟨13, .data⟩, ⟨7, .guard⟩], some (7, true)⟩) (v := undef) (hy := .inr ⟨by rfl, rfl⟩) (h := ?_)
 try simp only [Act.put, sqA, sqB, sqC]
 refine tKh (i := 15) (oi := ⟨some 79, .indexAddr 29 (.tmp 76) (.tmp 78), 0, "event.go:49", #[⟨12, .data⟩, ⟨14, .data⟩, ⟨7, .guard⟩], some (7, true)⟩) (v := undef) (hy := .inr ⟨by rfl, rfl⟩) (h := ?_)
 try simp only [Act.put, sqA, sqB, sqC]
 refine tKh (i := 16) (oi := ⟨some 80, .load 56 (.tmp 79), 56, "event.go:49", #[⟨15, .data⟩, ⟨7, .guard⟩], some (7, true)⟩) (v := undef) (hy := .inr ⟨by rfl, rfl⟩) (h := ?_)
 try simp only [Act.put, sqA, sqB, sqC]
 refine wpAnyH_ready (rs := [17]) (by kernel_rfl) (by simp) ?_
 refine AllReadyH.cons (o := ⟨some 81, .call { callee := .value (.func 61), args := #[.tmp 72, .tmp 74, .tmp 80], argTypes := #[28, 3, 56] }, 4, "event.go:49", #[⟨8, .data⟩, ⟨10, .data⟩, ⟨16, .data⟩, ⟨7, .chain⟩, ⟨7, .guard⟩], some (7, true)⟩) rfl (fun K hK => ?_) AllReadyH.nil
 go_simp
 refine hK.out _ _ ?_ (fun hHeld => ?_)
 ·try dsimp only
  go_keep
 clear hK K
 try simp only [Act.put, sqA, sqB, sqC]
 refine tKh (i := 18) (oi := ⟨some 82, .pick (.tmp 71) (.tmp 81) (.const (.bool false)), 4, "event.go:49", #[⟨7, .data⟩, ⟨17, .data⟩], none⟩) (v := ?_) (hy := .inl ⟨by rfl, ?_⟩) (h := ?_)
 rotate_left
 ·intro w hSw
  try dsimp only at hSw
  go_simp
  try with_reducible rfl
 try simp only [Act.put, sqA, sqB, sqC]
 refine tKh (i := 19) (oi := ⟨some 8, .assign (.tmp 82), 4, "event.go:49", #[⟨18, .data⟩, ⟨17, .chain⟩, ⟨0, .phase⟩, ⟨1, .phase⟩, ⟨2, .phase⟩, ⟨3, .phase⟩, ⟨4, .phase⟩, ⟨5, .phase⟩, ⟨6, .phase⟩, ⟨7, .phase⟩, ⟨8, .phase⟩, ⟨9, .phase⟩, ⟨10, .phase⟩, ⟨11, .phase⟩, ⟨12, .phase⟩, ⟨13, .phase⟩, ⟨14, .phase⟩, ⟨15, .phase⟩, ⟨16, .phase⟩, ⟨17, .phase⟩, ⟨18, .phase⟩], none⟩) (v := ?_) (hy := .inl ⟨by rfl, ?_⟩) (h := ?_)
 rotate_left
 ·intro w hSw
  try dsimp only at hSw
  go_simp
  try with_reducible rfl
 try simp only [Act.put, sqA, sqB, sqC]
 refine wpAnyH_done (by kernel_rfl) ?_ _
 go_wp2_with fail
 go_ret
 exact ⟨ret_b HR.out, bTrans HL5.out (by first | exact hbb | exact hbb.drew)⟩
set_option maxHeartbeats 8000000 in
set_option maxRecDepth 100000 in
theorem is_a5d (w : World) (vp vw : Value) (p : PPrg) (b : PBud) (x : PWld) (f n c who : Int) (ht : Tab w) (hp : PrgV w vp p) (hx : WldV w vw x) (hf : fitsP p b x = true) (hz : (⟨f, n, c⟩ : PID) = ⟨0, 0, 0⟩) (hw : 0 ≤ who) (hw1 : ¬ who < x.acts.length) :
  Calls Tryz.prog 23 #[vp, uVal b, vw, eVal ⟨5, ⟨f, n, c⟩, who⟩] w fun e w' => e = .returned (.bool (isP p b x ⟨5, ⟨f, n, c⟩, who⟩)) ∧ Below w.heap.size w w' := by
 have HP := hid_mk hp
 have HX := hid_mk hx
 have HT := hid_mk ht
 obtain ⟨vh, vb, vc, rfl, h1, h2, h3⟩ := hp
 obtain ⟨A1, c1, rfl, _⟩ := h1.form
 obtain ⟨A2, c2, rfl, _⟩ := h2.form
 obtain ⟨A3, c3, rfl, _⟩ := h3.form
 obtain ⟨va, vm, rfl, g1, g2⟩ := hx
 obtain ⟨B1, d1, rfl, _⟩ := g1.form
 obtain ⟨B2, d2, rfl, _⟩ := g2.form
 have HG1 := hid_mk g1
 have HG2 := hid_mk g2
 have HR := hid_mk (isP_A (p := p) (b := b) (e := ⟨5, ⟨f, n, c⟩, who⟩) hf (by simp) (show false = _ by unfold isA; simp [hw1]))
 have hsd : sameD ⟨f, n, c⟩ ⟨0, 0, 0⟩ = true := sameD_yes hz
 clear hz
 have hwd : decide (who < (x.acts.length : Int)) = false := decide_eq_false hw1
 clear hw1
 clear h1 h2 h3 g1 g2 ht
 have hgD := gD
 go_enter Tryz.func23, Tryz.ntmps23
 go_wp2_with fail
 obtain ⟨k0, k1, k2, k3, k4⟩ := four_new w (.cells #[.slice A1 p.hs.length c1, .slice A2 p.acs.length c2, .slice A3 p.bs.length c3, .int .i64 p.fuel] 26) (.cells #[.int .i64 b.drop, .int .i64 b.dup, .int .i64 b.time, .int .i64 b.crash] 28) (.cells #[.slice B1 x.acts.length d1, .slice B2 x.mail.length d2, .int .i64 x.used.drop, .int .i64 x.used.dup, .int .i64 x.used.time, .int .i64 x.used.crash] 32) (.cells #[.int .i64 5, .int .i64 f, .int .i64 n, .int .i64 c, .int .i64 who] 36)
 have HL : Hid (Below w.heap.size w ((((w.alloc (.cells #[.slice A1 p.hs.length c1, .slice A2 p.acs.length c2, .slice A3 p.bs.length c3, .int .i64 p.fuel] 26)).alloc (.cells #[.int .i64 b.drop, .int .i64 b.dup, .int .i64 b.time, .int .i64 b.crash] 28)).alloc (.cells #[.slice B1 x.acts.length d1, .slice B2 x.mail.length d2, .int .i64 x.used.drop, .int .i64 x.used.dup, .int .i64 x.used.time, .int .i64 x.used.crash] 32)).alloc (.cells #[.int .i64 5, .int .i64 f, .int .i64 n, .int .i64 c, .int .i64 who] 36))) := bAlloc (bAlloc (bAlloc (bAlloc (bRefl _) _) _) _) _
 generalize ((((w.alloc (.cells #[.slice A1 p.hs.length c1, .slice A2 p.acs.length c2, .slice A3 p.bs.length c3, .int .i64 p.fuel] 26)).alloc (.cells #[.int .i64 b.drop, .int .i64 b.dup, .int .i64 b.time, .int .i64 b.crash] 28)).alloc (.cells #[.slice B1 x.acts.length d1, .slice B2 x.mail.length d2, .int .i64 x.used.drop, .int .i64 x.used.dup, .int .i64 x.used.time, .int .i64 x.used.crash] 32)).alloc (.cells #[.int .i64 5, .int .i64 f, .int .i64 n, .int .i64 c, .int .i64 who] 36)) = w1 at k0 k1 k2 k3 k4 HL ⊢
 refine (fits_any _ _ _ p b x (HT.out.below HL.out) (HP.out.below HL.out) (HX.out.below HL.out)).mono ?_
 rintro e w2 ⟨rfl, hb2⟩
 replace k0 := boxAt k0 hb2
 replace k1 := boxAt k1 hb2
 replace k2 := boxAt k2 hb2
 replace k3 := boxAt k3 hb2
 have HL2 := hid_mk (bTrans HL.out hb2)
 obtain ⟨b0, b1, b2, b3⟩ := blk4 k1
 obtain ⟨x0, x1, x2, x3, x4, x5⟩ := blk6 k2
 obtain ⟨e0, e1, e2, e3, e4⟩ := blk5 k3
 clear k4 HL hb2
 go_wp2_with fail
 refine (left_any _ b x.used _ _ _ _ _ _).mono ?_
 rintro e w3 ⟨rfl, hb3⟩
 have hbx : Below w2.heap.size w2 (w3.alloc (.cells #[.int .i64 (leftB b x.used).drop, .int .i64 (leftB b x.used).dup, .int .i64 (leftB b x.used).time, .int .i64 (leftB b x.used).crash] 28)) := bAlloc hb3 _
 have hK := heap_new w3 (.cells #[.int .i64 (leftB b x.used).drop, .int .i64 (leftB b x.used).dup, .int .i64 (leftB b x.used).time, .int .i64 (leftB b x.used).crash] 28)
 replace k0 := boxAt k0 hbx
 replace k2 := boxAt k2 hbx
 replace k3 := boxAt k3 hbx
 have HL3 := hid_mk (bTrans HL2.out hbx)
 clear k1 b0 b1 b2 b3 x0 x1 x2 x3 x4 x5 e0 e1 e2 e3 e4 HL2 hb3 hbx
 obtain ⟨x0, x1, x2, x3, x4, x5⟩ := blk6 k2
 obtain ⟨e0, e1, e2, e3, e4⟩ := blk5 k3
 obtain ⟨l0, l1, l2, l3⟩ := blk4 hK
 go_wp2_with fail
 generalize w3.alloc (.cells #[.int .i64 (leftB b x.used).drop, .int .i64 (leftB b x.used).dup, .int .i64 (leftB b x.used).time, .int .i64 (leftB b x.used).crash] 28) = w4 at k0 k2 k3 hK HL3 x0 x1 x2 x3 x4 x5 e0 e1 e2 e3 e4 l0 l1 l2 l3 ⊢
 have HL5 := HL3
 have s2 := (Array.getElem?_eq_some_iff.1 k2).1
 have s3 := (Array.getElem?_eq_some_iff.1 k3).1
 have s4 := (Array.getElem?_eq_some_iff.1 hK).1
 have hbb : Below w4.heap.size w4 w4 := bRefl w4
 clear k0 k2 k3 hK HL3
 refine wp_region_held_drew (S := fun w' => w'.cell? ⟨w.heap.size + 1 + 1 + 1, 0, none⟩ = some (.int .i64 5) ∧ w'.cell? ⟨w.heap.size + 1 + 1 + 1, 1, none⟩ = some (.int .i64 f) ∧ w'.cell? ⟨w.heap.size + 1 + 1 + 1, 2, none⟩ = some (.int .i64 n) ∧ w'.cell? ⟨w.heap.size + 1 + 1 + 1, 3, none⟩ = some (.int .i64 c) ∧ w'.cell? ⟨w.heap.size + 1 + 1 + 1, 4, none⟩ = some (.int .i64 who) ∧ w'.cell? ⟨w.heap.size + 1 + 1, 0, none⟩ = some (.slice B1 x.acts.length d1) ∧ w'.cell? ⟨w.heap.size + 1 + 1, 1, none⟩ = some (.slice B2 x.mail.length d2) ∧ w'.cell? ⟨w.heap.size + 1 + 1, 2, none⟩ = some (.int .i64 x.used.drop) ∧ w'.cell? ⟨w.heap.size + 1 + 1, 3, none⟩ = some (.int .i64 x.used.dup) ∧ w'.cell? ⟨w.heap.size + 1 + 1, 4, none⟩ = some (.int .i64 x.used.time) ∧ w'.cell? ⟨w.heap.size + 1 + 1, 5, none⟩ = some (.int .i64 x.used.crash) ∧ w'.cell? ⟨w3.heap.size, 0, none⟩ = some (.int .i64 (leftB b x.used).drop) ∧ w'.cell? ⟨w3.heap.size, 1, none⟩ = some (.int .i64 (leftB b x.used).dup) ∧ w'.cell? ⟨w3.heap.size, 2, none⟩ = some (.int .i64 (leftB b x.used).time) ∧ w'.cell? ⟨w3.heap.size, 3, none⟩ = some (.int .i64 (leftB b x.used).crash)) (by kernel_rfl) ?_ (fun hHeld => ?_)
 ·try dsimp only
  go_keep
 refine tKh (i := 0) (oi := ⟨some 64, .fieldAddr 36 (.tmp 7) 1, 0, "event.go:49", #[], none⟩) (v := ?_) (hy := .inl ⟨by rfl, ?_⟩) (h := ?_)
 rotate_left
 ·intro w hSw
  try dsimp only at hSw
  go_simp
  try with_reducible rfl
 try simp only [Act.put, sqA, sqB, sqC]
 refine tKh (i := 1) (oi := ⟨some 65, .load 34 (.tmp 64), 34, "event.go:49", #[⟨0, .data⟩], none⟩) (v := ?_) (hy := .inl ⟨by rfl, ?_⟩) (h := ?_)
 rotate_left
 ·intro w hSw
  try dsimp only at hSw
  go_simp
  try with_reducible rfl
 try simp only [Act.put, sqA, sqB, sqC]
 refine tKh (i := 2) (oi := ⟨some 66, .build 34 #[], 34, "event.go:49", #[], none⟩) (v := ?_) (hy := .inl ⟨by rfl, ?_⟩) (h := ?_)
 rotate_left
 ·intro w hSw
  try dsimp only at hSw
  go_simp
  try with_reducible rfl
 try simp only [Act.put, sqA, sqB, sqC]
 refine tKh (i := 3) (oi := ⟨some 67, .binOp .eql 34 (.tmp 65) (.tmp 66) 34, 4, "event.go:49", #[⟨1, .data⟩, ⟨2, .data⟩], none⟩) (v := ?_) (hy := .inl ⟨by rfl, ?_⟩) (h := ?_)
 rotate_left
 ·intro w hSw
  try dsimp only at hSw
  go_simp
  try with_reducible rfl
 try simp only [Act.put, sqA, sqB, sqC]
 refine tKh (i := 4) (oi := ⟨some 68, .move (.tmp 67), 4, "event.go:49", #[⟨3, .data⟩], none⟩) (v := ?_) (hy := .inl ⟨by rfl, ?_⟩) (h := ?_)
 rotate_left
 ·intro w hSw
  try dsimp only at hSw
  go_simp
  try with_reducible rfl
 try simp only [Act.put, sqA, sqB, sqC]
 refine tKh (i := 5) (oi := ⟨some 69, .move (.tmp 11), 4, "event.go:49", #[⟨4, .guard⟩], some (4, true)⟩) (v := ?_) (hy := .inl ⟨by rfl, ?_⟩) (h := ?_)
 rotate_left
 ·intro w hSw
  try dsimp only at hSw
  go_simp
  try with_reducible rfl
 try simp only [Act.put, sqA, sqB, sqC]
 refine tKh (i := 6) (oi := ⟨some 70, .pick (.tmp 68) (.tmp 69) (.const (.bool false)), 4, "event.go:49", #[⟨4, .data⟩, ⟨5, .data⟩], none⟩) (v := ?_) (hy := .inl ⟨by rfl, ?_⟩) (h := ?_)
 rotate_left
 ·intro w hSw
  try dsimp only at hSw
  go_simp
  try with_reducible rfl
 try simp only [Act.put, sqA, sqB, sqC]
 refine tKh (i := 7) (oi := ⟨some 71, .move (.tmp 70), 4, "event.go:49", #[⟨6, .data⟩, ⟨4, .chain⟩], none⟩) (v := ?_) (hy := .inl ⟨by rfl, ?_⟩) (h := ?_)
 rotate_left
 ·intro w hSw
  try dsimp only at hSw
  go_simp
  try with_reducible rfl
 try simp only [Act.put, sqA, sqB, sqC]
 refine tKh (i := 8) (oi := ⟨some 72, .load 28 (.tmp 9), 28, "event.go:49", #[⟨7, .guard⟩], some (7, true)⟩) (v := undef) (hy := .inr ⟨by rfl, rfl⟩) (h := ?_)
 try simp only [Act.put, sqA, sqB, sqC]
 refine tKh (i := 9) (oi := ⟨some 73, .fieldAddr 36 (.tmp 7) 0, 0, "event.go:49", #[⟨7, .guard⟩], some (7, true)⟩) (v := undef) (hy := .inr ⟨by rfl, rfl⟩) (h := ?_)
 try simp only [Act.put, sqA, sqB, sqC]
 refine tKh (i := 10) (oi := ⟨some 74, .load 3 (.tmp 73), 3, "event.go:49", #[⟨9, .data⟩, ⟨7, .guard⟩], some (7, true)⟩) (v := undef) (hy := .inr ⟨by rfl, rfl⟩) (h := ?_)
 try simp only [Act.put, sqA, sqB, sqC]
 refine tKh (i := 11) (oi := ⟨some 75, .fieldAddr 32 (.tmp 6) 0, 0, "event.go:49", #[⟨7, .guard⟩], some (7, true)⟩) (v := undef) (hy := .inr ⟨by rfl, rfl⟩) (h := ?_)
 try simp only [Act.put, sqA, sqB, sqC]
 refine tKh (i := 12) (oi := ⟨some 76, .load 29 (.tmp 75), 29, "event.go:49", #[⟨11, .data⟩, ⟨7, .guard⟩], some (7, true)⟩) (v := undef) (hy := .inr ⟨by rfl, rfl⟩) (h := ?_)
 try simp only [Act.put, sqA, sqB, sqC]
 refine tKh (i := 13) (oi := ⟨some 77, .fieldAddr 36 (.tmp 7) 2, 0, "event.go:49", #[⟨7, .guard⟩], some (7, true)⟩) (v := undef) (hy := .inr ⟨by rfl, rfl⟩) (h := ?_)
 try simp only [Act.put, sqA, sqB, sqC]
 refine tKh (i := 14) (oi := ⟨some 78, .load 3 (.tmp 77), 3, "event.go:49", #[⟨13, .data⟩, ⟨7, .guard⟩], some (7, true)⟩) (v := undef) (hy := .inr ⟨by rfl, rfl⟩) (h := ?_)
 try simp only [Act.put, sqA, sqB, sqC]
 refine tKh (i := 15) (oi := ⟨some 79, .indexAddr 29 (.tmp 76) (.tmp 78), 0, "event.go:49", #[⟨12, .data⟩, ⟨14, .data⟩, ⟨7, .guard⟩], some (7, true)⟩) (v := undef) (hy := .inr ⟨by rfl, rfl⟩) (h := ?_)
 try simp only [Act.put, sqA, sqB, sqC]
 refine tKh (i := 16) (oi := ⟨some 80, .load 56 (.tmp 79), 56, "event.go:49", #[⟨15, .data⟩, ⟨7, .guard⟩], some (7, true)⟩) (v := undef) (hy := .inr ⟨by rfl, rfl⟩) (h := ?_)
 try simp only [Act.put, sqA, sqB, sqC]
 refine wpAnyH_ready (rs := [17]) (by kernel_rfl) (by simp) ?_
 refine AllReadyH.cons (o := ⟨some 81, .call { callee := .value (.func 61), args := #[.tmp 72, .tmp 74, .tmp 80], argTypes := #[28, 3, 56] }, 4, "event.go:49", #[⟨8, .data⟩, ⟨10, .data⟩, ⟨16, .data⟩, ⟨7, .chain⟩, ⟨7, .guard⟩], some (7, true)⟩) rfl (fun K hK => ?_) AllReadyH.nil
 go_simp
 refine hK.out _ _ ?_ (fun hHeld => ?_)
 ·try dsimp only
  go_keep
 clear hK K
 try simp only [Act.put, sqA, sqB, sqC]
 refine tKh (i := 18) (oi := ⟨some 82, .pick (.tmp 71) (.tmp 81) (.const (.bool false)), 4, "event.go:49", #[⟨7, .data⟩, ⟨17, .data⟩], none⟩) (v := ?_) (hy := .inl ⟨by rfl, ?_⟩) (h := ?_)
 rotate_left
 ·intro w hSw
  try dsimp only at hSw
  go_simp
  try with_reducible rfl
 try simp only [Act.put, sqA, sqB, sqC]
 refine tKh (i := 19) (oi := ⟨some 8, .assign (.tmp 82), 4, "event.go:49", #[⟨18, .data⟩, ⟨17, .chain⟩, ⟨0, .phase⟩, ⟨1, .phase⟩, ⟨2, .phase⟩, ⟨3, .phase⟩, ⟨4, .phase⟩, ⟨5, .phase⟩, ⟨6, .phase⟩, ⟨7, .phase⟩, ⟨8, .phase⟩, ⟨9, .phase⟩, ⟨10, .phase⟩, ⟨11, .phase⟩, ⟨12, .phase⟩, ⟨13, .phase⟩, ⟨14, .phase⟩, ⟨15, .phase⟩, ⟨16, .phase⟩, ⟨17, .phase⟩, ⟨18, .phase⟩], none⟩) (v := ?_) (hy := .inl ⟨by rfl, ?_⟩) (h := ?_)
 rotate_left
 ·intro w hSw
  try dsimp only at hSw
  go_simp
  try with_reducible rfl
 try simp only [Act.put, sqA, sqB, sqC]
 refine wpAnyH_done (by kernel_rfl) ?_ _
 go_wp2_with fail
 go_ret
 exact ⟨ret_b HR.out, bTrans HL5.out (by first | exact hbb | exact hbb.drew)⟩
set_option maxHeartbeats 8000000 in
set_option maxRecDepth 100000 in
theorem is_a5e (w : World) (vp vw : Value) (p : PPrg) (b : PBud) (x : PWld) (f n c : Int) (k : Nat) (ht : Tab w) (hp : PrgV w vp p) (hx : WldV w vw x) (hf : fitsP p b x = true) (hz : (⟨f, n, c⟩ : PID) = ⟨0, 0, 0⟩) (hlt : k < x.acts.length) :
  Calls Tryz.prog 23 #[vp, uVal b, vw, eVal ⟨5, ⟨f, n, c⟩, (k : Int)⟩] w fun e w' => e = .returned (.bool (isP p b x ⟨5, ⟨f, n, c⟩, (k : Int)⟩)) ∧ Below w.heap.size w w' := by
 have HP := hid_mk hp
 have HX := hid_mk hx
 have HT := hid_mk ht
 obtain ⟨vh, vb, vc, rfl, h1, h2, h3⟩ := hp
 obtain ⟨A1, c1, rfl, _⟩ := h1.form
 obtain ⟨A2, c2, rfl, _⟩ := h2.form
 obtain ⟨A3, c3, rfl, _⟩ := h3.form
 obtain ⟨va, vm, rfl, g1, g2⟩ := hx
 obtain ⟨B1, d1, rfl, _⟩ := g1.form
 obtain ⟨B2, d2, rfl, _⟩ := g2.form
 have HG1 := hid_mk g1
 have HG2 := hid_mk g2
 have hsd : sameD ⟨f, n, c⟩ ⟨0, 0, 0⟩ = true := sameD_yes hz
 obtain ⟨ba, oa, a, v, rfl, ha, hmlt, j1, j2, j3, j4, j5, hv⟩ := g1.cell (bRefl w) (k := k) (by omega)
 obtain ⟨A6, c6, rfl, _⟩ := hv.form
 have HR : Hid (ofA (leftB b x.used) 5 a = isP p b x ⟨5, ⟨f, n, c⟩, (k : Int)⟩) := isP_A (p := p) (b := b) (e := ⟨5, ⟨f, n, c⟩, (k : Int)⟩) hf (by simp) (by unfold isA; dsimp only; rw [hz, Int.toNat_natCast, show x.acts.getD k default = a by rw [List.getD_eq_getElem?_getD, ha]; rfl]; simp [hlt])
 have hki : (k : Int) < x.acts.length := by omega
 have hk0 : (0 : Int) ≤ k := by omega
 clear ha hv hz
 clear h1 h2 h3 g1 g2 ht
 have hgD := gD
 go_enter Tryz.func23, Tryz.ntmps23
 go_wp2_with fail
 obtain ⟨k0, k1, k2, k3, k4⟩ := four_new w (.cells #[.slice A1 p.hs.length c1, .slice A2 p.acs.length c2, .slice A3 p.bs.length c3, .int .i64 p.fuel] 26) (.cells #[.int .i64 b.drop, .int .i64 b.dup, .int .i64 b.time, .int .i64 b.crash] 28) (.cells #[.slice (some ⟨ba, oa, none⟩) x.acts.length d1, .slice B2 x.mail.length d2, .int .i64 x.used.drop, .int .i64 x.used.dup, .int .i64 x.used.time, .int .i64 x.used.crash] 32) (.cells #[.int .i64 5, .int .i64 f, .int .i64 n, .int .i64 c, .int .i64 (k : Int)] 36)
 have HL : Hid (Below w.heap.size w ((((w.alloc (.cells #[.slice A1 p.hs.length c1, .slice A2 p.acs.length c2, .slice A3 p.bs.length c3, .int .i64 p.fuel] 26)).alloc (.cells #[.int .i64 b.drop, .int .i64 b.dup, .int .i64 b.time, .int .i64 b.crash] 28)).alloc (.cells #[.slice (some ⟨ba, oa, none⟩) x.acts.length d1, .slice B2 x.mail.length d2, .int .i64 x.used.drop, .int .i64 x.used.dup, .int .i64 x.used.time, .int .i64 x.used.crash] 32)).alloc (.cells #[.int .i64 5, .int .i64 f, .int .i64 n, .int .i64 c, .int .i64 (k : Int)] 36))) := bAlloc (bAlloc (bAlloc (bAlloc (bRefl _) _) _) _) _
 generalize ((((w.alloc (.cells #[.slice A1 p.hs.length c1, .slice A2 p.acs.length c2, .slice A3 p.bs.length c3, .int .i64 p.fuel] 26)).alloc (.cells #[.int .i64 b.drop, .int .i64 b.dup, .int .i64 b.time, .int .i64 b.crash] 28)).alloc (.cells #[.slice (some ⟨ba, oa, none⟩) x.acts.length d1, .slice B2 x.mail.length d2, .int .i64 x.used.drop, .int .i64 x.used.dup, .int .i64 x.used.time, .int .i64 x.used.crash] 32)).alloc (.cells #[.int .i64 5, .int .i64 f, .int .i64 n, .int .i64 c, .int .i64 (k : Int)] 36)) = w1 at k0 k1 k2 k3 k4 HL ⊢
 refine (fits_any _ _ _ p b x (HT.out.below HL.out) (HP.out.below HL.out) (HX.out.below HL.out)).mono ?_
 rintro e w2 ⟨rfl, hb2⟩
 replace k0 := boxAt k0 hb2
 replace k1 := boxAt k1 hb2
 replace k2 := boxAt k2 hb2
 replace k3 := boxAt k3 hb2
 have HL2 := hid_mk (bTrans HL.out hb2)
 obtain ⟨b0, b1, b2, b3⟩ := blk4 k1
 obtain ⟨x0, x1, x2, x3, x4, x5⟩ := blk6 k2
 obtain ⟨e0, e1, e2, e3, e4⟩ := blk5 k3
 clear k4 HL hb2
 go_wp2_with fail
 refine (left_any _ b x.used _ _ _ _ _ _).mono ?_
 rintro e w3 ⟨rfl, hb3⟩
 have hbx : Below w2.heap.size w2 (w3.alloc (.cells #[.int .i64 (leftB b x.used).drop, .int .i64 (leftB b x.used).dup, .int .i64 (leftB b x.used).time, .int .i64 (leftB b x.used).crash] 28)) := bAlloc hb3 _
 have hK := heap_new w3 (.cells #[.int .i64 (leftB b x.used).drop, .int .i64 (leftB b x.used).dup, .int .i64 (leftB b x.used).time, .int .i64 (leftB b x.used).crash] 28)
 replace k0 := boxAt k0 hbx
 replace k2 := boxAt k2 hbx
 replace k3 := boxAt k3 hbx
 have HL3 := hid_mk (bTrans HL2.out hbx)
 clear k1 b0 b1 b2 b3 x0 x1 x2 x3 x4 x5 e0 e1 e2 e3 e4 HL2 hb3 hbx
 obtain ⟨x0, x1, x2, x3, x4, x5⟩ := blk6 k2
 obtain ⟨e0, e1, e2, e3, e4⟩ := blk5 k3
 obtain ⟨l0, l1, l2, l3⟩ := blk4 hK
 replace j1 := (HL3.out.cell (p := ⟨ba, _, none⟩) hmlt).trans j1
 replace j2 := (HL3.out.cell (p := ⟨ba, _, none⟩) hmlt).trans j2
 replace j3 := (HL3.out.cell (p := ⟨ba, _, none⟩) hmlt).trans j3
 replace j4 := (HL3.out.cell (p := ⟨ba, _, none⟩) hmlt).trans j4
 replace j5 := (HL3.out.cell (p := ⟨ba, _, none⟩) hmlt).trans j5
 go_wp2_with fail
 generalize w3.alloc (.cells #[.int .i64 (leftB b x.used).drop, .int .i64 (leftB b x.used).dup, .int .i64 (leftB b x.used).time, .int .i64 (leftB b x.used).crash] 28) = w4 at k0 k2 k3 hK HL3 x0 x1 x2 x3 x4 x5 e0 e1 e2 e3 e4 l0 l1 l2 l3 j1 j2 j3 j4 j5 ⊢
 have HL5 := HL3
 have s2 := (Array.getElem?_eq_some_iff.1 k2).1
 have s3 := (Array.getElem?_eq_some_iff.1 k3).1
 have s4 := (Array.getElem?_eq_some_iff.1 hK).1
 have hbb : Below w4.heap.size w4 w4 := bRefl w4
 have hs5 : ba < w4.heap.size := Nat.lt_of_lt_of_le hmlt HL5.out.size
 clear k0 k2 k3 hK HL3
 refine wp_region_held_drew (S := fun w' => w'.cell? ⟨w.heap.size + 1 + 1 + 1, 0, none⟩ = some (.int .i64 5) ∧ w'.cell? ⟨w.heap.size + 1 + 1 + 1, 1, none⟩ = some (.int .i64 f) ∧ w'.cell? ⟨w.heap.size + 1 + 1 + 1, 2, none⟩ = some (.int .i64 n) ∧ w'.cell? ⟨w.heap.size + 1 + 1 + 1, 3, none⟩ = some (.int .i64 c) ∧ w'.cell? ⟨w.heap.size + 1 + 1 + 1, 4, none⟩ = some (.int .i64 (k : Int)) ∧ w'.cell? ⟨w.heap.size + 1 + 1, 0, none⟩ = some (.slice (some ⟨ba, oa, none⟩) x.acts.length d1) ∧ w'.cell? ⟨w.heap.size + 1 + 1, 1, none⟩ = some (.slice B2 x.mail.length d2) ∧ w'.cell? ⟨w.heap.size + 1 + 1, 2, none⟩ = some (.int .i64 x.used.drop) ∧ w'.cell? ⟨w.heap.size + 1 + 1, 3, none⟩ = some (.int .i64 x.used.dup) ∧ w'.cell? ⟨w.heap.size + 1 + 1, 4, none⟩ = some (.int .i64 x.used.time) ∧ w'.cell? ⟨w.heap.size + 1 + 1, 5, none⟩ = some (.int .i64 x.used.crash) ∧ w'.cell? ⟨w3.heap.size, 0, none⟩ = some (.int .i64 (leftB b x.used).drop) ∧ w'.cell? ⟨w3.heap.size, 1, none⟩ = some (.int .i64 (leftB b x.used).dup) ∧ w'.cell? ⟨w3.heap.size, 2, none⟩ = some (.int .i64 (leftB b x.used).time) ∧ w'.cell? ⟨w3.heap.size, 3, none⟩ = some (.int .i64 (leftB b x.used).crash) ∧ w'.cell? ⟨ba, oa + k * 5, none⟩ = some (.slice A6 a.regs.length c6) ∧ w'.cell? ⟨ba, oa + k * 5 + 1, none⟩ = some (.bool a.armed) ∧ w'.cell? ⟨ba, oa + k * 5 + 2, none⟩ = some (.int .i64 a.down) ∧ w'.cell? ⟨ba, oa + k * 5 + 3, none⟩ = some (.int .i64 a.sent) ∧ w'.cell? ⟨ba, oa + k * 5 + 4, none⟩ = some (.int .i64 a.over)) (by kernel_rfl) ?_ (fun hHeld => ?_)
 ·try dsimp only
  go_keep
 refine tKh (i := 0) (oi := ⟨some 64, .fieldAddr 36 (.tmp 7) 1, 0, "event.go:49", #[], none⟩) (v := ?_) (hy := .inl ⟨by rfl, ?_⟩) (h := ?_)
 rotate_left
 ·intro w hSw
  try dsimp only at hSw
  go_simp
  try with_reducible rfl
 try simp only [Act.put, sqA, sqB, sqC]
 refine tKh (i := 1) (oi := ⟨some 65, .load 34 (.tmp 64), 34, "event.go:49", #[⟨0, .data⟩], none⟩) (v := ?_) (hy := .inl ⟨by rfl, ?_⟩) (h := ?_)
 rotate_left
 ·intro w hSw
  try dsimp only at hSw
  go_simp
  try with_reducible rfl
 try simp only [Act.put, sqA, sqB, sqC]
 refine tKh (i := 2) (oi := ⟨some 66, .build 34 #[], 34, "event.go:49", #[], none⟩) (v := ?_) (hy := .inl ⟨by rfl, ?_⟩) (h := ?_)
 rotate_left
 ·intro w hSw
  try dsimp only at hSw
  go_simp
  try with_reducible rfl
 try simp only [Act.put, sqA, sqB, sqC]
 refine tKh (i := 3) (oi := ⟨some 67, .binOp .eql 34 (.tmp 65) (.tmp 66) 34, 4, "event.go:49", #[⟨1, .data⟩, ⟨2, .data⟩], none⟩) (v := ?_) (hy := .inl ⟨by rfl, ?_⟩) (h := ?_)
 rotate_left
 ·intro w hSw
  try dsimp only at hSw
  go_simp
  try with_reducible rfl
 try simp only [Act.put, sqA, sqB, sqC]
 refine tKh (i := 4) (oi := ⟨some 68, .move (.tmp 67), 4, "event.go:49", #[⟨3, .data⟩], none⟩) (v := ?_) (hy := .inl ⟨by rfl, ?_⟩) (h := ?_)
 rotate_left
 ·intro w hSw
  try dsimp only at hSw
  go_simp
  try with_reducible rfl
 try simp only [Act.put, sqA, sqB, sqC]
 refine tKh (i := 5) (oi := ⟨some 69, .move (.tmp 11), 4, "event.go:49", #[⟨4, .guard⟩], some (4, true)⟩) (v := ?_) (hy := .inl ⟨by rfl, ?_⟩) (h := ?_)
 rotate_left
 ·intro w hSw
  try dsimp only at hSw
  go_simp
  try with_reducible rfl
 try simp only [Act.put, sqA, sqB, sqC]
 refine tKh (i := 6) (oi := ⟨some 70, .pick (.tmp 68) (.tmp 69) (.const (.bool false)), 4, "event.go:49", #[⟨4, .data⟩, ⟨5, .data⟩], none⟩) (v := ?_) (hy := .inl ⟨by rfl, ?_⟩) (h := ?_)
 rotate_left
 ·intro w hSw
  try dsimp only at hSw
  go_simp
  try with_reducible rfl
 try simp only [Act.put, sqA, sqB, sqC]
 refine tKh (i := 7) (oi := ⟨some 71, .move (.tmp 70), 4, "event.go:49", #[⟨6, .data⟩, ⟨4, .chain⟩], none⟩) (v := ?_) (hy := .inl ⟨by rfl, ?_⟩) (h := ?_)
 rotate_left
 ·intro w hSw
  try dsimp only at hSw
  go_simp
  try with_reducible rfl
 try simp only [Act.put, sqA, sqB, sqC]
 refine tKh (i := 8) (oi := ⟨some 72, .load 28 (.tmp 9), 28, "event.go:49", #[⟨7, .guard⟩], some (7, true)⟩) (v := ?_) (hy := .inl ⟨by rfl, ?_⟩) (h := ?_)
 rotate_left
 ·intro w hSw
  try dsimp only at hSw
  go_simp
  try with_reducible rfl
 try simp only [Act.put, sqA, sqB, sqC]
 refine tKh (i := 9) (oi := ⟨some 73, .fieldAddr 36 (.tmp 7) 0, 0, "event.go:49", #[⟨7, .guard⟩], some (7, true)⟩) (v := ?_) (hy := .inl ⟨by rfl, ?_⟩) (h := ?_)
 rotate_left
 ·intro w hSw
  try dsimp only at hSw
  go_simp
  try with_reducible rfl
 try simp only [Act.put, sqA, sqB, sqC]
 refine tKh (i := 10) (oi := ⟨some 74, .load 3 (.tmp 73), 3, "event.go:49", #[⟨9, .data⟩, ⟨7, .guard⟩], some (7, true)⟩) (v := ?_) (hy := .inl ⟨by rfl, ?_⟩) (h := ?_)
 rotate_left
 ·intro w hSw
  try dsimp only at hSw
  go_simp
  try with_reducible rfl
 try simp only [Act.put, sqA, sqB, sqC]
 refine tKh (i := 11) (oi := ⟨some 75, .fieldAddr 32 (.tmp 6) 0, 0, "event.go:49", #[⟨7, .guard⟩], some (7, true)⟩) (v := ?_) (hy := .inl ⟨by rfl, ?_⟩) (h := ?_)
 rotate_left
 ·intro w hSw
  try dsimp only at hSw
  go_simp
  try with_reducible rfl
 try simp only [Act.put, sqA, sqB, sqC]
 refine tKh (i := 12) (oi := ⟨some 76, .load 29 (.tmp 75), 29, "event.go:49", #[⟨11, .data⟩, ⟨7, .guard⟩], some (7, true)⟩) (v := ?_) (hy := .inl ⟨by rfl, ?_⟩) (h := ?_)
 rotate_left
 ·intro w hSw
  try dsimp only at hSw
  go_simp
  try with_reducible rfl
 try simp only [Act.put, sqA, sqB, sqC]
 refine tKh (i := 13) (oi := ⟨some 77, .fieldAddr 36 (.tmp 7) 2, 0, "event.go:49", #[⟨7, .guard⟩], some (7, true)⟩) (v := ?_) (hy := .inl ⟨by rfl, ?_⟩) (h := ?_)
 rotate_left
 ·intro w hSw
  try dsimp only at hSw
  go_simp
  try with_reducible rfl
 try simp only [Act.put, sqA, sqB, sqC]
 refine tKh (i := 14) (oi := ⟨some 78, .load 3 (.tmp 77), 3, "event.go:49", #[⟨13, .data⟩, ⟨7, .guard⟩], some (7, true)⟩) (v := ?_) (hy := .inl ⟨by rfl, ?_⟩) (h := ?_)
 rotate_left
 ·intro w hSw
  try dsimp only at hSw
  go_simp
  try with_reducible rfl
 try simp only [Act.put, sqA, sqB, sqC]
 refine tKh (i := 15) (oi := ⟨some 79, .indexAddr 29 (.tmp 76) (.tmp 78), 0, "event.go:49", #[⟨12, .data⟩, ⟨14, .data⟩, ⟨7, .guard⟩], some (7, true)⟩) (v := ?_) (hy := .inl ⟨by rfl, ?_⟩) (h := ?_)
 rotate_left
 ·intro w hSw
  try dsimp only at hSw
  go_simp
  try with_reducible rfl
 try simp only [Act.put, sqA, sqB, sqC]
 refine tKh (i := 16) (oi := ⟨some 80, .load 56 (.tmp 79), 56, "event.go:49", #[⟨15, .data⟩, ⟨7, .guard⟩], some (7, true)⟩) (v := ?_) (hy := .inl ⟨by rfl, ?_⟩) (h := ?_)
 rotate_left
 ·intro w hSw
  try dsimp only at hSw
  go_simp
  try with_reducible rfl
 try simp only [Act.put, sqA, sqB, sqC]
 refine wpAnyH_ready (rs := [17]) (by kernel_rfl) (by simp) ?_
 refine AllReadyH.cons (o := ⟨some 81, .call { callee := .value (.func 61), args := #[.tmp 72, .tmp 74, .tmp 80], argTypes := #[28, 3, 56] }, 4, "event.go:49", #[⟨8, .data⟩, ⟨10, .data⟩, ⟨16, .data⟩, ⟨7, .chain⟩, ⟨7, .guard⟩], some (7, true)⟩) rfl (fun K hK => ?_) AllReadyH.nil
 go_simp
 (go_at_call 61; refine (ofAct_any _ (leftB b x.used) 5 a _ _ _).mono ?_; rintro e w7 ⟨rfl, hb7⟩; have hc7 := (by first | exact bcell (undrew hb7) | exact bcell hb7); replace hbb := bTrans (by first | exact hbb | exact hbb.drew) hb7; clear hb7)
 try (go_wp2_with fail)
 refine hK.out _ _ ?_ (fun hHeld => ?_)
 ·try dsimp only
  go_keep
 clear hK K
 try simp only [Act.put, sqA, sqB, sqC]
 refine tKh (i := 18) (oi := ⟨some 82, .pick (.tmp 71) (.tmp 81) (.const (.bool false)), 4, "event.go:49", #[⟨7, .data⟩, ⟨17, .data⟩], none⟩) (v := ?_) (hy := .inl ⟨by rfl, ?_⟩) (h := ?_)
 rotate_left
 ·intro w hSw
  try dsimp only at hSw
  go_simp
  try with_reducible rfl
 try simp only [Act.put, sqA, sqB, sqC]
 refine tKh (i := 19) (oi := ⟨some 8, .assign (.tmp 82), 4, "event.go:49", #[⟨18, .data⟩, ⟨17, .chain⟩, ⟨0, .phase⟩, ⟨1, .phase⟩, ⟨2, .phase⟩, ⟨3, .phase⟩, ⟨4, .phase⟩, ⟨5, .phase⟩, ⟨6, .phase⟩, ⟨7, .phase⟩, ⟨8, .phase⟩, ⟨9, .phase⟩, ⟨10, .phase⟩, ⟨11, .phase⟩, ⟨12, .phase⟩, ⟨13, .phase⟩, ⟨14, .phase⟩, ⟨15, .phase⟩, ⟨16, .phase⟩, ⟨17, .phase⟩, ⟨18, .phase⟩], none⟩) (v := ?_) (hy := .inl ⟨by rfl, ?_⟩) (h := ?_)
 rotate_left
 ·intro w hSw
  try dsimp only at hSw
  go_simp
  try with_reducible rfl
 try simp only [Act.put, sqA, sqB, sqC]
 refine wpAnyH_done (by kernel_rfl) ?_ _
 go_wp2_with fail
 go_ret
 exact ⟨ret_b HR.out, bTrans HL5.out (by first | exact hbb | exact hbb.drew)⟩
set_option maxHeartbeats 8000000 in
set_option maxRecDepth 100000 in
theorem is_no (w : World) (vp vw : Value) (p : PPrg) (b : PBud) (x : PWld) (κ f n c who : Int) (ht : Tab w) (hp : PrgV w vp p) (hx : WldV w vw x) (hf : fitsP p b x = false) :
  Calls Tryz.prog 23 #[vp, uVal b, vw, eVal ⟨κ, ⟨f, n, c⟩, who⟩] w fun e w' => e = .returned (.bool (isP p b x ⟨κ, ⟨f, n, c⟩, who⟩)) ∧ Below w.heap.size w w' := by
 have HP := hid_mk hp
 have HX := hid_mk hx
 have HT := hid_mk ht
 obtain ⟨vh, vb, vc, rfl, h1, h2, h3⟩ := hp
 obtain ⟨A1, c1, rfl, _⟩ := h1.form
 obtain ⟨A2, c2, rfl, _⟩ := h2.form
 obtain ⟨A3, c3, rfl, _⟩ := h3.form
 obtain ⟨va, vm, rfl, g1, g2⟩ := hx
 obtain ⟨B1, d1, rfl, _⟩ := g1.form
 obtain ⟨B2, d2, rfl, _⟩ := g2.form
 have HG1 := hid_mk g1
 have HG2 := hid_mk g2
 have HR := hid_mk (isP_no (p := p) (b := b) (x := x) (e := ⟨κ, ⟨f, n, c⟩, who⟩) hf)
 clear h1 h2 h3 g1 g2 ht
 have hgD := gD
 go_enter Tryz.func23, Tryz.ntmps23
 go_wp2_with fail
 obtain ⟨k0, k1, k2, k3, k4⟩ := four_new w (.cells #[.slice A1 p.hs.length c1, .slice A2 p.acs.length c2, .slice A3 p.bs.length c3, .int .i64 p.fuel] 26) (.cells #[.int .i64 b.drop, .int .i64 b.dup, .int .i64 b.time, .int .i64 b.crash] 28) (.cells #[.slice B1 x.acts.length d1, .slice B2 x.mail.length d2, .int .i64 x.used.drop, .int .i64 x.used.dup, .int .i64 x.used.time, .int .i64 x.used.crash] 32) (.cells #[.int .i64 κ, .int .i64 f, .int .i64 n, .int .i64 c, .int .i64 who] 36)
 have HL : Hid (Below w.heap.size w ((((w.alloc (.cells #[.slice A1 p.hs.length c1, .slice A2 p.acs.length c2, .slice A3 p.bs.length c3, .int .i64 p.fuel] 26)).alloc (.cells #[.int .i64 b.drop, .int .i64 b.dup, .int .i64 b.time, .int .i64 b.crash] 28)).alloc (.cells #[.slice B1 x.acts.length d1, .slice B2 x.mail.length d2, .int .i64 x.used.drop, .int .i64 x.used.dup, .int .i64 x.used.time, .int .i64 x.used.crash] 32)).alloc (.cells #[.int .i64 κ, .int .i64 f, .int .i64 n, .int .i64 c, .int .i64 who] 36))) := bAlloc (bAlloc (bAlloc (bAlloc (bRefl _) _) _) _) _
 generalize ((((w.alloc (.cells #[.slice A1 p.hs.length c1, .slice A2 p.acs.length c2, .slice A3 p.bs.length c3, .int .i64 p.fuel] 26)).alloc (.cells #[.int .i64 b.drop, .int .i64 b.dup, .int .i64 b.time, .int .i64 b.crash] 28)).alloc (.cells #[.slice B1 x.acts.length d1, .slice B2 x.mail.length d2, .int .i64 x.used.drop, .int .i64 x.used.dup, .int .i64 x.used.time, .int .i64 x.used.crash] 32)).alloc (.cells #[.int .i64 κ, .int .i64 f, .int .i64 n, .int .i64 c, .int .i64 who] 36)) = w1 at k0 k1 k2 k3 k4 HL ⊢
 refine (fits_any _ _ _ p b x (HT.out.below HL.out) (HP.out.below HL.out) (HX.out.below HL.out)).mono ?_
 rintro e w2 ⟨rfl, hb2⟩
 replace k0 := boxAt k0 hb2
 replace k1 := boxAt k1 hb2
 replace k2 := boxAt k2 hb2
 replace k3 := boxAt k3 hb2
 have HL2 := hid_mk (bTrans HL.out hb2)
 obtain ⟨b0, b1, b2, b3⟩ := blk4 k1
 obtain ⟨x0, x1, x2, x3, x4, x5⟩ := blk6 k2
 obtain ⟨e0, e1, e2, e3, e4⟩ := blk5 k3
 clear k4 HL hb2
 go_wp2_with fail
 go_ret
 exact ⟨ret_b HR.out, HL2.out⟩
set_option maxHeartbeats 8000000 in
set_option maxRecDepth 100000 in
theorem is_0 (w : World) (vp vw : Value) (p : PPrg) (b : PBud) (x : PWld) (κ f n c who : Int) (ht : Tab w) (hp : PrgV w vp p) (hx : WldV w vw x) (hf : fitsP p b x = true) (q1 : ¬ κ = 1) (q2 : ¬ κ = 2) (q3 : ¬ κ = 3) (q4 : ¬ κ = 4) (q5 : ¬ κ = 5) :
  Calls Tryz.prog 23 #[vp, uVal b, vw, eVal ⟨κ, ⟨f, n, c⟩, who⟩] w fun e w' => e = .returned (.bool (isP p b x ⟨κ, ⟨f, n, c⟩, who⟩)) ∧ Below w.heap.size w w' := by
 have HP := hid_mk hp
 have HX := hid_mk hx
 have HT := hid_mk ht
 obtain ⟨vh, vb, vc, rfl, h1, h2, h3⟩ := hp
 obtain ⟨A1, c1, rfl, _⟩ := h1.form
 obtain ⟨A2, c2, rfl, _⟩ := h2.form
 obtain ⟨A3, c3, rfl, _⟩ := h3.form
 obtain ⟨va, vm, rfl, g1, g2⟩ := hx
 obtain ⟨B1, d1, rfl, _⟩ := g1.form
 obtain ⟨B2, d2, rfl, _⟩ := g2.form
 have HG1 := hid_mk g1
 have HG2 := hid_mk g2
 have HR : Hid (false = isP p b x ⟨κ, ⟨f, n, c⟩, who⟩) := isP_0 (p := p) (b := b) (x := x) (e := ⟨κ, ⟨f, n, c⟩, who⟩) (by simp [q1, q2, q3]) (by simp [q4, q5])
 clear h1 h2 h3 g1 g2 ht
 have hgD := gD
 go_enter Tryz.func23, Tryz.ntmps23
 go_wp2_with fail
 obtain ⟨k0, k1, k2, k3, k4⟩ := four_new w (.cells #[.slice A1 p.hs.length c1, .slice A2 p.acs.length c2, .slice A3 p.bs.length c3, .int .i64 p.fuel] 26) (.cells #[.int .i64 b.drop, .int .i64 b.dup, .int .i64 b.time, .int .i64 b.crash] 28) (.cells #[.slice B1 x.acts.length d1, .slice B2 x.mail.length d2, .int .i64 x.used.drop, .int .i64 x.used.dup, .int .i64 x.used.time, .int .i64 x.used.crash] 32) (.cells #[.int .i64 κ, .int .i64 f, .int .i64 n, .int .i64 c, .int .i64 who] 36)
 have HL : Hid (Below w.heap.size w ((((w.alloc (.cells #[.slice A1 p.hs.length c1, .slice A2 p.acs.length c2, .slice A3 p.bs.length c3, .int .i64 p.fuel] 26)).alloc (.cells #[.int .i64 b.drop, .int .i64 b.dup, .int .i64 b.time, .int .i64 b.crash] 28)).alloc (.cells #[.slice B1 x.acts.length d1, .slice B2 x.mail.length d2, .int .i64 x.used.drop, .int .i64 x.used.dup, .int .i64 x.used.time, .int .i64 x.used.crash] 32)).alloc (.cells #[.int .i64 κ, .int .i64 f, .int .i64 n, .int .i64 c, .int .i64 who] 36))) := bAlloc (bAlloc (bAlloc (bAlloc (bRefl _) _) _) _) _
 generalize ((((w.alloc (.cells #[.slice A1 p.hs.length c1, .slice A2 p.acs.length c2, .slice A3 p.bs.length c3, .int .i64 p.fuel] 26)).alloc (.cells #[.int .i64 b.drop, .int .i64 b.dup, .int .i64 b.time, .int .i64 b.crash] 28)).alloc (.cells #[.slice B1 x.acts.length d1, .slice B2 x.mail.length d2, .int .i64 x.used.drop, .int .i64 x.used.dup, .int .i64 x.used.time, .int .i64 x.used.crash] 32)).alloc (.cells #[.int .i64 κ, .int .i64 f, .int .i64 n, .int .i64 c, .int .i64 who] 36)) = w1 at k0 k1 k2 k3 k4 HL ⊢
 refine (fits_any _ _ _ p b x (HT.out.below HL.out) (HP.out.below HL.out) (HX.out.below HL.out)).mono ?_
 rintro e w2 ⟨rfl, hb2⟩
 replace k0 := boxAt k0 hb2
 replace k1 := boxAt k1 hb2
 replace k2 := boxAt k2 hb2
 replace k3 := boxAt k3 hb2
 have HL2 := hid_mk (bTrans HL.out hb2)
 obtain ⟨b0, b1, b2, b3⟩ := blk4 k1
 obtain ⟨x0, x1, x2, x3, x4, x5⟩ := blk6 k2
 obtain ⟨e0, e1, e2, e3, e4⟩ := blk5 k3
 clear k4 HL hb2
 go_wp2_with fail
 refine (left_any _ b x.used _ _ _ _ _ _).mono ?_
 rintro e w3 ⟨rfl, hb3⟩
 have hbx : Below w2.heap.size w2 (w3.alloc (.cells #[.int .i64 (leftB b x.used).drop, .int .i64 (leftB b x.used).dup, .int .i64 (leftB b x.used).time, .int .i64 (leftB b x.used).crash] 28)) := bAlloc hb3 _
 have hK := heap_new w3 (.cells #[.int .i64 (leftB b x.used).drop, .int .i64 (leftB b x.used).dup, .int .i64 (leftB b x.used).time, .int .i64 (leftB b x.used).crash] 28)
 replace k0 := boxAt k0 hbx
 replace k2 := boxAt k2 hbx
 replace k3 := boxAt k3 hbx
 have HL3 := hid_mk (bTrans HL2.out hbx)
 clear k1 b0 b1 b2 b3 x0 x1 x2 x3 x4 x5 e0 e1 e2 e3 e4 HL2 hb3 hbx
 obtain ⟨x0, x1, x2, x3, x4, x5⟩ := blk6 k2
 obtain ⟨e0, e1, e2, e3, e4⟩ := blk5 k3
 obtain ⟨l0, l1, l2, l3⟩ := blk4 hK
 go_wp2_with fail
 go_ret
 exact ⟨ret_b HR.out, HL3.out⟩
theorem is_any (w : World) (vp vw : Value) (p : PPrg) (b : PBud) (x : PWld) (e : PEv) (ht : Tab w) (hp : PrgV w vp p) (hx : WldV w vw x) :
  Calls Tryz.prog 23 #[vp, uVal b, vw, eVal e] w fun r w' => r = .returned (.bool (isP p b x e)) ∧ Below w.heap.size w w' := by
 obtain ⟨κ, ⟨f, n, c⟩, who⟩ := e
 cases hf : fitsP p b x with
 | false => exact is_no w vp vw p b x κ f n c who ht hp hx hf
 | true =>
  by_cases q1 : κ = 1
  ·subst q1
   by_cases hw : who = 0
   ·cases hfi : x.mail.findIdx? (fun m => decide (m.id = ⟨f, n, c⟩)) with
    | none => exact is_m1b w vp vw p b x f n c who ht hp hx hf hw hfi
    | some k => exact is_m1c w vp vw p b x f n c who ht hp hx hf hw k hfi
   ·exact is_m1a w vp vw p b x f n c who ht hp hx hf hw
  by_cases q2 : κ = 2
  ·subst q2
   by_cases hw : who = 0
   ·cases hfi : x.mail.findIdx? (fun m => decide (m.id = ⟨f, n, c⟩)) with
    | none => exact is_m2b w vp vw p b x f n c who ht hp hx hf hw hfi
    | some k => exact is_m2c w vp vw p b x f n c who ht hp hx hf hw k hfi
   ·exact is_m2a w vp vw p b x f n c who ht hp hx hf hw
  by_cases q3 : κ = 3
  ·subst q3
   by_cases hw : who = 0
   ·cases hfi : x.mail.findIdx? (fun m => decide (m.id = ⟨f, n, c⟩)) with
    | none => exact is_m3b w vp vw p b x f n c who ht hp hx hf hw hfi
    | some k => exact is_m3c w vp vw p b x f n c who ht hp hx hf hw k hfi
   ·exact is_m3a w vp vw p b x f n c who ht hp hx hf hw
  by_cases q4 : κ = 4
  ·subst q4
   by_cases hz : (⟨f, n, c⟩ : PID) = ⟨0, 0, 0⟩
   ·by_cases hw : 0 ≤ who
    ·by_cases hw1 : who < x.acts.length
     ·obtain ⟨k, rfl⟩ := Int.eq_ofNat_of_zero_le hw
      exact is_a4e w vp vw p b x f n c k ht hp hx hf hz (by omega)
     ·exact is_a4d w vp vw p b x f n c who ht hp hx hf hz hw hw1
    ·exact is_a4c w vp vw p b x f n c who ht hp hx hf hz hw
   ·by_cases hw : 0 ≤ who
    ·exact is_a4a w vp vw p b x f n c who ht hp hx hf hz hw
    ·exact is_a4b w vp vw p b x f n c who ht hp hx hf hz hw
  by_cases q5 : κ = 5
  ·subst q5
   by_cases hz : (⟨f, n, c⟩ : PID) = ⟨0, 0, 0⟩
   ·by_cases hw : 0 ≤ who
    ·by_cases hw1 : who < x.acts.length
     ·obtain ⟨k, rfl⟩ := Int.eq_ofNat_of_zero_le hw
      exact is_a5e w vp vw p b x f n c k ht hp hx hf hz (by omega)
     ·exact is_a5d w vp vw p b x f n c who ht hp hx hf hz hw hw1
    ·exact is_a5c w vp vw p b x f n c who ht hp hx hf hz hw
   ·by_cases hw : 0 ≤ who
    ·exact is_a5a w vp vw p b x f n c who ht hp hx hf hz hw
    ·exact is_a5b w vp vw p b x f n c who ht hp hx hf hz hw
  exact is_0 w vp vw p b x κ f n c who ht hp hx hf q1 q2 q3 q4 q5
end Go.Proofs.YtfbeiedhdmndnaaGreatDoor
