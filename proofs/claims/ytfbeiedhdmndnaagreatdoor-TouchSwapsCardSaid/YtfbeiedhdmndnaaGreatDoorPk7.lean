/-
  Whether an event may happen (event.Is).
-/
import Derived.Test.YtfbeiedhdmndnaaGreatDoorPk6
namespace Go.Proofs.YtfbeiedhdmndnaaGreatDoor
open Go.RowKit
attribute [local go_sem ↓] eq6
def isM (l : PBud) (x : PWld) (e : PEv) : Bool := decide (e.who = 0) && (match x.mail.findIdx? (fun m => decide (m.id = e.id)) with | some k => ofM l x e.kind (x.mail.getD k default) | none => false)
def isA (l : PBud) (x : PWld) (e : PEv) : Bool := decide (e.id = ⟨0, 0, 0⟩) && (decide (0 ≤ e.who ∧ e.who < x.acts.length) && ofA l e.kind (x.acts.getD e.who.toNat default))
def isL (l : PBud) (x : PWld) (e : PEv) : Bool := if e.kind = 1 ∨ e.kind = 2 ∨ e.kind = 3 then isM l x e else if e.kind = 4 ∨ e.kind = 5 then isA l x e else false
noncomputable def isP (p : PPrg) (b : PBud) (x : PWld) (e : PEv) : Bool := fitsP p b x && isL (leftB b x.used) x e
theorem chkW_to {p : PPrg} {x : PWld} (h : chkW p x = true) {m : PMsg} (hm : m ∈ x.mail) : 0 ≤ m.nt.to ∧ m.nt.to < x.acts.length := by
 unfold chkW at h
 simp only [Bool.and_eq_true] at h
 have h2 := h.2.1
 have h3 := h.2.2.1
 unfold chkAs at h2
 have hl := (of_decide_eq_true h2).1
 unfold chkM at h3
 rw [Bool.and_eq_true] at h3
 have h4 := List.all_eq_true.1 h3.1 m hm
 rw [Bool.and_eq_true] at h4
 have h5 := h4.1
 unfold chkNt at h5
 rw [Bool.and_eq_true] at h5
 have := inB_iff.1 h5.1
 omega
theorem four_new (w : World) (X Y Z U : Obj) : ((((w.alloc X).alloc Y).alloc Z).alloc U).heap[w.heap.size]? = some X ∧ ((((w.alloc X).alloc Y).alloc Z).alloc U).heap[w.heap.size + 1]? = some Y ∧ ((((w.alloc X).alloc Y).alloc Z).alloc U).heap[w.heap.size + 1 + 1]? = some Z ∧ ((((w.alloc X).alloc Y).alloc Z).alloc U).heap[w.heap.size + 1 + 1 + 1]? = some U ∧ ((((w.alloc X).alloc Y).alloc Z).alloc U).heap.size = w.heap.size + 4 := by
 refine ⟨?_, ?_, ?_, ?_, by simp⟩
 ·rw [Below.heap_alloc _ _ _ (by simp <;> omega), Below.heap_alloc _ _ _ (by simp <;> omega), Below.heap_alloc _ _ _ (by simp)]; exact heap_new _ _
 ·rw [Below.heap_alloc _ _ _ (by simp <;> omega), Below.heap_alloc _ _ _ (by simp)]; exact heap_new2 (by simp)
 ·rw [Below.heap_alloc _ _ _ (by simp)]; exact heap_new2 (by simp)
 ·exact heap_new2 (by simp)
theorem fnd_nn {l : List PMsg} {d : PID} (h : l.findIdx? (fun m => decide (m.id = d)) = none) : fnd l d = -1 := by unfold fnd; rw [h]
theorem fnd_sm {l : List PMsg} {d : PID} {k : Nat} (h : l.findIdx? (fun m => decide (m.id = d)) = some k) : fnd l d = k := by unfold fnd; rw [h]
theorem fnd_lt {l : List PMsg} {d : PID} {k : Nat} (h : l.findIdx? (fun m => decide (m.id = d)) = some k) : k < l.length := by
 rw [List.findIdx?_eq_some_iff_getElem] at h; exact h.1
theorem isP_M {p : PPrg} {b : PBud} {x : PWld} {e : PEv} (hf : fitsP p b x = true) (hk : e.kind = 1 ∨ e.kind = 2 ∨ e.kind = 3) {z : Bool} (h : z = isM (leftB b x.used) x e) : z = isP p b x e := by
 unfold isP isL; rw [hf, if_pos hk]; exact h
theorem isP_A {p : PPrg} {b : PBud} {x : PWld} {e : PEv} (hf : fitsP p b x = true) (hk : e.kind = 4 ∨ e.kind = 5) {z : Bool} (h : z = isA (leftB b x.used) x e) : z = isP p b x e := by
 unfold isP isL; rw [hf, if_neg (by omega), if_pos hk]; exact h
theorem isP_0 {p : PPrg} {b : PBud} {x : PWld} {e : PEv} (hk : ¬ (e.kind = 1 ∨ e.kind = 2 ∨ e.kind = 3)) (hk2 : ¬ (e.kind = 4 ∨ e.kind = 5)) : false = isP p b x e := by
 unfold isP isL; rw [if_neg hk, if_neg hk2]; simp
theorem isP_no {p : PPrg} {b : PBud} {x : PWld} {e : PEv} (hf : fitsP p b x = false) : false = isP p b x e := by
 unfold isP; rw [hf]; rfl
set_option maxHeartbeats 8000000 in
set_option maxRecDepth 100000 in
theorem is_m1a (w : World) (vp vw : Value) (p : PPrg) (b : PBud) (x : PWld) (f n c who : Int) (ht : Tab w) (hp : PrgV w vp p) (hx : WldV w vw x) (hf : fitsP p b x = true) (hw : who ≠ 0) :
  Calls Tryz.prog 23 #[vp, uVal b, vw, eVal ⟨1, ⟨f, n, c⟩, who⟩] w fun e w' => e = .returned (.bool (isP p b x ⟨1, ⟨f, n, c⟩, who⟩)) ∧ Below w.heap.size w w' := by
 have HP := hid_mk hp
 have HX := hid_mk hx
 have HT := hid_mk ht
 obtain ⟨vh, vb, vc, rfl, h1, h2, h3⟩ := hp
 obtain ⟨A1, c1, rfl, _⟩ := h1.form
 obtain ⟨A2, c2, rfl, _⟩ := h2.form
 obtain ⟨A3, c3, rfl, _⟩ := h3.form
 obtain ⟨va, vm, rfl, g1, g2⟩ := hx
 obtain ⟨B1, d1, rfl, _⟩ := g1.form
 obtain ⟨B2, d2, rfl, _⟩ := g2.form
 have HG1 := hid_mk g1
 have HG2 := hid_mk g2
 have HR := hid_mk (isP_M (p := p) (b := b) (e := ⟨1, ⟨f, n, c⟩, who⟩) hf (by simp) (by unfold isM; rw [decide_eq_false hw]; first | done | rfl))
 have hwd : (who == 0) = false := beq_eq_false_iff_ne.2 hw
 clear hw
 clear h1 h2 h3 g1 g2 ht
 have hgD := gD
 go_enter Tryz.func23, Tryz.ntmps23
 go_wp2_with fail
 obtain ⟨k0, k1, k2, k3, k4⟩ := four_new w (.cells #[.slice A1 p.hs.length c1, .slice A2 p.acs.length c2, .slice A3 p.bs.length c3, .int .i64 p.fuel] 26) (.cells #[.int .i64 b.drop, .int .i64 b.dup, .int .i64 b.time, .int .i64 b.crash] 28) (.cells #[.slice B1 x.acts.length d1, .slice B2 x.mail.length d2, .int .i64 x.used.drop, .int .i64 x.used.dup, .int .i64 x.used.time, .int .i64 x.used.crash] 32) (.cells #[.int .i64 1, .int .i64 f, .int .i64 n, .int .i64 c, .int .i64 who] 36)
 have HL : Hid (Below w.heap.size w ((((w.alloc (.cells #[.slice A1 p.hs.length c1, .slice A2 p.acs.length c2, .slice A3 p.bs.length c3, .int .i64 p.fuel] 26)).alloc (.cells #[.int .i64 b.drop, .int .i64 b.dup, .int .i64 b.time, .int .i64 b.crash] 28)).alloc (.cells #[.slice B1 x.acts.length d1, .slice B2 x.mail.length d2, .int .i64 x.used.drop, .int .i64 x.used.dup, .int .i64 x.used.time, .int .i64 x.used.crash] 32)).alloc (.cells #[.int .i64 1, .int .i64 f, .int .i64 n, .int .i64 c, .int .i64 who] 36))) := bAlloc (bAlloc (bAlloc (bAlloc (bRefl _) _) _) _) _
 generalize ((((w.alloc (.cells #[.slice A1 p.hs.length c1, .slice A2 p.acs.length c2, .slice A3 p.bs.length c3, .int .i64 p.fuel] 26)).alloc (.cells #[.int .i64 b.drop, .int .i64 b.dup, .int .i64 b.time, .int .i64 b.crash] 28)).alloc (.cells #[.slice B1 x.acts.length d1, .slice B2 x.mail.length d2, .int .i64 x.used.drop, .int .i64 x.used.dup, .int .i64 x.used.time, .int .i64 x.used.crash] 32)).alloc (.cells #[.int .i64 1, .int .i64 f, .int .i64 n, .int .i64 c, .int .i64 who] 36)) = w1 at k0 k1 k2 k3 k4 HL ⊢
 refine (fits_any _ _ _ p b x (HT.out.below HL.out) (HP.out.below HL.out) (HX.out.below HL.out)).mono ?_
 rintro e w2 ⟨rfl, hb2⟩
 replace k0 := boxAt k0 hb2
 replace k1 := boxAt k1 hb2
 replace k2 := boxAt k2 hb2
 replace k3 := boxAt k3 hb2
 have HL2 := hid_mk (bTrans HL.out hb2)
 obtain ⟨b0, b1, b2, b3⟩ := blk4 k1
 obtain ⟨x0, x1, x2, x3, x4, x5⟩ := blk6 k2
 obtain ⟨e0, e1, e2, e3, e4⟩ := blk5 k3
 clear k4 HL hb2
 go_wp2_with fail
 refine (left_any _ b x.used _ _ _ _ _ _).mono ?_
 rintro e w3 ⟨rfl, hb3⟩
 have hbx : Below w2.heap.size w2 (w3.alloc (.cells #[.int .i64 (leftB b x.used).drop, .int .i64 (leftB b x.used).dup, .int .i64 (leftB b x.used).time, .int .i64 (leftB b x.used).crash] 28)) := bAlloc hb3 _
 have hK := heap_new w3 (.cells #[.int .i64 (leftB b x.used).drop, .int .i64 (leftB b x.used).dup, .int .i64 (leftB b x.used).time, .int .i64 (leftB b x.used).crash] 28)
 replace k0 := boxAt k0 hbx
 replace k2 := boxAt k2 hbx
 replace k3 := boxAt k3 hbx
 have HL3 := hid_mk (bTrans HL2.out hbx)
 clear k1 b0 b1 b2 b3 x0 x1 x2 x3 x4 x5 e0 e1 e2 e3 e4 HL2 hb3 hbx
 obtain ⟨x0, x1, x2, x3, x4, x5⟩ := blk6 k2
 obtain ⟨e0, e1, e2, e3, e4⟩ := blk5 k3
 obtain ⟨l0, l1, l2, l3⟩ := blk4 hK
 go_wp2_with fail
 generalize w3.alloc (.cells #[.int .i64 (leftB b x.used).drop, .int .i64 (leftB b x.used).dup, .int .i64 (leftB b x.used).time, .int .i64 (leftB b x.used).crash] 28) = w4 at k0 k2 k3 hK HL3 x0 x1 x2 x3 x4 x5 e0 e1 e2 e3 e4 l0 l1 l2 l3 ⊢
 refine (find_any _ _ x.mail ⟨f, n, c⟩ (HG2.out.below HL3.out)).mono ?_
 rintro e w5 ⟨rfl, hb5⟩
 replace k2 := boxAt k2 hb5
 replace k3 := boxAt k3 hb5
 replace hK := boxAt hK hb5
 have HL5 := hid_mk (bTrans HL3.out hb5)
 clear x0 x1 x2 x3 x4 x5 e0 e1 e2 e3 e4 l0 l1 l2 l3
 obtain ⟨x0, x1, x2, x3, x4, x5⟩ := blk6 k2
 obtain ⟨e0, e1, e2, e3, e4⟩ := blk5 k3
 obtain ⟨l0, l1, l2, l3⟩ := blk4 hK
 have s2 := (Array.getElem?_eq_some_iff.1 k2).1
 have s3 := (Array.getElem?_eq_some_iff.1 k3).1
 have s4 := (Array.getElem?_eq_some_iff.1 hK).1
 have hbb : Below w5.heap.size w5 w5 := bRefl w5
 clear k0 k2 k3 hK hb5 HL3
 go_wp2_with fail
 refine wp_region_held_drew (S := fun w' => w'.cell? ⟨w.heap.size + 1 + 1 + 1, 0, none⟩ = some (.int .i64 1) ∧ w'.cell? ⟨w.heap.size + 1 + 1 + 1, 1, none⟩ = some (.int .i64 f) ∧ w'.cell? ⟨w.heap.size + 1 + 1 + 1, 2, none⟩ = some (.int .i64 n) ∧ w'.cell? ⟨w.heap.size + 1 + 1 + 1, 3, none⟩ = some (.int .i64 c) ∧ w'.cell? ⟨w.heap.size + 1 + 1 + 1, 4, none⟩ = some (.int .i64 who) ∧ w'.cell? ⟨w.heap.size + 1 + 1, 0, none⟩ = some (.slice B1 x.acts.length d1) ∧ w'.cell? ⟨w.heap.size + 1 + 1, 1, none⟩ = some (.slice B2 x.mail.length d2) ∧ w'.cell? ⟨w.heap.size + 1 + 1, 2, none⟩ = some (.int .i64 x.used.drop) ∧ w'.cell? ⟨w.heap.size + 1 + 1, 3, none⟩ = some (.int .i64 x.used.dup) ∧ w'.cell? ⟨w.heap.size + 1 + 1, 4, none⟩ = some (.int .i64 x.used.time) ∧ w'.cell? ⟨w.heap.size + 1 + 1, 5, none⟩ = some (.int .i64 x.used.crash) ∧ w'.cell? ⟨w3.heap.size, 0, none⟩ = some (.int .i64 (leftB b x.used).drop) ∧ w'.cell? ⟨w3.heap.size, 1, none⟩ = some (.int .i64 (leftB b x.used).dup) ∧ w'.cell? ⟨w3.heap.size, 2, none⟩ = some (.int .i64 (leftB b x.used).time) ∧ w'.cell? ⟨w3.heap.size, 3, none⟩ = some (.int .i64 (leftB b x.used).crash)) (by kernel_rfl) ?_ (fun hHeld => ?_)
 ·try dsimp only
  go_keep
 refine tKh (i := 0) (oi := ⟨some 31, .fieldAddr 36 (.tmp 7) 2, 0, "event.go:46", #[], none⟩) (v := ?_) (hy := .inl ⟨by rfl, ?_⟩) (h := ?_)
 rotate_left
 ·intro w hSw
  try dsimp only at hSw
  go_simp
  try with_reducible rfl
 try simp only [Act.put, sqA, sqB, sqC]
 refine tKh (i := 1) (oi := ⟨some 32, .load 3 (.tmp 31), 3, "event.go:46", #[⟨0, .data⟩], none⟩) (v := ?_) (hy := .inl ⟨by rfl, ?_⟩) (h := ?_)
 rotate_left
 ·intro w hSw
  try dsimp only at hSw
  go_simp
  try with_reducible rfl
 try simp only [Act.put, sqA, sqB, sqC]
 refine tKh (i := 2) (oi := ⟨some 33, .binOp .eql 3 (.tmp 32) (.const (.int .i64 0)) 3, 4, "event.go:46", #[⟨1, .data⟩], none⟩) (v := ?_) (hy := .inl ⟨by rfl, ?_⟩) (h := ?_)
 rotate_left
 ·intro w hSw
  try dsimp only at hSw
  go_simp
  try with_reducible rfl
 try simp only [Act.put, sqA, sqB, sqC]
 refine tKh (i := 3) (oi := ⟨some 34, .move (.tmp 33), 4, "event.go:46", #[⟨2, .data⟩], none⟩) (v := ?_) (hy := .inl ⟨by rfl, ?_⟩) (h := ?_)
 rotate_left
 ·intro w hSw
  try dsimp only at hSw
  go_simp
  try with_reducible rfl
 try simp only [Act.put, sqA, sqB, sqC]
 refine tKh (i := 4) (oi := ⟨some 35, .move (.tmp 10), 3, "event.go:46", #[⟨3, .guard⟩], some (3, true)⟩) (v := undef) (hy := .inr ⟨by rfl, rfl⟩) (h := ?_)
 try simp only [Act.put, sqA, sqB, sqC]
 refine tKh (i := 5) (oi := ⟨some 36, .binOp .geq 3 (.tmp 35) (.const (.int .i64 0)) 3, 4, "event.go:46", #[⟨4, .data⟩, ⟨3, .guard⟩], some (3, true)⟩) (v := undef) (hy := .inr ⟨by rfl, rfl⟩) (h := ?_)
 try simp only [Act.put, sqA, sqB, sqC]
 refine tKh (i := 6) (oi := ⟨some 37, .pick (.tmp 34) (.tmp 36) (.const (.bool false)), 4, "event.go:46", #[⟨3, .data⟩, ⟨5, .data⟩], none⟩) (v := ?_) (hy := .inl ⟨by rfl, ?_⟩) (h := ?_)
 rotate_left
 ·intro w hSw
  try dsimp only at hSw
  go_simp
  try with_reducible rfl
 try simp only [Act.put, sqA, sqB, sqC]
 refine tKh (i := 7) (oi := ⟨some 38, .move (.tmp 37), 4, "event.go:46", #[⟨6, .data⟩, ⟨3, .chain⟩], none⟩) (v := ?_) (hy := .inl ⟨by rfl, ?_⟩) (h := ?_)
 rotate_left
 ·intro w hSw
  try dsimp only at hSw
  go_simp
  try with_reducible rfl
 try simp only [Act.put, sqA, sqB, sqC]
 refine tKh (i := 8) (oi := ⟨some 39, .load 28 (.tmp 9), 28, "event.go:46", #[⟨7, .guard⟩], some (7, true)⟩) (v := undef) (hy := .inr ⟨by rfl, rfl⟩) (h := ?_)
 try simp only [Act.put, sqA, sqB, sqC]
 refine tKh (i := 9) (oi := ⟨some 40, .load 32 (.tmp 6), 32, "event.go:46", #[⟨7, .guard⟩], some (7, true)⟩) (v := undef) (hy := .inr ⟨by rfl, rfl⟩) (h := ?_)
 try simp only [Act.put, sqA, sqB, sqC]
 refine tKh (i := 10) (oi := ⟨some 41, .fieldAddr 36 (.tmp 7) 0, 0, "event.go:46", #[⟨7, .guard⟩], some (7, true)⟩) (v := undef) (hy := .inr ⟨by rfl, rfl⟩) (h := ?_)
 try simp only [Act.put, sqA, sqB, sqC]
 refine tKh (i := 11) (oi := ⟨some 42, .load 3 (.tmp 41), 3, "event.go:46", #[⟨10, .data⟩, ⟨7, .guard⟩], some (7, true)⟩) (v := undef) (hy := .inr ⟨by rfl, rfl⟩) (h := ?_)
 try simp only [Act.put, sqA, sqB, sqC]
 refine tKh (i := 12) (oi := ⟨some 43, .fieldAddr 32 (.tmp 6) 1, 0, "event.go:46", #[⟨7, .guard⟩], some (7, true)⟩) (v := undef) (hy := .inr ⟨by rfl, rfl⟩) (h := ?_)
 try simp only [Act.put, sqA, sqB, sqC]
 refine tKh (i := 13) (oi := ⟨some 44, .load 30 (.tmp 43), 30, "event.go:46", #[⟨12, .data⟩, ⟨7, .guard⟩], some (7, true)⟩) (v := undef) (hy := .inr ⟨by rfl, rfl⟩) (h := ?_)
 try simp only [Act.put, sqA, sqB, sqC]
 refine tKh (i := 14) (oi := ⟨some 45, .move (.tmp 10), 3, "event.go:46", #[⟨7, .guard⟩], some (7, true)⟩) (v := undef) (hy := .inr ⟨by rfl, rfl⟩) (h := ?_)
 try simp only [Act.put, sqA, sqB, sqC]
 refine tKh (i := 15) (oi := ⟨some 46, .indexAddr 30 (.tmp 44) (.tmp 45), 0, "event.go:46", #[⟨13, .data⟩, ⟨14, .data⟩, ⟨7, .guard⟩], some (7, true)⟩) (v := undef) (hy := .inr ⟨by rfl, rfl⟩) (h := ?_)
 try simp only [Act.put, sqA, sqB, sqC]
 refine tKh (i := 16) (oi := ⟨some 47, .load 90 (.tmp 46), 90, "event.go:46", #[⟨15, .data⟩, ⟨7, .guard⟩], some (7, true)⟩) (v := undef) (hy := .inr ⟨by rfl, rfl⟩) (h := ?_)
 try simp only [Act.put, sqA, sqB, sqC]
 refine wpAnyH_ready (rs := [17]) (by kernel_rfl) (by simp) ?_
 refine AllReadyH.cons (o := ⟨some 48, .call { callee := .value (.func 60), args := #[.tmp 39, .tmp 40, .tmp 42, .tmp 47], argTypes := #[28, 32, 3, 90] }, 4, "event.go:46", #[⟨8, .data⟩, ⟨9, .data⟩, ⟨11, .data⟩, ⟨16, .data⟩, ⟨7, .chain⟩, ⟨7, .guard⟩], some (7, true)⟩) rfl (fun K hK => ?_) AllReadyH.nil
 go_simp
 refine hK.out _ _ ?_ (fun hHeld => ?_)
 ·try dsimp only
  go_keep
 clear hK K
 try simp only [Act.put, sqA, sqB, sqC]
 refine tKh (i := 18) (oi := ⟨some 49, .pick (.tmp 38) (.tmp 48) (.const (.bool false)), 4, "event.go:46", #[⟨7, .data⟩, ⟨17, .data⟩], none⟩) (v := ?_) (hy := .inl ⟨by rfl, ?_⟩) (h := ?_)
 rotate_left
 ·intro w hSw
  try dsimp only at hSw
  go_simp
  try with_reducible rfl
 try simp only [Act.put, sqA, sqB, sqC]
 refine tKh (i := 19) (oi := ⟨some 8, .assign (.tmp 49), 4, "event.go:46", #[⟨18, .data⟩, ⟨17, .chain⟩, ⟨0, .phase⟩, ⟨1, .phase⟩, ⟨2, .phase⟩, ⟨3, .phase⟩, ⟨4, .phase⟩, ⟨5, .phase⟩, ⟨6, .phase⟩, ⟨7, .phase⟩, ⟨8, .phase⟩, ⟨9, .phase⟩, ⟨10, .phase⟩, ⟨11, .phase⟩, ⟨12, .phase⟩, ⟨13, .phase⟩, ⟨14, .phase⟩, ⟨15, .phase⟩, ⟨16, .phase⟩, ⟨17, .phase⟩, ⟨18, .phase⟩], none⟩) (v := ?_) (hy := .inl ⟨by rfl, ?_⟩) (h := ?_)
 rotate_left
 ·intro w hSw
  try dsimp only at hSw
  go_simp
  try with_reducible rfl
 try simp only [Act.put, sqA, sqB, sqC]
 refine wpAnyH_done (by kernel_rfl) ?_ _
 go_wp2_with fail
 go_ret
 exact ⟨ret_b HR.out, bTrans HL5.out (by first | exact hbb | exact hbb.drew)⟩
set_option maxHeartbeats 8000000 in
set_option maxRecDepth 100000 in
theorem is_m1b (w : World) (vp vw : Value) (p : PPrg) (b : PBud) (x : PWld) (f n c who : Int) (ht : Tab w) (hp : PrgV w vp p) (hx : WldV w vw x) (hf : fitsP p b x = true) (hw : who = 0) (hfi : x.mail.findIdx? (fun m => decide (m.id = ⟨f, n, c⟩)) = none) :
  Calls Tryz.prog 23 #[vp, uVal b, vw, eVal ⟨1, ⟨f, n, c⟩, who⟩] w fun e w' => e = .returned (.bool (isP p b x ⟨1, ⟨f, n, c⟩, who⟩)) ∧ Below w.heap.size w w' := by
 have HP := hid_mk hp
 have HX := hid_mk hx
 have HT := hid_mk ht
 obtain ⟨vh, vb, vc, rfl, h1, h2, h3⟩ := hp
 obtain ⟨A1, c1, rfl, _⟩ := h1.form
 obtain ⟨A2, c2, rfl, _⟩ := h2.form
 obtain ⟨A3, c3, rfl, _⟩ := h3.form
 obtain ⟨va, vm, rfl, g1, g2⟩ := hx
 obtain ⟨B1, d1, rfl, _⟩ := g1.form
 obtain ⟨B2, d2, rfl, _⟩ := g2.form
 have HG1 := hid_mk g1
 have HG2 := hid_mk g2
 have HR := hid_mk (isP_M (p := p) (b := b) (e := ⟨1, ⟨f, n, c⟩, who⟩) hf (by simp) (show false = _ by unfold isM; dsimp only; rw [hfi]; simp))
 have hfn := fnd_nn hfi
 clear hfi
 have hwd : (who == 0) = true := beq_iff_eq.2 hw
 clear hw
 clear h1 h2 h3 g1 g2 ht
 have hgD := gD
 go_enter Tryz.func23, Tryz.ntmps23
 go_wp2_with fail
 obtain ⟨k0, k1, k2, k3, k4⟩ := four_new w (.cells #[.slice A1 p.hs.length c1, .slice A2 p.acs.length c2, .slice A3 p.bs.length c3, .int .i64 p.fuel] 26) (.cells #[.int .i64 b.drop, .int .i64 b.dup, .int .i64 b.time, .int .i64 b.crash] 28) (.cells #[.slice B1 x.acts.length d1, .slice B2 x.mail.length d2, .int .i64 x.used.drop, .int .i64 x.used.dup, .int .i64 x.used.time, .int .i64 x.used.crash] 32) (.cells #[.int .i64 1, .int .i64 f, .int .i64 n, .int .i64 c, .int .i64 who] 36)
 have HL : Hid (Below w.heap.size w ((((w.alloc (.cells #[.slice A1 p.hs.length c1, .slice A2 p.acs.length c2, .slice A3 p.bs.length c3, .int .i64 p.fuel] 26)).alloc (.cells #[.int .i64 b.drop, .int .i64 b.dup, .int .i64 b.time, .int .i64 b.crash] 28)).alloc (.cells #[.slice B1 x.acts.length d1, .slice B2 x.mail.length d2, .int .i64 x.used.drop, .int .i64 x.used.dup, .int .i64 x.used.time, .int .i64 x.used.crash] 32)).alloc (.cells #[.int .i64 1, .int .i64 f, .int .i64 n, .int .i64 c, .int .i64 who] 36))) := bAlloc (bAlloc (bAlloc (bAlloc (bRefl _) _) _) _) _
 generalize ((((w.alloc (.cells #[.slice A1 p.hs.length c1, .slice A2 p.acs.length c2, .slice A3 p.bs.length c3, .int .i64 p.fuel] 26)).alloc (.cells #[.int .i64 b.drop, .int .i64 b.dup, .int .i64 b.time, .int .i64 b.crash] 28)).alloc (.cells #[.slice B1 x.acts.length d1, .slice B2 x.mail.length d2, .int .i64 x.used.drop, .int .i64 x.used.dup, .int .i64 x.used.time, .int .i64 x.used.crash] 32)).alloc (.cells #[.int .i64 1, .int .i64 f, .int .i64 n, .int .i64 c, .int .i64 who] 36)) = w1 at k0 k1 k2 k3 k4 HL ⊢
 refine (fits_any _ _ _ p b x (HT.out.below HL.out) (HP.out.below HL.out) (HX.out.below HL.out)).mono ?_
 rintro e w2 ⟨rfl, hb2⟩
 replace k0 := boxAt k0 hb2
 replace k1 := boxAt k1 hb2
 replace k2 := boxAt k2 hb2
 replace k3 := boxAt k3 hb2
 have HL2 := hid_mk (bTrans HL.out hb2)
 obtain ⟨b0, b1, b2, b3⟩ := blk4 k1
 obtain ⟨x0, x1, x2, x3, x4, x5⟩ := blk6 k2
 obtain ⟨e0, e1, e2, e3, e4⟩ := blk5 k3
 clear k4 HL hb2
 go_wp2_with fail
 refine (left_any _ b x.used _ _ _ _ _ _).mono ?_
 rintro e w3 ⟨rfl, hb3⟩
 have hbx : Below w2.heap.size w2 (w3.alloc (.cells #[.int .i64 (leftB b x.used).drop, .int .i64 (leftB b x.used).dup, .int .i64 (leftB b x.used).time, .int .i64 (leftB b x.used).crash] 28)) := bAlloc hb3 _
 have hK := heap_new w3 (.cells #[.int .i64 (leftB b x.used).drop, .int .i64 (leftB b x.used).dup, .int .i64 (leftB b x.used).time, .int .i64 (leftB b x.used).crash] 28)
 replace k0 := boxAt k0 hbx
 replace k2 := boxAt k2 hbx
 replace k3 := boxAt k3 hbx
 have HL3 := hid_mk (bTrans HL2.out hbx)
 clear k1 b0 b1 b2 b3 x0 x1 x2 x3 x4 x5 e0 e1 e2 e3 e4 HL2 hb3 hbx
 obtain ⟨x0, x1, x2, x3, x4, x5⟩ := blk6 k2
 obtain ⟨e0, e1, e2, e3, e4⟩ := blk5 k3
 obtain ⟨l0, l1, l2, l3⟩ := blk4 hK
 go_wp2_with fail
 generalize w3.alloc (.cells #[.int .i64 (leftB b x.used).drop, .int .i64 (leftB b x.used).dup, .int .i64 (leftB b x.used).time, .int .i64 (leftB b x.used).crash] 28) = w4 at k0 k2 k3 hK HL3 x0 x1 x2 x3 x4 x5 e0 e1 e2 e3 e4 l0 l1 l2 l3 ⊢
 refine (find_any _ _ x.mail ⟨f, n, c⟩ (HG2.out.below HL3.out)).mono ?_
 rintro e w5 ⟨rfl, hb5⟩
 replace k2 := boxAt k2 hb5
 replace k3 := boxAt k3 hb5
 replace hK := boxAt hK hb5
 have HL5 := hid_mk (bTrans HL3.out hb5)
 clear x0 x1 x2 x3 x4 x5 e0 e1 e2 e3 e4 l0 l1 l2 l3
 obtain ⟨x0, x1, x2, x3, x4, x5⟩ := blk6 k2
 obtain ⟨e0, e1, e2, e3, e4⟩ := blk5 k3
 obtain ⟨l0, l1, l2, l3⟩ := blk4 hK
 have s2 := (Array.getElem?_eq_some_iff.1 k2).1
 have s3 := (Array.getElem?_eq_some_iff.1 k3).1
 have s4 := (Array.getElem?_eq_some_iff.1 hK).1
 have hbb : Below w5.heap.size w5 w5 := bRefl w5
 clear k0 k2 k3 hK hb5 HL3
 go_wp2_with fail
 refine wp_region_held_drew (S := fun w' => w'.cell? ⟨w.heap.size + 1 + 1 + 1, 0, none⟩ = some (.int .i64 1) ∧ w'.cell? ⟨w.heap.size + 1 + 1 + 1, 1, none⟩ = some (.int .i64 f) ∧ w'.cell? ⟨w.heap.size + 1 + 1 + 1, 2, none⟩ = some (.int .i64 n) ∧ w'.cell? ⟨w.heap.size + 1 + 1 + 1, 3, none⟩ = some (.int .i64 c) ∧ w'.cell? ⟨w.heap.size + 1 + 1 + 1, 4, none⟩ = some (.int .i64 who) ∧ w'.cell? ⟨w.heap.size + 1 + 1, 0, none⟩ = some (.slice B1 x.acts.length d1) ∧ w'.cell? ⟨w.heap.size + 1 + 1, 1, none⟩ = some (.slice B2 x.mail.length d2) ∧ w'.cell? ⟨w.heap.size + 1 + 1, 2, none⟩ = some (.int .i64 x.used.drop) ∧ w'.cell? ⟨w.heap.size + 1 + 1, 3, none⟩ = some (.int .i64 x.used.dup) ∧ w'.cell? ⟨w.heap.size + 1 + 1, 4, none⟩ = some (.int .i64 x.used.time) ∧ w'.cell? ⟨w.heap.size + 1 + 1, 5, none⟩ = some (.int .i64 x.used.crash) ∧ w'.cell? ⟨w3.heap.size, 0, none⟩ = some (.int .i64 (leftB b x.used).drop) ∧ w'.cell? ⟨w3.heap.size, 1, none⟩ = some (.int .i64 (leftB b x.used).dup) ∧ w'.cell? ⟨w3.heap.size, 2, none⟩ = some (.int .i64 (leftB b x.used).time) ∧ w'.cell? ⟨w3.heap.size, 3, none⟩ = some (.int .i64 (leftB b x.used).crash)) (by kernel_rfl) ?_ (fun hHeld => ?_)
 ·try dsimp only
  go_keep
 refine tKh (i := 0) (oi := ⟨some 31, .fieldAddr 36 (.tmp 7) 2, 0, "event.go:46", #[], none⟩) (v := ?_) (hy := .inl ⟨by rfl, ?_⟩) (h := ?_)
 rotate_left
 ·intro w hSw
  try dsimp only at hSw
  go_simp
  try with_reducible rfl
 try simp only [Act.put, sqA, sqB, sqC]
 refine tKh (i := 1) (oi := ⟨some 32, .load 3 (.tmp 31), 3, "event.go:46", #[⟨0, .data⟩], none⟩) (v := ?_) (hy := .inl ⟨by rfl, ?_⟩) (h := ?_)
 rotate_left
 ·intro w hSw
  try dsimp only at hSw
  go_simp
  try with_reducible rfl
 try simp only [Act.put, sqA, sqB, sqC]
 refine tKh (i := 2) (oi := ⟨some 33, .binOp .eql 3 (.tmp 32) (.const (.int .i64 0)) 3, 4, "event.go:46", #[⟨1, .data⟩], none⟩) (v := ?_) (hy := .inl ⟨by rfl, ?_⟩) (h := ?_)
 rotate_left
 ·intro w hSw
  try dsimp only at hSw
  go_simp
  try with_reducible rfl
 try simp only [Act.put, sqA, sqB, sqC]
 refine tKh (i := 3) (oi := ⟨some 34, .move (.tmp 33), 4, "event.go:46", #[⟨2, .data⟩], none⟩) (v := ?_) (hy := .inl ⟨by rfl, ?_⟩) (h := ?_)
 rotate_left
 ·intro w hSw
  try dsimp only at hSw
  go_simp
  try with_reducible rfl
 try simp only [Act.put, sqA, sqB, sqC]
 refine tKh (i := 4) (oi := ⟨some 35, .move (.tmp 10), 3, "event.go:46", #[⟨3, .guard⟩], some (3, true)⟩) (v := ?_) (hy := .inl ⟨by rfl, ?_⟩) (h := ?_)
 rotate_left
 ·intro w hSw
  try dsimp only at hSw
  go_simp
  try with_reducible rfl
 try simp only [Act.put, sqA, sqB, sqC]
 refine tKh (i := 5) (oi := ⟨some 36, .binOp .geq 3 (.tmp 35) (.const (.int .i64 0)) 3, 4, "event.go:46", #[⟨4, .data⟩, ⟨3, .guard⟩], some (3, true)⟩) (v := ?_) (hy := .inl ⟨by rfl, ?_⟩) (h := ?_)
 rotate_left
 ·intro w hSw
  try dsimp only at hSw
  go_simp
  try with_reducible rfl
 try simp only [Act.put, sqA, sqB, sqC]
 refine tKh (i := 6) (oi := ⟨some 37, .pick (.tmp 34) (.tmp 36) (.const (.bool false)), 4, "event.go:46", #[⟨3, .data⟩, ⟨5, .data⟩], none⟩) (v := ?_) (hy := .inl ⟨by rfl, ?_⟩) (h := ?_)
 rotate_left
 ·intro w hSw
  try dsimp only at hSw
  go_simp
  try with_reducible rfl
 try simp only [Act.put, sqA, sqB, sqC]
 refine tKh (i := 7) (oi := ⟨some 38, .move (.tmp 37), 4, "event.go:46", #[⟨6, .data⟩, ⟨3, .chain⟩], none⟩) (v := ?_) (hy := .inl ⟨by rfl, ?_⟩) (h := ?_)
 rotate_left
 ·intro w hSw
  try dsimp only at hSw
  go_simp
  try with_reducible rfl
 try simp only [Act.put, sqA, sqB, sqC]
 refine tKh (i := 8) (oi := ⟨some 39, .load 28 (.tmp 9), 28, "event.go:46", #[⟨7, .guard⟩], some (7, true)⟩) (v := undef) (hy := .inr ⟨by rfl, rfl⟩) (h := ?_)
 try simp only [Act.put, sqA, sqB, sqC]
 refine tKh (i := 9) (oi := ⟨some 40, .load 32 (.tmp 6), 32, "event.go:46", #[⟨7, .guard⟩], some (7, true)⟩) (v := undef) (hy := .inr ⟨by rfl, rfl⟩) (h := ?_)
 try simp only [Act.put, sqA, sqB, sqC]
 refine tKh (i := 10) (oi := ⟨some 41, .fieldAddr 36 (.tmp 7) 0, 0, "event.go:46", #[⟨7, .guard⟩], some (7, true)⟩) (v := undef) (hy := .inr ⟨by rfl, rfl⟩) (h := ?_)
 try simp only [Act.put, sqA, sqB, sqC]
 refine tKh (i := 11) (oi := ⟨some 42, .load 3 (.tmp 41), 3, "event.go:46", #[⟨10, .data⟩, ⟨7, .guard⟩], some (7, true)⟩) (v := undef) (hy := .inr ⟨by rfl, rfl⟩) (h := ?_)
 try simp only [Act.put, sqA, sqB, sqC]
 refine tKh (i := 12) (oi := ⟨some 43, .fieldAddr 32 (.tmp 6) 1, 0, "event.go:46", #[⟨7, .guard⟩], some (7, true)⟩) (v := undef) (hy := .inr ⟨by rfl, rfl⟩) (h := ?_)
 try simp only [Act.put, sqA, sqB, sqC]
 refine tKh (i := 13) (oi := ⟨some 44, .load 30 (.tmp 43), 30, "event.go:46", #[⟨12, .data⟩, ⟨7, .guard⟩], some (7, true)⟩) (v := undef) (hy := .inr ⟨by rfl, rfl⟩) (h := ?_)
 try simp only [Act.put, sqA, sqB, sqC]
 refine tKh (i := 14) (oi := ⟨some 45, .move (.tmp 10), 3, "event.go:46", #[⟨7, .guard⟩], some (7, true)⟩) (v := undef) (hy := .inr ⟨by rfl, rfl⟩) (h := ?_)
 try simp only [Act.put, sqA, sqB, sqC]
 refine tKh (i := 15) (oi := ⟨some 46, .indexAddr 30 (.tmp 44) (.tmp 45), 0, "event.go:46", #[⟨13, .data⟩, ⟨14, .data⟩, ⟨7, .guard⟩], some (7, true)⟩) (v := undef) (hy := .inr ⟨by rfl, rfl⟩) (h := ?_)
 try simp only [Act.put, sqA, sqB, sqC]
 refine tKh (i := 16) (oi := ⟨some 47, .load 90 (.tmp 46), 90, "event.go:46", #[⟨15, .data⟩, ⟨7, .guard⟩], some (7, true)⟩) (v := undef) (hy := .inr ⟨by rfl, rfl⟩) (h := ?_)
 try simp only [Act.put, sqA, sqB, sqC]
 refine wpAnyH_ready (rs := [17]) (by kernel_rfl) (by simp) ?_
 refine AllReadyH.cons (o := ⟨some 48, .call { callee := .value (.func 60), args := #[.tmp 39, .tmp 40, .tmp 42, .tmp 47], argTypes := #[28, 32, 3, 90] }, 4, "event.go:46", #[⟨8, .data⟩, ⟨9, .data⟩, ⟨11, .data⟩, ⟨16, .data⟩, ⟨7, .chain⟩, ⟨7, .guard⟩], some (7, true)⟩) rfl (fun K hK => ?_) AllReadyH.nil
 go_simp
 refine hK.out _ _ ?_ (fun hHeld => ?_)
 ·try dsimp only
  go_keep
 clear hK K
 try simp only [Act.put, sqA, sqB, sqC]
 refine tKh (i := 18) (oi := ⟨some 49, .pick (.tmp 38) (.tmp 48) (.const (.bool false)), 4, "event.go:46", #[⟨7, .data⟩, ⟨17, .data⟩], none⟩) (v := ?_) (hy := .inl ⟨by rfl, ?_⟩) (h := ?_)
 rotate_left
 ·intro w hSw
  try dsimp only at hSw
  go_simp
  try with_reducible rfl
 try simp only [Act.put, sqA, sqB, sqC]
 refine tKh (i := 19) (oi := ⟨some 8, .assign (.tmp 49), 4, "event.go:46", #[⟨18, .data⟩, ⟨17, .chain⟩, ⟨0, .phase⟩, ⟨1, .phase⟩, ⟨2, .phase⟩, ⟨3, .phase⟩, ⟨4, .phase⟩, ⟨5, .phase⟩, ⟨6, .phase⟩, ⟨7, .phase⟩, ⟨8, .phase⟩, ⟨9, .phase⟩, ⟨10, .phase⟩, ⟨11, .phase⟩, ⟨12, .phase⟩, ⟨13, .phase⟩, ⟨14, .phase⟩, ⟨15, .phase⟩, ⟨16, .phase⟩, ⟨17, .phase⟩, ⟨18, .phase⟩], none⟩) (v := ?_) (hy := .inl ⟨by rfl, ?_⟩) (h := ?_)
 rotate_left
 ·intro w hSw
  try dsimp only at hSw
  go_simp
  try with_reducible rfl
 try simp only [Act.put, sqA, sqB, sqC]
 refine wpAnyH_done (by kernel_rfl) ?_ _
 go_wp2_with fail
 go_ret
 exact ⟨ret_b HR.out, bTrans HL5.out (by first | exact hbb | exact hbb.drew)⟩
set_option maxHeartbeats 8000000 in
set_option maxRecDepth 100000 in
theorem is_m1c (w : World) (vp vw : Value) (p : PPrg) (b : PBud) (x : PWld) (f n c who : Int) (ht : Tab w) (hp : PrgV w vp p) (hx : WldV w vw x) (hf : fitsP p b x = true) (hw : who = 0) (k : Nat) (hfi : x.mail.findIdx? (fun m => decide (m.id = ⟨f, n, c⟩)) = some k) :
  Calls Tryz.prog 23 #[vp, uVal b, vw, eVal ⟨1, ⟨f, n, c⟩, who⟩] w fun e w' => e = .returned (.bool (isP p b x ⟨1, ⟨f, n, c⟩, who⟩)) ∧ Below w.heap.size w w' := by
 have HP := hid_mk hp
 have HX := hid_mk hx
 have HT := hid_mk ht
 obtain ⟨vh, vb, vc, rfl, h1, h2, h3⟩ := hp
 obtain ⟨A1, c1, rfl, _⟩ := h1.form
 obtain ⟨A2, c2, rfl, _⟩ := h2.form
 obtain ⟨A3, c3, rfl, _⟩ := h3.form
 obtain ⟨va, vm, rfl, g1, g2⟩ := hx
 obtain ⟨B1, d1, rfl, _⟩ := g1.form
 obtain ⟨B2, d2, rfl, _⟩ := g2.form
 have HG1 := hid_mk g1
 have HG2 := hid_mk g2
 have hfn := fnd_sm hfi
 have hlt := fnd_lt hfi
 obtain ⟨m, hm⟩ := at_lt hlt
 have HTO := hid_mk (chkW_to (by unfold fitsP at hf; rw [Bool.and_eq_true] at hf; exact hf.2) (List.mem_of_getElem? hm))
 have HRM : Hid (ofM (leftB b x.used) x 1 m = isM (leftB b x.used) x ⟨1, ⟨f, n, c⟩, who⟩) := by show _ = _; unfold isM; dsimp only; rw [hfi, decide_eq_true hw]; simp [List.getD_eq_getElem?_getD, hm]
 have HR := hid_mk (isP_M (p := p) (b := b) (e := ⟨1, ⟨f, n, c⟩, who⟩) hf (by simp) HRM.out)
 have hki : (k : Int) < x.mail.length := by omega
 have hk0 : (0 : Int) ≤ k := by omega
 obtain ⟨bm, om, hAm, _, hmlt, hmc⟩ := g2.at (by omega)
 cases hAm
 obtain ⟨j1, j2, j3, j4, j5, v6, j6, hv6⟩ := hmc k m hm
 obtain ⟨A6, c6, rfl, _⟩ := hv6.form
 have hwd : (who == 0) = true := beq_iff_eq.2 hw
 clear hmc hv6 hfi HRM hw
 clear h1 h2 h3 g1 g2 ht
 have hgD := gD
 go_enter Tryz.func23, Tryz.ntmps23
 go_wp2_with fail
 obtain ⟨k0, k1, k2, k3, k4⟩ := four_new w (.cells #[.slice A1 p.hs.length c1, .slice A2 p.acs.length c2, .slice A3 p.bs.length c3, .int .i64 p.fuel] 26) (.cells #[.int .i64 b.drop, .int .i64 b.dup, .int .i64 b.time, .int .i64 b.crash] 28) (.cells #[.slice B1 x.acts.length d1, .slice (some ⟨bm, om, none⟩) x.mail.length d2, .int .i64 x.used.drop, .int .i64 x.used.dup, .int .i64 x.used.time, .int .i64 x.used.crash] 32) (.cells #[.int .i64 1, .int .i64 f, .int .i64 n, .int .i64 c, .int .i64 who] 36)
 have HL : Hid (Below w.heap.size w ((((w.alloc (.cells #[.slice A1 p.hs.length c1, .slice A2 p.acs.length c2, .slice A3 p.bs.length c3, .int .i64 p.fuel] 26)).alloc (.cells #[.int .i64 b.drop, .int .i64 b.dup, .int .i64 b.time, .int .i64 b.crash] 28)).alloc (.cells #[.slice B1 x.acts.length d1, .slice (some ⟨bm, om, none⟩) x.mail.length d2, .int .i64 x.used.drop, .int .i64 x.used.dup, .int .i64 x.used.time, .int .i64 x.used.crash] 32)).alloc (.cells #[.int .i64 1, .int .i64 f, .int .i64 n, .int .i64 c, .int .i64 who] 36))) := bAlloc (bAlloc (bAlloc (bAlloc (bRefl _) _) _) _) _
 generalize ((((w.alloc (.cells #[.slice A1 p.hs.length c1, .slice A2 p.acs.length c2, .slice A3 p.bs.length c3, .int .i64 p.fuel] 26)).alloc (.cells #[.int .i64 b.drop, .int .i64 b.dup, .int .i64 b.time, .int .i64 b.crash] 28)).alloc (.cells #[.slice B1 x.acts.length d1, .slice (some ⟨bm, om, none⟩) x.mail.length d2, .int .i64 x.used.drop, .int .i64 x.used.dup, .int .i64 x.used.time, .int .i64 x.used.crash] 32)).alloc (.cells #[.int .i64 1, .int .i64 f, .int .i64 n, .int .i64 c, .int .i64 who] 36)) = w1 at k0 k1 k2 k3 k4 HL ⊢
 refine (fits_any _ _ _ p b x (HT.out.below HL.out) (HP.out.below HL.out) (HX.out.below HL.out)).mono ?_
 rintro e w2 ⟨rfl, hb2⟩
 replace k0 := boxAt k0 hb2
 replace k1 := boxAt k1 hb2
 replace k2 := boxAt k2 hb2
 replace k3 := boxAt k3 hb2
 have HL2 := hid_mk (bTrans HL.out hb2)
 obtain ⟨b0, b1, b2, b3⟩ := blk4 k1
 obtain ⟨x0, x1, x2, x3, x4, x5⟩ := blk6 k2
 obtain ⟨e0, e1, e2, e3, e4⟩ := blk5 k3
 clear k4 HL hb2
 go_wp2_with fail
 refine (left_any _ b x.used _ _ _ _ _ _).mono ?_
 rintro e w3 ⟨rfl, hb3⟩
 have hbx : Below w2.heap.size w2 (w3.alloc (.cells #[.int .i64 (leftB b x.used).drop, .int .i64 (leftB b x.used).dup, .int .i64 (leftB b x.used).time, .int .i64 (leftB b x.used).crash] 28)) := bAlloc hb3 _
 have hK := heap_new w3 (.cells #[.int .i64 (leftB b x.used).drop, .int .i64 (leftB b x.used).dup, .int .i64 (leftB b x.used).time, .int .i64 (leftB b x.used).crash] 28)
 replace k0 := boxAt k0 hbx
 replace k2 := boxAt k2 hbx
 replace k3 := boxAt k3 hbx
 have HL3 := hid_mk (bTrans HL2.out hbx)
 clear k1 b0 b1 b2 b3 x0 x1 x2 x3 x4 x5 e0 e1 e2 e3 e4 HL2 hb3 hbx
 obtain ⟨x0, x1, x2, x3, x4, x5⟩ := blk6 k2
 obtain ⟨e0, e1, e2, e3, e4⟩ := blk5 k3
 obtain ⟨l0, l1, l2, l3⟩ := blk4 hK
 go_wp2_with fail
 generalize w3.alloc (.cells #[.int .i64 (leftB b x.used).drop, .int .i64 (leftB b x.used).dup, .int .i64 (leftB b x.used).time, .int .i64 (leftB b x.used).crash] 28) = w4 at k0 k2 k3 hK HL3 x0 x1 x2 x3 x4 x5 e0 e1 e2 e3 e4 l0 l1 l2 l3 ⊢
 refine (find_any _ _ x.mail ⟨f, n, c⟩ (HG2.out.below HL3.out)).mono ?_
 rintro e w5 ⟨rfl, hb5⟩
 replace k2 := boxAt k2 hb5
 replace k3 := boxAt k3 hb5
 replace hK := boxAt hK hb5
 have HL5 := hid_mk (bTrans HL3.out hb5)
 clear x0 x1 x2 x3 x4 x5 e0 e1 e2 e3 e4 l0 l1 l2 l3
 obtain ⟨x0, x1, x2, x3, x4, x5⟩ := blk6 k2
 obtain ⟨e0, e1, e2, e3, e4⟩ := blk5 k3
 obtain ⟨l0, l1, l2, l3⟩ := blk4 hK
 have s2 := (Array.getElem?_eq_some_iff.1 k2).1
 have s3 := (Array.getElem?_eq_some_iff.1 k3).1
 have s4 := (Array.getElem?_eq_some_iff.1 hK).1
 have hbb : Below w5.heap.size w5 w5 := bRefl w5
 have hs5 : bm < w5.heap.size := Nat.lt_of_lt_of_le hmlt HL5.out.size
 replace j1 := (HL5.out.cell (p := ⟨bm, _, none⟩) hmlt).trans j1
 replace j2 := (HL5.out.cell (p := ⟨bm, _, none⟩) hmlt).trans j2
 replace j3 := (HL5.out.cell (p := ⟨bm, _, none⟩) hmlt).trans j3
 replace j4 := (HL5.out.cell (p := ⟨bm, _, none⟩) hmlt).trans j4
 replace j5 := (HL5.out.cell (p := ⟨bm, _, none⟩) hmlt).trans j5
 replace j6 := (HL5.out.cell (p := ⟨bm, _, none⟩) hmlt).trans j6
 clear k0 k2 k3 hK hb5 HL3
 go_wp2_with fail
 refine wp_region_held_drew (S := fun w' => w'.cell? ⟨w.heap.size + 1 + 1 + 1, 0, none⟩ = some (.int .i64 1) ∧ w'.cell? ⟨w.heap.size + 1 + 1 + 1, 1, none⟩ = some (.int .i64 f) ∧ w'.cell? ⟨w.heap.size + 1 + 1 + 1, 2, none⟩ = some (.int .i64 n) ∧ w'.cell? ⟨w.heap.size + 1 + 1 + 1, 3, none⟩ = some (.int .i64 c) ∧ w'.cell? ⟨w.heap.size + 1 + 1 + 1, 4, none⟩ = some (.int .i64 who) ∧ w'.cell? ⟨w.heap.size + 1 + 1, 0, none⟩ = some (.slice B1 x.acts.length d1) ∧ w'.cell? ⟨w.heap.size + 1 + 1, 1, none⟩ = some (.slice (some ⟨bm, om, none⟩) x.mail.length d2) ∧ w'.cell? ⟨w.heap.size + 1 + 1, 2, none⟩ = some (.int .i64 x.used.drop) ∧ w'.cell? ⟨w.heap.size + 1 + 1, 3, none⟩ = some (.int .i64 x.used.dup) ∧ w'.cell? ⟨w.heap.size + 1 + 1, 4, none⟩ = some (.int .i64 x.used.time) ∧ w'.cell? ⟨w.heap.size + 1 + 1, 5, none⟩ = some (.int .i64 x.used.crash) ∧ w'.cell? ⟨w3.heap.size, 0, none⟩ = some (.int .i64 (leftB b x.used).drop) ∧ w'.cell? ⟨w3.heap.size, 1, none⟩ = some (.int .i64 (leftB b x.used).dup) ∧ w'.cell? ⟨w3.heap.size, 2, none⟩ = some (.int .i64 (leftB b x.used).time) ∧ w'.cell? ⟨w3.heap.size, 3, none⟩ = some (.int .i64 (leftB b x.used).crash) ∧ w'.cell? ⟨bm, om + k * 6, none⟩ = some (.int .i64 m.id.f) ∧ w'.cell? ⟨bm, om + k * 6 + 1, none⟩ = some (.int .i64 m.id.n) ∧ w'.cell? ⟨bm, om + k * 6 + 2, none⟩ = some (.int .i64 m.id.c) ∧ w'.cell? ⟨bm, om + k * 6 + 3, none⟩ = some (.int .i64 m.nt.to) ∧ w'.cell? ⟨bm, om + k * 6 + 4, none⟩ = some (.int .i64 m.nt.hd) ∧ w'.cell? ⟨bm, om + k * 6 + 5, none⟩ = some (.slice A6 m.nt.args.length c6)) (by kernel_rfl) ?_ (fun hHeld => ?_)
 ·try dsimp only
  go_keep
 refine tKh (i := 0) (oi := ⟨some 31, .fieldAddr 36 (.tmp 7) 2, 0, "event.go:46", #[], none⟩) (v := ?_) (hy := .inl ⟨by rfl, ?_⟩) (h := ?_)
 rotate_left
 ·intro w hSw
  try dsimp only at hSw
  go_simp
  try with_reducible rfl
 try simp only [Act.put, sqA, sqB, sqC]
 refine tKh (i := 1) (oi := ⟨some 32, .load 3 (.tmp 31), 3, "event.go:46", #[⟨0, .data⟩], none⟩) (v := ?_) (hy := .inl ⟨by rfl, ?_⟩) (h := ?_)
 rotate_left
 ·intro w hSw
  try dsimp only at hSw
  go_simp
  try with_reducible rfl
 try simp only [Act.put, sqA, sqB, sqC]
 refine tKh (i := 2) (oi := ⟨some 33, .binOp .eql 3 (.tmp 32) (.const (.int .i64 0)) 3, 4, "event.go:46", #[⟨1, .data⟩], none⟩) (v := ?_) (hy := .inl ⟨by rfl, ?_⟩) (h := ?_)
 rotate_left
 ·intro w hSw
  try dsimp only at hSw
  go_simp
  try with_reducible rfl
 try simp only [Act.put, sqA, sqB, sqC]
 refine tKh (i := 3) (oi := ⟨some 34, .move (.tmp 33), 4, "event.go:46", #[⟨2, .data⟩], none⟩) (v := ?_) (hy := .inl ⟨by rfl, ?_⟩) (h := ?_)
 rotate_left
 ·intro w hSw
  try dsimp only at hSw
  go_simp
  try with_reducible rfl
 try simp only [Act.put, sqA, sqB, sqC]
 refine tKh (i := 4) (oi := ⟨some 35, .move (.tmp 10), 3, "event.go:46", #[⟨3, .guard⟩], some (3, true)⟩) (v := ?_) (hy := .inl ⟨by rfl, ?_⟩) (h := ?_)
 rotate_left
 ·intro w hSw
  try dsimp only at hSw
  go_simp
  try with_reducible rfl
 try simp only [Act.put, sqA, sqB, sqC]
 refine tKh (i := 5) (oi := ⟨some 36, .binOp .geq 3 (.tmp 35) (.const (.int .i64 0)) 3, 4, "event.go:46", #[⟨4, .data⟩, ⟨3, .guard⟩], some (3, true)⟩) (v := ?_) (hy := .inl ⟨by rfl, ?_⟩) (h := ?_)
 rotate_left
 ·intro w hSw
  try dsimp only at hSw
  go_simp
  try with_reducible rfl
 try simp only [Act.put, sqA, sqB, sqC]
 refine tKh (i := 6) (oi := ⟨some 37, .pick (.tmp 34) (.tmp 36) (.const (.bool false)), 4, "event.go:46", #[⟨3, .data⟩, ⟨5, .data⟩], none⟩) (v := ?_) (hy := .inl ⟨by rfl, ?_⟩) (h := ?_)
 rotate_left
 ·intro w hSw
  try dsimp only at hSw
  go_simp
  try with_reducible rfl
 try simp only [Act.put, sqA, sqB, sqC]
 refine tKh (i := 7) (oi := ⟨some 38, .move (.tmp 37), 4, "event.go:46", #[⟨6, .data⟩, ⟨3, .chain⟩], none⟩) (v := ?_) (hy := .inl ⟨by rfl, ?_⟩) (h := ?_)
 rotate_left
 ·intro w hSw
  try dsimp only at hSw
  go_simp
  try with_reducible rfl
 try simp only [Act.put, sqA, sqB, sqC]
 refine tKh (i := 8) (oi := ⟨some 39, .load 28 (.tmp 9), 28, "event.go:46", #[⟨7, .guard⟩], some (7, true)⟩) (v := ?_) (hy := .inl ⟨by rfl, ?_⟩) (h := ?_)
 rotate_left
 ·intro w hSw
  try dsimp only at hSw
  go_simp
  try with_reducible rfl
 try simp only [Act.put, sqA, sqB, sqC]
 refine tKh (i := 9) (oi := ⟨some 40, .load 32 (.tmp 6), 32, "event.go:46", #[⟨7, .guard⟩], some (7, true)⟩) (v := ?_) (hy := .inl ⟨by rfl, ?_⟩) (h := ?_)
 rotate_left
 ·intro w hSw
  try dsimp only at hSw
  go_simp
  try with_reducible rfl
 try simp only [Act.put, sqA, sqB, sqC]
 refine tKh (i := 10) (oi := ⟨some 41, .fieldAddr 36 (.tmp 7) 0, 0, "event.go:46", #[⟨7, .guard⟩], some (7, true)⟩) (v := ?_) (hy := .inl ⟨by rfl, ?_⟩) (h := ?_)
 rotate_left
 ·intro w hSw
  try dsimp only at hSw
  go_simp
  try with_reducible rfl
 try simp only [Act.put, sqA, sqB, sqC]
 refine tKh (i := 11) (oi := ⟨some 42, .load 3 (.tmp 41), 3, "event.go:46", #[⟨10, .data⟩, ⟨7, .guard⟩], some (7, true)⟩) (v := ?_) (hy := .inl ⟨by rfl, ?_⟩) (h := ?_)
 rotate_left
 ·intro w hSw
  try dsimp only at hSw
  go_simp
  try with_reducible rfl
 try simp only [Act.put, sqA, sqB, sqC]
 refine tKh (i := 12) (oi := ⟨some 43, .fieldAddr 32 (.tmp 6) 1, 0, "event.go:46", #[⟨7, .guard⟩], some (7, true)⟩) (v := ?_) (hy := .inl ⟨by rfl, ?_⟩) (h := ?_)
 rotate_left
 ·intro w hSw
  try dsimp only at hSw
  go_simp
  try with_reducible rfl
 try simp only [Act.put, sqA, sqB, sqC]
 refine tKh (i := 13) (oi := ⟨some 44, .load 30 (.tmp 43), 30, "event.go:46", #[⟨12, .data⟩, ⟨7, .guard⟩], some (7, true)⟩) (v := ?_) (hy := .inl ⟨by rfl, ?_⟩) (h := ?_)
 rotate_left
 ·intro w hSw
  try dsimp only at hSw
  go_simp
  try with_reducible rfl
 try simp only [Act.put, sqA, sqB, sqC]
 refine tKh (i := 14) (oi := ⟨some 45, .move (.tmp 10), 3, "event.go:46", #[⟨7, .guard⟩], some (7, true)⟩) (v := ?_) (hy := .inl ⟨by rfl, ?_⟩) (h := ?_)
 rotate_left
 ·intro w hSw
  try dsimp only at hSw
  go_simp
  try with_reducible rfl
 try simp only [Act.put, sqA, sqB, sqC]
 refine tKh (i := 15) (oi := ⟨some 46, .indexAddr 30 (.tmp 44) (.tmp 45), 0, "event.go:46", #[⟨13, .data⟩, ⟨14, .data⟩, ⟨7, .guard⟩], some (7, true)⟩) (v := ?_) (hy := .inl ⟨by rfl, ?_⟩) (h := ?_)
 rotate_left
 ·intro w hSw
  try dsimp only at hSw
  go_simp
  try with_reducible rfl
 try simp only [Act.put, sqA, sqB, sqC]
 refine tKh (i := 16) (oi := ⟨some 47, .load 90 (.tmp 46), 90, "event.go:46", #[⟨15, .data⟩, ⟨7, .guard⟩], some (7, true)⟩) (v := ?_) (hy := .inl ⟨by rfl, ?_⟩) (h := ?_)
 rotate_left
 ·intro w hSw
  try dsimp only at hSw
  go_simp
  try with_reducible rfl
 try simp only [Act.put, sqA, sqB, sqC]
 refine wpAnyH_ready (rs := [17]) (by kernel_rfl) (by simp) ?_
 refine AllReadyH.cons (o := ⟨some 48, .call { callee := .value (.func 60), args := #[.tmp 39, .tmp 40, .tmp 42, .tmp 47], argTypes := #[28, 32, 3, 90] }, 4, "event.go:46", #[⟨8, .data⟩, ⟨9, .data⟩, ⟨11, .data⟩, ⟨16, .data⟩, ⟨7, .chain⟩, ⟨7, .guard⟩], some (7, true)⟩) rfl (fun K hK => ?_) AllReadyH.nil
 go_simp
 (go_at_call 60; refine (ofMsg_any _ (leftB b x.used) x 1 m _ _ _ B1 d1 _ _ _ (HG1.out.below (bTrans HL5.out (by first | exact hbb | exact hbb.drew))) HTO.out.1 HTO.out.2).mono ?_; rintro e w7 ⟨rfl, hb7⟩; have hc7 := (by first | exact bcell (undrew hb7) | exact bcell hb7); replace hbb := bTrans (by first | exact hbb | exact hbb.drew) hb7; clear hb7)
 try (go_wp2_with fail)
 refine hK.out _ _ ?_ (fun hHeld => ?_)
 ·try dsimp only
  go_keep
 clear hK K
 try simp only [Act.put, sqA, sqB, sqC]
 refine tKh (i := 18) (oi := ⟨some 49, .pick (.tmp 38) (.tmp 48) (.const (.bool false)), 4, "event.go:46", #[⟨7, .data⟩, ⟨17, .data⟩], none⟩) (v := ?_) (hy := .inl ⟨by rfl, ?_⟩) (h := ?_)
 rotate_left
 ·intro w hSw
  try dsimp only at hSw
  go_simp
  try with_reducible rfl
 try simp only [Act.put, sqA, sqB, sqC]
 refine tKh (i := 19) (oi := ⟨some 8, .assign (.tmp 49), 4, "event.go:46", #[⟨18, .data⟩, ⟨17, .chain⟩, ⟨0, .phase⟩, ⟨1, .phase⟩, ⟨2, .phase⟩, ⟨3, .phase⟩, ⟨4, .phase⟩, ⟨5, .phase⟩, ⟨6, .phase⟩, ⟨7, .phase⟩, ⟨8, .phase⟩, ⟨9, .phase⟩, ⟨10, .phase⟩, ⟨11, .phase⟩, ⟨12, .phase⟩, ⟨13, .phase⟩, ⟨14, .phase⟩, ⟨15, .phase⟩, ⟨16, .phase⟩, ⟨17, .phase⟩, ⟨18, .phase⟩], none⟩) (v := ?_) (hy := .inl ⟨by rfl, ?_⟩) (h := ?_)
 rotate_left
 ·intro w hSw
  try dsimp only at hSw
  go_simp
  try with_reducible rfl
 try simp only [Act.put, sqA, sqB, sqC]
 refine wpAnyH_done (by kernel_rfl) ?_ _
 go_wp2_with fail
 go_ret
 exact ⟨ret_b HR.out, bTrans HL5.out (by first | exact hbb | exact hbb.drew)⟩
set_option maxHeartbeats 8000000 in
set_option maxRecDepth 100000 in
theorem is_m2a (w : World) (vp vw : Value) (p : PPrg) (b : PBud) (x : PWld) (f n c who : Int) (ht : Tab w) (hp : PrgV w vp p) (hx : WldV w vw x) (hf : fitsP p b x = true) (hw : who ≠ 0) :
  Calls Tryz.prog 23 #[vp, uVal b, vw, eVal ⟨2, ⟨f, n, c⟩, who⟩] w fun e w' => e = .returned (.bool (isP p b x ⟨2, ⟨f, n, c⟩, who⟩)) ∧ Below w.heap.size w w' := by
 have HP := hid_mk hp
 have HX := hid_mk hx
 have HT := hid_mk ht
 obtain ⟨vh, vb, vc, rfl, h1, h2, h3⟩ := hp
 obtain ⟨A1, c1, rfl, _⟩ := h1.form
 obtain ⟨A2, c2, rfl, _⟩ := h2.form
 obtain ⟨A3, c3, rfl, _⟩ := h3.form
 obtain ⟨va, vm, rfl, g1, g2⟩ := hx
 obtain ⟨B1, d1, rfl, _⟩ := g1.form
 obtain ⟨B2, d2, rfl, _⟩ := g2.form
 have HG1 := hid_mk g1
 have HG2 := hid_mk g2
 have HR := hid_mk (isP_M (p := p) (b := b) (e := ⟨2, ⟨f, n, c⟩, who⟩) hf (by simp) (by unfold isM; rw [decide_eq_false hw]; first | done | rfl))
 have hwd : (who == 0) = false := beq_eq_false_iff_ne.2 hw
 clear hw
 clear h1 h2 h3 g1 g2 ht
 have hgD := gD
 go_enter Tryz.func23, Tryz.ntmps23
 go_wp2_with fail
 obtain ⟨k0, k1, k2, k3, k4⟩ := four_new w (.cells #[.slice A1 p.hs.length c1, .slice A2 p.acs.length c2, .slice A3 p.bs.length c3, .int .i64 p.fuel] 26) (.cells #[.int .i64 b.drop, .int .i64 b.dup, .int .i64 b.time, .int .i64 b.crash] 28) (.cells #[.slice B1 x.acts.length d1, .slice B2 x.mail.length d2, .int .i64 x.used.drop, .int .i64 x.used.dup, .int .i64 x.used.time, .int .i64 x.used.crash] 32) (.cells #[.int .i64 2, .int .i64 f, .int .i64 n, .int .i64 c, .int .i64 who] 36)
 have HL : Hid (Below w.heap.size w ((((w.alloc (.cells #[.slice A1 p.hs.length c1, .slice A2 p.acs.length c2, .slice A3 p.bs.length c3, .int .i64 p.fuel] 26)).alloc (.cells #[.int .i64 b.drop, .int .i64 b.dup, .int .i64 b.time, .int .i64 b.crash] 28)).alloc (.cells #[.slice B1 x.acts.length d1, .slice B2 x.mail.length d2, .int .i64 x.used.drop, .int .i64 x.used.dup, .int .i64 x.used.time, .int .i64 x.used.crash] 32)).alloc (.cells #[.int .i64 2, .int .i64 f, .int .i64 n, .int .i64 c, .int .i64 who] 36))) := bAlloc (bAlloc (bAlloc (bAlloc (bRefl _) _) _) _) _
 generalize ((((w.alloc (.cells #[.slice A1 p.hs.length c1, .slice A2 p.acs.length c2, .slice A3 p.bs.length c3, .int .i64 p.fuel] 26)).alloc (.cells #[.int .i64 b.drop, .int .i64 b.dup, .int .i64 b.time, .int .i64 b.crash] 28)).alloc (.cells #[.slice B1 x.acts.length d1, .slice B2 x.mail.length d2, .int .i64 x.used.drop, .int .i64 x.used.dup, .int .i64 x.used.time, .int .i64 x.used.crash] 32)).alloc (.cells #[.int .i64 2, .int .i64 f, .int .i64 n, .int .i64 c, .int .i64 who] 36)) = w1 at k0 k1 k2 k3 k4 HL ⊢
 refine (fits_any _ _ _ p b x (HT.out.below HL.out) (HP.out.below HL.out) (HX.out.below HL.out)).mono ?_
 rintro e w2 ⟨rfl, hb2⟩
 replace k0 := boxAt k0 hb2
 replace k1 := boxAt k1 hb2
 replace k2 := boxAt k2 hb2
 replace k3 := boxAt k3 hb2
 have HL2 := hid_mk (bTrans HL.out hb2)
 obtain ⟨b0, b1, b2, b3⟩ := blk4 k1
 obtain ⟨x0, x1, x2, x3, x4, x5⟩ := blk6 k2
 obtain ⟨e0, e1, e2, e3, e4⟩ := blk5 k3
 clear k4 HL hb2
 go_wp2_with fail
 refine (left_any _ b x.used _ _ _ _ _ _).mono ?_
 rintro e w3 ⟨rfl, hb3⟩
 have hbx : Below w2.heap.size w2 (w3.alloc (.cells #[.int .i64 (leftB b x.used).drop, .int .i64 (leftB b x.used).dup, .int .i64 (leftB b x.used).time, .int .i64 (leftB b x.used).crash] 28)) := bAlloc hb3 _
 have hK := heap_new w3 (.cells #[.int .i64 (leftB b x.used).drop, .int .i64 (leftB b x.used).dup, .int .i64 (leftB b x.used).time, .int .i64 (leftB b x.used).crash] 28)
 replace k0 := boxAt k0 hbx
 replace k2 := boxAt k2 hbx
 replace k3 := boxAt k3 hbx
 have HL3 := hid_mk (bTrans HL2.out hbx)
 clear k1 b0 b1 b2 b3 x0 x1 x2 x3 x4 x5 e0 e1 e2 e3 e4 HL2 hb3 hbx
 obtain ⟨x0, x1, x2, x3, x4, x5⟩ := blk6 k2
 obtain ⟨e0, e1, e2, e3, e4⟩ := blk5 k3
 obtain ⟨l0, l1, l2, l3⟩ := blk4 hK
 go_wp2_with fail
 generalize w3.alloc (.cells #[.int .i64 (leftB b x.used).drop, .int .i64 (leftB b x.used).dup, .int .i64 (leftB b x.used).time, .int .i64 (leftB b x.used).crash] 28) = w4 at k0 k2 k3 hK HL3 x0 x1 x2 x3 x4 x5 e0 e1 e2 e3 e4 l0 l1 l2 l3 ⊢
 refine (find_any _ _ x.mail ⟨f, n, c⟩ (HG2.out.below HL3.out)).mono ?_
 rintro e w5 ⟨rfl, hb5⟩
 replace k2 := boxAt k2 hb5
 replace k3 := boxAt k3 hb5
 replace hK := boxAt hK hb5
 have HL5 := hid_mk (bTrans HL3.out hb5)
 clear x0 x1 x2 x3 x4 x5 e0 e1 e2 e3 e4 l0 l1 l2 l3
 obtain ⟨x0, x1, x2, x3, x4, x5⟩ := blk6 k2
 obtain ⟨e0, e1, e2, e3, e4⟩ := blk5 k3
 obtain ⟨l0, l1, l2, l3⟩ := blk4 hK
 have s2 := (Array.getElem?_eq_some_iff.1 k2).1
 have s3 := (Array.getElem?_eq_some_iff.1 k3).1
 have s4 := (Array.getElem?_eq_some_iff.1 hK).1
 have hbb : Below w5.heap.size w5 w5 := bRefl w5
 clear k0 k2 k3 hK hb5 HL3
 go_wp2_with fail
 refine wp_region_held_drew (S := fun w' => w'.cell? ⟨w.heap.size + 1 + 1 + 1, 0, none⟩ = some (.int .i64 2) ∧ w'.cell? ⟨w.heap.size + 1 + 1 + 1, 1, none⟩ = some (.int .i64 f) ∧ w'.cell? ⟨w.heap.size + 1 + 1 + 1, 2, none⟩ = some (.int .i64 n) ∧ w'.cell? ⟨w.heap.size + 1 + 1 + 1, 3, none⟩ = some (.int .i64 c) ∧ w'.cell? ⟨w.heap.size + 1 + 1 + 1, 4, none⟩ = some (.int .i64 who) ∧ w'.cell? ⟨w.heap.size + 1 + 1, 0, none⟩ = some (.slice B1 x.acts.length d1) ∧ w'.cell? ⟨w.heap.size + 1 + 1, 1, none⟩ = some (.slice B2 x.mail.length d2) ∧ w'.cell? ⟨w.heap.size + 1 + 1, 2, none⟩ = some (.int .i64 x.used.drop) ∧ w'.cell? ⟨w.heap.size + 1 + 1, 3, none⟩ = some (.int .i64 x.used.dup) ∧ w'.cell? ⟨w.heap.size + 1 + 1, 4, none⟩ = some (.int .i64 x.used.time) ∧ w'.cell? ⟨w.heap.size + 1 + 1, 5, none⟩ = some (.int .i64 x.used.crash) ∧ w'.cell? ⟨w3.heap.size, 0, none⟩ = some (.int .i64 (leftB b x.used).drop) ∧ w'.cell? ⟨w3.heap.size, 1, none⟩ = some (.int .i64 (leftB b x.used).dup) ∧ w'.cell? ⟨w3.heap.size, 2, none⟩ = some (.int .i64 (leftB b x.used).time) ∧ w'.cell? ⟨w3.heap.size, 3, none⟩ = some (.int .i64 (leftB b x.used).crash)) (by kernel_rfl) ?_ (fun hHeld => ?_)
 ·try dsimp only
  go_keep
 refine tKh (i := 0) (oi := ⟨some 31, .fieldAddr 36 (.tmp 7) 2, 0, "event.go:46", #[], none⟩) (v := ?_) (hy := .inl ⟨by rfl, ?_⟩) (h := ?_)
 rotate_left
 ·intro w hSw
  try dsimp only at hSw
  go_simp
  try with_reducible rfl
 try simp only [Act.put, sqA, sqB, sqC]
 refine tKh (i := 1) (oi := ⟨some 32, .load 3 (.tmp 31), 3, "event.go:46", #[⟨0, .data⟩], none⟩) (v := ?_) (hy := .inl ⟨by rfl, ?_⟩) (h := ?_)
 rotate_left
 ·intro w hSw
  try dsimp only at hSw
  go_simp
  try with_reducible rfl
 try simp only [Act.put, sqA, sqB, sqC]
 refine tKh (i := 2) (oi := ⟨some 33, .binOp .eql 3 (.tmp 32) (.const (.int .i64 0)) 3, 4, "event.go:46", #[⟨1, .data⟩], none⟩) (v := ?_) (hy := .inl ⟨by rfl, ?_⟩) (h := ?_)
 rotate_left
 ·intro w hSw
  try dsimp only at hSw
  go_simp
  try with_reducible rfl
 try simp only [Act.put, sqA, sqB, sqC]
 refine tKh (i := 3) (oi := ⟨some 34, .move (.tmp 33), 4, "event.go:46", #[⟨2, .data⟩], none⟩) (v := ?_) (hy := .inl ⟨by rfl, ?_⟩) (h := ?_)
 rotate_left
 ·intro w hSw
  try dsimp only at hSw
  go_simp
  try with_reducible rfl
 try simp only [Act.put, sqA, sqB, sqC]
 refine tKh (i := 4) (oi := ⟨some 35, .move (.tmp 10), 3, "event.go:46", #[⟨3, .guard⟩], some (3, true)⟩) (v := undef) (hy := .inr ⟨by rfl, rfl⟩) (h := ?_)
 try simp only [Act.put, sqA, sqB, sqC]
 refine tKh (i := 5) (oi := ⟨some 36, .binOp .geq 3 (.tmp 35) (.const (.int .i64 0)) 3, 4, "event.go:46", #[⟨4, .data⟩, ⟨3, .guard⟩], some (3, true)⟩) (v := undef) (hy := .inr ⟨by rfl, rfl⟩) (h := ?_)
 try simp only [Act.put, sqA, sqB, sqC]
 refine tKh (i := 6) (oi := ⟨some 37, .pick (.tmp 34) (.tmp 36) (.const (.bool false)), 4, "event.go:46", #[⟨3, .data⟩, ⟨5, .data⟩], none⟩) (v := ?_) (hy := .inl ⟨by rfl, ?_⟩) (h := ?_)
 rotate_left
 ·intro w hSw
  try dsimp only at hSw
  go_simp
  try with_reducible rfl
 try simp only [Act.put, sqA, sqB, sqC]
 refine tKh (i := 7) (oi := ⟨some 38, .move (.tmp 37), 4, "event.go:46", #[⟨6, .data⟩, ⟨3, .chain⟩], none⟩) (v := ?_) (hy := .inl ⟨by rfl, ?_⟩) (h := ?_)
 rotate_left
 ·intro w hSw
  try dsimp only at hSw
  go_simp
  try with_reducible rfl
 try simp only [Act.put, sqA, sqB, sqC]
 refine tKh (i := 8) (oi := ⟨some 39, .load 28 (.tmp 9), 28, "event.go:46", #[⟨7, .guard⟩], some (7, true)⟩) (v := undef) (hy := .inr ⟨by rfl, rfl⟩) (h := ?_)
 try simp only [Act.put, sqA, sqB, sqC]
 refine tKh (i := 9) (oi := ⟨some 40, .load 32 (.tmp 6), 32, "event.go:46", #[⟨7, .guard⟩], some (7, true)⟩) (v := undef) (hy := .inr ⟨by rfl, rfl⟩) (h := ?_)
 try simp only [Act.put, sqA, sqB, sqC]
 refine tKh (i := 10) (oi := ⟨some 41, .fieldAddr 36 (.tmp 7) 0, 0, "event.go:46", #[⟨7, .guard⟩], some (7, true)⟩) (v := undef) (hy := .inr ⟨by rfl, rfl⟩) (h := ?_)
 try simp only [Act.put, sqA, sqB, sqC]
 refine tKh (i := 11) (oi := ⟨some 42, .load 3 (.tmp 41), 3, "event.go:46", #[⟨10, .data⟩, ⟨7, .guard⟩], some (7, true)⟩) (v := undef) (hy := .inr ⟨by rfl, rfl⟩) (h := ?_)
 try simp only [Act.put, sqA, sqB, sqC]
 refine tKh (i := 12) (oi := ⟨some 43, .fieldAddr 32 (.tmp 6) 1, 0, "event.go:46", #[⟨7, .guard⟩], some (7, true)⟩) (v := undef) (hy := .inr ⟨by rfl, rfl⟩) (h := ?_)
 try simp only [Act.put, sqA, sqB, sqC]
 refine tKh (i := 13) (oi := ⟨some 44, .load 30 (.tmp 43), 30, "event.go:46", #[⟨12, .data⟩, ⟨7, .guard⟩], some (7, true)⟩) (v := undef) (hy := .inr ⟨by rfl, rfl⟩) (h := ?_)
 try simp only [Act.put, sqA, sqB, sqC]
 refine tKh (i := 14) (oi := ⟨some 45, .move (.tmp 10), 3, "event.go:46", #[⟨7, .guard⟩], some (7, true)⟩) (v := undef) (hy := .inr ⟨by rfl, rfl⟩) (h := ?_)
 try simp only [Act.put, sqA, sqB, sqC]
 refine tKh (i := 15) (oi := ⟨some 46, .indexAddr 30 (.tmp 44) (.tmp 45), 0, "event.go:46", #[⟨13, .data⟩, ⟨14, .data⟩, ⟨7, .guard⟩], some (7, true)⟩) (v := undef) (hy := .inr ⟨by rfl, rfl⟩) (h := ?_)
 try simp only [Act.put, sqA, sqB, sqC]
 refine tKh (i := 16) (oi := ⟨some 47, .load 90 (.tmp 46), 90, "event.go:46", #[⟨15, .data⟩, ⟨7, .guard⟩], some (7, true)⟩) (v := undef) (hy := .inr ⟨by rfl, rfl⟩) (h := ?_)
 try simp only [Act.put, sqA, sqB, sqC]
 refine wpAnyH_ready (rs := [17]) (by kernel_rfl) (by simp) ?_
 refine AllReadyH.cons (o := ⟨some 48, .call { callee := .value (.func 60), args := #[.tmp 39, .tmp 40, .tmp 42, .tmp 47], argTypes := #[28, 32, 3, 90] }, 4, "event.go:46", #[⟨8, .data⟩, ⟨9, .data⟩, ⟨11, .data⟩, ⟨16, .data⟩, ⟨7, .chain⟩, ⟨7, .guard⟩], some (7, true)⟩) rfl (fun K hK => ?_) AllReadyH.nil
 go_simp
 refine hK.out _ _ ?_ (fun hHeld => ?_)
 ·try dsimp only
  go_keep
 clear hK K
 try simp only [Act.put, sqA, sqB, sqC]
 refine tKh (i := 18) (oi := ⟨some 49, .pick (.tmp 38) (.tmp 48) (.const (.bool false)), 4, "event.go:46", #[⟨7, .data⟩, ⟨17, .data⟩], none⟩) (v := ?_) (hy := .inl ⟨by rfl, ?_⟩) (h := ?_)
 rotate_left
 ·intro w hSw
  try dsimp only at hSw
  go_simp
  try with_reducible rfl
 try simp only [Act.put, sqA, sqB, sqC]
 refine tKh (i := 19) (oi := ⟨some 8, .assign (.tmp 49), 4, "event.go:46", #[⟨18, .data⟩, ⟨17, .chain⟩, ⟨0, .phase⟩, ⟨1, .phase⟩, ⟨2, .phase⟩, ⟨3, .phase⟩, ⟨4, .phase⟩, ⟨5, .phase⟩, ⟨6, .phase⟩, ⟨7, .phase⟩, ⟨8, .phase⟩, ⟨9, .phase⟩, ⟨10, .phase⟩, ⟨11, .phase⟩, ⟨12, .phase⟩, ⟨13, .phase⟩, ⟨14, .phase⟩, ⟨15, .phase⟩, ⟨16, .phase⟩, ⟨17, .phase⟩, ⟨18, .phase⟩], none⟩) (v := ?_) (hy := .inl ⟨by rfl, ?_⟩) (h := ?_)
 rotate_left
 ·intro w hSw
  try dsimp only at hSw
  go_simp
  try with_reducible rfl
 try simp only [Act.put, sqA, sqB, sqC]
 refine wpAnyH_done (by kernel_rfl) ?_ _
 go_wp2_with fail
 go_ret
 exact ⟨ret_b HR.out, bTrans HL5.out (by first | exact hbb | exact hbb.drew)⟩
set_option maxHeartbeats 8000000 in
set_option maxRecDepth 100000 in
theorem is_m2b (w : World) (vp vw : Value) (p : PPrg) (b : PBud) (x : PWld) (f n c who : Int) (ht : Tab w) (hp : PrgV w vp p) (hx : WldV w vw x) (hf : fitsP p b x = true) (hw : who = 0) (hfi : x.mail.findIdx? (fun m => decide (m.id = ⟨f, n, c⟩)) = none) :
  Calls Tryz.prog 23 #[vp, uVal b, vw, eVal ⟨2, ⟨f, n, c⟩, who⟩] w fun e w' => e = .returned (.bool (isP p b x ⟨2, ⟨f, n, c⟩, who⟩)) ∧ Below w.heap.size w w' := by
 have HP := hid_mk hp
 have HX := hid_mk hx
 have HT := hid_mk ht
 obtain ⟨vh, vb, vc, rfl, h1, h2, h3⟩ := hp
 obtain ⟨A1, c1, rfl, _⟩ := h1.form
 obtain ⟨A2, c2, rfl, _⟩ := h2.form
 obtain ⟨A3, c3, rfl, _⟩ := h3.form
 obtain ⟨va, vm, rfl, g1, g2⟩ := hx
 obtain ⟨B1, d1, rfl, _⟩ := g1.form
 obtain ⟨B2, d2, rfl, _⟩ := g2.form
 have HG1 := hid_mk g1
 have HG2 := hid_mk g2
 have HR := hid_mk (isP_M (p := p) (b := b) (e := ⟨2, ⟨f, n, c⟩, who⟩) hf (by simp) (show false = _ by unfold isM; dsimp only; rw [hfi]; simp))
 have hfn := fnd_nn hfi
 clear hfi
 have hwd : (who == 0) = true := beq_iff_eq.2 hw
 clear hw
 clear h1 h2 h3 g1 g2 ht
 have hgD := gD
 go_enter Tryz.func23, Tryz.ntmps23
 go_wp2_with fail
 obtain ⟨k0, k1, k2, k3, k4⟩ := four_new w (.cells #[.slice A1 p.hs.length c1, .slice A2 p.acs.length c2, .slice A3 p.bs.length c3, .int .i64 p.fuel] 26) (.cells #[.int .i64 b.drop, .int .i64 b.dup, .int .i64 b.time, .int .i64 b.crash] 28) (.cells #[.slice B1 x.acts.length d1, .slice B2 x.mail.length d2, .int .i64 x.used.drop, .int .i64 x.used.dup, .int .i64 x.used.time, .int .i64 x.used.crash] 32) (.cells #[.int .i64 2, .int .i64 f, .int .i64 n, .int .i64 c, .int .i64 who] 36)
 have HL : Hid (Below w.heap.size w ((((w.alloc (.cells #[.slice A1 p.hs.length c1, .slice A2 p.acs.length c2, .slice A3 p.bs.length c3, .int .i64 p.fuel] 26)).alloc (.cells #[.int .i64 b.drop, .int .i64 b.dup, .int .i64 b.time, .int .i64 b.crash] 28)).alloc (.cells #[.slice B1 x.acts.length d1, .slice B2 x.mail.length d2, .int .i64 x.used.drop, .int .i64 x.used.dup, .int .i64 x.used.time, .int .i64 x.used.crash] 32)).alloc (.cells #[.int .i64 2, .int .i64 f, .int .i64 n, .int .i64 c, .int .i64 who] 36))) := bAlloc (bAlloc (bAlloc (bAlloc (bRefl _) _) _) _) _
 generalize ((((w.alloc (.cells #[.slice A1 p.hs.length c1, .slice A2 p.acs.length c2, .slice A3 p.bs.length c3, .int .i64 p.fuel] 26)).alloc (.cells #[.int .i64 b.drop, .int .i64 b.dup, .int .i64 b.time, .int .i64 b.crash] 28)).alloc (.cells #[.slice B1 x.acts.length d1, .slice B2 x.mail.length d2, .int .i64 x.used.drop, .int .i64 x.used.dup, .int .i64 x.used.time, .int .i64 x.used.crash] 32)).alloc (.cells #[.int .i64 2, .int .i64 f, .int .i64 n, .int .i64 c, .int .i64 who] 36)) = w1 at k0 k1 k2 k3 k4 HL ⊢
 refine (fits_any _ _ _ p b x (HT.out.below HL.out) (HP.out.below HL.out) (HX.out.below HL.out)).mono ?_
 rintro e w2 ⟨rfl, hb2⟩
 replace k0 := boxAt k0 hb2
 replace k1 := boxAt k1 hb2
 replace k2 := boxAt k2 hb2
 replace k3 := boxAt k3 hb2
 have HL2 := hid_mk (bTrans HL.out hb2)
 obtain ⟨b0, b1, b2, b3⟩ := blk4 k1
 obtain ⟨x0, x1, x2, x3, x4, x5⟩ := blk6 k2
 obtain ⟨e0, e1, e2, e3, e4⟩ := blk5 k3
 clear k4 HL hb2
 go_wp2_with fail
 refine (left_any _ b x.used _ _ _ _ _ _).mono ?_
 rintro e w3 ⟨rfl, hb3⟩
 have hbx : Below w2.heap.size w2 (w3.alloc (.cells #[.int .i64 (leftB b x.used).drop, .int .i64 (leftB b x.used).dup, .int .i64 (leftB b x.used).time, .int .i64 (leftB b x.used).crash] 28)) := bAlloc hb3 _
 have hK := heap_new w3 (.cells #[.int .i64 (leftB b x.used).drop, .int .i64 (leftB b x.used).dup, .int .i64 (leftB b x.used).time, .int .i64 (leftB b x.used).crash] 28)
 replace k0 := boxAt k0 hbx
 replace k2 := boxAt k2 hbx
 replace k3 := boxAt k3 hbx
 have HL3 := hid_mk (bTrans HL2.out hbx)
 clear k1 b0 b1 b2 b3 x0 x1 x2 x3 x4 x5 e0 e1 e2 e3 e4 HL2 hb3 hbx
 obtain ⟨x0, x1, x2, x3, x4, x5⟩ := blk6 k2
 obtain ⟨e0, e1, e2, e3, e4⟩ := blk5 k3
 obtain ⟨l0, l1, l2, l3⟩ := blk4 hK
 go_wp2_with fail
 generalize w3.alloc (.cells #[.int .i64 (leftB b x.used).drop, .int .i64 (leftB b x.used).dup, .int .i64 (leftB b x.used).time, .int .i64 (leftB b x.used).crash] 28) = w4 at k0 k2 k3 hK HL3 x0 x1 x2 x3 x4 x5 e0 e1 e2 e3 e4 l0 l1 l2 l3 ⊢
 refine (find_any _ _ x.mail ⟨f, n, c⟩ (HG2.out.below HL3.out)).mono ?_
 rintro e w5 ⟨rfl, hb5⟩
 replace k2 := boxAt k2 hb5
 replace k3 := boxAt k3 hb5
 replace hK := boxAt hK hb5
 have HL5 := hid_mk (bTrans HL3.out hb5)
 clear x0 x1 x2 x3 x4 x5 e0 e1 e2 e3 e4 l0 l1 l2 l3
 obtain ⟨x0, x1, x2, x3, x4, x5⟩ := blk6 k2
 obtain ⟨e0, e1, e2, e3, e4⟩ := blk5 k3
 obtain ⟨l0, l1, l2, l3⟩ := blk4 hK
 have s2 := (Array.getElem?_eq_some_iff.1 k2).1
 have s3 := (Array.getElem?_eq_some_iff.1 k3).1
 have s4 := (Array.getElem?_eq_some_iff.1 hK).1
 have hbb : Below w5.heap.size w5 w5 := bRefl w5
 clear k0 k2 k3 hK hb5 HL3
 go_wp2_with fail
 refine wp_region_held_drew (S := fun w' => w'.cell? ⟨w.heap.size + 1 + 1 + 1, 0, none⟩ = some (.int .i64 2) ∧ w'.cell? ⟨w.heap.size + 1 + 1 + 1, 1, none⟩ = some (.int .i64 f) ∧ w'.cell? ⟨w.heap.size + 1 + 1 + 1, 2, none⟩ = some (.int .i64 n) ∧ w'.cell? ⟨w.heap.size + 1 + 1 + 1, 3, none⟩ = some (.int .i64 c) ∧ w'.cell? ⟨w.heap.size + 1 + 1 + 1, 4, none⟩ = some (.int .i64 who) ∧ w'.cell? ⟨w.heap.size + 1 + 1, 0, none⟩ = some (.slice B1 x.acts.length d1) ∧ w'.cell? ⟨w.heap.size + 1 + 1, 1, none⟩ = some (.slice B2 x.mail.length d2) ∧ w'.cell? ⟨w.heap.size + 1 + 1, 2, none⟩ = some (.int .i64 x.used.drop) ∧ w'.cell? ⟨w.heap.size + 1 + 1, 3, none⟩ = some (.int .i64 x.used.dup) ∧ w'.cell? ⟨w.heap.size + 1 + 1, 4, none⟩ = some (.int .i64 x.used.time) ∧ w'.cell? ⟨w.heap.size + 1 + 1, 5, none⟩ = some (.int .i64 x.used.crash) ∧ w'.cell? ⟨w3.heap.size, 0, none⟩ = some (.int .i64 (leftB b x.used).drop) ∧ w'.cell? ⟨w3.heap.size, 1, none⟩ = some (.int .i64 (leftB b x.used).dup) ∧ w'.cell? ⟨w3.heap.size, 2, none⟩ = some (.int .i64 (leftB b x.used).time) ∧ w'.cell? ⟨w3.heap.size, 3, none⟩ = some (.int .i64 (leftB b x.used).crash)) (by kernel_rfl) ?_ (fun hHeld => ?_)
 ·try dsimp only
  go_keep
 refine tKh (i := 0) (oi := ⟨some 31, .fieldAddr 36 (.tmp 7) 2, 0, "event.go:46", #[], none⟩) (v := ?_) (hy := .inl ⟨by rfl, ?_⟩) (h := ?_)
 rotate_left
 ·intro w hSw
  try dsimp only at hSw
  go_simp
  try with_reducible rfl
 try simp only [Act.put, sqA, sqB, sqC]
 refine tKh (i := 1) (oi := ⟨some 32, .load 3 (.tmp 31), 3, "event.go:46", #[⟨0, .data⟩], none⟩) (v := ?_) (hy := .inl ⟨by rfl, ?_⟩) (h := ?_)
 rotate_left
 ·intro w hSw
  try dsimp only at hSw
  go_simp
  try with_reducible rfl
 try simp only [Act.put, sqA, sqB, sqC]
 refine tKh (i := 2) (oi := ⟨some 33, .binOp .eql 3 (.tmp 32) (.const (.int .i64 0)) 3, 4, "event.go:46", #[⟨1, .data⟩], none⟩) (v := ?_) (hy := .inl ⟨by rfl, ?_⟩) (h := ?_)
 rotate_left
 ·intro w hSw
  try dsimp only at hSw
  go_simp
  try with_reducible rfl
 try simp only [Act.put, sqA, sqB, sqC]
 refine tKh (i := 3) (oi := ⟨some 34, .move (.tmp 33), 4, "event.go:46", #[⟨2, .data⟩], none⟩) (v := ?_) (hy := .inl ⟨by rfl, ?_⟩) (h := ?_)
 rotate_left
 ·intro w hSw
  try dsimp only at hSw
  go_simp
  try with_reducible rfl
 try simp only [Act.put, sqA, sqB, sqC]
 refine tKh (i := 4) (oi := ⟨some 35, .move (.tmp 10), 3, "event.go:46", #[⟨3, .guard⟩], some (3, true)⟩) (v := ?_) (hy := .inl ⟨by rfl, ?_⟩) (h := ?_)
 rotate_left
 ·intro w hSw
  try dsimp only at hSw
  go_simp
  try with_reducible rfl
 try simp only [Act.put, sqA, sqB, sqC]
 refine tKh (i := 5) (oi := ⟨some 36, .binOp .geq 3 (.tmp 35) (.const (.int .i64 0)) 3, 4, "event.go:46", #[⟨4, .data⟩, ⟨3, .guard⟩], some (3, true)⟩) (v := ?_) (hy := .inl ⟨by rfl, ?_⟩) (h := ?_)
 rotate_left
 ·intro w hSw
  try dsimp only at hSw
  go_simp
  try with_reducible rfl
 try simp only [Act.put, sqA, sqB, sqC]
 refine tKh (i := 6) (oi := ⟨some 37, .pick (.tmp 34) (.tmp 36) (.const (.bool false)), 4, "event.go:46", #[⟨3, .data⟩, ⟨5, .data⟩], none⟩) (v := ?_) (hy := .inl ⟨by rfl, ?_⟩) (h := ?_)
 rotate_left
 ·intro w hSw
  try dsimp only at hSw
  go_simp
  try with_reducible rfl
 try simp only [Act.put, sqA, sqB, sqC]
 refine tKh (i := 7) (oi := ⟨some 38, .move (.tmp 37), 4, "event.go:46", #[⟨6, .data⟩, ⟨3, .chain⟩], none⟩) (v := ?_) (hy := .inl ⟨by rfl, ?_⟩) (h := ?_)
 rotate_left
 ·intro w hSw
  try dsimp only at hSw
  go_simp
  try with_reducible rfl
 try simp only [Act.put, sqA, sqB, sqC]
 refine tKh (i := 8) (oi := ⟨some 39, .load 28 (.tmp 9), 28, "event.go:46", #[⟨7, .guard⟩], some (7, true)⟩) (v := undef) (hy := .inr ⟨by rfl, rfl⟩) (h := ?_)
 try simp only [Act.put, sqA, sqB, sqC]
 refine tKh (i := 9) (oi := ⟨some 40, .load 32 (.tmp 6), 32, "event.go:46", #[⟨7, .guard⟩], some (7, true)⟩) (v := undef) (hy := .inr ⟨by rfl, rfl⟩) (h := ?_)
 try simp only [Act.put, sqA, sqB, sqC]
 refine tKh (i := 10) (oi := ⟨some 41, .fieldAddr 36 (.tmp 7) 0, 0, "event.go:46", #[⟨7, .guard⟩], some (7, true)⟩) (v := undef) (hy := .inr ⟨by rfl, rfl⟩) (h := ?_)
 try simp only [Act.put, sqA, sqB, sqC]
 refine tKh (i := 11) (oi := ⟨some 42, .load 3 (.tmp 41), 3, "event.go:46", #[⟨10, .data⟩, ⟨7, .guard⟩], some (7, true)⟩) (v := undef) (hy := .inr ⟨by rfl, rfl⟩) (h := ?_)
 try simp only [Act.put, sqA, sqB, sqC]
 refine tKh (i := 12) (oi := ⟨some 43, .fieldAddr 32 (.tmp 6) 1, 0, "event.go:46", #[⟨7, .guard⟩], some (7, true)⟩) (v := undef) (hy := .inr ⟨by rfl, rfl⟩) (h := ?_)
 try simp only [Act.put, sqA, sqB, sqC]
 refine tKh (i := 13) (oi := ⟨some 44, .load 30 (.tmp 43), 30, "event.go:46", #[⟨12, .data⟩, ⟨7, .guard⟩], some (7, true)⟩) (v := undef) (hy := .inr ⟨by rfl, rfl⟩) (h := ?_)
 try simp only [Act.put, sqA, sqB, sqC]
 refine tKh (i := 14) (oi := ⟨some 45, .move (.tmp 10), 3, "event.go:46", #[⟨7, .guard⟩], some (7, true)⟩) (v := undef) (hy := .inr ⟨by rfl, rfl⟩) (h := ?_)
 try simp only [Act.put, sqA, sqB, sqC]
 refine tKh (i := 15) (oi := ⟨some 46, .indexAddr 30 (.tmp 44) (.tmp 45), 0, "event.go:46", #[⟨13, .data⟩, ⟨14, .data⟩, ⟨7, .guard⟩], some (7, true)⟩) (v := undef) (hy := .inr ⟨by rfl, rfl⟩) (h := ?_)
 try simp only [Act.put, sqA, sqB, sqC]
 refine tKh (i := 16) (oi := ⟨some 47, .load 90 (.tmp 46), 90, "event.go:46", #[⟨15, .data⟩, ⟨7, .guard⟩], some (7, true)⟩) (v := undef) (hy := .inr ⟨by rfl, rfl⟩) (h := ?_)
 try simp only [Act.put, sqA, sqB, sqC]
 refine wpAnyH_ready (rs := [17]) (by kernel_rfl) (by simp) ?_
 refine AllReadyH.cons (o := ⟨some 48, .call { callee := .value (.func 60), args := #[.tmp 39, .tmp 40, .tmp 42, .tmp 47], argTypes := #[28, 32, 3, 90] }, 4, "event.go:46", #[⟨8, .data⟩, ⟨9, .data⟩, ⟨11, .data⟩, ⟨16, .data⟩, ⟨7, .chain⟩, ⟨7, .guard⟩], some (7, true)⟩) rfl (fun K hK => ?_) AllReadyH.nil
 go_simp
 refine hK.out _ _ ?_ (fun hHeld => ?_)
 ·try dsimp only
  go_keep
 clear hK K
 try simp only [Act.put, sqA, sqB, sqC]
 refine tKh (i := 18) (oi := ⟨some 49, .pick (.tmp 38) (.tmp 48) (.const (.bool false)), 4, "event.go:46", #[⟨7, .data⟩, ⟨17, .data⟩], none⟩) (v := ?_) (hy := .inl ⟨by rfl, ?_⟩) (h := ?_)
 rotate_left
 ·intro w hSw
  try dsimp only at hSw
  go_simp
  try with_reducible rfl
 try simp only [Act.put, sqA, sqB, sqC]
 refine tKh (i := 19) (oi := ⟨some 8, .assign (.tmp 49), 4, "event.go:46", #[⟨18, .data⟩, ⟨17, .chain⟩, ⟨0, .phase⟩, ⟨1, .phase⟩, ⟨2, .phase⟩, ⟨3, .phase⟩, ⟨4, .phase⟩, ⟨5, .phase⟩, ⟨6, .phase⟩, ⟨7, .phase⟩, ⟨8, .phase⟩, ⟨9, .phase⟩, ⟨10, .phase⟩, ⟨11, .phase⟩, ⟨12, .phase⟩, ⟨13, .phase⟩, ⟨14, .phase⟩, ⟨15, .phase⟩, ⟨16, .phase⟩, ⟨17, .phase⟩, ⟨18, .phase⟩], none⟩) (v := ?_) (hy := .inl ⟨by rfl, ?_⟩) (h := ?_)
 rotate_left
 ·intro w hSw
  try dsimp only at hSw
  go_simp
  try with_reducible rfl
 try simp only [Act.put, sqA, sqB, sqC]
 refine wpAnyH_done (by kernel_rfl) ?_ _
 go_wp2_with fail
 go_ret
 exact ⟨ret_b HR.out, bTrans HL5.out (by first | exact hbb | exact hbb.drew)⟩
set_option maxHeartbeats 8000000 in
set_option maxRecDepth 100000 in
theorem is_m2c (w : World) (vp vw : Value) (p : PPrg) (b : PBud) (x : PWld) (f n c who : Int) (ht : Tab w) (hp : PrgV w vp p) (hx : WldV w vw x) (hf : fitsP p b x = true) (hw : who = 0) (k : Nat) (hfi : x.mail.findIdx? (fun m => decide (m.id = ⟨f, n, c⟩)) = some k) :
  Calls Tryz.prog 23 #[vp, uVal b, vw, eVal ⟨2, ⟨f, n, c⟩, who⟩] w fun e w' => e = .returned (.bool (isP p b x ⟨2, ⟨f, n, c⟩, who⟩)) ∧ Below w.heap.size w w' := by
 have HP := hid_mk hp
 have HX := hid_mk hx
 have HT := hid_mk ht
 obtain ⟨vh, vb, vc, rfl, h1, h2, h3⟩ := hp
 obtain ⟨A1, c1, rfl, _⟩ := h1.form
 obtain ⟨A2, c2, rfl, _⟩ := h2.form
 obtain ⟨A3, c3, rfl, _⟩ := h3.form
 obtain ⟨va, vm, rfl, g1, g2⟩ := hx
 obtain ⟨B1, d1, rfl, _⟩ := g1.form
 obtain ⟨B2, d2, rfl, _⟩ := g2.form
 have HG1 := hid_mk g1
 have HG2 := hid_mk g2
 have hfn := fnd_sm hfi
 have hlt := fnd_lt hfi
 obtain ⟨m, hm⟩ := at_lt hlt
 have HTO := hid_mk (chkW_to (by unfold fitsP at hf; rw [Bool.and_eq_true] at hf; exact hf.2) (List.mem_of_getElem? hm))
 have HRM : Hid (ofM (leftB b x.used) x 2 m = isM (leftB b x.used) x ⟨2, ⟨f, n, c⟩, who⟩) := by show _ = _; unfold isM; dsimp only; rw [hfi, decide_eq_true hw]; simp [List.getD_eq_getElem?_getD, hm]
 have HR := hid_mk (isP_M (p := p) (b := b) (e := ⟨2, ⟨f, n, c⟩, who⟩) hf (by simp) HRM.out)
 have hki : (k : Int) < x.mail.length := by omega
 have hk0 : (0 : Int) ≤ k := by omega
 obtain ⟨bm, om, hAm, _, hmlt, hmc⟩ := g2.at (by omega)
 cases hAm
 obtain ⟨j1, j2, j3, j4, j5, v6, j6, hv6⟩ := hmc k m hm
 obtain ⟨A6, c6, rfl, _⟩ := hv6.form
 have hwd : (who == 0) = true := beq_iff_eq.2 hw
 clear hmc hv6 hfi HRM hw
 clear h1 h2 h3 g1 g2 ht
 have hgD := gD
 go_enter Tryz.func23, Tryz.ntmps23
 go_wp2_with fail
 obtain ⟨k0, k1, k2, k3, k4⟩ := four_new w (.cells #[.slice A1 p.hs.length c1, .slice A2 p.acs.length c2, .slice A3 p.bs.length c3, .int .i64 p.fuel] 26) (.cells #[.int .i64 b.drop, .int .i64 b.dup, .int .i64 b.time, .int .i64 b.crash] 28) (.cells #[.slice B1 x.acts.length d1, .slice (some ⟨bm, om, none⟩) x.mail.length d2, .int .i64 x.used.drop, .int .i64 x.used.dup, .int .i64 x.used.time, .int .i64 x.used.crash] 32) (.cells #[.int .i64 2, .int .i64 f, .int .i64 n, .int .i64 c, .int .i64 who] 36)
 have HL : Hid (Below w.heap.size w ((((w.alloc (.cells #[.slice A1 p.hs.length c1, .slice A2 p.acs.length c2, .slice A3 p.bs.length c3, .int .i64 p.fuel] 26)).alloc (.cells #[.int .i64 b.drop, .int .i64 b.dup, .int .i64 b.time, .int .i64 b.crash] 28)).alloc (.cells #[.slice B1 x.acts.length d1, .slice (some ⟨bm, om, none⟩) x.mail.length d2, .int .i64 x.used.drop, .int .i64 x.used.dup, .int .i64 x.used.time, .int .i64 x.used.crash] 32)).alloc (.cells #[.int .i64 2, .int .i64 f, .int .i64 n, .int .i64 c, .int .i64 who] 36))) := bAlloc (bAlloc (bAlloc (bAlloc (bRefl _) _) _) _) _
 generalize ((((w.alloc (.cells #[.slice A1 p.hs.length c1, .slice A2 p.acs.length c2, .slice A3 p.bs.length c3, .int .i64 p.fuel] 26)).alloc (.cells #[.int .i64 b.drop, .int .i64 b.dup, .int .i64 b.time, .int .i64 b.crash] 28)).alloc (.cells #[.slice B1 x.acts.length d1, .slice (some ⟨bm, om, none⟩) x.mail.length d2, .int .i64 x.used.drop, .int .i64 x.used.dup, .int .i64 x.used.time, .int .i64 x.used.crash] 32)).alloc (.cells #[.int .i64 2, .int .i64 f, .int .i64 n, .int .i64 c, .int .i64 who] 36)) = w1 at k0 k1 k2 k3 k4 HL ⊢
 refine (fits_any _ _ _ p b x (HT.out.below HL.out) (HP.out.below HL.out) (HX.out.below HL.out)).mono ?_
 rintro e w2 ⟨rfl, hb2⟩
 replace k0 := boxAt k0 hb2
 replace k1 := boxAt k1 hb2
 replace k2 := boxAt k2 hb2
 replace k3 := boxAt k3 hb2
 have HL2 := hid_mk (bTrans HL.out hb2)
 obtain ⟨b0, b1, b2, b3⟩ := blk4 k1
 obtain ⟨x0, x1, x2, x3, x4, x5⟩ := blk6 k2
 obtain ⟨e0, e1, e2, e3, e4⟩ := blk5 k3
 clear k4 HL hb2
 go_wp2_with fail
 refine (left_any _ b x.used _ _ _ _ _ _).mono ?_
 rintro e w3 ⟨rfl, hb3⟩
 have hbx : Below w2.heap.size w2 (w3.alloc (.cells #[.int .i64 (leftB b x.used).drop, .int .i64 (leftB b x.used).dup, .int .i64 (leftB b x.used).time, .int .i64 (leftB b x.used).crash] 28)) := bAlloc hb3 _
 have hK := heap_new w3 (.cells #[.int .i64 (leftB b x.used).drop, .int .i64 (leftB b x.used).dup, .int .i64 (leftB b x.used).time, .int .i64 (leftB b x.used).crash] 28)
 replace k0 := boxAt k0 hbx
 replace k2 := boxAt k2 hbx
 replace k3 := boxAt k3 hbx
 have HL3 := hid_mk (bTrans HL2.out hbx)
 clear k1 b0 b1 b2 b3 x0 x1 x2 x3 x4 x5 e0 e1 e2 e3 e4 HL2 hb3 hbx
 obtain ⟨x0, x1, x2, x3, x4, x5⟩ := blk6 k2
 obtain ⟨e0, e1, e2, e3, e4⟩ := blk5 k3
 obtain ⟨l0, l1, l2, l3⟩ := blk4 hK
 go_wp2_with fail
 generalize w3.alloc (.cells #[.int .i64 (leftB b x.used).drop, .int .i64 (leftB b x.used).dup, .int .i64 (leftB b x.used).time, .int .i64 (leftB b x.used).crash] 28) = w4 at k0 k2 k3 hK HL3 x0 x1 x2 x3 x4 x5 e0 e1 e2 e3 e4 l0 l1 l2 l3 ⊢
 refine (find_any _ _ x.mail ⟨f, n, c⟩ (HG2.out.below HL3.out)).mono ?_
 rintro e w5 ⟨rfl, hb5⟩
 replace k2 := boxAt k2 hb5
 replace k3 := boxAt k3 hb5
 replace hK := boxAt hK hb5
 have HL5 := hid_mk (bTrans HL3.out hb5)
 clear x0 x1 x2 x3 x4 x5 e0 e1 e2 e3 e4 l0 l1 l2 l3
 obtain ⟨x0, x1, x2, x3, x4, x5⟩ := blk6 k2
 obtain ⟨e0, e1, e2, e3, e4⟩ := blk5 k3
 obtain ⟨l0, l1, l2, l3⟩ := blk4 hK
 have s2 := (Array.getElem?_eq_some_iff.1 k2).1
 have s3 := (Array.getElem?_eq_some_iff.1 k3).1
 have s4 := (Array.getElem?_eq_some_iff.1 hK).1
 have hbb : Below w5.heap.size w5 w5 := bRefl w5
 have hs5 : bm < w5.heap.size := Nat.lt_of_lt_of_le hmlt HL5.out.size
 replace j1 := (HL5.out.cell (p := ⟨bm, _, none⟩) hmlt).trans j1
 replace j2 := (HL5.out.cell (p := ⟨bm, _, none⟩) hmlt).trans j2
 replace j3 := (HL5.out.cell (p := ⟨bm, _, none⟩) hmlt).trans j3
 replace j4 := (HL5.out.cell (p := ⟨bm, _, none⟩) hmlt).trans j4
 replace j5 := (HL5.out.cell (p := ⟨bm, _, none⟩) hmlt).trans j5
 replace j6 := (HL5.out.cell (p := ⟨bm, _, none⟩) hmlt).trans j6
 clear k0 k2 k3 hK hb5 HL3
 go_wp2_with fail
 refine wp_region_held_drew (S := fun w' => w'.cell? ⟨w.heap.size + 1 + 1 + 1, 0, none⟩ = some (.int .i64 2) ∧ w'.cell? ⟨w.heap.size + 1 + 1 + 1, 1, none⟩ = some (.int .i64 f) ∧ w'.cell? ⟨w.heap.size + 1 + 1 + 1, 2, none⟩ = some (.int .i64 n) ∧ w'.cell? ⟨w.heap.size + 1 + 1 + 1, 3, none⟩ = some (.int .i64 c) ∧ w'.cell? ⟨w.heap.size + 1 + 1 + 1, 4, none⟩ = some (.int .i64 who) ∧ w'.cell? ⟨w.heap.size + 1 + 1, 0, none⟩ = some (.slice B1 x.acts.length d1) ∧ w'.cell? ⟨w.heap.size + 1 + 1, 1, none⟩ = some (.slice (some ⟨bm, om, none⟩) x.mail.length d2) ∧ w'.cell? ⟨w.heap.size + 1 + 1, 2, none⟩ = some (.int .i64 x.used.drop) ∧ w'.cell? ⟨w.heap.size + 1 + 1, 3, none⟩ = some (.int .i64 x.used.dup) ∧ w'.cell? ⟨w.heap.size + 1 + 1, 4, none⟩ = some (.int .i64 x.used.time) ∧ w'.cell? ⟨w.heap.size + 1 + 1, 5, none⟩ = some (.int .i64 x.used.crash) ∧ w'.cell? ⟨w3.heap.size, 0, none⟩ = some (.int .i64 (leftB b x.used).drop) ∧ w'.cell? ⟨w3.heap.size, 1, none⟩ = some (.int .i64 (leftB b x.used).dup) ∧ w'.cell? ⟨w3.heap.size, 2, none⟩ = some (.int .i64 (leftB b x.used).time) ∧ w'.cell? ⟨w3.heap.size, 3, none⟩ = some (.int .i64 (leftB b x.used).crash) ∧ w'.cell? ⟨bm, om + k * 6, none⟩ = some (.int .i64 m.id.f) ∧ w'.cell? ⟨bm, om + k * 6 + 1, none⟩ = some (.int .i64 m.id.n) ∧ w'.cell? ⟨bm, om + k * 6 + 2, none⟩ = some (.int .i64 m.id.c) ∧ w'.cell? ⟨bm, om + k * 6 + 3, none⟩ = some (.int .i64 m.nt.to) ∧ w'.cell? ⟨bm, om + k * 6 + 4, none⟩ = some (.int .i64 m.nt.hd) ∧ w'.cell? ⟨bm, om + k * 6 + 5, none⟩ = some (.slice A6 m.nt.args.length c6)) (by kernel_rfl) ?_ (fun hHeld => ?_)
 ·try dsimp only
  go_keep
 refine tKh (i := 0) (oi := ⟨some 31, .fieldAddr 36 (.tmp 7) 2, 0, "event.go:46", #[], none⟩) (v := ?_) (hy := .inl ⟨by rfl, ?_⟩) (h := ?_)
 rotate_left
 ·intro w hSw
  try dsimp only at hSw
  go_simp
  try with_reducible rfl
 try simp only [Act.put, sqA, sqB, sqC]
 refine tKh (i := 1) (oi := ⟨some 32, .load 3 (.tmp 31), 3, "event.go:46", #[⟨0, .data⟩], none⟩) (v := ?_) (hy := .inl ⟨by rfl, ?_⟩) (h := ?_)
 rotate_left
 ·intro w hSw
  try dsimp only at hSw
  go_simp
  try with_reducible rfl
 try simp only [Act.put, sqA, sqB, sqC]
 refine tKh (i := 2) (oi := ⟨some 33, .binOp .eql 3 (.tmp 32) (.const (.int .i64 0)) 3, 4, "event.go:46", #[⟨1, .data⟩], none⟩) (v := ?_) (hy := .inl ⟨by rfl, ?_⟩) (h := ?_)
 rotate_left
 ·intro w hSw
  try dsimp only at hSw
  go_simp
  try with_reducible rfl
 try simp only [Act.put, sqA, sqB, sqC]
 refine tKh (i := 3) (oi := ⟨some 34, .move (.tmp 33), 4, "event.go:46", #[⟨2, .data⟩], none⟩) (v := ?_) (hy := .inl ⟨by rfl, ?_⟩) (h := ?_)
 rotate_left
 ·intro w hSw
  try dsimp only at hSw
  go_simp
  try with_reducible rfl
 try simp only [Act.put, sqA, sqB, sqC]
 refine tKh (i := 4) (oi := ⟨some 35, .move (.tmp 10), 3, "event.go:46", #[⟨3, .guard⟩], some (3, true)⟩) (v := ?_) (hy := .inl ⟨by rfl, ?_⟩) (h := ?_)
 rotate_left
 ·intro w hSw
  try dsimp only at hSw
  go_simp
  try with_reducible rfl
 try simp only [Act.put, sqA, sqB, sqC]
 refine tKh (i := 5) (oi := ⟨some 36, .binOp .geq 3 (.tmp 35) (.const (.int .i64 0)) 3, 4, "event.go:46", #[⟨4, .data⟩, ⟨3, .guard⟩], some (3, true)⟩) (v := ?_) (hy := .inl ⟨by rfl, ?_⟩) (h := ?_)
 rotate_left
 ·intro w hSw
  try dsimp only at hSw
  go_simp
  try with_reducible rfl
 try simp only [Act.put, sqA, sqB, sqC]
 refine tKh (i := 6) (oi := ⟨some 37, .pick (.tmp 34) (.tmp 36) (.const (.bool false)), 4, "event.go:46", #[⟨3, .data⟩, ⟨5, .data⟩], none⟩) (v := ?_) (hy := .inl ⟨by rfl, ?_⟩) (h := ?_)
 rotate_left
 ·intro w hSw
  try dsimp only at hSw
  go_simp
  try with_reducible rfl
 try simp only [Act.put, sqA, sqB, sqC]
 refine tKh (i := 7) (oi := ⟨some 38, .move (.tmp 37), 4, "event.go:46", #[⟨6, .data⟩, ⟨3, .chain⟩], none⟩) (v := ?_) (hy := .inl ⟨by rfl, ?_⟩) (h := ?_)
 rotate_left
 ·intro w hSw
  try dsimp only at hSw
  go_simp
  try with_reducible rfl
 try simp only [Act.put, sqA, sqB, sqC]
 refine tKh (i := 8) (oi := ⟨some 39, .load 28 (.tmp 9), 28, "event.go:46", #[⟨7, .guard⟩], some (7, true)⟩) (v := ?_) (hy := .inl ⟨by rfl, ?_⟩) (h := ?_)
 rotate_left
 ·intro w hSw
  try dsimp only at hSw
  go_simp
  try with_reducible rfl
 try simp only [Act.put, sqA, sqB, sqC]
 refine tKh (i := 9) (oi := ⟨some 40, .load 32 (.tmp 6), 32, "event.go:46", #[⟨7, .guard⟩], some (7, true)⟩) (v := ?_) (hy := .inl ⟨by rfl, ?_⟩) (h := ?_)
 rotate_left
 ·intro w hSw
  try dsimp only at hSw
  go_simp
  try with_reducible rfl
 try simp only [Act.put, sqA, sqB, sqC]
 refine tKh (i := 10) (oi := ⟨some 41, .fieldAddr 36 (.tmp 7) 0, 0, "event.go:46", #[⟨7, .guard⟩], some (7, true)⟩) (v := ?_) (hy := .inl ⟨by rfl, ?_⟩) (h := ?_)
 rotate_left
 ·intro w hSw
  try dsimp only at hSw
  go_simp
  try with_reducible rfl
 try simp only [Act.put, sqA, sqB, sqC]
 refine tKh (i := 11) (oi := ⟨some 42, .load 3 (.tmp 41), 3, "event.go:46", #[⟨10, .data⟩, ⟨7, .guard⟩], some (7, true)⟩) (v := ?_) (hy := .inl ⟨by rfl, ?_⟩) (h := ?_)
 rotate_left
 ·intro w hSw
  try dsimp only at hSw
  go_simp
  try with_reducible rfl
 try simp only [Act.put, sqA, sqB, sqC]
 refine tKh (i := 12) (oi := ⟨some 43, .fieldAddr 32 (.tmp 6) 1, 0, "event.go:46", #[⟨7, .guard⟩], some (7, true)⟩) (v := ?_) (hy := .inl ⟨by rfl, ?_⟩) (h := ?_)
 rotate_left
 ·intro w hSw
  try dsimp only at hSw
  go_simp
  try with_reducible rfl
 try simp only [Act.put, sqA, sqB, sqC]
 refine tKh (i := 13) (oi := ⟨some 44, .load 30 (.tmp 43), 30, "event.go:46", #[⟨12, .data⟩, ⟨7, .guard⟩], some (7, true)⟩) (v := ?_) (hy := .inl ⟨by rfl, ?_⟩) (h := ?_)
 rotate_left
 ·intro w hSw
  try dsimp only at hSw
  go_simp
  try with_reducible rfl
 try simp only [Act.put, sqA, sqB, sqC]
 refine tKh (i := 14) (oi := ⟨some 45, .move (.tmp 10), 3, "event.go:46", #[⟨7, .guard⟩], some (7, true)⟩) (v := ?_) (hy := .inl ⟨by rfl, ?_⟩) (h := ?_)
 rotate_left
 ·intro w hSw
  try dsimp only at hSw
  go_simp
  try with_reducible rfl
 try simp only [Act.put, sqA, sqB, sqC]
 refine tKh (i := 15) (oi := ⟨some 46, .indexAddr 30 (.tmp 44) (.tmp 45), 0, "event.go:46", #[⟨13, .data⟩, ⟨14, .data⟩, ⟨7, .guard⟩], some (7, true)⟩) (v := ?_) (hy := .inl ⟨by rfl, ?_⟩) (h := ?_)
 rotate_left
 ·intro w hSw
  try dsimp only at hSw
  go_simp
  try with_reducible rfl
 try simp only [Act.put, sqA, sqB, sqC]
 refine tKh (i := 16) (oi := ⟨some 47, .load 90 (.tmp 46), 90, "event.go:46", #[⟨15, .data⟩, ⟨7, .guard⟩], some (7, true)⟩) (v := ?_) (hy := .inl ⟨by rfl, ?_⟩) (h := ?_)
 rotate_left
 ·intro w hSw
  try dsimp only at hSw
  go_simp
  try with_reducible rfl
 try simp only [Act.put, sqA, sqB, sqC]
 refine wpAnyH_ready (rs := [17]) (by kernel_rfl) (by simp) ?_
 refine AllReadyH.cons (o := ⟨some 48, .call { callee := .value (.func 60), args := #[.tmp 39, .tmp 40, .tmp 42, .tmp 47], argTypes := #[28, 32, 3, 90] }, 4, "event.go:46", #[⟨8, .data⟩, ⟨9, .data⟩, ⟨11, .data⟩, ⟨16, .data⟩, ⟨7, .chain⟩, ⟨7, .guard⟩], some (7, true)⟩) rfl (fun K hK => ?_) AllReadyH.nil
 go_simp
 (go_at_call 60; refine (ofMsg_any _ (leftB b x.used) x 2 m _ _ _ B1 d1 _ _ _ (HG1.out.below (bTrans HL5.out (by first | exact hbb | exact hbb.drew))) HTO.out.1 HTO.out.2).mono ?_; rintro e w7 ⟨rfl, hb7⟩; have hc7 := (by first | exact bcell (undrew hb7) | exact bcell hb7); replace hbb := bTrans (by first | exact hbb | exact hbb.drew) hb7; clear hb7)
 try (go_wp2_with fail)
 refine hK.out _ _ ?_ (fun hHeld => ?_)
 ·try dsimp only
  go_keep
 clear hK K
 try simp only [Act.put, sqA, sqB, sqC]
 refine tKh (i := 18) (oi := ⟨some 49, .pick (.tmp 38) (.tmp 48) (.const (.bool false)), 4, "event.go:46", #[⟨7, .data⟩, ⟨17, .data⟩], none⟩) (v := ?_) (hy := .inl ⟨by rfl, ?_⟩) (h := ?_)
 rotate_left
 ·intro w hSw
  try dsimp only at hSw
  go_simp
  try with_reducible rfl
 try simp only [Act.put, sqA, sqB, sqC]
 refine tKh (i := 19) (oi := ⟨some 8, .assign (.tmp 49), 4, "event.go:46", #[⟨18, .data⟩, ⟨17, .chain⟩, ⟨0, .phase⟩, ⟨1, .phase⟩, ⟨2, .phase⟩, ⟨3, .phase⟩, ⟨4, .phase⟩, ⟨5, .phase⟩, ⟨6, .phase⟩, ⟨7, .phase⟩, ⟨8, .phase⟩, ⟨9, .phase⟩, ⟨10, .phase⟩, ⟨11, .phase⟩, ⟨12, .phase⟩, ⟨13, .phase⟩, ⟨14, .phase⟩, ⟨15, .phase⟩, ⟨16, .phase⟩, ⟨17, .phase⟩, ⟨18, .phase⟩], none⟩) (v := ?_) (hy := .inl ⟨by rfl, ?_⟩) (h := ?_)
 rotate_left
 ·intro w hSw
  try dsimp only at hSw
  go_simp
  try with_reducible rfl
 try simp only [Act.put, sqA, sqB, sqC]
 refine wpAnyH_done (by kernel_rfl) ?_ _
 go_wp2_with fail
 go_ret
 exact ⟨ret_b HR.out, bTrans HL5.out (by first | exact hbb | exact hbb.drew)⟩
set_option maxHeartbeats 8000000 in
set_option maxRecDepth 100000 in
theorem is_m3a (w : World) (vp vw : Value) (p : PPrg) (b : PBud) (x : PWld) (f n c who : Int) (ht : Tab w) (hp : PrgV w vp p) (hx : WldV w vw x) (hf : fitsP p b x = true) (hw : who ≠ 0) :
  Calls Tryz.prog 23 #[vp, uVal b, vw, eVal ⟨3, ⟨f, n, c⟩, who⟩] w fun e w' => e = .returned (.bool (isP p b x ⟨3, ⟨f, n, c⟩, who⟩)) ∧ Below w.heap.size w w' := by
 have HP := hid_mk hp
 have HX := hid_mk hx
 have HT := hid_mk ht
 obtain ⟨vh, vb, vc, rfl, h1, h2, h3⟩ := hp
 obtain ⟨A1, c1, rfl, _⟩ := h1.form
 obtain ⟨A2, c2, rfl, _⟩ := h2.form
 obtain ⟨A3, c3, rfl, _⟩ := h3.form
 obtain ⟨va, vm, rfl, g1, g2⟩ := hx
 obtain ⟨B1, d1, rfl, _⟩ := g1.form
 obtain ⟨B2, d2, rfl, _⟩ := g2.form
 have HG1 := hid_mk g1
 have HG2 := hid_mk g2
 have HR := hid_mk (isP_M (p := p) (b := b) (e := ⟨3, ⟨f, n, c⟩, who⟩) hf (by simp) (by unfold isM; rw [decide_eq_false hw]; first | done | rfl))
 have hwd : (who == 0) = false := beq_eq_false_iff_ne.2 hw
 clear hw
 clear h1 h2 h3 g1 g2 ht
 have hgD := gD
 go_enter Tryz.func23, Tryz.ntmps23
 go_wp2_with fail
 obtain ⟨k0, k1, k2, k3, k4⟩ := four_new w (.cells #[.slice A1 p.hs.length c1, .slice A2 p.acs.length c2, .slice A3 p.bs.length c3, .int .i64 p.fuel] 26) (.cells #[.int .i64 b.drop, .int .i64 b.dup, .int .i64 b.time, .int .i64 b.crash] 28) (.cells #[.slice B1 x.acts.length d1, .slice B2 x.mail.length d2, .int .i64 x.used.drop, .int .i64 x.used.dup, .int .i64 x.used.time, .int .i64 x.used.crash] 32) (.cells #[.int .i64 3, .int .i64 f, .int .i64 n, .int .i64 c, .int .i64 who] 36)
 have HL : Hid (Below w.heap.size w ((((w.alloc (.cells #[.slice A1 p.hs.length c1, .slice A2 p.acs.length c2, .slice A3 p.bs.length c3, .int .i64 p.fuel] 26)).alloc (.cells #[.int .i64 b.drop, .int .i64 b.dup, .int .i64 b.time, .int .i64 b.crash] 28)).alloc (.cells #[.slice B1 x.acts.length d1, .slice B2 x.mail.length d2, .int .i64 x.used.drop, .int .i64 x.used.dup, .int .i64 x.used.time, .int .i64 x.used.crash] 32)).alloc (.cells #[.int .i64 3, .int .i64 f, .int .i64 n, .int .i64 c, .int .i64 who] 36))) := bAlloc (bAlloc (bAlloc (bAlloc (bRefl _) _) _) _) _
 generalize ((((w.alloc (.cells #[.slice A1 p.hs.length c1, .slice A2 p.acs.length c2, .slice A3 p.bs.length c3, .int .i64 p.fuel] 26)).alloc (.cells #[.int .i64 b.drop, .int .i64 b.dup, .int .i64 b.time, .int .i64 b.crash] 28)).alloc (.cells #[.slice B1 x.acts.length d1, .slice B2 x.mail.length d2, .int .i64 x.used.drop, .int .i64 x.used.dup, .int .i64 x.used.time, .int .i64 x.used.crash] 32)).alloc (.cells #[.int .i64 3, .int .i64 f, .int .i64 n, .int .i64 c, .int .i64 who] 36)) = w1 at k0 k1 k2 k3 k4 HL ⊢
 refine (fits_any _ _ _ p b x (HT.out.below HL.out) (HP.out.below HL.out) (HX.out.below HL.out)).mono ?_
 rintro e w2 ⟨rfl, hb2⟩
 replace k0 := boxAt k0 hb2
 replace k1 := boxAt k1 hb2
 replace k2 := boxAt k2 hb2
 replace k3 := boxAt k3 hb2
 have HL2 := hid_mk (bTrans HL.out hb2)
 obtain ⟨b0, b1, b2, b3⟩ := blk4 k1
 obtain ⟨x0, x1, x2, x3, x4, x5⟩ := blk6 k2
 obtain ⟨e0, e1, e2, e3, e4⟩ := blk5 k3
 clear k4 HL hb2
 go_wp2_with fail
 refine (left_any _ b x.used _ _ _ _ _ _).mono ?_
 rintro e w3 ⟨rfl, hb3⟩
 have hbx : Below w2.heap.size w2 (w3.alloc (.cells #[.int .i64 (leftB b x.used).drop, .int .i64 (leftB b x.used).dup, .int .i64 (leftB b x.used).time, .int .i64 (leftB b x.used).crash] 28)) := bAlloc hb3 _
 have hK := heap_new w3 (.cells #[.int .i64 (leftB b x.used).drop, .int .i64 (leftB b x.used).dup, .int .i64 (leftB b x.used).time, .int .i64 (leftB b x.used).crash] 28)
 replace k0 := boxAt k0 hbx
 replace k2 := boxAt k2 hbx
 replace k3 := boxAt k3 hbx
 have HL3 := hid_mk (bTrans HL2.out hbx)
 clear k1 b0 b1 b2 b3 x0 x1 x2 x3 x4 x5 e0 e1 e2 e3 e4 HL2 hb3 hbx
 obtain ⟨x0, x1, x2, x3, x4, x5⟩ := blk6 k2
 obtain ⟨e0, e1, e2, e3, e4⟩ := blk5 k3
 obtain ⟨l0, l1, l2, l3⟩ := blk4 hK
 go_wp2_with fail
 generalize w3.alloc (.cells #[.int .i64 (leftB b x.used).drop, .int .i64 (leftB b x.used).dup, .int .i64 (leftB b x.used).time, .int .i64 (leftB b x.used).crash] 28) = w4 at k0 k2 k3 hK HL3 x0 x1 x2 x3 x4 x5 e0 e1 e2 e3 e4 l0 l1 l2 l3 ⊢
 refine (find_any _ _ x.mail ⟨f, n, c⟩ (HG2.out.below HL3.out)).mono ?_
 rintro e w5 ⟨rfl, hb5⟩
 replace k2 := boxAt k2 hb5
 replace k3 := boxAt k3 hb5
 replace hK := boxAt hK hb5
 have HL5 := hid_mk (bTrans HL3.out hb5)
 clear x0 x1 x2 x3 x4 x5 e0 e1 e2 e3 e4 l0 l1 l2 l3
 obtain ⟨x0, x1, x2, x3, x4, x5⟩ := blk6 k2
 obtain ⟨e0, e1, e2, e3, e4⟩ := blk5 k3
 obtain ⟨l0, l1, l2, l3⟩ := blk4 hK
 have s2 := (Array.getElem?_eq_some_iff.1 k2).1
 have s3 := (Array.getElem?_eq_some_iff.1 k3).1
 have s4 := (Array.getElem?_eq_some_iff.1 hK).1
 have hbb : Below w5.heap.size w5 w5 := bRefl w5
 clear k0 k2 k3 hK hb5 HL3
 go_wp2_with fail
 refine wp_region_held_drew (S := fun w' => w'.cell? ⟨w.heap.size + 1 + 1 + 1, 0, none⟩ = some (.int .i64 3) ∧ w'.cell? ⟨w.heap.size + 1 + 1 + 1, 1, none⟩ = some (.int .i64 f) ∧ w'.cell? ⟨w.heap.size + 1 + 1 + 1, 2, none⟩ = some (.int .i64 n) ∧ w'.cell? ⟨w.heap.size + 1 + 1 + 1, 3, none⟩ = some (.int .i64 c) ∧ w'.cell? ⟨w.heap.size + 1 + 1 + 1, 4, none⟩ = some (.int .i64 who) ∧ w'.cell? ⟨w.heap.size + 1 + 1, 0, none⟩ = some (.slice B1 x.acts.length d1) ∧ w'.cell? ⟨w.heap.size + 1 + 1, 1, none⟩ = some (.slice B2 x.mail.length d2) ∧ w'.cell? ⟨w.heap.size + 1 + 1, 2, none⟩ = some (.int .i64 x.used.drop) ∧ w'.cell? ⟨w.heap.size + 1 + 1, 3, none⟩ = some (.int .i64 x.used.dup) ∧ w'.cell? ⟨w.heap.size + 1 + 1, 4, none⟩ = some (.int .i64 x.used.time) ∧ w'.cell? ⟨w.heap.size + 1 + 1, 5, none⟩ = some (.int .i64 x.used.crash) ∧ w'.cell? ⟨w3.heap.size, 0, none⟩ = some (.int .i64 (leftB b x.used).drop) ∧ w'.cell? ⟨w3.heap.size, 1, none⟩ = some (.int .i64 (leftB b x.used).dup) ∧ w'.cell? ⟨w3.heap.size, 2, none⟩ = some (.int .i64 (leftB b x.used).time) ∧ w'.cell? ⟨w3.heap.size, 3, none⟩ = some (.int .i64 (leftB b x.used).crash)) (by kernel_rfl) ?_ (fun hHeld => ?_)
 ·try dsimp only
  go_keep
 refine tKh (i := 0) (oi := ⟨some 31, .fieldAddr 36 (.tmp 7) 2, 0, "event.go:46", #[], none⟩) (v := ?_) (hy := .inl ⟨by rfl, ?_⟩) (h := ?_)
 rotate_left
 ·intro w hSw
  try dsimp only at hSw
  go_simp
  try with_reducible rfl
 try simp only [Act.put, sqA, sqB, sqC]
 refine tKh (i := 1) (oi := ⟨some 32, .load 3 (.tmp 31), 3, "event.go:46", #[⟨0, .data⟩], none⟩) (v := ?_) (hy := .inl ⟨by rfl, ?_⟩) (h := ?_)
 rotate_left
 ·intro w hSw
  try dsimp only at hSw
  go_simp
  try with_reducible rfl
 try simp only [Act.put, sqA, sqB, sqC]
 refine tKh (i := 2) (oi := ⟨some 33, .binOp .eql 3 (.tmp 32) (.const (.int .i64 0)) 3, 4, "event.go:46", #[⟨1, .data⟩], none⟩) (v := ?_) (hy := .inl ⟨by rfl, ?_⟩) (h := ?_)
 rotate_left
 ·intro w hSw
  try dsimp only at hSw
  go_simp
  try with_reducible rfl
 try simp only [Act.put, sqA, sqB, sqC]
 refine tKh (i := 3) (oi := ⟨some 34, .move (.tmp 33), 4, "event.go:46", #[⟨2, .data⟩], none⟩) (v := ?_) (hy := .inl ⟨by rfl, ?_⟩) (h := ?_)
 rotate_left
 ·intro w hSw
  try dsimp only at hSw
  go_simp
  try with_reducible rfl
 try simp only [Act.put, sqA, sqB, sqC]
 refine tKh (i := 4) (oi := ⟨some 35, .move (.tmp 10), 3, "event.go:46", #[⟨3, .guard⟩], some (3, true)⟩) (v := undef) (hy := .inr ⟨by rfl, rfl⟩) (h := ?_)
 try simp only [Act.put, sqA, sqB, sqC]
 refine tKh (i := 5) (oi := ⟨some 36, .binOp .geq 3 (.tmp 35) (.const (.int .i64 0)) 3, 4, "event.go:46", #[⟨4, .data⟩, ⟨3, .guard⟩], some (3, true)⟩) (v := undef) (hy := .inr ⟨by rfl, rfl⟩) (h := ?_)
 try simp only [Act.put, sqA, sqB, sqC]
 refine tKh (i := 6) (oi := ⟨some 37, .pick (.tmp 34) (.tmp 36) (.const (.bool false)), 4, "event.go:46", #[⟨3, .data⟩, ⟨5, .data⟩], none⟩) (v := ?_) (hy := .inl ⟨by rfl, ?_⟩) (h := ?_)
 rotate_left
 ·intro w hSw
  try dsimp only at hSw
  go_simp
  try with_reducible rfl
 try simp only [Act.put, sqA, sqB, sqC]
 refine tKh (i := 7) (oi := ⟨some 38, .move (.tmp 37), 4, "event.go:46", #[⟨6, .data⟩, ⟨3, .chain⟩], none⟩) (v := ?_) (hy := .inl ⟨by rfl, ?_⟩) (h := ?_)
 rotate_left
 ·intro w hSw
  try dsimp only at hSw
  go_simp
  try with_reducible rfl
 try simp only [Act.put, sqA, sqB, sqC]
 refine tKh (i := 8) (oi := ⟨some 39, .load 28 (.tmp 9), 28, "event.go:46", #[⟨7, .guard⟩], some (7, true)⟩) (v := undef) (hy := .inr ⟨by rfl, rfl⟩) (h := ?_)
 try simp only [Act.put, sqA, sqB, sqC]
 refine tKh (i := 9) (oi := ⟨some 40, .load 32 (.tmp 6), 32, "event.go:46", #[⟨7, .guard⟩], some (7, true)⟩) (v := undef) (hy := .inr ⟨by rfl, rfl⟩) (h := ?_)
 try simp only [Act.put, sqA, sqB, sqC]
 refine tKh (i := 10) (oi := ⟨some 41, .fieldAddr 36 (.tmp 7) 0, 0, "event.go:46", #[⟨7, .guard⟩], some (7, true)⟩) (v := undef) (hy := .inr ⟨by rfl, rfl⟩) (h := ?_)
 try simp only [Act.put, sqA, sqB, sqC]
 refine tKh (i := 11) (oi := ⟨some 42, .load 3 (.tmp 41), 3, "event.go:46", #[⟨10, .data⟩, ⟨7, .guard⟩], some (7, true)⟩) (v := undef) (hy := .inr ⟨by rfl, rfl⟩) (h := ?_)
 try simp only [Act.put, sqA, sqB, sqC]
 refine tKh (i := 12) (oi := ⟨some 43, .fieldAddr 32 (.tmp 6) 1, 0, "event.go:46", #[⟨7, .guard⟩], some (7, true)⟩) (v := undef) (hy := .inr ⟨by rfl, rfl⟩) (h := ?_)
 try simp only [Act.put, sqA, sqB, sqC]
 refine tKh (i := 13) (oi := ⟨some 44, .load 30 (.tmp 43), 30, "event.go:46", #[⟨12, .data⟩, ⟨7, .guard⟩], some (7, true)⟩) (v := undef) (hy := .inr ⟨by rfl, rfl⟩) (h := ?_)
 try simp only [Act.put, sqA, sqB, sqC]
 refine tKh (i := 14) (oi := ⟨some 45, .move (.tmp 10), 3, "event.go:46", #[⟨7, .guard⟩], some (7, true)⟩) (v := undef) (hy := .inr ⟨by rfl, rfl⟩) (h := ?_)
 try simp only [Act.put, sqA, sqB, sqC]
 refine tKh (i := 15) (oi := ⟨some 46, .indexAddr 30 (.tmp 44) (.tmp 45), 0, "event.go:46", #[⟨13, .data⟩, ⟨14, .data⟩, ⟨7, .guard⟩], some (7, true)⟩) (v := undef) (hy := .inr ⟨by rfl, rfl⟩) (h := ?_)
 try simp only [Act.put, sqA, sqB, sqC]
 refine tKh (i := 16) (oi := ⟨some 47, .load 90 (.tmp 46), 90, "event.go:46", #[⟨15, .data⟩, ⟨7, .guard⟩], some (7, true)⟩) (v := undef) (hy := .inr ⟨by rfl, rfl⟩) (h := ?_)
 try simp only [Act.put, sqA, sqB, sqC]
 refine wpAnyH_ready (rs := [17]) (by kernel_rfl) (by simp) ?_
 refine AllReadyH.cons (o := ⟨some 48, .call { callee := .value (.func 60), args := #[.tmp 39, .tmp 40, .tmp 42, .tmp 47], argTypes := #[28, 32, 3, 90] }, 4, "event.go:46", #[⟨8, .data⟩, ⟨9, .data⟩, ⟨11, .data⟩, ⟨16, .data⟩, ⟨7, .chain⟩, ⟨7, .guard⟩], some (7, true)⟩) rfl (fun K hK => ?_) AllReadyH.nil
 go_simp
 refine hK.out _ _ ?_ (fun hHeld => ?_)
 ·try dsimp only
  go_keep
 clear hK K
 try simp only [Act.put, sqA, sqB, sqC]
 refine tKh (i := 18) (oi := ⟨some 49, .pick (.tmp 38) (.tmp 48) (.const (.bool false)), 4, "event.go:46", #[⟨7, .data⟩, ⟨17, .data⟩], none⟩) (v := ?_) (hy := .inl ⟨by rfl, ?_⟩) (h := ?_)
 rotate_left
 ·intro w hSw
  try dsimp only at hSw
  go_simp
  try with_reducible rfl
 try simp only [Act.put, sqA, sqB, sqC]
 refine tKh (i := 19) (oi := ⟨some 8, .assign (.tmp 49), 4, "event.go:46", #[⟨18, .data⟩, ⟨17, .chain⟩, ⟨0, .phase⟩, ⟨1, .phase⟩, ⟨2, .phase⟩, ⟨3, .phase⟩, ⟨4, .phase⟩, ⟨5, .phase⟩, ⟨6, .phase⟩, ⟨7, .phase⟩, ⟨8, .phase⟩, ⟨9, .phase⟩, ⟨10, .phase⟩, ⟨11, .phase⟩, ⟨12, .phase⟩, ⟨13, .phase⟩, ⟨14, .phase⟩, ⟨15, .phase⟩, ⟨16, .phase⟩, ⟨17, .phase⟩, ⟨18, .phase⟩], none⟩) (v := ?_) (hy := .inl ⟨by rfl, ?_⟩) (h := ?_)
 rotate_left
 ·intro w hSw
  try dsimp only at hSw
  go_simp
  try with_reducible rfl
 try simp only [Act.put, sqA, sqB, sqC]
 refine wpAnyH_done (by kernel_rfl) ?_ _
 go_wp2_with fail
 go_ret
 exact ⟨ret_b HR.out, bTrans HL5.out (by first | exact hbb | exact hbb.drew)⟩
set_option maxHeartbeats 8000000 in
set_option maxRecDepth 100000 in
theorem is_m3b (w : World) (vp vw : Value) (p : PPrg) (b : PBud) (x : PWld) (f n c who : Int) (ht : Tab w) (hp : PrgV w vp p) (hx : WldV w vw x) (hf : fitsP p b x = true) (hw : who = 0) (hfi : x.mail.findIdx? (fun m => decide (m.id = ⟨f, n, c⟩)) = none) :
  Calls Tryz.prog 23 #[vp, uVal b, vw, eVal ⟨3, ⟨f, n, c⟩, who⟩] w fun e w' => e = .returned (.bool (isP p b x ⟨3, ⟨f, n, c⟩, who⟩)) ∧ Below w.heap.size w w' := by
 have HP := hid_mk hp
 have HX := hid_mk hx
 have HT := hid_mk ht
 obtain ⟨vh, vb, vc, rfl, h1, h2, h3⟩ := hp
 obtain ⟨A1, c1, rfl, _⟩ := h1.form
 obtain ⟨A2, c2, rfl, _⟩ := h2.form
 obtain ⟨A3, c3, rfl, _⟩ := h3.form
 obtain ⟨va, vm, rfl, g1, g2⟩ := hx
 obtain ⟨B1, d1, rfl, _⟩ := g1.form
 obtain ⟨B2, d2, rfl, _⟩ := g2.form
 have HG1 := hid_mk g1
 have HG2 := hid_mk g2
 have HR := hid_mk (isP_M (p := p) (b := b) (e := ⟨3, ⟨f, n, c⟩, who⟩) hf (by simp) (show false = _ by unfold isM; dsimp only; rw [hfi]; simp))
 have hfn := fnd_nn hfi
 clear hfi
 have hwd : (who == 0) = true := beq_iff_eq.2 hw
 clear hw
 clear h1 h2 h3 g1 g2 ht
 have hgD := gD
 go_enter Tryz.func23, Tryz.ntmps23
 go_wp2_with fail
 obtain ⟨k0, k1, k2, k3, k4⟩ := four_new w (.cells #[.slice A1 p.hs.length c1, .slice A2 p.acs.length c2, .slice A3 p.bs.length c3, .int .i64 p.fuel] 26) (.cells #[.int .i64 b.drop, .int .i64 b.dup, .int .i64 b.time, .int .i64 b.crash] 28) (.cells #[.slice B1 x.acts.length d1, .slice B2 x.mail.length d2, .int .i64 x.used.drop, .int .i64 x.used.dup, .int .i64 x.used.time, .int .i64 x.used.crash] 32) (.cells #[.int .i64 3, .int .i64 f, .int .i64 n, .int .i64 c, .int .i64 who] 36)
 have HL : Hid (Below w.heap.size w ((((w.alloc (.cells #[.slice A1 p.hs.length c1, .slice A2 p.acs.length c2, .slice A3 p.bs.length c3, .int .i64 p.fuel] 26)).alloc (.cells #[.int .i64 b.drop, .int .i64 b.dup, .int .i64 b.time, .int .i64 b.crash] 28)).alloc (.cells #[.slice B1 x.acts.length d1, .slice B2 x.mail.length d2, .int .i64 x.used.drop, .int .i64 x.used.dup, .int .i64 x.used.time, .int .i64 x.used.crash] 32)).alloc (.cells #[.int .i64 3, .int .i64 f, .int .i64 n, .int .i64 c, .int .i64 who] 36))) := bAlloc (bAlloc (bAlloc (bAlloc (bRefl _) _) _) _) _
 generalize ((((w.alloc (.cells #[.slice A1 p.hs.length c1, .slice A2 p.acs.length c2, .slice A3 p.bs.length c3, .int .i64 p.fuel] 26)).alloc (.cells #[.int .i64 b.drop, .int .i64 b.dup, .int .i64 b.time, .int .i64 b.crash] 28)).alloc (.cells #[.slice B1 x.acts.length d1, .slice B2 x.mail.length d2, .int .i64 x.used.drop, .int .i64 x.used.dup, .int .i64 x.used.time, .int .i64 x.used.crash] 32)).alloc (.cells #[.int .i64 3, .int .i64 f, .int .i64 n, .int .i64 c, .int .i64 who] 36)) = w1 at k0 k1 k2 k3 k4 HL ⊢
 refine (fits_any _ _ _ p b x (HT.out.below HL.out) (HP.out.below HL.out) (HX.out.below HL.out)).mono ?_
 rintro e w2 ⟨rfl, hb2⟩
 replace k0 := boxAt k0 hb2
 replace k1 := boxAt k1 hb2
 replace k2 := boxAt k2 hb2
 replace k3 := boxAt k3 hb2
 have HL2 := hid_mk (bTrans HL.out hb2)
 obtain ⟨b0, b1, b2, b3⟩ := blk4 k1
 obtain ⟨x0, x1, x2, x3, x4, x5⟩ := blk6 k2
 obtain ⟨e0, e1, e2, e3, e4⟩ := blk5 k3
 clear k4 HL hb2
 go_wp2_with fail
 refine (left_any _ b x.used _ _ _ _ _ _).mono ?_
 rintro e w3 ⟨rfl, hb3⟩
 have hbx : Below w2.heap.size w2 (w3.alloc (.cells #[.int .i64 (leftB b x.used).drop, .int .i64 (leftB b x.used).dup, .int .i64 (leftB b x.used).time, .int .i64 (leftB b x.used).crash] 28)) := bAlloc hb3 _
 have hK := heap_new w3 (.cells #[.int .i64 (leftB b x.used).drop, .int .i64 (leftB b x.used).dup, .int .i64 (leftB b x.used).time, .int .i64 (leftB b x.used).crash] 28)
 replace k0 := boxAt k0 hbx
 replace k2 := boxAt k2 hbx
 replace k3 := boxAt k3 hbx
 have HL3 := hid_mk (bTrans HL2.out hbx)
 clear k1 b0 b1 b2 b3 x0 x1 x2 x3 x4 x5 e0 e1 e2 e3 e4 HL2 hb3 hbx
 obtain ⟨x0, x1, x2, x3, x4, x5⟩ := blk6 k2
 obtain ⟨e0, e1, e2, e3, e4⟩ := blk5 k3
 obtain ⟨l0, l1, l2, l3⟩ := blk4 hK
 go_wp2_with fail
 generalize w3.alloc (.cells #[.int .i64 (leftB b x.used).drop, .int .i64 (leftB b x.used).dup, .int .i64 (leftB b x.used).time, .int .i64 (leftB b x.used).crash] 28) = w4 at k0 k2 k3 hK HL3 x0 x1 x2 x3 x4 x5 e0 e1 e2 e3 e4 l0 l1 l2 l3 ⊢
 refine (find_any _ _ x.mail ⟨f, n, c⟩ (HG2.out.below HL3.out)).mono ?_
 rintro e w5 ⟨rfl, hb5⟩
 replace k2 := boxAt k2 hb5
 replace k3 := boxAt k3 hb5
 replace hK := boxAt hK hb5
 have HL5 := hid_mk (bTrans HL3.out hb5)
 clear x0 x1 x2 x3 x4 x5 e0 e1 e2 e3 e4 l0 l1 l2 l3
 obtain ⟨x0, x1, x2, x3, x4, x5⟩ := blk6 k2
 obtain ⟨e0, e1, e2, e3, e4⟩ := blk5 k3
 obtain ⟨l0, l1, l2, l3⟩ := blk4 hK
 have s2 := (Array.getElem?_eq_some_iff.1 k2).1
 have s3 := (Array.getElem?_eq_some_iff.1 k3).1
 have s4 := (Array.getElem?_eq_some_iff.1 hK).1
 have hbb : Below w5.heap.size w5 w5 := bRefl w5
 clear k0 k2 k3 hK hb5 HL3
 go_wp2_with fail
 refine wp_region_held_drew (S := fun w' => w'.cell? ⟨w.heap.size + 1 + 1 + 1, 0, none⟩ = some (.int .i64 3) ∧ w'.cell? ⟨w.heap.size + 1 + 1 + 1, 1, none⟩ = some (.int .i64 f) ∧ w'.cell? ⟨w.heap.size + 1 + 1 + 1, 2, none⟩ = some (.int .i64 n) ∧ w'.cell? ⟨w.heap.size + 1 + 1 + 1, 3, none⟩ = some (.int .i64 c) ∧ w'.cell? ⟨w.heap.size + 1 + 1 + 1, 4, none⟩ = some (.int .i64 who) ∧ w'.cell? ⟨w.heap.size + 1 + 1, 0, none⟩ = some (.slice B1 x.acts.length d1) ∧ w'.cell? ⟨w.heap.size + 1 + 1, 1, none⟩ = some (.slice B2 x.mail.length d2) ∧ w'.cell? ⟨w.heap.size + 1 + 1, 2, none⟩ = some (.int .i64 x.used.drop) ∧ w'.cell? ⟨w.heap.size + 1 + 1, 3, none⟩ = some (.int .i64 x.used.dup) ∧ w'.cell? ⟨w.heap.size + 1 + 1, 4, none⟩ = some (.int .i64 x.used.time) ∧ w'.cell? ⟨w.heap.size + 1 + 1, 5, none⟩ = some (.int .i64 x.used.crash) ∧ w'.cell? ⟨w3.heap.size, 0, none⟩ = some (.int .i64 (leftB b x.used).drop) ∧ w'.cell? ⟨w3.heap.size, 1, none⟩ = some (.int .i64 (leftB b x.used).dup) ∧ w'.cell? ⟨w3.heap.size, 2, none⟩ = some (.int .i64 (leftB b x.used).time) ∧ w'.cell? ⟨w3.heap.size, 3, none⟩ = some (.int .i64 (leftB b x.used).crash)) (by kernel_rfl) ?_ (fun hHeld => ?_)
 ·try dsimp only
  go_keep
 refine tKh (i := 0) (oi := ⟨some 31, .fieldAddr 36 (.tmp 7) 2, 0, "event.go:46", #[], none⟩) (v := ?_) (hy := .inl ⟨by rfl, ?_⟩) (h := ?_)
 rotate_left
 ·intro w hSw
  try dsimp only at hSw
  go_simp
  try with_reducible rfl
 try simp only [Act.put, sqA, sqB, sqC]
 refine tKh (i := 1) (oi := ⟨some 32, .load 3 (.tmp 31), 3, "event.go:46", #[⟨0, .data⟩], none⟩) (v := ?_) (hy := .inl ⟨by rfl, ?_⟩) (h := ?_)
 rotate_left
 ·intro w hSw
  try dsimp only at hSw
  go_simp
  try with_reducible rfl
 try simp only [Act.put, sqA, sqB, sqC]
 refine tKh (i := 2) (oi := ⟨some 33, .binOp .eql 3 (.tmp 32) (.const (.int .i64 0)) 3, 4, "event.go:46", #[⟨1, .data⟩], none⟩) (v := ?_) (hy := .inl ⟨by rfl, ?_⟩) (h := ?_)
 rotate_left
 ·intro w hSw
  try dsimp only at hSw
  go_simp
  try with_reducible rfl
 try simp only [Act.put, sqA, sqB, sqC]
 refine tKh (i := 3) (oi := ⟨some 34, .move (.tmp 33), 4, "event.go:46", #[⟨2, .data⟩], none⟩) (v := ?_) (hy := .inl ⟨by rfl, ?_⟩) (h := ?_)
 rotate_left
 ·intro w hSw
  try dsimp only at hSw
  go_simp
  try with_reducible rfl
 try simp only [Act.put, sqA, sqB, sqC]
 refine tKh (i := 4) (oi := ⟨some 35, .move (.tmp 10), 3, "event.go:46", #[⟨3, .guard⟩], some (3, true)⟩) (v := ?_) (hy := .inl ⟨by rfl, ?_⟩) (h := ?_)
 rotate_left
 ·intro w hSw
  try dsimp only at hSw
  go_simp
  try with_reducible rfl
 try simp only [Act.put, sqA, sqB, sqC]
 refine tKh (i := 5) (oi := ⟨some 36, .binOp .geq 3 (.tmp 35) (.const (.int .i64 0)) 3, 4, "event.go:46", #[⟨4, .data⟩, ⟨3, .guard⟩], some (3, true)⟩) (v := ?_) (hy := .inl ⟨by rfl, ?_⟩) (h := ?_)
 rotate_left
 ·intro w hSw
  try dsimp only at hSw
  go_simp
  try with_reducible rfl
 try simp only [Act.put, sqA, sqB, sqC]
 refine tKh (i := 6) (oi := ⟨some 37, .pick (.tmp 34) (.tmp 36) (.const (.bool false)), 4, "event.go:46", #[⟨3, .data⟩, ⟨5, .data⟩], none⟩) (v := ?_) (hy := .inl ⟨by rfl, ?_⟩) (h := ?_)
 rotate_left
 ·intro w hSw
  try dsimp only at hSw
  go_simp
  try with_reducible rfl
 try simp only [Act.put, sqA, sqB, sqC]
 refine tKh (i := 7) (oi := ⟨some 38, .move (.tmp 37), 4, "event.go:46", #[⟨6, .data⟩, ⟨3, .chain⟩], none⟩) (v := ?_) (hy := .inl ⟨by rfl, ?_⟩) (h := ?_)
 rotate_left
 ·intro w hSw
  try dsimp only at hSw
  go_simp
  try with_reducible rfl
 try simp only [Act.put, sqA, sqB, sqC]
 refine tKh (i := 8) (oi := ⟨some 39, .load 28 (.tmp 9), 28, "event.go:46", #[⟨7, .guard⟩], some (7, true)⟩) (v := undef) (hy := .inr ⟨by rfl, rfl⟩) (h := ?_)
 try simp only [Act.put, sqA, sqB, sqC]
 refine tKh (i := 9) (oi := ⟨some 40, .load 32 (.tmp 6), 32, "event.go:46", #[⟨7, .guard⟩], some (7, true)⟩) (v := undef) (hy := .inr ⟨by rfl, rfl⟩) (h := ?_)
 try simp only [Act.put, sqA, sqB, sqC]
 refine tKh (i := 10) (oi := ⟨some 41, .fieldAddr 36 (.tmp 7) 0, 0, "event.go:46", #[⟨7, .guard⟩], some (7, true)⟩) (v := undef) (hy := .inr ⟨by rfl, rfl⟩) (h := ?_)
 try simp only [Act.put, sqA, sqB, sqC]
 refine tKh (i := 11) (oi := ⟨some 42, .load 3 (.tmp 41), 3, "event.go:46", #[⟨10, .data⟩, ⟨7, .guard⟩], some (7, true)⟩) (v := undef) (hy := .inr ⟨by rfl, rfl⟩) (h := ?_)
 try simp only [Act.put, sqA, sqB, sqC]
 refine tKh (i := 12) (oi := ⟨some 43, .fieldAddr 32 (.tmp 6) 1, 0, "event.go:46", #[⟨7, .guard⟩], some (7, true)⟩) (v := undef) (hy := .inr ⟨by rfl, rfl⟩) (h := ?_)
 try simp only [Act.put, sqA, sqB, sqC]
 refine tKh (i := 13) (oi := ⟨some 44, .load 30 (.tmp 43), 30, "event.go:46", #[⟨12, .data⟩, ⟨7, .guard⟩], some (7, true)⟩) (v := undef) (hy := .inr ⟨by rfl, rfl⟩) (h := ?_)
 try simp only [Act.put, sqA, sqB, sqC]
 refine tKh (i := 14) (oi := ⟨some 45, .move (.tmp 10), 3, "event.go:46", #[⟨7, .guard⟩], some (7, true)⟩) (v := undef) (hy := .inr ⟨by rfl, rfl⟩) (h := ?_)
 try simp only [Act.put, sqA, sqB, sqC]
 refine tKh (i := 15) (oi := ⟨some 46, .indexAddr 30 (.tmp 44) (.tmp 45), 0, "event.go:46", #[⟨13, .data⟩, ⟨14, .data⟩, ⟨7, .guard⟩], some (7, true)⟩) (v := undef) (hy := .inr ⟨by rfl, rfl⟩) (h := ?_)
 try simp only [Act.put, sqA, sqB, sqC]
 refine tKh (i := 16) (oi := ⟨some 47, .load 90 (.tmp 46), 90, "event.go:46", #[⟨15, .data⟩, ⟨7, .guard⟩], some (7, true)⟩) (v := undef) (hy := .inr ⟨by rfl, rfl⟩) (h := ?_)
 try simp only [Act.put, sqA, sqB, sqC]
 refine wpAnyH_ready (rs := [17]) (by kernel_rfl) (by simp) ?_
 refine AllReadyH.cons (o := ⟨some 48, .call { callee := .value (.func 60), args := #[.tmp 39, .tmp 40, .tmp 42, .tmp 47], argTypes := #[28, 32, 3, 90] }, 4, "event.go:46", #[⟨8, .data⟩, ⟨9, .data⟩, ⟨11, .data⟩, ⟨16, .data⟩, ⟨7, .chain⟩, ⟨7, .guard⟩], some (7, true)⟩) rfl (fun K hK => ?_) AllReadyH.nil
 go_simp
 refine hK.out _ _ ?_ (fun hHeld => ?_)
 ·try dsimp only
  go_keep
 clear hK K
 try simp only [Act.put, sqA, sqB, sqC]
 refine tKh (i := 18) (oi := ⟨some 49, .pick (.tmp 38) (.tmp 48) (.const (.bool false)), 4, "event.go:46", #[⟨7, .data⟩, ⟨17, .data⟩], none⟩) (v := ?_) (hy := .inl ⟨by rfl, ?_⟩) (h := ?_)
 rotate_left
 ·intro w hSw
  try dsimp only at hSw
  go_simp
  try with_reducible rfl
 try simp only [Act.put, sqA, sqB, sqC]
 refine tKh (i := 19) (oi := ⟨some 8, .assign (.tmp 49), 4, "event.go:46", #[⟨18, .data⟩, ⟨17, .chain⟩, ⟨0, .phase⟩, ⟨1, .phase⟩, ⟨2, .phase⟩, ⟨3, .phase⟩, ⟨4, .phase⟩, ⟨5, .phase⟩, ⟨6, .phase⟩, ⟨7, .phase⟩, ⟨8, .phase⟩, ⟨9, .phase⟩, ⟨10, .phase⟩, ⟨11, .phase⟩, ⟨12, .phase⟩, ⟨13, .phase⟩, ⟨14, .phase⟩, ⟨15, .phase⟩, ⟨16, .phase⟩, ⟨17, .phase⟩, ⟨18, .phase⟩], none⟩) (v := ?_) (hy := .inl ⟨by rfl, ?_⟩) (h := ?_)
 rotate_left
 ·intro w hSw
  try dsimp only at hSw
  go_simp
  try with_reducible rfl
 try simp only [Act.put, sqA, sqB, sqC]
 refine wpAnyH_done (by kernel_rfl) ?_ _
 go_wp2_with fail
 go_ret
 exact ⟨ret_b HR.out, bTrans HL5.out (by first | exact hbb | exact hbb.drew)⟩
set_option maxHeartbeats 8000000 in
set_option maxRecDepth 100000 in
theorem is_m3c (w : World) (vp vw : Value) (p : PPrg) (b : PBud) (x : PWld) (f n c who : Int) (ht : Tab w) (hp : PrgV w vp p) (hx : WldV w vw x) (hf : fitsP p b x = true) (hw : who = 0) (k : Nat) (hfi : x.mail.findIdx? (fun m => decide (m.id = ⟨f, n, c⟩)) = some k) :
  Calls Tryz.prog 23 #[vp, uVal b, vw, eVal ⟨3, ⟨f, n, c⟩, who⟩] w fun e w' => e = .returned (.bool (isP p b x ⟨3, ⟨f, n, c⟩, who⟩)) ∧ Below w.heap.size w w' := by
 have HP := hid_mk hp
 have HX := hid_mk hx
 have HT := hid_mk ht
 obtain ⟨vh, vb, vc, rfl, h1, h2, h3⟩ := hp
 obtain ⟨A1, c1, rfl, _⟩ := h1.form
 obtain ⟨A2, c2, rfl, _⟩ := h2.form
 obtain ⟨A3, c3, rfl, _⟩ := h3.form
 obtain ⟨va, vm, rfl, g1, g2⟩ := hx
 obtain ⟨B1, d1, rfl, _⟩ := g1.form
 obtain ⟨B2, d2, rfl, _⟩ := g2.form
 have HG1 := hid_mk g1
 have HG2 := hid_mk g2
 have hfn := fnd_sm hfi
 have hlt := fnd_lt hfi
 obtain ⟨m, hm⟩ := at_lt hlt
 have HTO := hid_mk (chkW_to (by unfold fitsP at hf; rw [Bool.and_eq_true] at hf; exact hf.2) (List.mem_of_getElem? hm))
 have HRM : Hid (ofM (leftB b x.used) x 3 m = isM (leftB b x.used) x ⟨3, ⟨f, n, c⟩, who⟩) := by show _ = _; unfold isM; dsimp only; rw [hfi, decide_eq_true hw]; simp [List.getD_eq_getElem?_getD, hm]
 have HR := hid_mk (isP_M (p := p) (b := b) (e := ⟨3, ⟨f, n, c⟩, who⟩) hf (by simp) HRM.out)
 have hki : (k : Int) < x.mail.length := by omega
 have hk0 : (0 : Int) ≤ k := by omega
 obtain ⟨bm, om, hAm, _, hmlt, hmc⟩ := g2.at (by omega)
 cases hAm
 obtain ⟨j1, j2, j3, j4, j5, v6, j6, hv6⟩ := hmc k m hm
 obtain ⟨A6, c6, rfl, _⟩ := hv6.form
 have hwd : (who == 0) = true := beq_iff_eq.2 hw
 clear hmc hv6 hfi HRM hw
 clear h1 h2 h3 g1 g2 ht
 have hgD := gD
 go_enter Tryz.func23, Tryz.ntmps23
 go_wp2_with fail
 obtain ⟨k0, k1, k2, k3, k4⟩ := four_new w (.cells #[.slice A1 p.hs.length c1, .slice A2 p.acs.length c2, .slice A3 p.bs.length c3, .int .i64 p.fuel] 26) (.cells #[.int .i64 b.drop, .int .i64 b.dup, .int .i64 b.time, .int .i64 b.crash] 28) (.cells #[.slice B1 x.acts.length d1, .slice (some ⟨bm, om, none⟩) x.mail.length d2, .int .i64 x.used.drop, .int .i64 x.used.dup, .int .i64 x.used.time, .int .i64 x.used.crash] 32) (.cells #[.int .i64 3, .int .i64 f, .int .i64 n, .int .i64 c, .int .i64 who] 36)
 have HL : Hid (Below w.heap.size w ((((w.alloc (.cells #[.slice A1 p.hs.length c1, .slice A2 p.acs.length c2, .slice A3 p.bs.length c3, .int .i64 p.fuel] 26)).alloc (.cells #[.int .i64 b.drop, .int .i64 b.dup, .int .i64 b.time, .int .i64 b.crash] 28)).alloc (.cells #[.slice B1 x.acts.length d1, .slice (some ⟨bm, om, none⟩) x.mail.length d2, .int .i64 x.used.drop, .int .i64 x.used.dup, .int .i64 x.used.time, .int .i64 x.used.crash] 32)).alloc (.cells #[.int .i64 3, .int .i64 f, .int .i64 n, .int .i64 c, .int .i64 who] 36))) := bAlloc (bAlloc (bAlloc (bAlloc (bRefl _) _) _) _) _
 generalize ((((w.alloc (.cells #[.slice A1 p.hs.length c1, .slice A2 p.acs.length c2, .slice A3 p.bs.length c3, .int .i64 p.fuel] 26)).alloc (.cells #[.int .i64 b.drop, .int .i64 b.dup, .int .i64 b.time, .int .i64 b.crash] 28)).alloc (.cells #[.slice B1 x.acts.length d1, .slice (some ⟨bm, om, none⟩) x.mail.length d2, .int .i64 x.used.drop, .int .i64 x.used.dup, .int .i64 x.used.time, .int .i64 x.used.crash] 32)).alloc (.cells #[.int .i64 3, .int .i64 f, .int .i64 n, .int .i64 c, .int .i64 who] 36)) = w1 at k0 k1 k2 k3 k4 HL ⊢
 refine (fits_any _ _ _ p b x (HT.out.below HL.out) (HP.out.below HL.out) (HX.out.below HL.out)).mono ?_
 rintro e w2 ⟨rfl, hb2⟩
 replace k0 := boxAt k0 hb2
 replace k1 := boxAt k1 hb2
 replace k2 := boxAt k2 hb2
 replace k3 := boxAt k3 hb2
 have HL2 := hid_mk (bTrans HL.out hb2)
 obtain ⟨b0, b1, b2, b3⟩ := blk4 k1
 obtain ⟨x0, x1, x2, x3, x4, x5⟩ := blk6 k2
 obtain ⟨e0, e1, e2, e3, e4⟩ := blk5 k3
 clear k4 HL hb2
 go_wp2_with fail
 refine (left_any _ b x.used _ _ _ _ _ _).mono ?_
 rintro e w3 ⟨rfl, hb3⟩
 have hbx : Below w2.heap.size w2 (w3.alloc (.cells #[.int .i64 (leftB b x.used).drop, .int .i64 (leftB b x.used).dup, .int .i64 (leftB b x.used).time, .int .i64 (leftB b x.used).crash] 28)) := bAlloc hb3 _
 have hK := heap_new w3 (.cells #[.int .i64 (leftB b x.used).drop, .int .i64 (leftB b x.used).dup, .int .i64 (leftB b x.used).time, .int .i64 (leftB b x.used).crash] 28)
 replace k0 := boxAt k0 hbx
 replace k2 := boxAt k2 hbx
 replace k3 := boxAt k3 hbx
 have HL3 := hid_mk (bTrans HL2.out hbx)
 clear k1 b0 b1 b2 b3 x0 x1 x2 x3 x4 x5 e0 e1 e2 e3 e4 HL2 hb3 hbx
 obtain ⟨x0, x1, x2, x3, x4, x5⟩ := blk6 k2
 obtain ⟨e0, e1, e2, e3, e4⟩ := blk5 k3
 obtain ⟨l0, l1, l2, l3⟩ := blk4 hK
 go_wp2_with fail
 generalize w3.alloc (.cells #[.int .i64 (leftB b x.used).drop, .int .i64 (leftB b x.used).dup, .int .i64 (leftB b x.used).time, .int .i64 (leftB b x.used).crash] 28) = w4 at k0 k2 k3 hK HL3 x0 x1 x2 x3 x4 x5 e0 e1 e2 e3 e4 l0 l1 l2 l3 ⊢
 refine (find_any _ _ x.mail ⟨f, n, c⟩ (HG2.out.below HL3.out)).mono ?_
 rintro e w5 ⟨rfl, hb5⟩
 replace k2 := boxAt k2 hb5
 replace k3 := boxAt k3 hb5
 replace hK := boxAt hK hb5
 have HL5 := hid_mk (bTrans HL3.out hb5)
 clear x0 x1 x2 x3 x4 x5 e0 e1 e2 e3 e4 l0 l1 l2 l3
 obtain ⟨x0, x1, x2, x3, x4, x5⟩ := blk6 k2
 obtain ⟨e0, e1, e2, e3, e4⟩ := blk5 k3
 obtain ⟨l0, l1, l2, l3⟩ := blk4 hK
 have s2 := (Array.getElem?_eq_some_iff.1 k2).1
 have s3 := (Array.getElem?_eq_some_iff.1 k3).1
 have s4 := (Array.getElem?_eq_some_iff.1 hK).1
 have hbb : Below w5.heap.size w5 w5 := bRefl w5
 have hs5 : bm < w5.heap.size := Nat.lt_of_lt_of_le hmlt HL5.out.size
 replace j1 := (HL5.out.cell (p := ⟨bm, _, none⟩) hmlt).trans j1
 replace j2 := (HL5.out.cell (p := ⟨bm, _, none⟩) hmlt).trans j2
 replace j3 := (HL5.out.cell (p := ⟨bm, _, none⟩) hmlt).trans j3
 replace j4 := (HL5.out.cell (p := ⟨bm, _, none⟩) hmlt).trans j4
 replace j5 := (HL5.out.cell (p := ⟨bm, _, none⟩) hmlt).trans j5
 replace j6 := (HL5.out.cell (p := ⟨bm, _, none⟩) hmlt).trans j6
 clear k0 k2 k3 hK hb5 HL3
 go_wp2_with fail
 refine wp_region_held_drew (S := fun w' => w'.cell? ⟨w.heap.size + 1 + 1 + 1, 0, none⟩ = some (.int .i64 3) ∧ w'.cell? ⟨w.heap.size + 1 + 1 + 1, 1, none⟩ = some (.int .i64 f) ∧ w'.cell? ⟨w.heap.size + 1 + 1 + 1, 2, none⟩ = some (.int .i64 n) ∧ w'.cell? ⟨w.heap.size + 1 + 1 + 1, 3, none⟩ = some (.int .i64 c) ∧ w'.cell? ⟨w.heap.size + 1 + 1 + 1, 4, none⟩ = some (.int .i64 who) ∧ w'.cell? ⟨w.heap.size + 1 + 1, 0, none⟩ = some (.slice B1 x.acts.length d1) ∧ w'.cell? ⟨w.heap.size + 1 + 1, 1, none⟩ = some (.slice (some ⟨bm, om, none⟩) x.mail.length d2) ∧ w'.cell? ⟨w.heap.size + 1 + 1, 2, none⟩ = some (.int .i64 x.used.drop) ∧ w'.cell? ⟨w.heap.size + 1 + 1, 3, none⟩ = some (.int .i64 x.used.dup) ∧ w'.cell? ⟨w.heap.size + 1 + 1, 4, none⟩ = some (.int .i64 x.used.time) ∧ w'.cell? ⟨w.heap.size + 1 + 1, 5, none⟩ = some (.int .i64 x.used.crash) ∧ w'.cell? ⟨w3.heap.size, 0, none⟩ = some (.int .i64 (leftB b x.used).drop) ∧ w'.cell? ⟨w3.heap.size, 1, none⟩ = some (.int .i64 (leftB b x.used).dup) ∧ w'.cell? ⟨w3.heap.size, 2, none⟩ = some (.int .i64 (leftB b x.used).time) ∧ w'.cell? ⟨w3.heap.size, 3, none⟩ = some (.int .i64 (leftB b x.used).crash) ∧ w'.cell? ⟨bm, om + k * 6, none⟩ = some (.int .i64 m.id.f) ∧ w'.cell? ⟨bm, om + k * 6 + 1, none⟩ = some (.int .i64 m.id.n) ∧ w'.cell? ⟨bm, om + k * 6 + 2, none⟩ = some (.int .i64 m.id.c) ∧ w'.cell? ⟨bm, om + k * 6 + 3, none⟩ = some (.int .i64 m.nt.to) ∧ w'.cell? ⟨bm, om + k * 6 + 4, none⟩ = some (.int .i64 m.nt.hd) ∧ w'.cell? ⟨bm, om + k * 6 + 5, none⟩ = some (.slice A6 m.nt.args.length c6)) (by kernel_rfl) ?_ (fun hHeld => ?_)
 ·try dsimp only
  go_keep
 refine tKh (i := 0) (oi := ⟨some 31, .fieldAddr 36 (.tmp 7) 2, 0, "event.go:46", #[], none⟩) (v := ?_) (hy := .inl ⟨by rfl, ?_⟩) (h := ?_)
 rotate_left
 ·intro w hSw
  try dsimp only at hSw
  go_simp
  try with_reducible rfl
 try simp only [Act.put, sqA, sqB, sqC]
 refine tKh (i := 1) (oi := ⟨some 32, .load 3 (.tmp 31), 3, "event.go:46", #[⟨0, .data⟩], none⟩) (v := ?_) (hy := .inl ⟨by rfl, ?_⟩) (h := ?_)
 rotate_left
 ·intro w hSw
  try dsimp only at hSw
  go_simp
  try with_reducible rfl
 try simp only [Act.put, sqA, sqB, sqC]
 refine tKh (i := 2) (oi := ⟨some 33, .binOp .eql 3 (.tmp 32) (.const (.int .i64 0)) 3, 4, "event.go:46", #[⟨1, .data⟩], none⟩) (v := ?_) (hy := .inl ⟨by rfl, ?_⟩) (h := ?_)
 rotate_left
 ·intro w hSw
  try dsimp only at hSw
  go_simp
  try with_reducible rfl
 try simp only [Act.put, sqA, sqB, sqC]
 refine tKh (i := 3) (oi := ⟨some 34, .move (.tmp 33), 4, "event.go:46", #[⟨2, .data⟩], none⟩) (v := ?_) (hy := .inl ⟨by rfl, ?_⟩) (h := ?_)
 rotate_left
 ·intro w hSw
  try dsimp only at hSw
  go_simp
  try with_reducible rfl
 try simp only [Act.put, sqA, sqB, sqC]
 refine tKh (i := 4) (oi := ⟨some 35, .move (.tmp 10), 3, "event.go:46", #[⟨3, .guard⟩], some (3, true)⟩) (v := ?_) (hy := .inl ⟨by rfl, ?_⟩) (h := ?_)
 rotate_left
 ·intro w hSw
  try dsimp only at hSw
  go_simp
  try with_reducible rfl
 try simp only [Act.put, sqA, sqB, sqC]
 refine tKh (i := 5) (oi := ⟨some 36, .binOp .geq 3 (.tmp 35) (.const (.int .i64 0)) 3, 4, "event.go:46", #[⟨4, .data⟩, ⟨3, .guard⟩], some (3, true)⟩) (v := ?_) (hy := .inl ⟨by rfl, ?_⟩) (h := ?_)
 rotate_left
 ·intro w hSw
  try dsimp only at hSw
  go_simp
  try with_reducible rfl
 try simp only [Act.put, sqA, sqB, sqC]
 refine tKh (i := 6) (oi := ⟨some 37, .pick (.tmp 34) (.tmp 36) (.const (.bool false)), 4, "event.go:46", #[⟨3, .data⟩, ⟨5, .data⟩], none⟩) (v := ?_) (hy := .inl ⟨by rfl, ?_⟩) (h := ?_)
 rotate_left
 ·intro w hSw
  try dsimp only at hSw
  go_simp
  try with_reducible rfl
 try simp only [Act.put, sqA, sqB, sqC]
 refine tKh (i := 7) (oi := ⟨some 38, .move (.tmp 37), 4, "event.go:46", #[⟨6, .data⟩, ⟨3, .chain⟩], none⟩) (v := ?_) (hy := .inl ⟨by rfl, ?_⟩) (h := ?_)
 rotate_left
 ·intro w hSw
  try dsimp only at hSw
  go_simp
  try with_reducible rfl
 try simp only [Act.put, sqA, sqB, sqC]
 refine tKh (i := 8) (oi := ⟨some 39, .load 28 (.tmp 9), 28, "event.go:46", #[⟨7, .guard⟩], some (7, true)⟩) (v := ?_) (hy := .inl ⟨by rfl, ?_⟩) (h := ?_)
 rotate_left
 ·intro w hSw
  try dsimp only at hSw
  go_simp
  try with_reducible rfl
 try simp only [Act.put, sqA, sqB, sqC]
 refine tKh (i := 9) (oi := ⟨some 40, .load 32 (.tmp 6), 32, "event.go:46", #[⟨7, .guard⟩], some (7, true)⟩) (v := ?_) (hy := .inl ⟨by rfl, ?_⟩) (h := ?_)
 rotate_left
 ·intro w hSw
  try dsimp only at hSw
  go_simp
  try with_reducible rfl
 try simp only [Act.put, sqA, sqB, sqC]
 refine tKh (i := 10) (oi := ⟨some 41, .fieldAddr 36 (.tmp 7) 0, 0, "event.go:46", #[⟨7, .guard⟩], some (7, true)⟩) (v := ?_) (hy := .inl ⟨by rfl, ?_⟩) (h := ?_)
 rotate_left
 ·intro w hSw
  try dsimp only at hSw
  go_simp
  try with_reducible rfl
 try simp only [Act.put, sqA, sqB, sqC]
 refine tKh (i := 11) (oi := ⟨some 42, .load 3 (.tmp 41), 3, "event.go:46", #[⟨10, .data⟩, ⟨7, .guard⟩], some (7, true)⟩) (v := ?_) (hy := .inl ⟨by rfl, ?_⟩) (h := ?_)
 rotate_left
 ·intro w hSw
  try dsimp only at hSw
  go_simp
  try with_reducible rfl
 try simp only [Act.put, sqA, sqB, sqC]
 refine tKh (i := 12) (oi := ⟨some 43, .fieldAddr 32 (.tmp 6) 1, 0, "event.go:46", #[⟨7, .guard⟩], some (7, true)⟩) (v := ?_) (hy := .inl ⟨by rfl, ?_⟩) (h := ?_)
 rotate_left
 ·intro w hSw
  try dsimp only at hSw
  go_simp
  try with_reducible rfl
 try simp only [Act.put, sqA, sqB, sqC]
 refine tKh (i := 13) (oi := ⟨some 44, .load 30 (.tmp 43), 30, "event.go:46", #[⟨12, .data⟩, ⟨7, .guard⟩], some (7, true)⟩) (v := ?_) (hy := .inl ⟨by rfl, ?_⟩) (h := ?_)
 rotate_left
 ·intro w hSw
  try dsimp only at hSw
  go_simp
  try with_reducible rfl
 try simp only [Act.put, sqA, sqB, sqC]
 refine tKh (i := 14) (oi := ⟨some 45, .move (.tmp 10), 3, "event.go:46", #[⟨7, .guard⟩], some (7, true)⟩) (v := ?_) (hy := .inl ⟨by rfl, ?_⟩) (h := ?_)
 rotate_left
 ·intro w hSw
  try dsimp only at hSw
  go_simp
  try with_reducible rfl
 try simp only [Act.put, sqA, sqB, sqC]
 refine tKh (i := 15) (oi := ⟨some 46, .indexAddr 30 (.tmp 44) (.tmp 45), 0, "event.go:46", #[⟨13, .data⟩, ⟨14, .data⟩, ⟨7, .guard⟩], some (7, true)⟩) (v := ?_) (hy := .inl ⟨by rfl, ?_⟩) (h := ?_)
 rotate_left
 ·intro w hSw
  try dsimp only at hSw
  go_simp
  try with_reducible rfl
 try simp only [Act.put, sqA, sqB, sqC]
 refine tKh (i := 16) (oi := ⟨some 47, .load 90 (.tmp 46), 90, "event.go:46", #[⟨15, .data⟩, ⟨7, .guard⟩], some (7, true)⟩) (v := ?_) (hy := .inl ⟨by rfl, ?_⟩) (h := ?_)
 rotate_left
 ·intro w hSw
  try dsimp only at hSw
  go_simp
  try with_reducible rfl
 try simp only [Act.put, sqA, sqB, sqC]
 refine wpAnyH_ready (rs := [17]) (by kernel_rfl) (by simp) ?_
 refine AllReadyH.cons (o := ⟨some 48, .call { callee := .value (.func 60), args := #[.tmp 39, .tmp 40, .tmp 42, .tmp 47], argTypes := #[28, 32, 3, 90] }, 4, "event.go:46", #[⟨8, .data⟩, ⟨9, .data⟩, ⟨11, .data⟩, ⟨16, .data⟩, ⟨7, .chain⟩, ⟨7, .guard⟩], some (7, true)⟩) rfl (fun K hK => ?_) AllReadyH.nil
 go_simp
 (go_at_call 60; refine (ofMsg_any _ (leftB b x.used) x 3 m _ _ _ B1 d1 _ _ _ (HG1.out.below (bTrans HL5.out (by first | exact hbb | exact hbb.drew))) HTO.out.1 HTO.out.2).mono ?_; rintro e w7 ⟨rfl, hb7⟩; have hc7 := (by first | exact bcell (undrew hb7) | exact bcell hb7); replace hbb := bTrans (by first | exact hbb | exact hbb.drew) hb7; clear hb7)
 try (go_wp2_with fail)
 refine hK.out _ _ ?_ (fun hHeld => ?_)
 ·try dsimp only
  go_keep
 clear hK K
 try simp only [Act.put, sqA, sqB, sqC]
 refine tKh (i := 18) (oi := ⟨some 49, .pick (.tmp 38) (.tmp 48) (.const (.bool false)), 4, "event.go:46", #[⟨7, .data⟩, ⟨17, .data⟩], none⟩) (v := ?_) (hy := .inl ⟨by rfl, ?_⟩) (h := ?_)
 rotate_left
 ·intro w hSw
  try dsimp only at hSw
  go_simp
  try with_reducible rfl
 try simp only [Act.put, sqA, sqB, sqC]
 refine tKh (i := 19) (oi := ⟨some 8, .assign (.tmp 49), 4, "event.go:46", #[⟨18, .data⟩, ⟨17, .chain⟩, ⟨0, .phase⟩, ⟨1, .phase⟩, ⟨2, .phase⟩, ⟨3, .phase⟩, ⟨4, .phase⟩, ⟨5, .phase⟩, ⟨6, .phase⟩, ⟨7, .phase⟩, ⟨8, .phase⟩, ⟨9, .phase⟩, ⟨10, .phase⟩, ⟨11, .phase⟩, ⟨12, .phase⟩, ⟨13, .phase⟩, ⟨14, .phase⟩, ⟨15, .phase⟩, ⟨16, .phase⟩, ⟨17, .phase⟩, ⟨18, .phase⟩], none⟩) (v := ?_) (hy := .inl ⟨by rfl, ?_⟩) (h := ?_)
 rotate_left
 ·intro w hSw
  try dsimp only at hSw
  go_simp
  try with_reducible rfl
 try simp only [Act.put, sqA, sqB, sqC]
 refine wpAnyH_done (by kernel_rfl) ?_ _
 go_wp2_with fail
 go_ret
 exact ⟨ret_b HR.out, bTrans HL5.out (by first | exact hbb | exact hbb.drew)⟩
end Go.Proofs.YtfbeiedhdmndnaaGreatDoor
