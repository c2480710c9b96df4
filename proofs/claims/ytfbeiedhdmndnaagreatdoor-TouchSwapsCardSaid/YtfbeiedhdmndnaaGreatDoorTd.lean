/-
 The actor that an event happens to: what touch.whose answers (P12.1). No conditions.
-/
import Derived.Test.YtfbeiedhdmndnaaGreatDoorTc
namespace Go.Proofs.YtfbeiedhdmndnaaGreatDoor
open Go.RowKit
attribute [local go_sem ↓] Go.wp_at_zero Go.wp_at_succ
set_option maxHeartbeats 1000000 in
theorem whose_in1 (W : World) (vw : Value) (x : PWld) (f n c who : Int) (k : Nat) (m : PMsg) (hx : WldV W vw x) (hf : fnd x.mail ⟨f, n, c⟩ = k) (hm : x.mail[k]? = some m) :
  Calls Tryz.prog 63 #[vw, eVal ⟨1, ⟨f, n, c⟩, who⟩] W fun r w' => r = .returned (.tuple #[.int .i64 m.nt.to, .bool true]) ∧ Below W.heap.size W w' := by
 have HX := hid_mk hx
 obtain ⟨va, vm, rfl, g1, g2⟩ := hx
 obtain ⟨A1, c1, rfl, _⟩ := g1.form
 obtain ⟨A2, c2, rfl, _⟩ := g2.form
 have hA := two_new W (.cells #[.slice A1 x.acts.length c1, .slice A2 x.mail.length c2, .int .i64 x.used.drop, .int .i64 x.used.dup, .int .i64 x.used.time, .int .i64 x.used.crash] 32) (.cells #[.int .i64 1, .int .i64 f, .int .i64 n, .int .i64 c, .int .i64 who] 36)
 have HL : Hid (Below W.heap.size W ((W.alloc (.cells #[.slice A1 x.acts.length c1, .slice A2 x.mail.length c2, .int .i64 x.used.drop, .int .i64 x.used.dup, .int .i64 x.used.time, .int .i64 x.used.crash] 32)).alloc (.cells #[.int .i64 1, .int .i64 f, .int .i64 n, .int .i64 c, .int .i64 who] 36))) := bAlloc (bAlloc (bRefl _) _) _
 obtain ⟨a0, a1, a2, a3, a4, a5⟩ := blk6 hA.1
 obtain ⟨e0, e1, e2, e3, e4⟩ := blk5 hA.2.1
 clear hA
 have HM := hid_mk (g2.any2.below HL.out : Msgs anyB anyB _ _ x.mail)
 have hkl : k < x.mail.length := (List.getElem?_eq_some_iff.1 hm).1
 obtain ⟨b1, o1, m', v1, eA, hm', hlt1, q1, q2, q3, q4, q5, q6, hv1⟩ := g2.cell HL.out hkl
 obtain rfl : m' = m := Option.some.inj (hm'.symm.trans hm)
 have hk0 : (0 : Int) ≤ k := by omega
 have hki : (k : Int) < x.mail.length := by omega
 have HF := hid_mk hf
 subst eA
 clear g1 g2 hf hm hm' hv1
 go_enter Tryz.func63, Tryz.ntmps63
 go_wp2_with fail
 refine (find_any _ _ x.mail ⟨f, n, c⟩ HM.out).mono ?_
 rw [HF.out]
 rintro r w2 ⟨rfl, hb2⟩
 have HB2 := hid_mk (bTrans HL.out hb2)
 have z0 : W.heap.size < ((W.alloc (.cells #[.slice A1 x.acts.length c1, .slice (some ⟨b1, o1, none⟩) x.mail.length c2, .int .i64 x.used.drop, .int .i64 x.used.dup, .int .i64 x.used.time, .int .i64 x.used.crash] 32)).alloc (.cells #[.int .i64 1, .int .i64 f, .int .i64 n, .int .i64 c, .int .i64 who] 36)).heap.size := by simp; omega
 replace a1 := (hb2.cell (p := ⟨W.heap.size, 1, none⟩) z0).trans a1
 replace q4 := (hb2.cell (p := ⟨b1, o1 + k * 6 + 3, none⟩) hlt1).trans q4
 clear hb2 a0 a2 a3 a4 a5 e0 e1 e2 e3 e4 q1 q2 q3 q5 q6 z0
 go_wp2
 exact bodyPost_ret (v := .tuple #[.int .i64 m'.nt.to, .bool true]) (by simp [results, Tryz.results63, go_sem]) rfl ⟨rfl, HB2.out⟩
set_option maxHeartbeats 1000000 in
theorem whose_no1 (W : World) (vw : Value) (x : PWld) (f n c who : Int) (hx : WldV W vw x) (hf : fnd x.mail ⟨f, n, c⟩ = -1) :
  Calls Tryz.prog 63 #[vw, eVal ⟨1, ⟨f, n, c⟩, who⟩] W fun r w' => r = .returned (.tuple #[.int .i64 0, .bool false]) ∧ Below W.heap.size W w' := by
 have HX := hid_mk hx
 obtain ⟨va, vm, rfl, g1, g2⟩ := hx
 obtain ⟨A1, c1, rfl, _⟩ := g1.form
 obtain ⟨A2, c2, rfl, _⟩ := g2.form
 have hA := two_new W (.cells #[.slice A1 x.acts.length c1, .slice A2 x.mail.length c2, .int .i64 x.used.drop, .int .i64 x.used.dup, .int .i64 x.used.time, .int .i64 x.used.crash] 32) (.cells #[.int .i64 1, .int .i64 f, .int .i64 n, .int .i64 c, .int .i64 who] 36)
 have HL : Hid (Below W.heap.size W ((W.alloc (.cells #[.slice A1 x.acts.length c1, .slice A2 x.mail.length c2, .int .i64 x.used.drop, .int .i64 x.used.dup, .int .i64 x.used.time, .int .i64 x.used.crash] 32)).alloc (.cells #[.int .i64 1, .int .i64 f, .int .i64 n, .int .i64 c, .int .i64 who] 36))) := bAlloc (bAlloc (bRefl _) _) _
 obtain ⟨a0, a1, a2, a3, a4, a5⟩ := blk6 hA.1
 obtain ⟨e0, e1, e2, e3, e4⟩ := blk5 hA.2.1
 clear hA
 have HM := hid_mk (g2.any2.below HL.out : Msgs anyB anyB _ _ x.mail)
 have HF := hid_mk hf
 clear g1 g2 hf
 go_enter Tryz.func63, Tryz.ntmps63
 go_wp2_with fail
 refine (find_any _ _ x.mail ⟨f, n, c⟩ HM.out).mono ?_
 rw [HF.out]
 rintro r w2 ⟨rfl, hb2⟩
 have HB2 := hid_mk (bTrans HL.out hb2)
 clear hb2 a0 a1 a2 a3 a4 a5 e0 e1 e2 e3 e4
 go_wp2
 exact bodyPost_ret (v := .tuple #[.int .i64 0, .bool false]) (by simp [results, Tryz.results63, go_sem]) rfl ⟨rfl, HB2.out⟩
set_option maxHeartbeats 1000000 in
theorem whose_in2 (W : World) (vw : Value) (x : PWld) (f n c who : Int) (k : Nat) (m : PMsg) (hx : WldV W vw x) (hf : fnd x.mail ⟨f, n, c⟩ = k) (hm : x.mail[k]? = some m) :
  Calls Tryz.prog 63 #[vw, eVal ⟨2, ⟨f, n, c⟩, who⟩] W fun r w' => r = .returned (.tuple #[.int .i64 m.nt.to, .bool true]) ∧ Below W.heap.size W w' := by
 have HX := hid_mk hx
 obtain ⟨va, vm, rfl, g1, g2⟩ := hx
 obtain ⟨A1, c1, rfl, _⟩ := g1.form
 obtain ⟨A2, c2, rfl, _⟩ := g2.form
 have hA := two_new W (.cells #[.slice A1 x.acts.length c1, .slice A2 x.mail.length c2, .int .i64 x.used.drop, .int .i64 x.used.dup, .int .i64 x.used.time, .int .i64 x.used.crash] 32) (.cells #[.int .i64 2, .int .i64 f, .int .i64 n, .int .i64 c, .int .i64 who] 36)
 have HL : Hid (Below W.heap.size W ((W.alloc (.cells #[.slice A1 x.acts.length c1, .slice A2 x.mail.length c2, .int .i64 x.used.drop, .int .i64 x.used.dup, .int .i64 x.used.time, .int .i64 x.used.crash] 32)).alloc (.cells #[.int .i64 2, .int .i64 f, .int .i64 n, .int .i64 c, .int .i64 who] 36))) := bAlloc (bAlloc (bRefl _) _) _
 obtain ⟨a0, a1, a2, a3, a4, a5⟩ := blk6 hA.1
 obtain ⟨e0, e1, e2, e3, e4⟩ := blk5 hA.2.1
 clear hA
 have HM := hid_mk (g2.any2.below HL.out : Msgs anyB anyB _ _ x.mail)
 have hkl : k < x.mail.length := (List.getElem?_eq_some_iff.1 hm).1
 obtain ⟨b1, o1, m', v1, eA, hm', hlt1, q1, q2, q3, q4, q5, q6, hv1⟩ := g2.cell HL.out hkl
 obtain rfl : m' = m := Option.some.inj (hm'.symm.trans hm)
 have hk0 : (0 : Int) ≤ k := by omega
 have hki : (k : Int) < x.mail.length := by omega
 have HF := hid_mk hf
 subst eA
 clear g1 g2 hf hm hm' hv1
 go_enter Tryz.func63, Tryz.ntmps63
 go_wp2_with fail
 refine (find_any _ _ x.mail ⟨f, n, c⟩ HM.out).mono ?_
 rw [HF.out]
 rintro r w2 ⟨rfl, hb2⟩
 have HB2 := hid_mk (bTrans HL.out hb2)
 have z0 : W.heap.size < ((W.alloc (.cells #[.slice A1 x.acts.length c1, .slice (some ⟨b1, o1, none⟩) x.mail.length c2, .int .i64 x.used.drop, .int .i64 x.used.dup, .int .i64 x.used.time, .int .i64 x.used.crash] 32)).alloc (.cells #[.int .i64 2, .int .i64 f, .int .i64 n, .int .i64 c, .int .i64 who] 36)).heap.size := by simp; omega
 replace a1 := (hb2.cell (p := ⟨W.heap.size, 1, none⟩) z0).trans a1
 replace q4 := (hb2.cell (p := ⟨b1, o1 + k * 6 + 3, none⟩) hlt1).trans q4
 clear hb2 a0 a2 a3 a4 a5 e0 e1 e2 e3 e4 q1 q2 q3 q5 q6 z0
 go_wp2
 exact bodyPost_ret (v := .tuple #[.int .i64 m'.nt.to, .bool true]) (by simp [results, Tryz.results63, go_sem]) rfl ⟨rfl, HB2.out⟩
set_option maxHeartbeats 1000000 in
theorem whose_no2 (W : World) (vw : Value) (x : PWld) (f n c who : Int) (hx : WldV W vw x) (hf : fnd x.mail ⟨f, n, c⟩ = -1) :
  Calls Tryz.prog 63 #[vw, eVal ⟨2, ⟨f, n, c⟩, who⟩] W fun r w' => r = .returned (.tuple #[.int .i64 0, .bool false]) ∧ Below W.heap.size W w' := by
 have HX := hid_mk hx
 obtain ⟨va, vm, rfl, g1, g2⟩ := hx
 obtain ⟨A1, c1, rfl, _⟩ := g1.form
 obtain ⟨A2, c2, rfl, _⟩ := g2.form
 have hA := two_new W (.cells #[.slice A1 x.acts.length c1, .slice A2 x.mail.length c2, .int .i64 x.used.drop, .int .i64 x.used.dup, .int .i64 x.used.time, .int .i64 x.used.crash] 32) (.cells #[.int .i64 2, .int .i64 f, .int .i64 n, .int .i64 c, .int .i64 who] 36)
 have HL : Hid (Below W.heap.size W ((W.alloc (.cells #[.slice A1 x.acts.length c1, .slice A2 x.mail.length c2, .int .i64 x.used.drop, .int .i64 x.used.dup, .int .i64 x.used.time, .int .i64 x.used.crash] 32)).alloc (.cells #[.int .i64 2, .int .i64 f, .int .i64 n, .int .i64 c, .int .i64 who] 36))) := bAlloc (bAlloc (bRefl _) _) _
 obtain ⟨a0, a1, a2, a3, a4, a5⟩ := blk6 hA.1
 obtain ⟨e0, e1, e2, e3, e4⟩ := blk5 hA.2.1
 clear hA
 have HM := hid_mk (g2.any2.below HL.out : Msgs anyB anyB _ _ x.mail)
 have HF := hid_mk hf
 clear g1 g2 hf
 go_enter Tryz.func63, Tryz.ntmps63
 go_wp2_with fail
 refine (find_any _ _ x.mail ⟨f, n, c⟩ HM.out).mono ?_
 rw [HF.out]
 rintro r w2 ⟨rfl, hb2⟩
 have HB2 := hid_mk (bTrans HL.out hb2)
 clear hb2 a0 a1 a2 a3 a4 a5 e0 e1 e2 e3 e4
 go_wp2
 exact bodyPost_ret (v := .tuple #[.int .i64 0, .bool false]) (by simp [results, Tryz.results63, go_sem]) rfl ⟨rfl, HB2.out⟩
set_option maxHeartbeats 1000000 in
theorem whose_in3 (W : World) (vw : Value) (x : PWld) (f n c who : Int) (k : Nat) (m : PMsg) (hx : WldV W vw x) (hf : fnd x.mail ⟨f, n, c⟩ = k) (hm : x.mail[k]? = some m) :
  Calls Tryz.prog 63 #[vw, eVal ⟨3, ⟨f, n, c⟩, who⟩] W fun r w' => r = .returned (.tuple #[.int .i64 m.nt.to, .bool true]) ∧ Below W.heap.size W w' := by
 have HX := hid_mk hx
 obtain ⟨va, vm, rfl, g1, g2⟩ := hx
 obtain ⟨A1, c1, rfl, _⟩ := g1.form
 obtain ⟨A2, c2, rfl, _⟩ := g2.form
 have hA := two_new W (.cells #[.slice A1 x.acts.length c1, .slice A2 x.mail.length c2, .int .i64 x.used.drop, .int .i64 x.used.dup, .int .i64 x.used.time, .int .i64 x.used.crash] 32) (.cells #[.int .i64 3, .int .i64 f, .int .i64 n, .int .i64 c, .int .i64 who] 36)
 have HL : Hid (Below W.heap.size W ((W.alloc (.cells #[.slice A1 x.acts.length c1, .slice A2 x.mail.length c2, .int .i64 x.used.drop, .int .i64 x.used.dup, .int .i64 x.used.time, .int .i64 x.used.crash] 32)).alloc (.cells #[.int .i64 3, .int .i64 f, .int .i64 n, .int .i64 c, .int .i64 who] 36))) := bAlloc (bAlloc (bRefl _) _) _
 obtain ⟨a0, a1, a2, a3, a4, a5⟩ := blk6 hA.1
 obtain ⟨e0, e1, e2, e3, e4⟩ := blk5 hA.2.1
 clear hA
 have HM := hid_mk (g2.any2.below HL.out : Msgs anyB anyB _ _ x.mail)
 have hkl : k < x.mail.length := (List.getElem?_eq_some_iff.1 hm).1
 obtain ⟨b1, o1, m', v1, eA, hm', hlt1, q1, q2, q3, q4, q5, q6, hv1⟩ := g2.cell HL.out hkl
 obtain rfl : m' = m := Option.some.inj (hm'.symm.trans hm)
 have hk0 : (0 : Int) ≤ k := by omega
 have hki : (k : Int) < x.mail.length := by omega
 have HF := hid_mk hf
 subst eA
 clear g1 g2 hf hm hm' hv1
 go_enter Tryz.func63, Tryz.ntmps63
 go_wp2_with fail
 refine (find_any _ _ x.mail ⟨f, n, c⟩ HM.out).mono ?_
 rw [HF.out]
 rintro r w2 ⟨rfl, hb2⟩
 have HB2 := hid_mk (bTrans HL.out hb2)
 have z0 : W.heap.size < ((W.alloc (.cells #[.slice A1 x.acts.length c1, .slice (some ⟨b1, o1, none⟩) x.mail.length c2, .int .i64 x.used.drop, .int .i64 x.used.dup, .int .i64 x.used.time, .int .i64 x.used.crash] 32)).alloc (.cells #[.int .i64 3, .int .i64 f, .int .i64 n, .int .i64 c, .int .i64 who] 36)).heap.size := by simp; omega
 replace a1 := (hb2.cell (p := ⟨W.heap.size, 1, none⟩) z0).trans a1
 replace q4 := (hb2.cell (p := ⟨b1, o1 + k * 6 + 3, none⟩) hlt1).trans q4
 clear hb2 a0 a2 a3 a4 a5 e0 e1 e2 e3 e4 q1 q2 q3 q5 q6 z0
 go_wp2
 exact bodyPost_ret (v := .tuple #[.int .i64 m'.nt.to, .bool true]) (by simp [results, Tryz.results63, go_sem]) rfl ⟨rfl, HB2.out⟩
set_option maxHeartbeats 1000000 in
theorem whose_no3 (W : World) (vw : Value) (x : PWld) (f n c who : Int) (hx : WldV W vw x) (hf : fnd x.mail ⟨f, n, c⟩ = -1) :
  Calls Tryz.prog 63 #[vw, eVal ⟨3, ⟨f, n, c⟩, who⟩] W fun r w' => r = .returned (.tuple #[.int .i64 0, .bool false]) ∧ Below W.heap.size W w' := by
 have HX := hid_mk hx
 obtain ⟨va, vm, rfl, g1, g2⟩ := hx
 obtain ⟨A1, c1, rfl, _⟩ := g1.form
 obtain ⟨A2, c2, rfl, _⟩ := g2.form
 have hA := two_new W (.cells #[.slice A1 x.acts.length c1, .slice A2 x.mail.length c2, .int .i64 x.used.drop, .int .i64 x.used.dup, .int .i64 x.used.time, .int .i64 x.used.crash] 32) (.cells #[.int .i64 3, .int .i64 f, .int .i64 n, .int .i64 c, .int .i64 who] 36)
 have HL : Hid (Below W.heap.size W ((W.alloc (.cells #[.slice A1 x.acts.length c1, .slice A2 x.mail.length c2, .int .i64 x.used.drop, .int .i64 x.used.dup, .int .i64 x.used.time, .int .i64 x.used.crash] 32)).alloc (.cells #[.int .i64 3, .int .i64 f, .int .i64 n, .int .i64 c, .int .i64 who] 36))) := bAlloc (bAlloc (bRefl _) _) _
 obtain ⟨a0, a1, a2, a3, a4, a5⟩ := blk6 hA.1
 obtain ⟨e0, e1, e2, e3, e4⟩ := blk5 hA.2.1
 clear hA
 have HM := hid_mk (g2.any2.below HL.out : Msgs anyB anyB _ _ x.mail)
 have HF := hid_mk hf
 clear g1 g2 hf
 go_enter Tryz.func63, Tryz.ntmps63
 go_wp2_with fail
 refine (find_any _ _ x.mail ⟨f, n, c⟩ HM.out).mono ?_
 rw [HF.out]
 rintro r w2 ⟨rfl, hb2⟩
 have HB2 := hid_mk (bTrans HL.out hb2)
 clear hb2 a0 a1 a2 a3 a4 a5 e0 e1 e2 e3 e4
 go_wp2
 exact bodyPost_ret (v := .tuple #[.int .i64 0, .bool false]) (by simp [results, Tryz.results63, go_sem]) rfl ⟨rfl, HB2.out⟩
set_option maxHeartbeats 1000000 in
theorem whose_in4 (W : World) (vw : Value) (x : PWld) (f n c who : Int) (hx : WldV W vw x) (h0 : 0 ≤ who) (h1 : who < (x.acts.length : Int)) :
  Calls Tryz.prog 63 #[vw, eVal ⟨4, ⟨f, n, c⟩, who⟩] W fun r w' => r = .returned (.tuple #[.int .i64 who, .bool true]) ∧ Below W.heap.size W w' := by
 have HX := hid_mk hx
 obtain ⟨va, vm, rfl, g1, g2⟩ := hx
 obtain ⟨A1, c1, rfl, _⟩ := g1.form
 obtain ⟨A2, c2, rfl, _⟩ := g2.form
 have hA := two_new W (.cells #[.slice A1 x.acts.length c1, .slice A2 x.mail.length c2, .int .i64 x.used.drop, .int .i64 x.used.dup, .int .i64 x.used.time, .int .i64 x.used.crash] 32) (.cells #[.int .i64 4, .int .i64 f, .int .i64 n, .int .i64 c, .int .i64 who] 36)
 have HL : Hid (Below W.heap.size W ((W.alloc (.cells #[.slice A1 x.acts.length c1, .slice A2 x.mail.length c2, .int .i64 x.used.drop, .int .i64 x.used.dup, .int .i64 x.used.time, .int .i64 x.used.crash] 32)).alloc (.cells #[.int .i64 4, .int .i64 f, .int .i64 n, .int .i64 c, .int .i64 who] 36))) := bAlloc (bAlloc (bRefl _) _) _
 obtain ⟨a0, a1, a2, a3, a4, a5⟩ := blk6 hA.1
 obtain ⟨e0, e1, e2, e3, e4⟩ := blk5 hA.2.1
 clear hA
 clear g1 g2
 go_enter Tryz.func63, Tryz.ntmps63
 go_wp2
 exact bodyPost_ret (v := .tuple #[.int .i64 who, .bool true]) (by simp [results, Tryz.results63, go_sem]) rfl ⟨rfl, HL.out⟩
set_option maxHeartbeats 1000000 in
theorem whose_lo4 (W : World) (vw : Value) (x : PWld) (f n c who : Int) (hx : WldV W vw x) (h0 : ¬ 0 ≤ who) :
  Calls Tryz.prog 63 #[vw, eVal ⟨4, ⟨f, n, c⟩, who⟩] W fun r w' => r = .returned (.tuple #[.int .i64 0, .bool false]) ∧ Below W.heap.size W w' := by
 have HX := hid_mk hx
 obtain ⟨va, vm, rfl, g1, g2⟩ := hx
 obtain ⟨A1, c1, rfl, _⟩ := g1.form
 obtain ⟨A2, c2, rfl, _⟩ := g2.form
 have hA := two_new W (.cells #[.slice A1 x.acts.length c1, .slice A2 x.mail.length c2, .int .i64 x.used.drop, .int .i64 x.used.dup, .int .i64 x.used.time, .int .i64 x.used.crash] 32) (.cells #[.int .i64 4, .int .i64 f, .int .i64 n, .int .i64 c, .int .i64 who] 36)
 have HL : Hid (Below W.heap.size W ((W.alloc (.cells #[.slice A1 x.acts.length c1, .slice A2 x.mail.length c2, .int .i64 x.used.drop, .int .i64 x.used.dup, .int .i64 x.used.time, .int .i64 x.used.crash] 32)).alloc (.cells #[.int .i64 4, .int .i64 f, .int .i64 n, .int .i64 c, .int .i64 who] 36))) := bAlloc (bAlloc (bRefl _) _) _
 obtain ⟨a0, a1, a2, a3, a4, a5⟩ := blk6 hA.1
 obtain ⟨e0, e1, e2, e3, e4⟩ := blk5 hA.2.1
 clear hA
 clear g1 g2
 go_enter Tryz.func63, Tryz.ntmps63
 go_wp2
 exact bodyPost_ret (v := .tuple #[.int .i64 0, .bool false]) (by simp [results, Tryz.results63, go_sem]) rfl ⟨rfl, HL.out⟩
set_option maxHeartbeats 1000000 in
theorem whose_hi4 (W : World) (vw : Value) (x : PWld) (f n c who : Int) (hx : WldV W vw x) (h0 : 0 ≤ who) (h1 : ¬ who < (x.acts.length : Int)) :
  Calls Tryz.prog 63 #[vw, eVal ⟨4, ⟨f, n, c⟩, who⟩] W fun r w' => r = .returned (.tuple #[.int .i64 0, .bool false]) ∧ Below W.heap.size W w' := by
 have HX := hid_mk hx
 obtain ⟨va, vm, rfl, g1, g2⟩ := hx
 obtain ⟨A1, c1, rfl, _⟩ := g1.form
 obtain ⟨A2, c2, rfl, _⟩ := g2.form
 have hA := two_new W (.cells #[.slice A1 x.acts.length c1, .slice A2 x.mail.length c2, .int .i64 x.used.drop, .int .i64 x.used.dup, .int .i64 x.used.time, .int .i64 x.used.crash] 32) (.cells #[.int .i64 4, .int .i64 f, .int .i64 n, .int .i64 c, .int .i64 who] 36)
 have HL : Hid (Below W.heap.size W ((W.alloc (.cells #[.slice A1 x.acts.length c1, .slice A2 x.mail.length c2, .int .i64 x.used.drop, .int .i64 x.used.dup, .int .i64 x.used.time, .int .i64 x.used.crash] 32)).alloc (.cells #[.int .i64 4, .int .i64 f, .int .i64 n, .int .i64 c, .int .i64 who] 36))) := bAlloc (bAlloc (bRefl _) _) _
 obtain ⟨a0, a1, a2, a3, a4, a5⟩ := blk6 hA.1
 obtain ⟨e0, e1, e2, e3, e4⟩ := blk5 hA.2.1
 clear hA
 clear g1 g2
 go_enter Tryz.func63, Tryz.ntmps63
 go_wp2
 exact bodyPost_ret (v := .tuple #[.int .i64 0, .bool false]) (by simp [results, Tryz.results63, go_sem]) rfl ⟨rfl, HL.out⟩
set_option maxHeartbeats 1000000 in
theorem whose_in5 (W : World) (vw : Value) (x : PWld) (f n c who : Int) (hx : WldV W vw x) (h0 : 0 ≤ who) (h1 : who < (x.acts.length : Int)) :
  Calls Tryz.prog 63 #[vw, eVal ⟨5, ⟨f, n, c⟩, who⟩] W fun r w' => r = .returned (.tuple #[.int .i64 who, .bool true]) ∧ Below W.heap.size W w' := by
 have HX := hid_mk hx
 obtain ⟨va, vm, rfl, g1, g2⟩ := hx
 obtain ⟨A1, c1, rfl, _⟩ := g1.form
 obtain ⟨A2, c2, rfl, _⟩ := g2.form
 have hA := two_new W (.cells #[.slice A1 x.acts.length c1, .slice A2 x.mail.length c2, .int .i64 x.used.drop, .int .i64 x.used.dup, .int .i64 x.used.time, .int .i64 x.used.crash] 32) (.cells #[.int .i64 5, .int .i64 f, .int .i64 n, .int .i64 c, .int .i64 who] 36)
 have HL : Hid (Below W.heap.size W ((W.alloc (.cells #[.slice A1 x.acts.length c1, .slice A2 x.mail.length c2, .int .i64 x.used.drop, .int .i64 x.used.dup, .int .i64 x.used.time, .int .i64 x.used.crash] 32)).alloc (.cells #[.int .i64 5, .int .i64 f, .int .i64 n, .int .i64 c, .int .i64 who] 36))) := bAlloc (bAlloc (bRefl _) _) _
 obtain ⟨a0, a1, a2, a3, a4, a5⟩ := blk6 hA.1
 obtain ⟨e0, e1, e2, e3, e4⟩ := blk5 hA.2.1
 clear hA
 clear g1 g2
 go_enter Tryz.func63, Tryz.ntmps63
 go_wp2
 exact bodyPost_ret (v := .tuple #[.int .i64 who, .bool true]) (by simp [results, Tryz.results63, go_sem]) rfl ⟨rfl, HL.out⟩
set_option maxHeartbeats 1000000 in
theorem whose_lo5 (W : World) (vw : Value) (x : PWld) (f n c who : Int) (hx : WldV W vw x) (h0 : ¬ 0 ≤ who) :
  Calls Tryz.prog 63 #[vw, eVal ⟨5, ⟨f, n, c⟩, who⟩] W fun r w' => r = .returned (.tuple #[.int .i64 0, .bool false]) ∧ Below W.heap.size W w' := by
 have HX := hid_mk hx
 obtain ⟨va, vm, rfl, g1, g2⟩ := hx
 obtain ⟨A1, c1, rfl, _⟩ := g1.form
 obtain ⟨A2, c2, rfl, _⟩ := g2.form
 have hA := two_new W (.cells #[.slice A1 x.acts.length c1, .slice A2 x.mail.length c2, .int .i64 x.used.drop, .int .i64 x.used.dup, .int .i64 x.used.time, .int .i64 x.used.crash] 32) (.cells #[.int .i64 5, .int .i64 f, .int .i64 n, .int .i64 c, .int .i64 who] 36)
 have HL : Hid (Below W.heap.size W ((W.alloc (.cells #[.slice A1 x.acts.length c1, .slice A2 x.mail.length c2, .int .i64 x.used.drop, .int .i64 x.used.dup, .int .i64 x.used.time, .int .i64 x.used.crash] 32)).alloc (.cells #[.int .i64 5, .int .i64 f, .int .i64 n, .int .i64 c, .int .i64 who] 36))) := bAlloc (bAlloc (bRefl _) _) _
 obtain ⟨a0, a1, a2, a3, a4, a5⟩ := blk6 hA.1
 obtain ⟨e0, e1, e2, e3, e4⟩ := blk5 hA.2.1
 clear hA
 clear g1 g2
 go_enter Tryz.func63, Tryz.ntmps63
 go_wp2
 exact bodyPost_ret (v := .tuple #[.int .i64 0, .bool false]) (by simp [results, Tryz.results63, go_sem]) rfl ⟨rfl, HL.out⟩
set_option maxHeartbeats 1000000 in
theorem whose_hi5 (W : World) (vw : Value) (x : PWld) (f n c who : Int) (hx : WldV W vw x) (h0 : 0 ≤ who) (h1 : ¬ who < (x.acts.length : Int)) :
  Calls Tryz.prog 63 #[vw, eVal ⟨5, ⟨f, n, c⟩, who⟩] W fun r w' => r = .returned (.tuple #[.int .i64 0, .bool false]) ∧ Below W.heap.size W w' := by
 have HX := hid_mk hx
 obtain ⟨va, vm, rfl, g1, g2⟩ := hx
 obtain ⟨A1, c1, rfl, _⟩ := g1.form
 obtain ⟨A2, c2, rfl, _⟩ := g2.form
 have hA := two_new W (.cells #[.slice A1 x.acts.length c1, .slice A2 x.mail.length c2, .int .i64 x.used.drop, .int .i64 x.used.dup, .int .i64 x.used.time, .int .i64 x.used.crash] 32) (.cells #[.int .i64 5, .int .i64 f, .int .i64 n, .int .i64 c, .int .i64 who] 36)
 have HL : Hid (Below W.heap.size W ((W.alloc (.cells #[.slice A1 x.acts.length c1, .slice A2 x.mail.length c2, .int .i64 x.used.drop, .int .i64 x.used.dup, .int .i64 x.used.time, .int .i64 x.used.crash] 32)).alloc (.cells #[.int .i64 5, .int .i64 f, .int .i64 n, .int .i64 c, .int .i64 who] 36))) := bAlloc (bAlloc (bRefl _) _) _
 obtain ⟨a0, a1, a2, a3, a4, a5⟩ := blk6 hA.1
 obtain ⟨e0, e1, e2, e3, e4⟩ := blk5 hA.2.1
 clear hA
 clear g1 g2
 go_enter Tryz.func63, Tryz.ntmps63
 go_wp2
 exact bodyPost_ret (v := .tuple #[.int .i64 0, .bool false]) (by simp [results, Tryz.results63, go_sem]) rfl ⟨rfl, HL.out⟩
set_option maxHeartbeats 1000000 in
theorem whose_non (W : World) (vw : Value) (x : PWld) (κ f n c who : Int) (hx : WldV W vw x) (h : κ ≠ 1 ∧ κ ≠ 2 ∧ κ ≠ 3 ∧ κ ≠ 4 ∧ κ ≠ 5) :
  Calls Tryz.prog 63 #[vw, eVal ⟨κ, ⟨f, n, c⟩, who⟩] W fun r w' => r = .returned (.tuple #[.int .i64 0, .bool false]) ∧ Below W.heap.size W w' := by
 have HX := hid_mk hx
 obtain ⟨va, vm, rfl, g1, g2⟩ := hx
 obtain ⟨A1, c1, rfl, _⟩ := g1.form
 obtain ⟨A2, c2, rfl, _⟩ := g2.form
 have hA := two_new W (.cells #[.slice A1 x.acts.length c1, .slice A2 x.mail.length c2, .int .i64 x.used.drop, .int .i64 x.used.dup, .int .i64 x.used.time, .int .i64 x.used.crash] 32) (.cells #[.int .i64 κ, .int .i64 f, .int .i64 n, .int .i64 c, .int .i64 who] 36)
 have HL : Hid (Below W.heap.size W ((W.alloc (.cells #[.slice A1 x.acts.length c1, .slice A2 x.mail.length c2, .int .i64 x.used.drop, .int .i64 x.used.dup, .int .i64 x.used.time, .int .i64 x.used.crash] 32)).alloc (.cells #[.int .i64 κ, .int .i64 f, .int .i64 n, .int .i64 c, .int .i64 who] 36))) := bAlloc (bAlloc (bRefl _) _) _
 obtain ⟨a0, a1, a2, a3, a4, a5⟩ := blk6 hA.1
 obtain ⟨e0, e1, e2, e3, e4⟩ := blk5 hA.2.1
 clear hA
 obtain ⟨h1, h2, h3, h4, h5⟩ := h
 have n1 : (κ == 1) = false := beq_eq_false_iff_ne.2 h1
 have n2 : (κ == 2) = false := beq_eq_false_iff_ne.2 h2
 have n3 : (κ == 3) = false := beq_eq_false_iff_ne.2 h3
 have n4 : (κ == 4) = false := beq_eq_false_iff_ne.2 h4
 have n5 : (κ == 5) = false := beq_eq_false_iff_ne.2 h5
 clear g1 g2 h1 h2 h3 h4 h5
 go_enter Tryz.func63, Tryz.ntmps63
 go_wp2
 exact bodyPost_ret (v := .tuple #[.int .i64 0, .bool false]) (by simp [results, Tryz.results63, go_sem]) rfl ⟨rfl, HL.out⟩
/-- The number, and whether there is one. -/
def oI : Option Int → Int
 | none => 0
 | some f => f
theorem whose_any (W : World) (vw : Value) (x : PWld) (e : PEv) (hx : WldV W vw x) :
  Calls Tryz.prog 63 #[vw, eVal e] W fun r w' => r = .returned (.tuple #[.int .i64 (oI (whoseP x e)), .bool (whoseP x e).isSome]) ∧ Below W.heap.size W w' := by
 obtain ⟨κ, ⟨f, n, c⟩, who⟩ := e
 by_cases h3 : κ = 1 ∨ κ = 2 ∨ κ = 3
 ·by_cases hn : fnd x.mail ⟨f, n, c⟩ = -1
  ·have e0 : whoseP x ⟨κ, ⟨f, n, c⟩, who⟩ = none := by
    unfold whoseP; rw [if_pos h3, if_neg (by dsimp only; rw [hn]; omega)]
   rw [e0]
   rcases h3 with rfl | rfl | rfl
   ·exact whose_no1 W vw x f n c who hx hn
   ·exact whose_no2 W vw x f n c who hx hn
   ·exact whose_no3 W vw x f n c who hx hn
  ·obtain ⟨k, m, hk, hm, _⟩ := fnd_some hn
   have e0 : whoseP x ⟨κ, ⟨f, n, c⟩, who⟩ = some m.nt.to := by
    unfold whoseP; rw [if_pos h3, if_pos (by dsimp only; rw [hk]; omega), msgOf_eq hk hm]
   rw [e0]
   rcases h3 with rfl | rfl | rfl
   ·exact whose_in1 W vw x f n c who k m hx hk hm
   ·exact whose_in2 W vw x f n c who k m hx hk hm
   ·exact whose_in3 W vw x f n c who k m hx hk hm
 ·by_cases h4 : κ = 4 ∨ κ = 5
  ·by_cases h0 : 0 ≤ who
   ·by_cases h1 : who < (x.acts.length : Int)
    ·have e0 : whoseP x ⟨κ, ⟨f, n, c⟩, who⟩ = some who := by
      unfold whoseP; rw [if_neg h3, if_pos h4, if_pos ⟨h0, h1⟩]
     rw [e0]
     rcases h4 with rfl | rfl
     ·exact whose_in4 W vw x f n c who hx h0 h1
     ·exact whose_in5 W vw x f n c who hx h0 h1
    ·have e0 : whoseP x ⟨κ, ⟨f, n, c⟩, who⟩ = none := by
      unfold whoseP; rw [if_neg h3, if_pos h4, if_neg (fun h => h1 h.2)]
     rw [e0]
     rcases h4 with rfl | rfl
     ·exact whose_hi4 W vw x f n c who hx h0 h1
     ·exact whose_hi5 W vw x f n c who hx h0 h1
   ·have e0 : whoseP x ⟨κ, ⟨f, n, c⟩, who⟩ = none := by
     unfold whoseP; rw [if_neg h3, if_pos h4, if_neg (fun h => h0 h.1)]
    rw [e0]
    rcases h4 with rfl | rfl
    ·exact whose_lo4 W vw x f n c who hx h0
    ·exact whose_lo5 W vw x f n c who hx h0
  ·have e0 : whoseP x ⟨κ, ⟨f, n, c⟩, who⟩ = none := by unfold whoseP; rw [if_neg h3, if_neg h4]
   rw [e0]
   exact whose_non W vw x κ f n c who hx ⟨fun e => h3 (Or.inl e), fun e => h3 (Or.inr (Or.inl e)), fun e => h3 (Or.inr (Or.inr e)), fun e => h4 (Or.inl e), fun e => h4 (Or.inr e)⟩
end Go.Proofs.YtfbeiedhdmndnaaGreatDoor
