/-
  The reference's 'is' of chapter 10, of actors; of Is, all. Conditions: whom a message goes to is there.
-/
import Derived.Test.YtgdloonpemaijaaDoorPe5
namespace Go.Proofs.YtgdloonpemaijaaDoor
open Go.RowKit
attribute [local go_sem ↓] eq6
set_option maxHeartbeats 4000000 in
set_option maxRecDepth 100000 in
theorem ris_o1 (w : World) (vw : Value) (b : PBud) (x : PWld) (kk f n c who : Int) (hx : WldV w vw x) (h : kk < 1) :
    Calls Tryd.prog 76 #[uVal b, vw, eVal ⟨kk, ⟨f, n, c⟩, who⟩] w fun e w' => e = .returned (.bool (isL (leftB b x.used) x ⟨kk, ⟨f, n, c⟩, who⟩)) ∧ Below w.heap.size w w' := by
  obtain ⟨va, vm, rfl, g1, g2⟩ := hx
  obtain ⟨B1, d1, rfl, _⟩ := g1.form
  obtain ⟨B2, d2, rfl, _⟩ := g2.form
  have HG1 := hid_mk g1
  have HG2 := hid_mk g2
  have hd1 : decide (1 ≤ kk) = false := decide_eq_false (by omega)
  have hk4 : (kk != 4) = true := ne_yes (by omega)
  have hk5 : (kk != 5) = true := ne_yes (by omega)
  have HR : Hid (false = isL (leftB b x.used) x ⟨kk, ⟨f, n, c⟩, who⟩) := (isL_0 (by show ¬ (kk = 1 ∨ kk = 2 ∨ kk = 3); omega) (by show ¬ (kk = 4 ∨ kk = 5); omega)).symm
  clear h
  clear g1 g2
  have hgD := gD
  go_enter Tryd.func76, Tryd.ntmps76
  go_wp2_with fail
  obtain ⟨k1, k2, k3, k4⟩ := three_nw w (.cells #[.int .i64 b.drop, .int .i64 b.dup, .int .i64 b.time, .int .i64 b.crash] 42) (.cells #[.slice B1 x.acts.length d1, .slice B2 x.mail.length d2, .int .i64 x.used.drop, .int .i64 x.used.dup, .int .i64 x.used.time, .int .i64 x.used.crash] 44) (.cells #[.int .i64 kk, .int .i64 f, .int .i64 n, .int .i64 c, .int .i64 who] 62)
  have HL : Hid (Below w.heap.size w (((w.alloc (.cells #[.int .i64 b.drop, .int .i64 b.dup, .int .i64 b.time, .int .i64 b.crash] 42)).alloc (.cells #[.slice B1 x.acts.length d1, .slice B2 x.mail.length d2, .int .i64 x.used.drop, .int .i64 x.used.dup, .int .i64 x.used.time, .int .i64 x.used.crash] 44)).alloc (.cells #[.int .i64 kk, .int .i64 f, .int .i64 n, .int .i64 c, .int .i64 who] 62))) := bAlloc (bAlloc (bAlloc (bRefl _) _) _) _
  generalize (((w.alloc (.cells #[.int .i64 b.drop, .int .i64 b.dup, .int .i64 b.time, .int .i64 b.crash] 42)).alloc (.cells #[.slice B1 x.acts.length d1, .slice B2 x.mail.length d2, .int .i64 x.used.drop, .int .i64 x.used.dup, .int .i64 x.used.time, .int .i64 x.used.crash] 44)).alloc (.cells #[.int .i64 kk, .int .i64 f, .int .i64 n, .int .i64 c, .int .i64 who] 62)) = w1 at k1 k2 k3 k4 HL ⊢
  refine (rLeft_any _ b x.used _ _ _ _ _ _).mono ?_
  rintro e w3 ⟨rfl, hb3⟩
  have hbx : Below w1.heap.size w1 (w3.alloc (.cells #[.int .i64 (leftB b x.used).drop, .int .i64 (leftB b x.used).dup, .int .i64 (leftB b x.used).time, .int .i64 (leftB b x.used).crash] 42)) := bAlloc hb3 _
  have hK := heap_new w3 (.cells #[.int .i64 (leftB b x.used).drop, .int .i64 (leftB b x.used).dup, .int .i64 (leftB b x.used).time, .int .i64 (leftB b x.used).crash] 42)
  replace k2 := boxAt k2 hbx
  replace k3 := boxAt k3 hbx
  have HL3 := hid_mk (bTrans HL.out hbx)
  clear k1 k4 HL hb3 hbx
  obtain ⟨x0, x1, x2, x3, x4, x5⟩ := blk6 k2
  obtain ⟨e0, e1, e2, e3, e4⟩ := blk5 k3
  obtain ⟨l0, l1, l2, l3⟩ := blk4 hK
  clear k2 k3 hK
  go_wp2
  go_ret
  exact ⟨ret_b HR.out, HL3.out⟩
set_option maxHeartbeats 4000000 in
set_option maxRecDepth 100000 in
theorem ris_o2 (w : World) (vw : Value) (b : PBud) (x : PWld) (kk f n c who : Int) (hx : WldV w vw x) (h : 5 < kk) :
    Calls Tryd.prog 76 #[uVal b, vw, eVal ⟨kk, ⟨f, n, c⟩, who⟩] w fun e w' => e = .returned (.bool (isL (leftB b x.used) x ⟨kk, ⟨f, n, c⟩, who⟩)) ∧ Below w.heap.size w w' := by
  obtain ⟨va, vm, rfl, g1, g2⟩ := hx
  obtain ⟨B1, d1, rfl, _⟩ := g1.form
  obtain ⟨B2, d2, rfl, _⟩ := g2.form
  have HG1 := hid_mk g1
  have HG2 := hid_mk g2
  have hd1 : decide (1 ≤ kk) = true := decide_eq_true (by omega)
  have hd3 : decide (kk ≤ 3) = false := decide_eq_false (by omega)
  have hk4 : (kk != 4) = true := ne_yes (by omega)
  have hk5 : (kk != 5) = true := ne_yes (by omega)
  have HR : Hid (false = isL (leftB b x.used) x ⟨kk, ⟨f, n, c⟩, who⟩) := (isL_0 (by show ¬ (kk = 1 ∨ kk = 2 ∨ kk = 3); omega) (by show ¬ (kk = 4 ∨ kk = 5); omega)).symm
  clear h
  clear g1 g2
  have hgD := gD
  go_enter Tryd.func76, Tryd.ntmps76
  go_wp2_with fail
  obtain ⟨k1, k2, k3, k4⟩ := three_nw w (.cells #[.int .i64 b.drop, .int .i64 b.dup, .int .i64 b.time, .int .i64 b.crash] 42) (.cells #[.slice B1 x.acts.length d1, .slice B2 x.mail.length d2, .int .i64 x.used.drop, .int .i64 x.used.dup, .int .i64 x.used.time, .int .i64 x.used.crash] 44) (.cells #[.int .i64 kk, .int .i64 f, .int .i64 n, .int .i64 c, .int .i64 who] 62)
  have HL : Hid (Below w.heap.size w (((w.alloc (.cells #[.int .i64 b.drop, .int .i64 b.dup, .int .i64 b.time, .int .i64 b.crash] 42)).alloc (.cells #[.slice B1 x.acts.length d1, .slice B2 x.mail.length d2, .int .i64 x.used.drop, .int .i64 x.used.dup, .int .i64 x.used.time, .int .i64 x.used.crash] 44)).alloc (.cells #[.int .i64 kk, .int .i64 f, .int .i64 n, .int .i64 c, .int .i64 who] 62))) := bAlloc (bAlloc (bAlloc (bRefl _) _) _) _
  generalize (((w.alloc (.cells #[.int .i64 b.drop, .int .i64 b.dup, .int .i64 b.time, .int .i64 b.crash] 42)).alloc (.cells #[.slice B1 x.acts.length d1, .slice B2 x.mail.length d2, .int .i64 x.used.drop, .int .i64 x.used.dup, .int .i64 x.used.time, .int .i64 x.used.crash] 44)).alloc (.cells #[.int .i64 kk, .int .i64 f, .int .i64 n, .int .i64 c, .int .i64 who] 62)) = w1 at k1 k2 k3 k4 HL ⊢
  refine (rLeft_any _ b x.used _ _ _ _ _ _).mono ?_
  rintro e w3 ⟨rfl, hb3⟩
  have hbx : Below w1.heap.size w1 (w3.alloc (.cells #[.int .i64 (leftB b x.used).drop, .int .i64 (leftB b x.used).dup, .int .i64 (leftB b x.used).time, .int .i64 (leftB b x.used).crash] 42)) := bAlloc hb3 _
  have hK := heap_new w3 (.cells #[.int .i64 (leftB b x.used).drop, .int .i64 (leftB b x.used).dup, .int .i64 (leftB b x.used).time, .int .i64 (leftB b x.used).crash] 42)
  replace k2 := boxAt k2 hbx
  replace k3 := boxAt k3 hbx
  have HL3 := hid_mk (bTrans HL.out hbx)
  clear k1 k4 HL hb3 hbx
  obtain ⟨x0, x1, x2, x3, x4, x5⟩ := blk6 k2
  obtain ⟨e0, e1, e2, e3, e4⟩ := blk5 k3
  obtain ⟨l0, l1, l2, l3⟩ := blk4 hK
  clear k2 k3 hK
  go_wp2
  go_ret
  exact ⟨ret_b HR.out, HL3.out⟩
set_option maxHeartbeats 4000000 in
set_option maxRecDepth 100000 in
theorem ris_4z (w : World) (vw : Value) (b : PBud) (x : PWld) (f n c who : Int) (hx : WldV w vw x) (hz : (⟨f, n, c⟩ : PID) ≠ ⟨0, 0, 0⟩) :
    Calls Tryd.prog 76 #[uVal b, vw, eVal ⟨4, ⟨f, n, c⟩, who⟩] w fun e w' => e = .returned (.bool (isL (leftB b x.used) x ⟨4, ⟨f, n, c⟩, who⟩)) ∧ Below w.heap.size w w' := by
  obtain ⟨va, vm, rfl, g1, g2⟩ := hx
  obtain ⟨B1, d1, rfl, _⟩ := g1.form
  obtain ⟨B2, d2, rfl, _⟩ := g2.form
  have HG1 := hid_mk g1
  have HG2 := hid_mk g2
  have hsd : sameD ⟨f, n, c⟩ ⟨0, 0, 0⟩ = false := sameD_no hz
  have HR : Hid (false = isL (leftB b x.used) x ⟨4, ⟨f, n, c⟩, who⟩) := by
    show _ = _
    rw [isL_A (Or.inl rfl)]; exact (isA_id hz).symm
  clear hz
  clear g1 g2
  have hgD := gD
  go_enter Tryd.func76, Tryd.ntmps76
  go_wp2_with fail
  obtain ⟨k1, k2, k3, k4⟩ := three_nw w (.cells #[.int .i64 b.drop, .int .i64 b.dup, .int .i64 b.time, .int .i64 b.crash] 42) (.cells #[.slice B1 x.acts.length d1, .slice B2 x.mail.length d2, .int .i64 x.used.drop, .int .i64 x.used.dup, .int .i64 x.used.time, .int .i64 x.used.crash] 44) (.cells #[.int .i64 4, .int .i64 f, .int .i64 n, .int .i64 c, .int .i64 who] 62)
  have HL : Hid (Below w.heap.size w (((w.alloc (.cells #[.int .i64 b.drop, .int .i64 b.dup, .int .i64 b.time, .int .i64 b.crash] 42)).alloc (.cells #[.slice B1 x.acts.length d1, .slice B2 x.mail.length d2, .int .i64 x.used.drop, .int .i64 x.used.dup, .int .i64 x.used.time, .int .i64 x.used.crash] 44)).alloc (.cells #[.int .i64 4, .int .i64 f, .int .i64 n, .int .i64 c, .int .i64 who] 62))) := bAlloc (bAlloc (bAlloc (bRefl _) _) _) _
  generalize (((w.alloc (.cells #[.int .i64 b.drop, .int .i64 b.dup, .int .i64 b.time, .int .i64 b.crash] 42)).alloc (.cells #[.slice B1 x.acts.length d1, .slice B2 x.mail.length d2, .int .i64 x.used.drop, .int .i64 x.used.dup, .int .i64 x.used.time, .int .i64 x.used.crash] 44)).alloc (.cells #[.int .i64 4, .int .i64 f, .int .i64 n, .int .i64 c, .int .i64 who] 62)) = w1 at k1 k2 k3 k4 HL ⊢
  refine (rLeft_any _ b x.used _ _ _ _ _ _).mono ?_
  rintro e w3 ⟨rfl, hb3⟩
  have hbx : Below w1.heap.size w1 (w3.alloc (.cells #[.int .i64 (leftB b x.used).drop, .int .i64 (leftB b x.used).dup, .int .i64 (leftB b x.used).time, .int .i64 (leftB b x.used).crash] 42)) := bAlloc hb3 _
  have hK := heap_new w3 (.cells #[.int .i64 (leftB b x.used).drop, .int .i64 (leftB b x.used).dup, .int .i64 (leftB b x.used).time, .int .i64 (leftB b x.used).crash] 42)
  replace k2 := boxAt k2 hbx
  replace k3 := boxAt k3 hbx
  have HL3 := hid_mk (bTrans HL.out hbx)
  clear k1 k4 HL hb3 hbx
  obtain ⟨x0, x1, x2, x3, x4, x5⟩ := blk6 k2
  obtain ⟨e0, e1, e2, e3, e4⟩ := blk5 k3
  obtain ⟨l0, l1, l2, l3⟩ := blk4 hK
  clear k2 k3 hK
  go_wp2
  go_ret
  exact ⟨ret_b HR.out, HL3.out⟩
set_option maxHeartbeats 4000000 in
set_option maxRecDepth 100000 in
theorem ris_4l (w : World) (vw : Value) (b : PBud) (x : PWld) (f n c who : Int) (hx : WldV w vw x) (hz : (⟨f, n, c⟩ : PID) = ⟨0, 0, 0⟩) (hw : who < 0) :
    Calls Tryd.prog 76 #[uVal b, vw, eVal ⟨4, ⟨f, n, c⟩, who⟩] w fun e w' => e = .returned (.bool (isL (leftB b x.used) x ⟨4, ⟨f, n, c⟩, who⟩)) ∧ Below w.heap.size w w' := by
  obtain ⟨va, vm, rfl, g1, g2⟩ := hx
  obtain ⟨B1, d1, rfl, _⟩ := g1.form
  obtain ⟨B2, d2, rfl, _⟩ := g2.form
  have HG1 := hid_mk g1
  have HG2 := hid_mk g2
  have hsd : sameD ⟨f, n, c⟩ ⟨0, 0, 0⟩ = true := sameD_yes hz
  have hw1 : decide (who < 0) = true := decide_eq_true hw
  have HR : Hid (false = isL (leftB b x.used) x ⟨4, ⟨f, n, c⟩, who⟩) := by
    show _ = _
    rw [isL_A (Or.inl rfl)]; exact (isA_who (by show ¬ (0 ≤ who ∧ who < x.acts.length); omega)).symm
  clear hz hw
  clear g1 g2
  have hgD := gD
  go_enter Tryd.func76, Tryd.ntmps76
  go_wp2_with fail
  obtain ⟨k1, k2, k3, k4⟩ := three_nw w (.cells #[.int .i64 b.drop, .int .i64 b.dup, .int .i64 b.time, .int .i64 b.crash] 42) (.cells #[.slice B1 x.acts.length d1, .slice B2 x.mail.length d2, .int .i64 x.used.drop, .int .i64 x.used.dup, .int .i64 x.used.time, .int .i64 x.used.crash] 44) (.cells #[.int .i64 4, .int .i64 f, .int .i64 n, .int .i64 c, .int .i64 who] 62)
  have HL : Hid (Below w.heap.size w (((w.alloc (.cells #[.int .i64 b.drop, .int .i64 b.dup, .int .i64 b.time, .int .i64 b.crash] 42)).alloc (.cells #[.slice B1 x.acts.length d1, .slice B2 x.mail.length d2, .int .i64 x.used.drop, .int .i64 x.used.dup, .int .i64 x.used.time, .int .i64 x.used.crash] 44)).alloc (.cells #[.int .i64 4, .int .i64 f, .int .i64 n, .int .i64 c, .int .i64 who] 62))) := bAlloc (bAlloc (bAlloc (bRefl _) _) _) _
  generalize (((w.alloc (.cells #[.int .i64 b.drop, .int .i64 b.dup, .int .i64 b.time, .int .i64 b.crash] 42)).alloc (.cells #[.slice B1 x.acts.length d1, .slice B2 x.mail.length d2, .int .i64 x.used.drop, .int .i64 x.used.dup, .int .i64 x.used.time, .int .i64 x.used.crash] 44)).alloc (.cells #[.int .i64 4, .int .i64 f, .int .i64 n, .int .i64 c, .int .i64 who] 62)) = w1 at k1 k2 k3 k4 HL ⊢
  refine (rLeft_any _ b x.used _ _ _ _ _ _).mono ?_
  rintro e w3 ⟨rfl, hb3⟩
  have hbx : Below w1.heap.size w1 (w3.alloc (.cells #[.int .i64 (leftB b x.used).drop, .int .i64 (leftB b x.used).dup, .int .i64 (leftB b x.used).time, .int .i64 (leftB b x.used).crash] 42)) := bAlloc hb3 _
  have hK := heap_new w3 (.cells #[.int .i64 (leftB b x.used).drop, .int .i64 (leftB b x.used).dup, .int .i64 (leftB b x.used).time, .int .i64 (leftB b x.used).crash] 42)
  replace k2 := boxAt k2 hbx
  replace k3 := boxAt k3 hbx
  have HL3 := hid_mk (bTrans HL.out hbx)
  clear k1 k4 HL hb3 hbx
  obtain ⟨x0, x1, x2, x3, x4, x5⟩ := blk6 k2
  obtain ⟨e0, e1, e2, e3, e4⟩ := blk5 k3
  obtain ⟨l0, l1, l2, l3⟩ := blk4 hK
  clear k2 k3 hK
  go_wp2
  go_ret
  exact ⟨ret_b HR.out, HL3.out⟩
set_option maxHeartbeats 4000000 in
set_option maxRecDepth 100000 in
theorem ris_4g (w : World) (vw : Value) (b : PBud) (x : PWld) (f n c who : Int) (hx : WldV w vw x) (hz : (⟨f, n, c⟩ : PID) = ⟨0, 0, 0⟩) (hw0 : 0 ≤ who) (hw : (x.acts.length : Int) ≤ who) :
    Calls Tryd.prog 76 #[uVal b, vw, eVal ⟨4, ⟨f, n, c⟩, who⟩] w fun e w' => e = .returned (.bool (isL (leftB b x.used) x ⟨4, ⟨f, n, c⟩, who⟩)) ∧ Below w.heap.size w w' := by
  obtain ⟨va, vm, rfl, g1, g2⟩ := hx
  obtain ⟨B1, d1, rfl, _⟩ := g1.form
  obtain ⟨B2, d2, rfl, _⟩ := g2.form
  have HG1 := hid_mk g1
  have HG2 := hid_mk g2
  have hsd : sameD ⟨f, n, c⟩ ⟨0, 0, 0⟩ = true := sameD_yes hz
  have hw1 : decide (who < 0) = false := decide_eq_false (by omega)
  have hw2 : decide ((x.acts.length : Int) ≤ who) = true := decide_eq_true hw
  have HR : Hid (false = isL (leftB b x.used) x ⟨4, ⟨f, n, c⟩, who⟩) := by
    show _ = _
    rw [isL_A (Or.inl rfl)]; exact (isA_who (by show ¬ (0 ≤ who ∧ who < x.acts.length); omega)).symm
  clear hz hw hw0
  clear g1 g2
  have hgD := gD
  go_enter Tryd.func76, Tryd.ntmps76
  go_wp2_with fail
  obtain ⟨k1, k2, k3, k4⟩ := three_nw w (.cells #[.int .i64 b.drop, .int .i64 b.dup, .int .i64 b.time, .int .i64 b.crash] 42) (.cells #[.slice B1 x.acts.length d1, .slice B2 x.mail.length d2, .int .i64 x.used.drop, .int .i64 x.used.dup, .int .i64 x.used.time, .int .i64 x.used.crash] 44) (.cells #[.int .i64 4, .int .i64 f, .int .i64 n, .int .i64 c, .int .i64 who] 62)
  have HL : Hid (Below w.heap.size w (((w.alloc (.cells #[.int .i64 b.drop, .int .i64 b.dup, .int .i64 b.time, .int .i64 b.crash] 42)).alloc (.cells #[.slice B1 x.acts.length d1, .slice B2 x.mail.length d2, .int .i64 x.used.drop, .int .i64 x.used.dup, .int .i64 x.used.time, .int .i64 x.used.crash] 44)).alloc (.cells #[.int .i64 4, .int .i64 f, .int .i64 n, .int .i64 c, .int .i64 who] 62))) := bAlloc (bAlloc (bAlloc (bRefl _) _) _) _
  generalize (((w.alloc (.cells #[.int .i64 b.drop, .int .i64 b.dup, .int .i64 b.time, .int .i64 b.crash] 42)).alloc (.cells #[.slice B1 x.acts.length d1, .slice B2 x.mail.length d2, .int .i64 x.used.drop, .int .i64 x.used.dup, .int .i64 x.used.time, .int .i64 x.used.crash] 44)).alloc (.cells #[.int .i64 4, .int .i64 f, .int .i64 n, .int .i64 c, .int .i64 who] 62)) = w1 at k1 k2 k3 k4 HL ⊢
  refine (rLeft_any _ b x.used _ _ _ _ _ _).mono ?_
  rintro e w3 ⟨rfl, hb3⟩
  have hbx : Below w1.heap.size w1 (w3.alloc (.cells #[.int .i64 (leftB b x.used).drop, .int .i64 (leftB b x.used).dup, .int .i64 (leftB b x.used).time, .int .i64 (leftB b x.used).crash] 42)) := bAlloc hb3 _
  have hK := heap_new w3 (.cells #[.int .i64 (leftB b x.used).drop, .int .i64 (leftB b x.used).dup, .int .i64 (leftB b x.used).time, .int .i64 (leftB b x.used).crash] 42)
  replace k2 := boxAt k2 hbx
  replace k3 := boxAt k3 hbx
  have HL3 := hid_mk (bTrans HL.out hbx)
  clear k1 k4 HL hb3 hbx
  obtain ⟨x0, x1, x2, x3, x4, x5⟩ := blk6 k2
  obtain ⟨e0, e1, e2, e3, e4⟩ := blk5 k3
  obtain ⟨l0, l1, l2, l3⟩ := blk4 hK
  clear k2 k3 hK
  go_wp2
  go_ret
  exact ⟨ret_b HR.out, HL3.out⟩
set_option maxHeartbeats 4000000 in
set_option maxRecDepth 100000 in
theorem ris_4d (w : World) (vw : Value) (b : PBud) (x : PWld) (f n c : Int) (j : Nat) (hx : WldV w vw x) (hz : (⟨f, n, c⟩ : PID) = ⟨0, 0, 0⟩) (hlt : j < x.acts.length) (hd : ∀ y, x.acts[j]? = some y → y.down ≠ 0) :
    Calls Tryd.prog 76 #[uVal b, vw, eVal ⟨4, ⟨f, n, c⟩, (j : Int)⟩] w fun e w' => e = .returned (.bool (isL (leftB b x.used) x ⟨4, ⟨f, n, c⟩, (j : Int)⟩)) ∧ Below w.heap.size w w' := by
  obtain ⟨va, vm, rfl, g1, g2⟩ := hx
  obtain ⟨B1, d1, rfl, _⟩ := g1.form
  obtain ⟨B2, d2, rfl, _⟩ := g2.form
  have HG1 := hid_mk g1
  have HG2 := hid_mk g2
  have hsd : sameD ⟨f, n, c⟩ ⟨0, 0, 0⟩ = true := sameD_yes hz
  obtain ⟨ab, ao, a, av, hA2, haj, hal, _, a1, a2, _, _, _⟩ := g1.cell (bRefl w) hlt
  cases hA2
  have haj' : x.acts[j]? = some a := haj
  have HRA : Hid (ofA (leftB b x.used) 4 a = isL (leftB b x.used) x ⟨4, ⟨f, n, c⟩, (j : Int)⟩) := by
    show _ = _
    rw [isL_A (Or.inl rfl)]
    unfold isA
    dsimp only
    rw [hz, Int.toNat_natCast, show x.acts.getD j default = a by rw [List.getD_eq_getElem?_getD, haj]; rfl]
    simp [hlt]
  have hw1 : decide ((j : Int) < 0) = false := decide_eq_false (by omega)
  have hw2 : decide ((x.acts.length : Int) ≤ (j : Int)) = false := decide_eq_false (by omega)
  have hw3 : decide (x.acts.length ≤ j) = false := decide_eq_false (by omega)
  have hji : (j : Int) < x.acts.length := by omega
  have hj0 : (0 : Int) ≤ j := by omega
  have hdd : (a.down != 0) = true := ne_yes (hd a haj)
  have HR : Hid (false = isL (leftB b x.used) x ⟨4, ⟨f, n, c⟩, (j : Int)⟩) := by
    show _ = _
    rw [← HRA.out]; unfold ofA; simp [hd a haj]
  clear hz hd haj haj' HRA
  clear g1 g2
  have hgD := gD
  go_enter Tryd.func76, Tryd.ntmps76
  go_wp2_with fail
  obtain ⟨k1, k2, k3, k4⟩ := three_nw w (.cells #[.int .i64 b.drop, .int .i64 b.dup, .int .i64 b.time, .int .i64 b.crash] 42) (.cells #[.slice (some ⟨ab, ao, none⟩) x.acts.length d1, .slice B2 x.mail.length d2, .int .i64 x.used.drop, .int .i64 x.used.dup, .int .i64 x.used.time, .int .i64 x.used.crash] 44) (.cells #[.int .i64 4, .int .i64 f, .int .i64 n, .int .i64 c, .int .i64 (j : Int)] 62)
  have HL : Hid (Below w.heap.size w (((w.alloc (.cells #[.int .i64 b.drop, .int .i64 b.dup, .int .i64 b.time, .int .i64 b.crash] 42)).alloc (.cells #[.slice (some ⟨ab, ao, none⟩) x.acts.length d1, .slice B2 x.mail.length d2, .int .i64 x.used.drop, .int .i64 x.used.dup, .int .i64 x.used.time, .int .i64 x.used.crash] 44)).alloc (.cells #[.int .i64 4, .int .i64 f, .int .i64 n, .int .i64 c, .int .i64 (j : Int)] 62))) := bAlloc (bAlloc (bAlloc (bRefl _) _) _) _
  generalize (((w.alloc (.cells #[.int .i64 b.drop, .int .i64 b.dup, .int .i64 b.time, .int .i64 b.crash] 42)).alloc (.cells #[.slice (some ⟨ab, ao, none⟩) x.acts.length d1, .slice B2 x.mail.length d2, .int .i64 x.used.drop, .int .i64 x.used.dup, .int .i64 x.used.time, .int .i64 x.used.crash] 44)).alloc (.cells #[.int .i64 4, .int .i64 f, .int .i64 n, .int .i64 c, .int .i64 (j : Int)] 62)) = w1 at k1 k2 k3 k4 HL ⊢
  refine (rLeft_any _ b x.used _ _ _ _ _ _).mono ?_
  rintro e w3 ⟨rfl, hb3⟩
  have hbx : Below w1.heap.size w1 (w3.alloc (.cells #[.int .i64 (leftB b x.used).drop, .int .i64 (leftB b x.used).dup, .int .i64 (leftB b x.used).time, .int .i64 (leftB b x.used).crash] 42)) := bAlloc hb3 _
  have hK := heap_new w3 (.cells #[.int .i64 (leftB b x.used).drop, .int .i64 (leftB b x.used).dup, .int .i64 (leftB b x.used).time, .int .i64 (leftB b x.used).crash] 42)
  replace k2 := boxAt k2 hbx
  replace k3 := boxAt k3 hbx
  have HL3 := hid_mk (bTrans HL.out hbx)
  clear k1 k4 HL hb3 hbx
  obtain ⟨x0, x1, x2, x3, x4, x5⟩ := blk6 k2
  obtain ⟨e0, e1, e2, e3, e4⟩ := blk5 k3
  obtain ⟨l0, l1, l2, l3⟩ := blk4 hK
  clear k2 k3 hK
  have y1 := (HL3.out.cell (p := ⟨ab, _, none⟩) hal).trans a1
  have y2 := (HL3.out.cell (p := ⟨ab, _, none⟩) hal).trans a2
  clear a1 a2
  go_wp2
  go_ret
  exact ⟨ret_b HR.out, HL3.out⟩
set_option maxHeartbeats 4000000 in
set_option maxRecDepth 100000 in
theorem ris_4u (w : World) (vw : Value) (b : PBud) (x : PWld) (f n c : Int) (j : Nat) (hx : WldV w vw x) (hz : (⟨f, n, c⟩ : PID) = ⟨0, 0, 0⟩) (hlt : j < x.acts.length) (hd : ∀ y, x.acts[j]? = some y → y.down = 0) (hr : ∀ y, x.acts[j]? = some y → y.armed = true) :
    Calls Tryd.prog 76 #[uVal b, vw, eVal ⟨4, ⟨f, n, c⟩, (j : Int)⟩] w fun e w' => e = .returned (.bool (isL (leftB b x.used) x ⟨4, ⟨f, n, c⟩, (j : Int)⟩)) ∧ Below w.heap.size w w' := by
  obtain ⟨va, vm, rfl, g1, g2⟩ := hx
  obtain ⟨B1, d1, rfl, _⟩ := g1.form
  obtain ⟨B2, d2, rfl, _⟩ := g2.form
  have HG1 := hid_mk g1
  have HG2 := hid_mk g2
  have hsd : sameD ⟨f, n, c⟩ ⟨0, 0, 0⟩ = true := sameD_yes hz
  obtain ⟨ab, ao, a, av, hA2, haj, hal, _, a1, a2, _, _, _⟩ := g1.cell (bRefl w) hlt
  cases hA2
  have haj' : x.acts[j]? = some a := haj
  have HRA : Hid (ofA (leftB b x.used) 4 a = isL (leftB b x.used) x ⟨4, ⟨f, n, c⟩, (j : Int)⟩) := by
    show _ = _
    rw [isL_A (Or.inl rfl)]
    unfold isA
    dsimp only
    rw [hz, Int.toNat_natCast, show x.acts.getD j default = a by rw [List.getD_eq_getElem?_getD, haj]; rfl]
    simp [hlt]
  have hw1 : decide ((j : Int) < 0) = false := decide_eq_false (by omega)
  have hw2 : decide ((x.acts.length : Int) ≤ (j : Int)) = false := decide_eq_false (by omega)
  have hw3 : decide (x.acts.length ≤ j) = false := decide_eq_false (by omega)
  have hji : (j : Int) < x.acts.length := by omega
  have hj0 : (0 : Int) ≤ j := by omega
  have hdd : (a.down != 0) = false := ne_no (hd a haj)
  have har : a.armed = true := hr a haj
  have HR : Hid (decide (0 < (leftB b x.used).time) = isL (leftB b x.used) x ⟨4, ⟨f, n, c⟩, (j : Int)⟩) := by
    show _ = _
    rw [← HRA.out]; unfold ofA; simp [hd a haj, har]
  clear hz hd hr haj haj' HRA
  clear g1 g2
  have hgD := gD
  go_enter Tryd.func76, Tryd.ntmps76
  go_wp2_with fail
  obtain ⟨k1, k2, k3, k4⟩ := three_nw w (.cells #[.int .i64 b.drop, .int .i64 b.dup, .int .i64 b.time, .int .i64 b.crash] 42) (.cells #[.slice (some ⟨ab, ao, none⟩) x.acts.length d1, .slice B2 x.mail.length d2, .int .i64 x.used.drop, .int .i64 x.used.dup, .int .i64 x.used.time, .int .i64 x.used.crash] 44) (.cells #[.int .i64 4, .int .i64 f, .int .i64 n, .int .i64 c, .int .i64 (j : Int)] 62)
  have HL : Hid (Below w.heap.size w (((w.alloc (.cells #[.int .i64 b.drop, .int .i64 b.dup, .int .i64 b.time, .int .i64 b.crash] 42)).alloc (.cells #[.slice (some ⟨ab, ao, none⟩) x.acts.length d1, .slice B2 x.mail.length d2, .int .i64 x.used.drop, .int .i64 x.used.dup, .int .i64 x.used.time, .int .i64 x.used.crash] 44)).alloc (.cells #[.int .i64 4, .int .i64 f, .int .i64 n, .int .i64 c, .int .i64 (j : Int)] 62))) := bAlloc (bAlloc (bAlloc (bRefl _) _) _) _
  generalize (((w.alloc (.cells #[.int .i64 b.drop, .int .i64 b.dup, .int .i64 b.time, .int .i64 b.crash] 42)).alloc (.cells #[.slice (some ⟨ab, ao, none⟩) x.acts.length d1, .slice B2 x.mail.length d2, .int .i64 x.used.drop, .int .i64 x.used.dup, .int .i64 x.used.time, .int .i64 x.used.crash] 44)).alloc (.cells #[.int .i64 4, .int .i64 f, .int .i64 n, .int .i64 c, .int .i64 (j : Int)] 62)) = w1 at k1 k2 k3 k4 HL ⊢
  refine (rLeft_any _ b x.used _ _ _ _ _ _).mono ?_
  rintro e w3 ⟨rfl, hb3⟩
  have hbx : Below w1.heap.size w1 (w3.alloc (.cells #[.int .i64 (leftB b x.used).drop, .int .i64 (leftB b x.used).dup, .int .i64 (leftB b x.used).time, .int .i64 (leftB b x.used).crash] 42)) := bAlloc hb3 _
  have hK := heap_new w3 (.cells #[.int .i64 (leftB b x.used).drop, .int .i64 (leftB b x.used).dup, .int .i64 (leftB b x.used).time, .int .i64 (leftB b x.used).crash] 42)
  replace k2 := boxAt k2 hbx
  replace k3 := boxAt k3 hbx
  have HL3 := hid_mk (bTrans HL.out hbx)
  clear k1 k4 HL hb3 hbx
  obtain ⟨x0, x1, x2, x3, x4, x5⟩ := blk6 k2
  obtain ⟨e0, e1, e2, e3, e4⟩ := blk5 k3
  obtain ⟨l0, l1, l2, l3⟩ := blk4 hK
  clear k2 k3 hK
  have y1 := (HL3.out.cell (p := ⟨ab, _, none⟩) hal).trans a1
  have y2 := (HL3.out.cell (p := ⟨ab, _, none⟩) hal).trans a2
  clear a1 a2
  go_wp2
  go_ret
  exact ⟨ret_b HR.out, HL3.out⟩
set_option maxHeartbeats 4000000 in
set_option maxRecDepth 100000 in
theorem ris_4n (w : World) (vw : Value) (b : PBud) (x : PWld) (f n c : Int) (j : Nat) (hx : WldV w vw x) (hz : (⟨f, n, c⟩ : PID) = ⟨0, 0, 0⟩) (hlt : j < x.acts.length) (hd : ∀ y, x.acts[j]? = some y → y.down = 0) (hr : ∀ y, x.acts[j]? = some y → y.armed = false) :
    Calls Tryd.prog 76 #[uVal b, vw, eVal ⟨4, ⟨f, n, c⟩, (j : Int)⟩] w fun e w' => e = .returned (.bool (isL (leftB b x.used) x ⟨4, ⟨f, n, c⟩, (j : Int)⟩)) ∧ Below w.heap.size w w' := by
  obtain ⟨va, vm, rfl, g1, g2⟩ := hx
  obtain ⟨B1, d1, rfl, _⟩ := g1.form
  obtain ⟨B2, d2, rfl, _⟩ := g2.form
  have HG1 := hid_mk g1
  have HG2 := hid_mk g2
  have hsd : sameD ⟨f, n, c⟩ ⟨0, 0, 0⟩ = true := sameD_yes hz
  obtain ⟨ab, ao, a, av, hA2, haj, hal, _, a1, a2, _, _, _⟩ := g1.cell (bRefl w) hlt
  cases hA2
  have haj' : x.acts[j]? = some a := haj
  have HRA : Hid (ofA (leftB b x.used) 4 a = isL (leftB b x.used) x ⟨4, ⟨f, n, c⟩, (j : Int)⟩) := by
    show _ = _
    rw [isL_A (Or.inl rfl)]
    unfold isA
    dsimp only
    rw [hz, Int.toNat_natCast, show x.acts.getD j default = a by rw [List.getD_eq_getElem?_getD, haj]; rfl]
    simp [hlt]
  have hw1 : decide ((j : Int) < 0) = false := decide_eq_false (by omega)
  have hw2 : decide ((x.acts.length : Int) ≤ (j : Int)) = false := decide_eq_false (by omega)
  have hw3 : decide (x.acts.length ≤ j) = false := decide_eq_false (by omega)
  have hji : (j : Int) < x.acts.length := by omega
  have hj0 : (0 : Int) ≤ j := by omega
  have hdd : (a.down != 0) = false := ne_no (hd a haj)
  have har : a.armed = false := hr a haj
  have HR : Hid (false = isL (leftB b x.used) x ⟨4, ⟨f, n, c⟩, (j : Int)⟩) := by
    show _ = _
    rw [← HRA.out]; unfold ofA; simp [har]
  clear hz hd hr haj haj' HRA
  clear g1 g2
  have hgD := gD
  go_enter Tryd.func76, Tryd.ntmps76
  go_wp2_with fail
  obtain ⟨k1, k2, k3, k4⟩ := three_nw w (.cells #[.int .i64 b.drop, .int .i64 b.dup, .int .i64 b.time, .int .i64 b.crash] 42) (.cells #[.slice (some ⟨ab, ao, none⟩) x.acts.length d1, .slice B2 x.mail.length d2, .int .i64 x.used.drop, .int .i64 x.used.dup, .int .i64 x.used.time, .int .i64 x.used.crash] 44) (.cells #[.int .i64 4, .int .i64 f, .int .i64 n, .int .i64 c, .int .i64 (j : Int)] 62)
  have HL : Hid (Below w.heap.size w (((w.alloc (.cells #[.int .i64 b.drop, .int .i64 b.dup, .int .i64 b.time, .int .i64 b.crash] 42)).alloc (.cells #[.slice (some ⟨ab, ao, none⟩) x.acts.length d1, .slice B2 x.mail.length d2, .int .i64 x.used.drop, .int .i64 x.used.dup, .int .i64 x.used.time, .int .i64 x.used.crash] 44)).alloc (.cells #[.int .i64 4, .int .i64 f, .int .i64 n, .int .i64 c, .int .i64 (j : Int)] 62))) := bAlloc (bAlloc (bAlloc (bRefl _) _) _) _
  generalize (((w.alloc (.cells #[.int .i64 b.drop, .int .i64 b.dup, .int .i64 b.time, .int .i64 b.crash] 42)).alloc (.cells #[.slice (some ⟨ab, ao, none⟩) x.acts.length d1, .slice B2 x.mail.length d2, .int .i64 x.used.drop, .int .i64 x.used.dup, .int .i64 x.used.time, .int .i64 x.used.crash] 44)).alloc (.cells #[.int .i64 4, .int .i64 f, .int .i64 n, .int .i64 c, .int .i64 (j : Int)] 62)) = w1 at k1 k2 k3 k4 HL ⊢
  refine (rLeft_any _ b x.used _ _ _ _ _ _).mono ?_
  rintro e w3 ⟨rfl, hb3⟩
  have hbx : Below w1.heap.size w1 (w3.alloc (.cells #[.int .i64 (leftB b x.used).drop, .int .i64 (leftB b x.used).dup, .int .i64 (leftB b x.used).time, .int .i64 (leftB b x.used).crash] 42)) := bAlloc hb3 _
  have hK := heap_new w3 (.cells #[.int .i64 (leftB b x.used).drop, .int .i64 (leftB b x.used).dup, .int .i64 (leftB b x.used).time, .int .i64 (leftB b x.used).crash] 42)
  replace k2 := boxAt k2 hbx
  replace k3 := boxAt k3 hbx
  have HL3 := hid_mk (bTrans HL.out hbx)
  clear k1 k4 HL hb3 hbx
  obtain ⟨x0, x1, x2, x3, x4, x5⟩ := blk6 k2
  obtain ⟨e0, e1, e2, e3, e4⟩ := blk5 k3
  obtain ⟨l0, l1, l2, l3⟩ := blk4 hK
  clear k2 k3 hK
  have y1 := (HL3.out.cell (p := ⟨ab, _, none⟩) hal).trans a1
  have y2 := (HL3.out.cell (p := ⟨ab, _, none⟩) hal).trans a2
  clear a1 a2
  go_wp2
  go_ret
  exact ⟨ret_b HR.out, HL3.out⟩
set_option maxHeartbeats 4000000 in
set_option maxRecDepth 100000 in
theorem ris_5z (w : World) (vw : Value) (b : PBud) (x : PWld) (f n c who : Int) (hx : WldV w vw x) (hz : (⟨f, n, c⟩ : PID) ≠ ⟨0, 0, 0⟩) :
    Calls Tryd.prog 76 #[uVal b, vw, eVal ⟨5, ⟨f, n, c⟩, who⟩] w fun e w' => e = .returned (.bool (isL (leftB b x.used) x ⟨5, ⟨f, n, c⟩, who⟩)) ∧ Below w.heap.size w w' := by
  obtain ⟨va, vm, rfl, g1, g2⟩ := hx
  obtain ⟨B1, d1, rfl, _⟩ := g1.form
  obtain ⟨B2, d2, rfl, _⟩ := g2.form
  have HG1 := hid_mk g1
  have HG2 := hid_mk g2
  have hsd : sameD ⟨f, n, c⟩ ⟨0, 0, 0⟩ = false := sameD_no hz
  have HR : Hid (false = isL (leftB b x.used) x ⟨5, ⟨f, n, c⟩, who⟩) := by
    show _ = _
    rw [isL_A (Or.inr rfl)]; exact (isA_id hz).symm
  clear hz
  clear g1 g2
  have hgD := gD
  go_enter Tryd.func76, Tryd.ntmps76
  go_wp2_with fail
  obtain ⟨k1, k2, k3, k4⟩ := three_nw w (.cells #[.int .i64 b.drop, .int .i64 b.dup, .int .i64 b.time, .int .i64 b.crash] 42) (.cells #[.slice B1 x.acts.length d1, .slice B2 x.mail.length d2, .int .i64 x.used.drop, .int .i64 x.used.dup, .int .i64 x.used.time, .int .i64 x.used.crash] 44) (.cells #[.int .i64 5, .int .i64 f, .int .i64 n, .int .i64 c, .int .i64 who] 62)
  have HL : Hid (Below w.heap.size w (((w.alloc (.cells #[.int .i64 b.drop, .int .i64 b.dup, .int .i64 b.time, .int .i64 b.crash] 42)).alloc (.cells #[.slice B1 x.acts.length d1, .slice B2 x.mail.length d2, .int .i64 x.used.drop, .int .i64 x.used.dup, .int .i64 x.used.time, .int .i64 x.used.crash] 44)).alloc (.cells #[.int .i64 5, .int .i64 f, .int .i64 n, .int .i64 c, .int .i64 who] 62))) := bAlloc (bAlloc (bAlloc (bRefl _) _) _) _
  generalize (((w.alloc (.cells #[.int .i64 b.drop, .int .i64 b.dup, .int .i64 b.time, .int .i64 b.crash] 42)).alloc (.cells #[.slice B1 x.acts.length d1, .slice B2 x.mail.length d2, .int .i64 x.used.drop, .int .i64 x.used.dup, .int .i64 x.used.time, .int .i64 x.used.crash] 44)).alloc (.cells #[.int .i64 5, .int .i64 f, .int .i64 n, .int .i64 c, .int .i64 who] 62)) = w1 at k1 k2 k3 k4 HL ⊢
  refine (rLeft_any _ b x.used _ _ _ _ _ _).mono ?_
  rintro e w3 ⟨rfl, hb3⟩
  have hbx : Below w1.heap.size w1 (w3.alloc (.cells #[.int .i64 (leftB b x.used).drop, .int .i64 (leftB b x.used).dup, .int .i64 (leftB b x.used).time, .int .i64 (leftB b x.used).crash] 42)) := bAlloc hb3 _
  have hK := heap_new w3 (.cells #[.int .i64 (leftB b x.used).drop, .int .i64 (leftB b x.used).dup, .int .i64 (leftB b x.used).time, .int .i64 (leftB b x.used).crash] 42)
  replace k2 := boxAt k2 hbx
  replace k3 := boxAt k3 hbx
  have HL3 := hid_mk (bTrans HL.out hbx)
  clear k1 k4 HL hb3 hbx
  obtain ⟨x0, x1, x2, x3, x4, x5⟩ := blk6 k2
  obtain ⟨e0, e1, e2, e3, e4⟩ := blk5 k3
  obtain ⟨l0, l1, l2, l3⟩ := blk4 hK
  clear k2 k3 hK
  go_wp2
  go_ret
  exact ⟨ret_b HR.out, HL3.out⟩
set_option maxHeartbeats 4000000 in
set_option maxRecDepth 100000 in
theorem ris_5l (w : World) (vw : Value) (b : PBud) (x : PWld) (f n c who : Int) (hx : WldV w vw x) (hz : (⟨f, n, c⟩ : PID) = ⟨0, 0, 0⟩) (hw : who < 0) :
    Calls Tryd.prog 76 #[uVal b, vw, eVal ⟨5, ⟨f, n, c⟩, who⟩] w fun e w' => e = .returned (.bool (isL (leftB b x.used) x ⟨5, ⟨f, n, c⟩, who⟩)) ∧ Below w.heap.size w w' := by
  obtain ⟨va, vm, rfl, g1, g2⟩ := hx
  obtain ⟨B1, d1, rfl, _⟩ := g1.form
  obtain ⟨B2, d2, rfl, _⟩ := g2.form
  have HG1 := hid_mk g1
  have HG2 := hid_mk g2
  have hsd : sameD ⟨f, n, c⟩ ⟨0, 0, 0⟩ = true := sameD_yes hz
  have hw1 : decide (who < 0) = true := decide_eq_true hw
  have HR : Hid (false = isL (leftB b x.used) x ⟨5, ⟨f, n, c⟩, who⟩) := by
    show _ = _
    rw [isL_A (Or.inr rfl)]; exact (isA_who (by show ¬ (0 ≤ who ∧ who < x.acts.length); omega)).symm
  clear hz hw
  clear g1 g2
  have hgD := gD
  go_enter Tryd.func76, Tryd.ntmps76
  go_wp2_with fail
  obtain ⟨k1, k2, k3, k4⟩ := three_nw w (.cells #[.int .i64 b.drop, .int .i64 b.dup, .int .i64 b.time, .int .i64 b.crash] 42) (.cells #[.slice B1 x.acts.length d1, .slice B2 x.mail.length d2, .int .i64 x.used.drop, .int .i64 x.used.dup, .int .i64 x.used.time, .int .i64 x.used.crash] 44) (.cells #[.int .i64 5, .int .i64 f, .int .i64 n, .int .i64 c, .int .i64 who] 62)
  have HL : Hid (Below w.heap.size w (((w.alloc (.cells #[.int .i64 b.drop, .int .i64 b.dup, .int .i64 b.time, .int .i64 b.crash] 42)).alloc (.cells #[.slice B1 x.acts.length d1, .slice B2 x.mail.length d2, .int .i64 x.used.drop, .int .i64 x.used.dup, .int .i64 x.used.time, .int .i64 x.used.crash] 44)).alloc (.cells #[.int .i64 5, .int .i64 f, .int .i64 n, .int .i64 c, .int .i64 who] 62))) := bAlloc (bAlloc (bAlloc (bRefl _) _) _) _
  generalize (((w.alloc (.cells #[.int .i64 b.drop, .int .i64 b.dup, .int .i64 b.time, .int .i64 b.crash] 42)).alloc (.cells #[.slice B1 x.acts.length d1, .slice B2 x.mail.length d2, .int .i64 x.used.drop, .int .i64 x.used.dup, .int .i64 x.used.time, .int .i64 x.used.crash] 44)).alloc (.cells #[.int .i64 5, .int .i64 f, .int .i64 n, .int .i64 c, .int .i64 who] 62)) = w1 at k1 k2 k3 k4 HL ⊢
  refine (rLeft_any _ b x.used _ _ _ _ _ _).mono ?_
  rintro e w3 ⟨rfl, hb3⟩
  have hbx : Below w1.heap.size w1 (w3.alloc (.cells #[.int .i64 (leftB b x.used).drop, .int .i64 (leftB b x.used).dup, .int .i64 (leftB b x.used).time, .int .i64 (leftB b x.used).crash] 42)) := bAlloc hb3 _
  have hK := heap_new w3 (.cells #[.int .i64 (leftB b x.used).drop, .int .i64 (leftB b x.used).dup, .int .i64 (leftB b x.used).time, .int .i64 (leftB b x.used).crash] 42)
  replace k2 := boxAt k2 hbx
  replace k3 := boxAt k3 hbx
  have HL3 := hid_mk (bTrans HL.out hbx)
  clear k1 k4 HL hb3 hbx
  obtain ⟨x0, x1, x2, x3, x4, x5⟩ := blk6 k2
  obtain ⟨e0, e1, e2, e3, e4⟩ := blk5 k3
  obtain ⟨l0, l1, l2, l3⟩ := blk4 hK
  clear k2 k3 hK
  go_wp2
  go_ret
  exact ⟨ret_b HR.out, HL3.out⟩
set_option maxHeartbeats 4000000 in
set_option maxRecDepth 100000 in
theorem ris_5g (w : World) (vw : Value) (b : PBud) (x : PWld) (f n c who : Int) (hx : WldV w vw x) (hz : (⟨f, n, c⟩ : PID) = ⟨0, 0, 0⟩) (hw0 : 0 ≤ who) (hw : (x.acts.length : Int) ≤ who) :
    Calls Tryd.prog 76 #[uVal b, vw, eVal ⟨5, ⟨f, n, c⟩, who⟩] w fun e w' => e = .returned (.bool (isL (leftB b x.used) x ⟨5, ⟨f, n, c⟩, who⟩)) ∧ Below w.heap.size w w' := by
  obtain ⟨va, vm, rfl, g1, g2⟩ := hx
  obtain ⟨B1, d1, rfl, _⟩ := g1.form
  obtain ⟨B2, d2, rfl, _⟩ := g2.form
  have HG1 := hid_mk g1
  have HG2 := hid_mk g2
  have hsd : sameD ⟨f, n, c⟩ ⟨0, 0, 0⟩ = true := sameD_yes hz
  have hw1 : decide (who < 0) = false := decide_eq_false (by omega)
  have hw2 : decide ((x.acts.length : Int) ≤ who) = true := decide_eq_true hw
  have HR : Hid (false = isL (leftB b x.used) x ⟨5, ⟨f, n, c⟩, who⟩) := by
    show _ = _
    rw [isL_A (Or.inr rfl)]; exact (isA_who (by show ¬ (0 ≤ who ∧ who < x.acts.length); omega)).symm
  clear hz hw hw0
  clear g1 g2
  have hgD := gD
  go_enter Tryd.func76, Tryd.ntmps76
  go_wp2_with fail
  obtain ⟨k1, k2, k3, k4⟩ := three_nw w (.cells #[.int .i64 b.drop, .int .i64 b.dup, .int .i64 b.time, .int .i64 b.crash] 42) (.cells #[.slice B1 x.acts.length d1, .slice B2 x.mail.length d2, .int .i64 x.used.drop, .int .i64 x.used.dup, .int .i64 x.used.time, .int .i64 x.used.crash] 44) (.cells #[.int .i64 5, .int .i64 f, .int .i64 n, .int .i64 c, .int .i64 who] 62)
  have HL : Hid (Below w.heap.size w (((w.alloc (.cells #[.int .i64 b.drop, .int .i64 b.dup, .int .i64 b.time, .int .i64 b.crash] 42)).alloc (.cells #[.slice B1 x.acts.length d1, .slice B2 x.mail.length d2, .int .i64 x.used.drop, .int .i64 x.used.dup, .int .i64 x.used.time, .int .i64 x.used.crash] 44)).alloc (.cells #[.int .i64 5, .int .i64 f, .int .i64 n, .int .i64 c, .int .i64 who] 62))) := bAlloc (bAlloc (bAlloc (bRefl _) _) _) _
  generalize (((w.alloc (.cells #[.int .i64 b.drop, .int .i64 b.dup, .int .i64 b.time, .int .i64 b.crash] 42)).alloc (.cells #[.slice B1 x.acts.length d1, .slice B2 x.mail.length d2, .int .i64 x.used.drop, .int .i64 x.used.dup, .int .i64 x.used.time, .int .i64 x.used.crash] 44)).alloc (.cells #[.int .i64 5, .int .i64 f, .int .i64 n, .int .i64 c, .int .i64 who] 62)) = w1 at k1 k2 k3 k4 HL ⊢
  refine (rLeft_any _ b x.used _ _ _ _ _ _).mono ?_
  rintro e w3 ⟨rfl, hb3⟩
  have hbx : Below w1.heap.size w1 (w3.alloc (.cells #[.int .i64 (leftB b x.used).drop, .int .i64 (leftB b x.used).dup, .int .i64 (leftB b x.used).time, .int .i64 (leftB b x.used).crash] 42)) := bAlloc hb3 _
  have hK := heap_new w3 (.cells #[.int .i64 (leftB b x.used).drop, .int .i64 (leftB b x.used).dup, .int .i64 (leftB b x.used).time, .int .i64 (leftB b x.used).crash] 42)
  replace k2 := boxAt k2 hbx
  replace k3 := boxAt k3 hbx
  have HL3 := hid_mk (bTrans HL.out hbx)
  clear k1 k4 HL hb3 hbx
  obtain ⟨x0, x1, x2, x3, x4, x5⟩ := blk6 k2
  obtain ⟨e0, e1, e2, e3, e4⟩ := blk5 k3
  obtain ⟨l0, l1, l2, l3⟩ := blk4 hK
  clear k2 k3 hK
  go_wp2
  go_ret
  exact ⟨ret_b HR.out, HL3.out⟩
set_option maxHeartbeats 4000000 in
set_option maxRecDepth 100000 in
theorem ris_5d (w : World) (vw : Value) (b : PBud) (x : PWld) (f n c : Int) (j : Nat) (hx : WldV w vw x) (hz : (⟨f, n, c⟩ : PID) = ⟨0, 0, 0⟩) (hlt : j < x.acts.length) (hd : ∀ y, x.acts[j]? = some y → y.down ≠ 0) :
    Calls Tryd.prog 76 #[uVal b, vw, eVal ⟨5, ⟨f, n, c⟩, (j : Int)⟩] w fun e w' => e = .returned (.bool (isL (leftB b x.used) x ⟨5, ⟨f, n, c⟩, (j : Int)⟩)) ∧ Below w.heap.size w w' := by
  obtain ⟨va, vm, rfl, g1, g2⟩ := hx
  obtain ⟨B1, d1, rfl, _⟩ := g1.form
  obtain ⟨B2, d2, rfl, _⟩ := g2.form
  have HG1 := hid_mk g1
  have HG2 := hid_mk g2
  have hsd : sameD ⟨f, n, c⟩ ⟨0, 0, 0⟩ = true := sameD_yes hz
  obtain ⟨ab, ao, a, av, hA2, haj, hal, _, a1, a2, _, _, _⟩ := g1.cell (bRefl w) hlt
  cases hA2
  have haj' : x.acts[j]? = some a := haj
  have HRA : Hid (ofA (leftB b x.used) 5 a = isL (leftB b x.used) x ⟨5, ⟨f, n, c⟩, (j : Int)⟩) := by
    show _ = _
    rw [isL_A (Or.inr rfl)]
    unfold isA
    dsimp only
    rw [hz, Int.toNat_natCast, show x.acts.getD j default = a by rw [List.getD_eq_getElem?_getD, haj]; rfl]
    simp [hlt]
  have hw1 : decide ((j : Int) < 0) = false := decide_eq_false (by omega)
  have hw2 : decide ((x.acts.length : Int) ≤ (j : Int)) = false := decide_eq_false (by omega)
  have hw3 : decide (x.acts.length ≤ j) = false := decide_eq_false (by omega)
  have hji : (j : Int) < x.acts.length := by omega
  have hj0 : (0 : Int) ≤ j := by omega
  have hdd : (a.down != 0) = true := ne_yes (hd a haj)
  have HR : Hid (false = isL (leftB b x.used) x ⟨5, ⟨f, n, c⟩, (j : Int)⟩) := by
    show _ = _
    rw [← HRA.out]; unfold ofA; simp [hd a haj]
  clear hz hd haj haj' HRA
  clear g1 g2
  have hgD := gD
  go_enter Tryd.func76, Tryd.ntmps76
  go_wp2_with fail
  obtain ⟨k1, k2, k3, k4⟩ := three_nw w (.cells #[.int .i64 b.drop, .int .i64 b.dup, .int .i64 b.time, .int .i64 b.crash] 42) (.cells #[.slice (some ⟨ab, ao, none⟩) x.acts.length d1, .slice B2 x.mail.length d2, .int .i64 x.used.drop, .int .i64 x.used.dup, .int .i64 x.used.time, .int .i64 x.used.crash] 44) (.cells #[.int .i64 5, .int .i64 f, .int .i64 n, .int .i64 c, .int .i64 (j : Int)] 62)
  have HL : Hid (Below w.heap.size w (((w.alloc (.cells #[.int .i64 b.drop, .int .i64 b.dup, .int .i64 b.time, .int .i64 b.crash] 42)).alloc (.cells #[.slice (some ⟨ab, ao, none⟩) x.acts.length d1, .slice B2 x.mail.length d2, .int .i64 x.used.drop, .int .i64 x.used.dup, .int .i64 x.used.time, .int .i64 x.used.crash] 44)).alloc (.cells #[.int .i64 5, .int .i64 f, .int .i64 n, .int .i64 c, .int .i64 (j : Int)] 62))) := bAlloc (bAlloc (bAlloc (bRefl _) _) _) _
  generalize (((w.alloc (.cells #[.int .i64 b.drop, .int .i64 b.dup, .int .i64 b.time, .int .i64 b.crash] 42)).alloc (.cells #[.slice (some ⟨ab, ao, none⟩) x.acts.length d1, .slice B2 x.mail.length d2, .int .i64 x.used.drop, .int .i64 x.used.dup, .int .i64 x.used.time, .int .i64 x.used.crash] 44)).alloc (.cells #[.int .i64 5, .int .i64 f, .int .i64 n, .int .i64 c, .int .i64 (j : Int)] 62)) = w1 at k1 k2 k3 k4 HL ⊢
  refine (rLeft_any _ b x.used _ _ _ _ _ _).mono ?_
  rintro e w3 ⟨rfl, hb3⟩
  have hbx : Below w1.heap.size w1 (w3.alloc (.cells #[.int .i64 (leftB b x.used).drop, .int .i64 (leftB b x.used).dup, .int .i64 (leftB b x.used).time, .int .i64 (leftB b x.used).crash] 42)) := bAlloc hb3 _
  have hK := heap_new w3 (.cells #[.int .i64 (leftB b x.used).drop, .int .i64 (leftB b x.used).dup, .int .i64 (leftB b x.used).time, .int .i64 (leftB b x.used).crash] 42)
  replace k2 := boxAt k2 hbx
  replace k3 := boxAt k3 hbx
  have HL3 := hid_mk (bTrans HL.out hbx)
  clear k1 k4 HL hb3 hbx
  obtain ⟨x0, x1, x2, x3, x4, x5⟩ := blk6 k2
  obtain ⟨e0, e1, e2, e3, e4⟩ := blk5 k3
  obtain ⟨l0, l1, l2, l3⟩ := blk4 hK
  clear k2 k3 hK
  have y1 := (HL3.out.cell (p := ⟨ab, _, none⟩) hal).trans a1
  have y2 := (HL3.out.cell (p := ⟨ab, _, none⟩) hal).trans a2
  clear a1 a2
  go_wp2
  go_ret
  exact ⟨ret_b HR.out, HL3.out⟩
set_option maxHeartbeats 4000000 in
set_option maxRecDepth 100000 in
theorem ris_5u (w : World) (vw : Value) (b : PBud) (x : PWld) (f n c : Int) (j : Nat) (hx : WldV w vw x) (hz : (⟨f, n, c⟩ : PID) = ⟨0, 0, 0⟩) (hlt : j < x.acts.length) (hd : ∀ y, x.acts[j]? = some y → y.down = 0)  :
    Calls Tryd.prog 76 #[uVal b, vw, eVal ⟨5, ⟨f, n, c⟩, (j : Int)⟩] w fun e w' => e = .returned (.bool (isL (leftB b x.used) x ⟨5, ⟨f, n, c⟩, (j : Int)⟩)) ∧ Below w.heap.size w w' := by
  obtain ⟨va, vm, rfl, g1, g2⟩ := hx
  obtain ⟨B1, d1, rfl, _⟩ := g1.form
  obtain ⟨B2, d2, rfl, _⟩ := g2.form
  have HG1 := hid_mk g1
  have HG2 := hid_mk g2
  have hsd : sameD ⟨f, n, c⟩ ⟨0, 0, 0⟩ = true := sameD_yes hz
  obtain ⟨ab, ao, a, av, hA2, haj, hal, _, a1, a2, _, _, _⟩ := g1.cell (bRefl w) hlt
  cases hA2
  have haj' : x.acts[j]? = some a := haj
  have HRA : Hid (ofA (leftB b x.used) 5 a = isL (leftB b x.used) x ⟨5, ⟨f, n, c⟩, (j : Int)⟩) := by
    show _ = _
    rw [isL_A (Or.inr rfl)]
    unfold isA
    dsimp only
    rw [hz, Int.toNat_natCast, show x.acts.getD j default = a by rw [List.getD_eq_getElem?_getD, haj]; rfl]
    simp [hlt]
  have hw1 : decide ((j : Int) < 0) = false := decide_eq_false (by omega)
  have hw2 : decide ((x.acts.length : Int) ≤ (j : Int)) = false := decide_eq_false (by omega)
  have hw3 : decide (x.acts.length ≤ j) = false := decide_eq_false (by omega)
  have hji : (j : Int) < x.acts.length := by omega
  have hj0 : (0 : Int) ≤ j := by omega
  have hdd : (a.down != 0) = false := ne_no (hd a haj)
  have HR : Hid (decide (0 < (leftB b x.used).crash) = isL (leftB b x.used) x ⟨5, ⟨f, n, c⟩, (j : Int)⟩) := by
    show _ = _
    rw [← HRA.out]; unfold ofA; simp [hd a haj]
  clear hz hd haj haj' HRA
  clear g1 g2
  have hgD := gD
  go_enter Tryd.func76, Tryd.ntmps76
  go_wp2_with fail
  obtain ⟨k1, k2, k3, k4⟩ := three_nw w (.cells #[.int .i64 b.drop, .int .i64 b.dup, .int .i64 b.time, .int .i64 b.crash] 42) (.cells #[.slice (some ⟨ab, ao, none⟩) x.acts.length d1, .slice B2 x.mail.length d2, .int .i64 x.used.drop, .int .i64 x.used.dup, .int .i64 x.used.time, .int .i64 x.used.crash] 44) (.cells #[.int .i64 5, .int .i64 f, .int .i64 n, .int .i64 c, .int .i64 (j : Int)] 62)
  have HL : Hid (Below w.heap.size w (((w.alloc (.cells #[.int .i64 b.drop, .int .i64 b.dup, .int .i64 b.time, .int .i64 b.crash] 42)).alloc (.cells #[.slice (some ⟨ab, ao, none⟩) x.acts.length d1, .slice B2 x.mail.length d2, .int .i64 x.used.drop, .int .i64 x.used.dup, .int .i64 x.used.time, .int .i64 x.used.crash] 44)).alloc (.cells #[.int .i64 5, .int .i64 f, .int .i64 n, .int .i64 c, .int .i64 (j : Int)] 62))) := bAlloc (bAlloc (bAlloc (bRefl _) _) _) _
  generalize (((w.alloc (.cells #[.int .i64 b.drop, .int .i64 b.dup, .int .i64 b.time, .int .i64 b.crash] 42)).alloc (.cells #[.slice (some ⟨ab, ao, none⟩) x.acts.length d1, .slice B2 x.mail.length d2, .int .i64 x.used.drop, .int .i64 x.used.dup, .int .i64 x.used.time, .int .i64 x.used.crash] 44)).alloc (.cells #[.int .i64 5, .int .i64 f, .int .i64 n, .int .i64 c, .int .i64 (j : Int)] 62)) = w1 at k1 k2 k3 k4 HL ⊢
  refine (rLeft_any _ b x.used _ _ _ _ _ _).mono ?_
  rintro e w3 ⟨rfl, hb3⟩
  have hbx : Below w1.heap.size w1 (w3.alloc (.cells #[.int .i64 (leftB b x.used).drop, .int .i64 (leftB b x.used).dup, .int .i64 (leftB b x.used).time, .int .i64 (leftB b x.used).crash] 42)) := bAlloc hb3 _
  have hK := heap_new w3 (.cells #[.int .i64 (leftB b x.used).drop, .int .i64 (leftB b x.used).dup, .int .i64 (leftB b x.used).time, .int .i64 (leftB b x.used).crash] 42)
  replace k2 := boxAt k2 hbx
  replace k3 := boxAt k3 hbx
  have HL3 := hid_mk (bTrans HL.out hbx)
  clear k1 k4 HL hb3 hbx
  obtain ⟨x0, x1, x2, x3, x4, x5⟩ := blk6 k2
  obtain ⟨e0, e1, e2, e3, e4⟩ := blk5 k3
  obtain ⟨l0, l1, l2, l3⟩ := blk4 hK
  clear k2 k3 hK
  have y1 := (HL3.out.cell (p := ⟨ab, _, none⟩) hal).trans a1
  have y2 := (HL3.out.cell (p := ⟨ab, _, none⟩) hal).trans a2
  clear a1 a2
  go_wp2
  go_ret
  exact ⟨ret_b HR.out, HL3.out⟩
theorem ris_any (w : World) (vw : Value) (b : PBud) (x : PWld) (e : PEv) (hx : WldV w vw x) (hto : ∀ m ∈ x.mail, 0 ≤ m.nt.to ∧ m.nt.to < x.acts.length) :
    Calls Tryd.prog 76 #[uVal b, vw, eVal e] w fun r w' => r = .returned (.bool (isL (leftB b x.used) x e)) ∧ Below w.heap.size w w' := by
  obtain ⟨κ, ⟨f, n, c⟩, who⟩ := e
  by_cases q1 : κ = 1
  · subst q1
    cases hfi : x.mail.findIdx? (fun m => decide (m.id = ⟨f, n, c⟩)) with
    | none => exact ris_1a w vw b x f n c who hx hfi
    | some k =>
      by_cases hw : who = 0
      · subst hw; exact ris_1c w vw b x f n c k hx hto hfi
      · exact ris_1b w vw b x f n c who k hx hfi hw
  by_cases q2 : κ = 2
  · subst q2
    cases hfi : x.mail.findIdx? (fun m => decide (m.id = ⟨f, n, c⟩)) with
    | none => exact ris_2a w vw b x f n c who hx hfi
    | some k =>
      by_cases hw : who = 0
      · subst hw; exact ris_2c w vw b x f n c k hx hfi
      · exact ris_2b w vw b x f n c who k hx hfi hw
  by_cases q3 : κ = 3
  · subst q3
    cases hfi : x.mail.findIdx? (fun m => decide (m.id = ⟨f, n, c⟩)) with
    | none => exact ris_3a w vw b x f n c who hx hfi
    | some k =>
      by_cases hw : who = 0
      · subst hw; exact ris_3c w vw b x f n c k hx hfi
      · exact ris_3b w vw b x f n c who k hx hfi hw
  by_cases q4 : κ = 4
  · subst q4
    by_cases hz : (⟨f, n, c⟩ : PID) = ⟨0, 0, 0⟩
    · by_cases hw : who < 0
      · exact ris_4l w vw b x f n c who hx hz hw
      · by_cases hw1 : (x.acts.length : Int) ≤ who
        · exact ris_4g w vw b x f n c who hx hz (by omega) hw1
        · obtain ⟨j, rfl⟩ := Int.eq_ofNat_of_zero_le (show 0 ≤ who by omega)
          have hlt : j < x.acts.length := by omega
          obtain ⟨a, ha⟩ := at_lt hlt
          by_cases hd : a.down = 0
          · cases hr : a.armed with
            | true => exact ris_4u w vw b x f n c j hx hz hlt (fun y hy => by rw [ha] at hy; cases hy; exact hd) (fun y hy => by rw [ha] at hy; cases hy; exact hr)
            | false => exact ris_4n w vw b x f n c j hx hz hlt (fun y hy => by rw [ha] at hy; cases hy; exact hd) (fun y hy => by rw [ha] at hy; cases hy; exact hr)
          · exact ris_4d w vw b x f n c j hx hz hlt (fun y hy => by rw [ha] at hy; cases hy; exact hd)
    · exact ris_4z w vw b x f n c who hx hz
  by_cases q5 : κ = 5
  · subst q5
    by_cases hz : (⟨f, n, c⟩ : PID) = ⟨0, 0, 0⟩
    · by_cases hw : who < 0
      · exact ris_5l w vw b x f n c who hx hz hw
      · by_cases hw1 : (x.acts.length : Int) ≤ who
        · exact ris_5g w vw b x f n c who hx hz (by omega) hw1
        · obtain ⟨j, rfl⟩ := Int.eq_ofNat_of_zero_le (show 0 ≤ who by omega)
          have hlt : j < x.acts.length := by omega
          obtain ⟨a, ha⟩ := at_lt hlt
          by_cases hd : a.down = 0
          · exact ris_5u w vw b x f n c j hx hz hlt (fun y hy => by rw [ha] at hy; cases hy; exact hd)
          · exact ris_5d w vw b x f n c j hx hz hlt (fun y hy => by rw [ha] at hy; cases hy; exact hd)
    · exact ris_5z w vw b x f n c who hx hz
  by_cases h1 : κ < 1
  · exact ris_o1 w vw b x κ f n c who hx h1
  · exact ris_o2 w vw b x κ f n c who hx (by omega)
end Go.Proofs.YtgdloonpemaijaaDoor
