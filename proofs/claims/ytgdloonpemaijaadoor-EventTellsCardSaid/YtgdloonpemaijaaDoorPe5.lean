/-
  An event of chapter 10 that never may happen (EventOdd), the first half. Condition: the table of the instructions is in the world. An event of chapter 10 that never may happen (EventOdd). Condition: the table of the instructions is in the world. The reference's 'is' of chapter 10. Conditions: whom a message goes to is there.
-/
import Derived.Test.YtgdloonpemaijaaDoorPe4
import Derived.Test.YtgdloonpemaijaaDoorPe3
namespace Go.Proofs.YtgdloonpemaijaaDoor
open Go.RowKit
theorem x1 : xn 0 = ⟨[⟨[], true, 0, 0, 0⟩, ⟨[], false, 0, 0, 0⟩], [⟨⟨-1, 0, 0⟩, ⟨0, 0, []⟩⟩, ⟨⟨-1, 1, 0⟩, ⟨1, 0, []⟩⟩], ⟨0, 0, 0, 0⟩⟩ := by decide +kernel
theorem isM_none {l : PBud} {x : PWld} {e : PEv} (h : x.mail.findIdx? (fun m => decide (m.id = e.id)) = none) : isM l x e = false := by
  unfold isM; rw [h]; simp
theorem isM_who {l : PBud} {x : PWld} {e : PEv} (h : e.who ≠ 0) : isM l x e = false := by
  unfold isM; rw [decide_eq_false h]; rfl
theorem isA_id {l : PBud} {x : PWld} {e : PEv} (h : e.id ≠ ⟨0, 0, 0⟩) : isA l x e = false := by
  unfold isA; rw [decide_eq_false h]; rfl
theorem isA_who {l : PBud} {x : PWld} {e : PEv} (h : ¬ (0 ≤ e.who ∧ e.who < x.acts.length)) : isA l x e = false := by
  unfold isA; rw [decide_eq_false h]; simp
theorem isL_M {l : PBud} {x : PWld} {e : PEv} (h : e.kind = 1 ∨ e.kind = 2 ∨ e.kind = 3) : isL l x e = isM l x e := by unfold isL; rw [if_pos h]
theorem isL_A {l : PBud} {x : PWld} {e : PEv} (h : e.kind = 4 ∨ e.kind = 5) : isL l x e = isA l x e := by unfold isL; rw [if_neg (by omega), if_pos h]
theorem isL_0 {l : PBud} {x : PWld} {e : PEv} (h : ¬ (e.kind = 1 ∨ e.kind = 2 ∨ e.kind = 3)) (h2 : ¬ (e.kind = 4 ∨ e.kind = 5)) : isL l x e = false := by unfold isL; rw [if_neg h, if_neg h2]
end Go.Proofs.YtgdloonpemaijaaDoor
namespace Go.Proofs.YtgdloonpemaijaaDoor
open Go.RowKit
attribute [local go_sem ↓] eq6
set_option maxHeartbeats 4000000 in
set_option maxRecDepth 100000 in
theorem ris_1a (w : World) (vw : Value) (b : PBud) (x : PWld) (f n c who : Int) (hx : WldV w vw x) (hfi : x.mail.findIdx? (fun m => decide (m.id = ⟨f, n, c⟩)) = none) :
    Calls Tryd.prog 76 #[uVal b, vw, eVal ⟨1, ⟨f, n, c⟩, who⟩] w fun e w' => e = .returned (.bool (isL (leftB b x.used) x ⟨1, ⟨f, n, c⟩, who⟩)) ∧ Below w.heap.size w w' := by
  obtain ⟨va, vm, rfl, g1, g2⟩ := hx
  obtain ⟨B1, d1, rfl, _⟩ := g1.form
  obtain ⟨B2, d2, rfl, _⟩ := g2.form
  have HG1 := hid_mk g1
  have HG2 := hid_mk g2
  have hfn := fnd_nn hfi
  have HR : Hid (false = isL (leftB b x.used) x ⟨1, ⟨f, n, c⟩, who⟩) := by
    show _ = _
    rw [isL_M (Or.inl rfl)]; exact (isM_none hfi).symm
  clear hfi
  clear g1 g2
  have hgD := gD
  go_enter Tryd.func76, Tryd.ntmps76
  go_wp2_with fail
  obtain ⟨k1, k2, k3, k4⟩ := three_nw w (.cells #[.int .i64 b.drop, .int .i64 b.dup, .int .i64 b.time, .int .i64 b.crash] 42) (.cells #[.slice B1 x.acts.length d1, .slice B2 x.mail.length d2, .int .i64 x.used.drop, .int .i64 x.used.dup, .int .i64 x.used.time, .int .i64 x.used.crash] 44) (.cells #[.int .i64 1, .int .i64 f, .int .i64 n, .int .i64 c, .int .i64 who] 62)
  have HL : Hid (Below w.heap.size w (((w.alloc (.cells #[.int .i64 b.drop, .int .i64 b.dup, .int .i64 b.time, .int .i64 b.crash] 42)).alloc (.cells #[.slice B1 x.acts.length d1, .slice B2 x.mail.length d2, .int .i64 x.used.drop, .int .i64 x.used.dup, .int .i64 x.used.time, .int .i64 x.used.crash] 44)).alloc (.cells #[.int .i64 1, .int .i64 f, .int .i64 n, .int .i64 c, .int .i64 who] 62))) := bAlloc (bAlloc (bAlloc (bRefl _) _) _) _
  generalize (((w.alloc (.cells #[.int .i64 b.drop, .int .i64 b.dup, .int .i64 b.time, .int .i64 b.crash] 42)).alloc (.cells #[.slice B1 x.acts.length d1, .slice B2 x.mail.length d2, .int .i64 x.used.drop, .int .i64 x.used.dup, .int .i64 x.used.time, .int .i64 x.used.crash] 44)).alloc (.cells #[.int .i64 1, .int .i64 f, .int .i64 n, .int .i64 c, .int .i64 who] 62)) = w1 at k1 k2 k3 k4 HL ⊢
  refine (rLeft_any _ b x.used _ _ _ _ _ _).mono ?_
  rintro e w3 ⟨rfl, hb3⟩
  have hbx : Below w1.heap.size w1 (w3.alloc (.cells #[.int .i64 (leftB b x.used).drop, .int .i64 (leftB b x.used).dup, .int .i64 (leftB b x.used).time, .int .i64 (leftB b x.used).crash] 42)) := bAlloc hb3 _
  have hK := heap_new w3 (.cells #[.int .i64 (leftB b x.used).drop, .int .i64 (leftB b x.used).dup, .int .i64 (leftB b x.used).time, .int .i64 (leftB b x.used).crash] 42)
  replace k2 := boxAt k2 hbx
  replace k3 := boxAt k3 hbx
  have HL3 := hid_mk (bTrans HL.out hbx)
  clear k1 k4 HL hb3 hbx
  obtain ⟨x0, x1, x2, x3, x4, x5⟩ := blk6 k2
  obtain ⟨e0, e1, e2, e3, e4⟩ := blk5 k3
  obtain ⟨l0, l1, l2, l3⟩ := blk4 hK
  go_wp2_with fail
  generalize w3.alloc (.cells #[.int .i64 (leftB b x.used).drop, .int .i64 (leftB b x.used).dup, .int .i64 (leftB b x.used).time, .int .i64 (leftB b x.used).crash] 42) = w4 at k2 k3 hK HL3 x0 x1 x2 x3 x4 x5 e0 e1 e2 e3 e4 l0 l1 l2 l3 ⊢
  refine (rfind_any _ _ x.mail ⟨f, n, c⟩ (HG2.out.below HL3.out)).mono ?_
  rintro e w5 ⟨rfl, hb5⟩
  replace k2 := boxAt k2 hb5
  replace k3 := boxAt k3 hb5
  replace hK := boxAt hK hb5
  have HL5 := hid_mk (bTrans HL3.out hb5)
  clear x0 x1 x2 x3 x4 x5 e0 e1 e2 e3 e4 l0 l1 l2 l3
  obtain ⟨x0, x1, x2, x3, x4, x5⟩ := blk6 k2
  obtain ⟨e0, e1, e2, e3, e4⟩ := blk5 k3
  obtain ⟨l0, l1, l2, l3⟩ := blk4 hK
  clear k2 k3 hK hb5 HL3
  go_wp2
  go_ret
  exact ⟨ret_b HR.out, HL5.out⟩
set_option maxHeartbeats 4000000 in
set_option maxRecDepth 100000 in
theorem ris_1b (w : World) (vw : Value) (b : PBud) (x : PWld) (f n c who : Int) (k : Nat) (hx : WldV w vw x) (hfi : x.mail.findIdx? (fun m => decide (m.id = ⟨f, n, c⟩)) = some k) (hw : who ≠ 0) :
    Calls Tryd.prog 76 #[uVal b, vw, eVal ⟨1, ⟨f, n, c⟩, who⟩] w fun e w' => e = .returned (.bool (isL (leftB b x.used) x ⟨1, ⟨f, n, c⟩, who⟩)) ∧ Below w.heap.size w w' := by
  obtain ⟨va, vm, rfl, g1, g2⟩ := hx
  obtain ⟨B1, d1, rfl, _⟩ := g1.form
  obtain ⟨B2, d2, rfl, _⟩ := g2.form
  have HG1 := hid_mk g1
  have HG2 := hid_mk g2
  have hfn := fnd_sm hfi
  have hlt := fnd_lt hfi
  have HR : Hid (false = isL (leftB b x.used) x ⟨1, ⟨f, n, c⟩, who⟩) := by
    show _ = _
    rw [isL_M (Or.inl rfl)]; exact (isM_who hw).symm
  have hwn : (who != 0) = true := ne_yes hw
  have hk0 : decide ((k : Int) < 0) = false := decide_eq_false (by omega)
  clear hfi hw
  clear g1 g2
  have hgD := gD
  go_enter Tryd.func76, Tryd.ntmps76
  go_wp2_with fail
  obtain ⟨k1, k2, k3, k4⟩ := three_nw w (.cells #[.int .i64 b.drop, .int .i64 b.dup, .int .i64 b.time, .int .i64 b.crash] 42) (.cells #[.slice B1 x.acts.length d1, .slice B2 x.mail.length d2, .int .i64 x.used.drop, .int .i64 x.used.dup, .int .i64 x.used.time, .int .i64 x.used.crash] 44) (.cells #[.int .i64 1, .int .i64 f, .int .i64 n, .int .i64 c, .int .i64 who] 62)
  have HL : Hid (Below w.heap.size w (((w.alloc (.cells #[.int .i64 b.drop, .int .i64 b.dup, .int .i64 b.time, .int .i64 b.crash] 42)).alloc (.cells #[.slice B1 x.acts.length d1, .slice B2 x.mail.length d2, .int .i64 x.used.drop, .int .i64 x.used.dup, .int .i64 x.used.time, .int .i64 x.used.crash] 44)).alloc (.cells #[.int .i64 1, .int .i64 f, .int .i64 n, .int .i64 c, .int .i64 who] 62))) := bAlloc (bAlloc (bAlloc (bRefl _) _) _) _
  generalize (((w.alloc (.cells #[.int .i64 b.drop, .int .i64 b.dup, .int .i64 b.time, .int .i64 b.crash] 42)).alloc (.cells #[.slice B1 x.acts.length d1, .slice B2 x.mail.length d2, .int .i64 x.used.drop, .int .i64 x.used.dup, .int .i64 x.used.time, .int .i64 x.used.crash] 44)).alloc (.cells #[.int .i64 1, .int .i64 f, .int .i64 n, .int .i64 c, .int .i64 who] 62)) = w1 at k1 k2 k3 k4 HL ⊢
  refine (rLeft_any _ b x.used _ _ _ _ _ _).mono ?_
  rintro e w3 ⟨rfl, hb3⟩
  have hbx : Below w1.heap.size w1 (w3.alloc (.cells #[.int .i64 (leftB b x.used).drop, .int .i64 (leftB b x.used).dup, .int .i64 (leftB b x.used).time, .int .i64 (leftB b x.used).crash] 42)) := bAlloc hb3 _
  have hK := heap_new w3 (.cells #[.int .i64 (leftB b x.used).drop, .int .i64 (leftB b x.used).dup, .int .i64 (leftB b x.used).time, .int .i64 (leftB b x.used).crash] 42)
  replace k2 := boxAt k2 hbx
  replace k3 := boxAt k3 hbx
  have HL3 := hid_mk (bTrans HL.out hbx)
  clear k1 k4 HL hb3 hbx
  obtain ⟨x0, x1, x2, x3, x4, x5⟩ := blk6 k2
  obtain ⟨e0, e1, e2, e3, e4⟩ := blk5 k3
  obtain ⟨l0, l1, l2, l3⟩ := blk4 hK
  go_wp2_with fail
  generalize w3.alloc (.cells #[.int .i64 (leftB b x.used).drop, .int .i64 (leftB b x.used).dup, .int .i64 (leftB b x.used).time, .int .i64 (leftB b x.used).crash] 42) = w4 at k2 k3 hK HL3 x0 x1 x2 x3 x4 x5 e0 e1 e2 e3 e4 l0 l1 l2 l3 ⊢
  refine (rfind_any _ _ x.mail ⟨f, n, c⟩ (HG2.out.below HL3.out)).mono ?_
  rintro e w5 ⟨rfl, hb5⟩
  replace k2 := boxAt k2 hb5
  replace k3 := boxAt k3 hb5
  replace hK := boxAt hK hb5
  have HL5 := hid_mk (bTrans HL3.out hb5)
  clear x0 x1 x2 x3 x4 x5 e0 e1 e2 e3 e4 l0 l1 l2 l3
  obtain ⟨x0, x1, x2, x3, x4, x5⟩ := blk6 k2
  obtain ⟨e0, e1, e2, e3, e4⟩ := blk5 k3
  obtain ⟨l0, l1, l2, l3⟩ := blk4 hK
  clear k2 k3 hK hb5 HL3
  go_wp2
  go_ret
  exact ⟨ret_b HR.out, HL5.out⟩
set_option maxHeartbeats 4000000 in
set_option maxRecDepth 100000 in
theorem ris_1c (w : World) (vw : Value) (b : PBud) (x : PWld) (f n c : Int) (k : Nat) (hx : WldV w vw x) (hto : ∀ m ∈ x.mail, 0 ≤ m.nt.to ∧ m.nt.to < x.acts.length) (hfi : x.mail.findIdx? (fun m => decide (m.id = ⟨f, n, c⟩)) = some k) :
    Calls Tryd.prog 76 #[uVal b, vw, eVal ⟨1, ⟨f, n, c⟩, 0⟩] w fun e w' => e = .returned (.bool (isL (leftB b x.used) x ⟨1, ⟨f, n, c⟩, 0⟩)) ∧ Below w.heap.size w w' := by
  obtain ⟨va, vm, rfl, g1, g2⟩ := hx
  obtain ⟨B1, d1, rfl, _⟩ := g1.form
  obtain ⟨B2, d2, rfl, _⟩ := g2.form
  have HG1 := hid_mk g1
  have HG2 := hid_mk g2
  have hfn := fnd_sm hfi
  have hlt := fnd_lt hfi
  obtain ⟨m, hm⟩ := at_lt hlt
  have HRM : Hid (ofM (leftB b x.used) x 1 m = isL (leftB b x.used) x ⟨1, ⟨f, n, c⟩, 0⟩) := by
    show _ = _
    rw [isL_M (Or.inl rfl)]; unfold isM; dsimp only; rw [hfi]; simp [List.getD_eq_getElem?_getD, hm]
  obtain ⟨ht0, ht1⟩ := hto m (List.mem_of_getElem? hm)
  obtain ⟨j, hj⟩ : ∃ j : Nat, m.nt.to = j := ⟨m.nt.to.toNat, by omega⟩
  have hjl : j < x.acts.length := by omega
  obtain ⟨mb, mo, hA, _, hml, hmc⟩ := g2.at (by omega)
  cases hA
  obtain ⟨_, _, _, j4, _⟩ := hmc k m hm
  rw [hj] at j4
  obtain ⟨ab, ao, a, av, hA2, haj, hal, _, _, a2, _, _, _⟩ := g1.cell (bRefl w) hjl
  cases hA2
  have HR : Hid ((a.down == 0) = isL (leftB b x.used) x ⟨1, ⟨f, n, c⟩, 0⟩) := by
    show _ = _
    rw [← HRM.out]; unfold ofM; simp [hj, List.getD_eq_getElem?_getD, haj]; rfl
  have hki : (k : Int) < x.mail.length := by omega
  have hk00 : (0 : Int) ≤ k := by omega
  have hji : (j : Int) < x.acts.length := by omega
  have hj0 : (0 : Int) ≤ j := by omega
  have hk0 : decide ((k : Int) < 0) = false := decide_eq_false (by omega)
  clear hfi hmc hm haj hto HRM
  clear g1 g2
  have hgD := gD
  go_enter Tryd.func76, Tryd.ntmps76
  go_wp2_with fail
  obtain ⟨k1, k2, k3, k4⟩ := three_nw w (.cells #[.int .i64 b.drop, .int .i64 b.dup, .int .i64 b.time, .int .i64 b.crash] 42) (.cells #[.slice (some ⟨ab, ao, none⟩) x.acts.length d1, .slice (some ⟨mb, mo, none⟩) x.mail.length d2, .int .i64 x.used.drop, .int .i64 x.used.dup, .int .i64 x.used.time, .int .i64 x.used.crash] 44) (.cells #[.int .i64 1, .int .i64 f, .int .i64 n, .int .i64 c, .int .i64 0] 62)
  have HL : Hid (Below w.heap.size w (((w.alloc (.cells #[.int .i64 b.drop, .int .i64 b.dup, .int .i64 b.time, .int .i64 b.crash] 42)).alloc (.cells #[.slice (some ⟨ab, ao, none⟩) x.acts.length d1, .slice (some ⟨mb, mo, none⟩) x.mail.length d2, .int .i64 x.used.drop, .int .i64 x.used.dup, .int .i64 x.used.time, .int .i64 x.used.crash] 44)).alloc (.cells #[.int .i64 1, .int .i64 f, .int .i64 n, .int .i64 c, .int .i64 0] 62))) := bAlloc (bAlloc (bAlloc (bRefl _) _) _) _
  generalize (((w.alloc (.cells #[.int .i64 b.drop, .int .i64 b.dup, .int .i64 b.time, .int .i64 b.crash] 42)).alloc (.cells #[.slice (some ⟨ab, ao, none⟩) x.acts.length d1, .slice (some ⟨mb, mo, none⟩) x.mail.length d2, .int .i64 x.used.drop, .int .i64 x.used.dup, .int .i64 x.used.time, .int .i64 x.used.crash] 44)).alloc (.cells #[.int .i64 1, .int .i64 f, .int .i64 n, .int .i64 c, .int .i64 0] 62)) = w1 at k1 k2 k3 k4 HL ⊢
  refine (rLeft_any _ b x.used _ _ _ _ _ _).mono ?_
  rintro e w3 ⟨rfl, hb3⟩
  have hbx : Below w1.heap.size w1 (w3.alloc (.cells #[.int .i64 (leftB b x.used).drop, .int .i64 (leftB b x.used).dup, .int .i64 (leftB b x.used).time, .int .i64 (leftB b x.used).crash] 42)) := bAlloc hb3 _
  have hK := heap_new w3 (.cells #[.int .i64 (leftB b x.used).drop, .int .i64 (leftB b x.used).dup, .int .i64 (leftB b x.used).time, .int .i64 (leftB b x.used).crash] 42)
  replace k2 := boxAt k2 hbx
  replace k3 := boxAt k3 hbx
  have HL3 := hid_mk (bTrans HL.out hbx)
  clear k1 k4 HL hb3 hbx
  obtain ⟨x0, x1, x2, x3, x4, x5⟩ := blk6 k2
  obtain ⟨e0, e1, e2, e3, e4⟩ := blk5 k3
  obtain ⟨l0, l1, l2, l3⟩ := blk4 hK
  go_wp2_with fail
  generalize w3.alloc (.cells #[.int .i64 (leftB b x.used).drop, .int .i64 (leftB b x.used).dup, .int .i64 (leftB b x.used).time, .int .i64 (leftB b x.used).crash] 42) = w4 at k2 k3 hK HL3 x0 x1 x2 x3 x4 x5 e0 e1 e2 e3 e4 l0 l1 l2 l3 ⊢
  refine (rfind_any _ _ x.mail ⟨f, n, c⟩ (HG2.out.below HL3.out)).mono ?_
  rintro e w5 ⟨rfl, hb5⟩
  replace k2 := boxAt k2 hb5
  replace k3 := boxAt k3 hb5
  replace hK := boxAt hK hb5
  have HL5 := hid_mk (bTrans HL3.out hb5)
  clear x0 x1 x2 x3 x4 x5 e0 e1 e2 e3 e4 l0 l1 l2 l3
  obtain ⟨x0, x1, x2, x3, x4, x5⟩ := blk6 k2
  obtain ⟨e0, e1, e2, e3, e4⟩ := blk5 k3
  obtain ⟨l0, l1, l2, l3⟩ := blk4 hK
  have y4 := (HL5.out.cell (p := ⟨mb, _, none⟩) hml).trans j4
  have y2 := (HL5.out.cell (p := ⟨ab, _, none⟩) hal).trans a2
  clear j4 a2
  clear k2 k3 hK hb5 HL3
  go_wp2
  go_quiet (fail)
  go_wp2
  go_ret
  exact ⟨ret_b HR.out, bTrans HL5.out (quiet_below ⟨_, rfl⟩)⟩
set_option maxHeartbeats 4000000 in
set_option maxRecDepth 100000 in
theorem ris_2a (w : World) (vw : Value) (b : PBud) (x : PWld) (f n c who : Int) (hx : WldV w vw x) (hfi : x.mail.findIdx? (fun m => decide (m.id = ⟨f, n, c⟩)) = none) :
    Calls Tryd.prog 76 #[uVal b, vw, eVal ⟨2, ⟨f, n, c⟩, who⟩] w fun e w' => e = .returned (.bool (isL (leftB b x.used) x ⟨2, ⟨f, n, c⟩, who⟩)) ∧ Below w.heap.size w w' := by
  obtain ⟨va, vm, rfl, g1, g2⟩ := hx
  obtain ⟨B1, d1, rfl, _⟩ := g1.form
  obtain ⟨B2, d2, rfl, _⟩ := g2.form
  have HG1 := hid_mk g1
  have HG2 := hid_mk g2
  have hfn := fnd_nn hfi
  have HR : Hid (false = isL (leftB b x.used) x ⟨2, ⟨f, n, c⟩, who⟩) := by
    show _ = _
    rw [isL_M (Or.inr (Or.inl rfl))]; exact (isM_none hfi).symm
  clear hfi
  clear g1 g2
  have hgD := gD
  go_enter Tryd.func76, Tryd.ntmps76
  go_wp2_with fail
  obtain ⟨k1, k2, k3, k4⟩ := three_nw w (.cells #[.int .i64 b.drop, .int .i64 b.dup, .int .i64 b.time, .int .i64 b.crash] 42) (.cells #[.slice B1 x.acts.length d1, .slice B2 x.mail.length d2, .int .i64 x.used.drop, .int .i64 x.used.dup, .int .i64 x.used.time, .int .i64 x.used.crash] 44) (.cells #[.int .i64 2, .int .i64 f, .int .i64 n, .int .i64 c, .int .i64 who] 62)
  have HL : Hid (Below w.heap.size w (((w.alloc (.cells #[.int .i64 b.drop, .int .i64 b.dup, .int .i64 b.time, .int .i64 b.crash] 42)).alloc (.cells #[.slice B1 x.acts.length d1, .slice B2 x.mail.length d2, .int .i64 x.used.drop, .int .i64 x.used.dup, .int .i64 x.used.time, .int .i64 x.used.crash] 44)).alloc (.cells #[.int .i64 2, .int .i64 f, .int .i64 n, .int .i64 c, .int .i64 who] 62))) := bAlloc (bAlloc (bAlloc (bRefl _) _) _) _
  generalize (((w.alloc (.cells #[.int .i64 b.drop, .int .i64 b.dup, .int .i64 b.time, .int .i64 b.crash] 42)).alloc (.cells #[.slice B1 x.acts.length d1, .slice B2 x.mail.length d2, .int .i64 x.used.drop, .int .i64 x.used.dup, .int .i64 x.used.time, .int .i64 x.used.crash] 44)).alloc (.cells #[.int .i64 2, .int .i64 f, .int .i64 n, .int .i64 c, .int .i64 who] 62)) = w1 at k1 k2 k3 k4 HL ⊢
  refine (rLeft_any _ b x.used _ _ _ _ _ _).mono ?_
  rintro e w3 ⟨rfl, hb3⟩
  have hbx : Below w1.heap.size w1 (w3.alloc (.cells #[.int .i64 (leftB b x.used).drop, .int .i64 (leftB b x.used).dup, .int .i64 (leftB b x.used).time, .int .i64 (leftB b x.used).crash] 42)) := bAlloc hb3 _
  have hK := heap_new w3 (.cells #[.int .i64 (leftB b x.used).drop, .int .i64 (leftB b x.used).dup, .int .i64 (leftB b x.used).time, .int .i64 (leftB b x.used).crash] 42)
  replace k2 := boxAt k2 hbx
  replace k3 := boxAt k3 hbx
  have HL3 := hid_mk (bTrans HL.out hbx)
  clear k1 k4 HL hb3 hbx
  obtain ⟨x0, x1, x2, x3, x4, x5⟩ := blk6 k2
  obtain ⟨e0, e1, e2, e3, e4⟩ := blk5 k3
  obtain ⟨l0, l1, l2, l3⟩ := blk4 hK
  go_wp2_with fail
  generalize w3.alloc (.cells #[.int .i64 (leftB b x.used).drop, .int .i64 (leftB b x.used).dup, .int .i64 (leftB b x.used).time, .int .i64 (leftB b x.used).crash] 42) = w4 at k2 k3 hK HL3 x0 x1 x2 x3 x4 x5 e0 e1 e2 e3 e4 l0 l1 l2 l3 ⊢
  refine (rfind_any _ _ x.mail ⟨f, n, c⟩ (HG2.out.below HL3.out)).mono ?_
  rintro e w5 ⟨rfl, hb5⟩
  replace k2 := boxAt k2 hb5
  replace k3 := boxAt k3 hb5
  replace hK := boxAt hK hb5
  have HL5 := hid_mk (bTrans HL3.out hb5)
  clear x0 x1 x2 x3 x4 x5 e0 e1 e2 e3 e4 l0 l1 l2 l3
  obtain ⟨x0, x1, x2, x3, x4, x5⟩ := blk6 k2
  obtain ⟨e0, e1, e2, e3, e4⟩ := blk5 k3
  obtain ⟨l0, l1, l2, l3⟩ := blk4 hK
  clear k2 k3 hK hb5 HL3
  go_wp2
  go_ret
  exact ⟨ret_b HR.out, HL5.out⟩
set_option maxHeartbeats 4000000 in
set_option maxRecDepth 100000 in
theorem ris_2b (w : World) (vw : Value) (b : PBud) (x : PWld) (f n c who : Int) (k : Nat) (hx : WldV w vw x) (hfi : x.mail.findIdx? (fun m => decide (m.id = ⟨f, n, c⟩)) = some k) (hw : who ≠ 0) :
    Calls Tryd.prog 76 #[uVal b, vw, eVal ⟨2, ⟨f, n, c⟩, who⟩] w fun e w' => e = .returned (.bool (isL (leftB b x.used) x ⟨2, ⟨f, n, c⟩, who⟩)) ∧ Below w.heap.size w w' := by
  obtain ⟨va, vm, rfl, g1, g2⟩ := hx
  obtain ⟨B1, d1, rfl, _⟩ := g1.form
  obtain ⟨B2, d2, rfl, _⟩ := g2.form
  have HG1 := hid_mk g1
  have HG2 := hid_mk g2
  have hfn := fnd_sm hfi
  have hlt := fnd_lt hfi
  have HR : Hid (false = isL (leftB b x.used) x ⟨2, ⟨f, n, c⟩, who⟩) := by
    show _ = _
    rw [isL_M (Or.inr (Or.inl rfl))]; exact (isM_who hw).symm
  have hwn : (who != 0) = true := ne_yes hw
  have hk0 : decide ((k : Int) < 0) = false := decide_eq_false (by omega)
  clear hfi hw
  clear g1 g2
  have hgD := gD
  go_enter Tryd.func76, Tryd.ntmps76
  go_wp2_with fail
  obtain ⟨k1, k2, k3, k4⟩ := three_nw w (.cells #[.int .i64 b.drop, .int .i64 b.dup, .int .i64 b.time, .int .i64 b.crash] 42) (.cells #[.slice B1 x.acts.length d1, .slice B2 x.mail.length d2, .int .i64 x.used.drop, .int .i64 x.used.dup, .int .i64 x.used.time, .int .i64 x.used.crash] 44) (.cells #[.int .i64 2, .int .i64 f, .int .i64 n, .int .i64 c, .int .i64 who] 62)
  have HL : Hid (Below w.heap.size w (((w.alloc (.cells #[.int .i64 b.drop, .int .i64 b.dup, .int .i64 b.time, .int .i64 b.crash] 42)).alloc (.cells #[.slice B1 x.acts.length d1, .slice B2 x.mail.length d2, .int .i64 x.used.drop, .int .i64 x.used.dup, .int .i64 x.used.time, .int .i64 x.used.crash] 44)).alloc (.cells #[.int .i64 2, .int .i64 f, .int .i64 n, .int .i64 c, .int .i64 who] 62))) := bAlloc (bAlloc (bAlloc (bRefl _) _) _) _
  generalize (((w.alloc (.cells #[.int .i64 b.drop, .int .i64 b.dup, .int .i64 b.time, .int .i64 b.crash] 42)).alloc (.cells #[.slice B1 x.acts.length d1, .slice B2 x.mail.length d2, .int .i64 x.used.drop, .int .i64 x.used.dup, .int .i64 x.used.time, .int .i64 x.used.crash] 44)).alloc (.cells #[.int .i64 2, .int .i64 f, .int .i64 n, .int .i64 c, .int .i64 who] 62)) = w1 at k1 k2 k3 k4 HL ⊢
  refine (rLeft_any _ b x.used _ _ _ _ _ _).mono ?_
  rintro e w3 ⟨rfl, hb3⟩
  have hbx : Below w1.heap.size w1 (w3.alloc (.cells #[.int .i64 (leftB b x.used).drop, .int .i64 (leftB b x.used).dup, .int .i64 (leftB b x.used).time, .int .i64 (leftB b x.used).crash] 42)) := bAlloc hb3 _
  have hK := heap_new w3 (.cells #[.int .i64 (leftB b x.used).drop, .int .i64 (leftB b x.used).dup, .int .i64 (leftB b x.used).time, .int .i64 (leftB b x.used).crash] 42)
  replace k2 := boxAt k2 hbx
  replace k3 := boxAt k3 hbx
  have HL3 := hid_mk (bTrans HL.out hbx)
  clear k1 k4 HL hb3 hbx
  obtain ⟨x0, x1, x2, x3, x4, x5⟩ := blk6 k2
  obtain ⟨e0, e1, e2, e3, e4⟩ := blk5 k3
  obtain ⟨l0, l1, l2, l3⟩ := blk4 hK
  go_wp2_with fail
  generalize w3.alloc (.cells #[.int .i64 (leftB b x.used).drop, .int .i64 (leftB b x.used).dup, .int .i64 (leftB b x.used).time, .int .i64 (leftB b x.used).crash] 42) = w4 at k2 k3 hK HL3 x0 x1 x2 x3 x4 x5 e0 e1 e2 e3 e4 l0 l1 l2 l3 ⊢
  refine (rfind_any _ _ x.mail ⟨f, n, c⟩ (HG2.out.below HL3.out)).mono ?_
  rintro e w5 ⟨rfl, hb5⟩
  replace k2 := boxAt k2 hb5
  replace k3 := boxAt k3 hb5
  replace hK := boxAt hK hb5
  have HL5 := hid_mk (bTrans HL3.out hb5)
  clear x0 x1 x2 x3 x4 x5 e0 e1 e2 e3 e4 l0 l1 l2 l3
  obtain ⟨x0, x1, x2, x3, x4, x5⟩ := blk6 k2
  obtain ⟨e0, e1, e2, e3, e4⟩ := blk5 k3
  obtain ⟨l0, l1, l2, l3⟩ := blk4 hK
  clear k2 k3 hK hb5 HL3
  go_wp2
  go_ret
  exact ⟨ret_b HR.out, HL5.out⟩
set_option maxHeartbeats 4000000 in
set_option maxRecDepth 100000 in
theorem ris_2c (w : World) (vw : Value) (b : PBud) (x : PWld) (f n c : Int) (k : Nat) (hx : WldV w vw x) (hfi : x.mail.findIdx? (fun m => decide (m.id = ⟨f, n, c⟩)) = some k) :
    Calls Tryd.prog 76 #[uVal b, vw, eVal ⟨2, ⟨f, n, c⟩, 0⟩] w fun e w' => e = .returned (.bool (isL (leftB b x.used) x ⟨2, ⟨f, n, c⟩, 0⟩)) ∧ Below w.heap.size w w' := by
  obtain ⟨va, vm, rfl, g1, g2⟩ := hx
  obtain ⟨B1, d1, rfl, _⟩ := g1.form
  obtain ⟨B2, d2, rfl, _⟩ := g2.form
  have HG1 := hid_mk g1
  have HG2 := hid_mk g2
  have hfn := fnd_sm hfi
  have hlt := fnd_lt hfi
  obtain ⟨m, hm⟩ := at_lt hlt
  have HRM : Hid (ofM (leftB b x.used) x 2 m = isL (leftB b x.used) x ⟨2, ⟨f, n, c⟩, 0⟩) := by
    show _ = _
    rw [isL_M (Or.inr (Or.inl rfl))]; unfold isM; dsimp only; rw [hfi]; simp [List.getD_eq_getElem?_getD, hm]
  have HR : Hid (decide (0 < (leftB b x.used).drop) = isL (leftB b x.used) x ⟨2, ⟨f, n, c⟩, 0⟩) := by
    show _ = _
    rw [← HRM.out]; unfold ofM; simp
  have hk0 : decide ((k : Int) < 0) = false := decide_eq_false (by omega)
  clear hfi hm HRM
  clear g1 g2
  have hgD := gD
  go_enter Tryd.func76, Tryd.ntmps76
  go_wp2_with fail
  obtain ⟨k1, k2, k3, k4⟩ := three_nw w (.cells #[.int .i64 b.drop, .int .i64 b.dup, .int .i64 b.time, .int .i64 b.crash] 42) (.cells #[.slice B1 x.acts.length d1, .slice B2 x.mail.length d2, .int .i64 x.used.drop, .int .i64 x.used.dup, .int .i64 x.used.time, .int .i64 x.used.crash] 44) (.cells #[.int .i64 2, .int .i64 f, .int .i64 n, .int .i64 c, .int .i64 0] 62)
  have HL : Hid (Below w.heap.size w (((w.alloc (.cells #[.int .i64 b.drop, .int .i64 b.dup, .int .i64 b.time, .int .i64 b.crash] 42)).alloc (.cells #[.slice B1 x.acts.length d1, .slice B2 x.mail.length d2, .int .i64 x.used.drop, .int .i64 x.used.dup, .int .i64 x.used.time, .int .i64 x.used.crash] 44)).alloc (.cells #[.int .i64 2, .int .i64 f, .int .i64 n, .int .i64 c, .int .i64 0] 62))) := bAlloc (bAlloc (bAlloc (bRefl _) _) _) _
  generalize (((w.alloc (.cells #[.int .i64 b.drop, .int .i64 b.dup, .int .i64 b.time, .int .i64 b.crash] 42)).alloc (.cells #[.slice B1 x.acts.length d1, .slice B2 x.mail.length d2, .int .i64 x.used.drop, .int .i64 x.used.dup, .int .i64 x.used.time, .int .i64 x.used.crash] 44)).alloc (.cells #[.int .i64 2, .int .i64 f, .int .i64 n, .int .i64 c, .int .i64 0] 62)) = w1 at k1 k2 k3 k4 HL ⊢
  refine (rLeft_any _ b x.used _ _ _ _ _ _).mono ?_
  rintro e w3 ⟨rfl, hb3⟩
  have hbx : Below w1.heap.size w1 (w3.alloc (.cells #[.int .i64 (leftB b x.used).drop, .int .i64 (leftB b x.used).dup, .int .i64 (leftB b x.used).time, .int .i64 (leftB b x.used).crash] 42)) := bAlloc hb3 _
  have hK := heap_new w3 (.cells #[.int .i64 (leftB b x.used).drop, .int .i64 (leftB b x.used).dup, .int .i64 (leftB b x.used).time, .int .i64 (leftB b x.used).crash] 42)
  replace k2 := boxAt k2 hbx
  replace k3 := boxAt k3 hbx
  have HL3 := hid_mk (bTrans HL.out hbx)
  clear k1 k4 HL hb3 hbx
  obtain ⟨x0, x1, x2, x3, x4, x5⟩ := blk6 k2
  obtain ⟨e0, e1, e2, e3, e4⟩ := blk5 k3
  obtain ⟨l0, l1, l2, l3⟩ := blk4 hK
  go_wp2_with fail
  generalize w3.alloc (.cells #[.int .i64 (leftB b x.used).drop, .int .i64 (leftB b x.used).dup, .int .i64 (leftB b x.used).time, .int .i64 (leftB b x.used).crash] 42) = w4 at k2 k3 hK HL3 x0 x1 x2 x3 x4 x5 e0 e1 e2 e3 e4 l0 l1 l2 l3 ⊢
  refine (rfind_any _ _ x.mail ⟨f, n, c⟩ (HG2.out.below HL3.out)).mono ?_
  rintro e w5 ⟨rfl, hb5⟩
  replace k2 := boxAt k2 hb5
  replace k3 := boxAt k3 hb5
  replace hK := boxAt hK hb5
  have HL5 := hid_mk (bTrans HL3.out hb5)
  clear x0 x1 x2 x3 x4 x5 e0 e1 e2 e3 e4 l0 l1 l2 l3
  obtain ⟨x0, x1, x2, x3, x4, x5⟩ := blk6 k2
  obtain ⟨e0, e1, e2, e3, e4⟩ := blk5 k3
  obtain ⟨l0, l1, l2, l3⟩ := blk4 hK
  clear k2 k3 hK hb5 HL3
  go_wp2
  go_ret
  exact ⟨ret_b HR.out, HL5.out⟩
set_option maxHeartbeats 4000000 in
set_option maxRecDepth 100000 in
theorem ris_3a (w : World) (vw : Value) (b : PBud) (x : PWld) (f n c who : Int) (hx : WldV w vw x) (hfi : x.mail.findIdx? (fun m => decide (m.id = ⟨f, n, c⟩)) = none) :
    Calls Tryd.prog 76 #[uVal b, vw, eVal ⟨3, ⟨f, n, c⟩, who⟩] w fun e w' => e = .returned (.bool (isL (leftB b x.used) x ⟨3, ⟨f, n, c⟩, who⟩)) ∧ Below w.heap.size w w' := by
  obtain ⟨va, vm, rfl, g1, g2⟩ := hx
  obtain ⟨B1, d1, rfl, _⟩ := g1.form
  obtain ⟨B2, d2, rfl, _⟩ := g2.form
  have HG1 := hid_mk g1
  have HG2 := hid_mk g2
  have hfn := fnd_nn hfi
  have HR : Hid (false = isL (leftB b x.used) x ⟨3, ⟨f, n, c⟩, who⟩) := by
    show _ = _
    rw [isL_M (Or.inr (Or.inr rfl))]; exact (isM_none hfi).symm
  clear hfi
  clear g1 g2
  have hgD := gD
  go_enter Tryd.func76, Tryd.ntmps76
  go_wp2_with fail
  obtain ⟨k1, k2, k3, k4⟩ := three_nw w (.cells #[.int .i64 b.drop, .int .i64 b.dup, .int .i64 b.time, .int .i64 b.crash] 42) (.cells #[.slice B1 x.acts.length d1, .slice B2 x.mail.length d2, .int .i64 x.used.drop, .int .i64 x.used.dup, .int .i64 x.used.time, .int .i64 x.used.crash] 44) (.cells #[.int .i64 3, .int .i64 f, .int .i64 n, .int .i64 c, .int .i64 who] 62)
  have HL : Hid (Below w.heap.size w (((w.alloc (.cells #[.int .i64 b.drop, .int .i64 b.dup, .int .i64 b.time, .int .i64 b.crash] 42)).alloc (.cells #[.slice B1 x.acts.length d1, .slice B2 x.mail.length d2, .int .i64 x.used.drop, .int .i64 x.used.dup, .int .i64 x.used.time, .int .i64 x.used.crash] 44)).alloc (.cells #[.int .i64 3, .int .i64 f, .int .i64 n, .int .i64 c, .int .i64 who] 62))) := bAlloc (bAlloc (bAlloc (bRefl _) _) _) _
  generalize (((w.alloc (.cells #[.int .i64 b.drop, .int .i64 b.dup, .int .i64 b.time, .int .i64 b.crash] 42)).alloc (.cells #[.slice B1 x.acts.length d1, .slice B2 x.mail.length d2, .int .i64 x.used.drop, .int .i64 x.used.dup, .int .i64 x.used.time, .int .i64 x.used.crash] 44)).alloc (.cells #[.int .i64 3, .int .i64 f, .int .i64 n, .int .i64 c, .int .i64 who] 62)) = w1 at k1 k2 k3 k4 HL ⊢
  refine (rLeft_any _ b x.used _ _ _ _ _ _).mono ?_
  rintro e w3 ⟨rfl, hb3⟩
  have hbx : Below w1.heap.size w1 (w3.alloc (.cells #[.int .i64 (leftB b x.used).drop, .int .i64 (leftB b x.used).dup, .int .i64 (leftB b x.used).time, .int .i64 (leftB b x.used).crash] 42)) := bAlloc hb3 _
  have hK := heap_new w3 (.cells #[.int .i64 (leftB b x.used).drop, .int .i64 (leftB b x.used).dup, .int .i64 (leftB b x.used).time, .int .i64 (leftB b x.used).crash] 42)
  replace k2 := boxAt k2 hbx
  replace k3 := boxAt k3 hbx
  have HL3 := hid_mk (bTrans HL.out hbx)
  clear k1 k4 HL hb3 hbx
  obtain ⟨x0, x1, x2, x3, x4, x5⟩ := blk6 k2
  obtain ⟨e0, e1, e2, e3, e4⟩ := blk5 k3
  obtain ⟨l0, l1, l2, l3⟩ := blk4 hK
  go_wp2_with fail
  generalize w3.alloc (.cells #[.int .i64 (leftB b x.used).drop, .int .i64 (leftB b x.used).dup, .int .i64 (leftB b x.used).time, .int .i64 (leftB b x.used).crash] 42) = w4 at k2 k3 hK HL3 x0 x1 x2 x3 x4 x5 e0 e1 e2 e3 e4 l0 l1 l2 l3 ⊢
  refine (rfind_any _ _ x.mail ⟨f, n, c⟩ (HG2.out.below HL3.out)).mono ?_
  rintro e w5 ⟨rfl, hb5⟩
  replace k2 := boxAt k2 hb5
  replace k3 := boxAt k3 hb5
  replace hK := boxAt hK hb5
  have HL5 := hid_mk (bTrans HL3.out hb5)
  clear x0 x1 x2 x3 x4 x5 e0 e1 e2 e3 e4 l0 l1 l2 l3
  obtain ⟨x0, x1, x2, x3, x4, x5⟩ := blk6 k2
  obtain ⟨e0, e1, e2, e3, e4⟩ := blk5 k3
  obtain ⟨l0, l1, l2, l3⟩ := blk4 hK
  clear k2 k3 hK hb5 HL3
  go_wp2
  go_ret
  exact ⟨ret_b HR.out, HL5.out⟩
set_option maxHeartbeats 4000000 in
set_option maxRecDepth 100000 in
theorem ris_3b (w : World) (vw : Value) (b : PBud) (x : PWld) (f n c who : Int) (k : Nat) (hx : WldV w vw x) (hfi : x.mail.findIdx? (fun m => decide (m.id = ⟨f, n, c⟩)) = some k) (hw : who ≠ 0) :
    Calls Tryd.prog 76 #[uVal b, vw, eVal ⟨3, ⟨f, n, c⟩, who⟩] w fun e w' => e = .returned (.bool (isL (leftB b x.used) x ⟨3, ⟨f, n, c⟩, who⟩)) ∧ Below w.heap.size w w' := by
  obtain ⟨va, vm, rfl, g1, g2⟩ := hx
  obtain ⟨B1, d1, rfl, _⟩ := g1.form
  obtain ⟨B2, d2, rfl, _⟩ := g2.form
  have HG1 := hid_mk g1
  have HG2 := hid_mk g2
  have hfn := fnd_sm hfi
  have hlt := fnd_lt hfi
  have HR : Hid (false = isL (leftB b x.used) x ⟨3, ⟨f, n, c⟩, who⟩) := by
    show _ = _
    rw [isL_M (Or.inr (Or.inr rfl))]; exact (isM_who hw).symm
  have hwn : (who != 0) = true := ne_yes hw
  have hk0 : decide ((k : Int) < 0) = false := decide_eq_false (by omega)
  clear hfi hw
  clear g1 g2
  have hgD := gD
  go_enter Tryd.func76, Tryd.ntmps76
  go_wp2_with fail
  obtain ⟨k1, k2, k3, k4⟩ := three_nw w (.cells #[.int .i64 b.drop, .int .i64 b.dup, .int .i64 b.time, .int .i64 b.crash] 42) (.cells #[.slice B1 x.acts.length d1, .slice B2 x.mail.length d2, .int .i64 x.used.drop, .int .i64 x.used.dup, .int .i64 x.used.time, .int .i64 x.used.crash] 44) (.cells #[.int .i64 3, .int .i64 f, .int .i64 n, .int .i64 c, .int .i64 who] 62)
  have HL : Hid (Below w.heap.size w (((w.alloc (.cells #[.int .i64 b.drop, .int .i64 b.dup, .int .i64 b.time, .int .i64 b.crash] 42)).alloc (.cells #[.slice B1 x.acts.length d1, .slice B2 x.mail.length d2, .int .i64 x.used.drop, .int .i64 x.used.dup, .int .i64 x.used.time, .int .i64 x.used.crash] 44)).alloc (.cells #[.int .i64 3, .int .i64 f, .int .i64 n, .int .i64 c, .int .i64 who] 62))) := bAlloc (bAlloc (bAlloc (bRefl _) _) _) _
  generalize (((w.alloc (.cells #[.int .i64 b.drop, .int .i64 b.dup, .int .i64 b.time, .int .i64 b.crash] 42)).alloc (.cells #[.slice B1 x.acts.length d1, .slice B2 x.mail.length d2, .int .i64 x.used.drop, .int .i64 x.used.dup, .int .i64 x.used.time, .int .i64 x.used.crash] 44)).alloc (.cells #[.int .i64 3, .int .i64 f, .int .i64 n, .int .i64 c, .int .i64 who] 62)) = w1 at k1 k2 k3 k4 HL ⊢
  refine (rLeft_any _ b x.used _ _ _ _ _ _).mono ?_
  rintro e w3 ⟨rfl, hb3⟩
  have hbx : Below w1.heap.size w1 (w3.alloc (.cells #[.int .i64 (leftB b x.used).drop, .int .i64 (leftB b x.used).dup, .int .i64 (leftB b x.used).time, .int .i64 (leftB b x.used).crash] 42)) := bAlloc hb3 _
  have hK := heap_new w3 (.cells #[.int .i64 (leftB b x.used).drop, .int .i64 (leftB b x.used).dup, .int .i64 (leftB b x.used).time, .int .i64 (leftB b x.used).crash] 42)
  replace k2 := boxAt k2 hbx
  replace k3 := boxAt k3 hbx
  have HL3 := hid_mk (bTrans HL.out hbx)
  clear k1 k4 HL hb3 hbx
  obtain ⟨x0, x1, x2, x3, x4, x5⟩ := blk6 k2
  obtain ⟨e0, e1, e2, e3, e4⟩ := blk5 k3
  obtain ⟨l0, l1, l2, l3⟩ := blk4 hK
  go_wp2_with fail
  generalize w3.alloc (.cells #[.int .i64 (leftB b x.used).drop, .int .i64 (leftB b x.used).dup, .int .i64 (leftB b x.used).time, .int .i64 (leftB b x.used).crash] 42) = w4 at k2 k3 hK HL3 x0 x1 x2 x3 x4 x5 e0 e1 e2 e3 e4 l0 l1 l2 l3 ⊢
  refine (rfind_any _ _ x.mail ⟨f, n, c⟩ (HG2.out.below HL3.out)).mono ?_
  rintro e w5 ⟨rfl, hb5⟩
  replace k2 := boxAt k2 hb5
  replace k3 := boxAt k3 hb5
  replace hK := boxAt hK hb5
  have HL5 := hid_mk (bTrans HL3.out hb5)
  clear x0 x1 x2 x3 x4 x5 e0 e1 e2 e3 e4 l0 l1 l2 l3
  obtain ⟨x0, x1, x2, x3, x4, x5⟩ := blk6 k2
  obtain ⟨e0, e1, e2, e3, e4⟩ := blk5 k3
  obtain ⟨l0, l1, l2, l3⟩ := blk4 hK
  clear k2 k3 hK hb5 HL3
  go_wp2
  go_ret
  exact ⟨ret_b HR.out, HL5.out⟩
set_option maxHeartbeats 4000000 in
set_option maxRecDepth 100000 in
theorem ris_3c (w : World) (vw : Value) (b : PBud) (x : PWld) (f n c : Int) (k : Nat) (hx : WldV w vw x) (hfi : x.mail.findIdx? (fun m => decide (m.id = ⟨f, n, c⟩)) = some k) :
    Calls Tryd.prog 76 #[uVal b, vw, eVal ⟨3, ⟨f, n, c⟩, 0⟩] w fun e w' => e = .returned (.bool (isL (leftB b x.used) x ⟨3, ⟨f, n, c⟩, 0⟩)) ∧ Below w.heap.size w w' := by
  obtain ⟨va, vm, rfl, g1, g2⟩ := hx
  obtain ⟨B1, d1, rfl, _⟩ := g1.form
  obtain ⟨B2, d2, rfl, _⟩ := g2.form
  have HG1 := hid_mk g1
  have HG2 := hid_mk g2
  have hfn := fnd_sm hfi
  have hlt := fnd_lt hfi
  obtain ⟨m, hm⟩ := at_lt hlt
  have HRM : Hid (ofM (leftB b x.used) x 3 m = isL (leftB b x.used) x ⟨3, ⟨f, n, c⟩, 0⟩) := by
    show _ = _
    rw [isL_M (Or.inr (Or.inr rfl))]; unfold isM; dsimp only; rw [hfi]; simp [List.getD_eq_getElem?_getD, hm]
  have HR : Hid (decide (0 < (leftB b x.used).dup) = isL (leftB b x.used) x ⟨3, ⟨f, n, c⟩, 0⟩) := by
    show _ = _
    rw [← HRM.out]; unfold ofM; simp
  have hk0 : decide ((k : Int) < 0) = false := decide_eq_false (by omega)
  clear hfi hm HRM
  clear g1 g2
  have hgD := gD
  go_enter Tryd.func76, Tryd.ntmps76
  go_wp2_with fail
  obtain ⟨k1, k2, k3, k4⟩ := three_nw w (.cells #[.int .i64 b.drop, .int .i64 b.dup, .int .i64 b.time, .int .i64 b.crash] 42) (.cells #[.slice B1 x.acts.length d1, .slice B2 x.mail.length d2, .int .i64 x.used.drop, .int .i64 x.used.dup, .int .i64 x.used.time, .int .i64 x.used.crash] 44) (.cells #[.int .i64 3, .int .i64 f, .int .i64 n, .int .i64 c, .int .i64 0] 62)
  have HL : Hid (Below w.heap.size w (((w.alloc (.cells #[.int .i64 b.drop, .int .i64 b.dup, .int .i64 b.time, .int .i64 b.crash] 42)).alloc (.cells #[.slice B1 x.acts.length d1, .slice B2 x.mail.length d2, .int .i64 x.used.drop, .int .i64 x.used.dup, .int .i64 x.used.time, .int .i64 x.used.crash] 44)).alloc (.cells #[.int .i64 3, .int .i64 f, .int .i64 n, .int .i64 c, .int .i64 0] 62))) := bAlloc (bAlloc (bAlloc (bRefl _) _) _) _
  generalize (((w.alloc (.cells #[.int .i64 b.drop, .int .i64 b.dup, .int .i64 b.time, .int .i64 b.crash] 42)).alloc (.cells #[.slice B1 x.acts.length d1, .slice B2 x.mail.length d2, .int .i64 x.used.drop, .int .i64 x.used.dup, .int .i64 x.used.time, .int .i64 x.used.crash] 44)).alloc (.cells #[.int .i64 3, .int .i64 f, .int .i64 n, .int .i64 c, .int .i64 0] 62)) = w1 at k1 k2 k3 k4 HL ⊢
  refine (rLeft_any _ b x.used _ _ _ _ _ _).mono ?_
  rintro e w3 ⟨rfl, hb3⟩
  have hbx : Below w1.heap.size w1 (w3.alloc (.cells #[.int .i64 (leftB b x.used).drop, .int .i64 (leftB b x.used).dup, .int .i64 (leftB b x.used).time, .int .i64 (leftB b x.used).crash] 42)) := bAlloc hb3 _
  have hK := heap_new w3 (.cells #[.int .i64 (leftB b x.used).drop, .int .i64 (leftB b x.used).dup, .int .i64 (leftB b x.used).time, .int .i64 (leftB b x.used).crash] 42)
  replace k2 := boxAt k2 hbx
  replace k3 := boxAt k3 hbx
  have HL3 := hid_mk (bTrans HL.out hbx)
  clear k1 k4 HL hb3 hbx
  obtain ⟨x0, x1, x2, x3, x4, x5⟩ := blk6 k2
  obtain ⟨e0, e1, e2, e3, e4⟩ := blk5 k3
  obtain ⟨l0, l1, l2, l3⟩ := blk4 hK
  go_wp2_with fail
  generalize w3.alloc (.cells #[.int .i64 (leftB b x.used).drop, .int .i64 (leftB b x.used).dup, .int .i64 (leftB b x.used).time, .int .i64 (leftB b x.used).crash] 42) = w4 at k2 k3 hK HL3 x0 x1 x2 x3 x4 x5 e0 e1 e2 e3 e4 l0 l1 l2 l3 ⊢
  refine (rfind_any _ _ x.mail ⟨f, n, c⟩ (HG2.out.below HL3.out)).mono ?_
  rintro e w5 ⟨rfl, hb5⟩
  replace k2 := boxAt k2 hb5
  replace k3 := boxAt k3 hb5
  replace hK := boxAt hK hb5
  have HL5 := hid_mk (bTrans HL3.out hb5)
  clear x0 x1 x2 x3 x4 x5 e0 e1 e2 e3 e4 l0 l1 l2 l3
  obtain ⟨x0, x1, x2, x3, x4, x5⟩ := blk6 k2
  obtain ⟨e0, e1, e2, e3, e4⟩ := blk5 k3
  obtain ⟨l0, l1, l2, l3⟩ := blk4 hK
  clear k2 k3 hK hb5 HL3
  go_wp2
  go_ret
  exact ⟨ret_b HR.out, HL5.out⟩
end Go.Proofs.YtgdloonpemaijaaDoor
