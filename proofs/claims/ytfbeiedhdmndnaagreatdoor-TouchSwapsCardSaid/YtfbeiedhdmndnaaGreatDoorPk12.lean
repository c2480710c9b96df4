/-
  step.Do: an event of a handler.
-/
import Derived.Test.YtfbeiedhdmndnaaGreatDoorPk10
import Derived.Test.YtfbeiedhdmndnaaGreatDoorPk11
import Derived.Test.YtfbeiedhdmndnaaGreatDoorPk6
import Derived.Deep.RegionLaw
import Derived.Test.YtfbeiedhdmndnaaGreatDoorPk1
namespace Go.Proofs.YtfbeiedhdmndnaaGreatDoor
open Go.RowKit
theorem five_new (w : World) (X Y Z U V : Obj) : (((((w.alloc X).alloc Y).alloc Z).alloc U).alloc V).heap[w.heap.size]? = some X ∧ (((((w.alloc X).alloc Y).alloc Z).alloc U).alloc V).heap[w.heap.size + 1]? = some Y ∧ (((((w.alloc X).alloc Y).alloc Z).alloc U).alloc V).heap[w.heap.size + 2]? = some Z ∧ (((((w.alloc X).alloc Y).alloc Z).alloc U).alloc V).heap[w.heap.size + 3]? = some U ∧ (((((w.alloc X).alloc Y).alloc Z).alloc U).alloc V).heap[w.heap.size + 4]? = some V ∧ (((((w.alloc X).alloc Y).alloc Z).alloc U).alloc V).heap.size = w.heap.size + 5 := by
 obtain ⟨h1, h2, h3, h4⟩ := three_new w X Y Z
 have hb : Below ((w.alloc X).alloc Y).heap.size ((w.alloc X).alloc Y) (((w.alloc X).alloc Y).alloc Z) := bAlloc (bRefl _) _
 have hz : (((w.alloc X).alloc Y).alloc Z).heap.size = w.heap.size + 3 := h4
 generalize ((w.alloc X).alloc Y).alloc Z = w3 at *
 have h5 := two_new w3 U V
 have hB : Below w3.heap.size w3 ((w3.alloc U).alloc V) := bAlloc (bAlloc (bRefl _) _) _
 rw [hz] at h5
 exact ⟨boxAt h1 hB, boxAt h2 hB, boxAt h3 hB, h5.1, h5.2.1, h5.2.2⟩
theorem put5_same {w : World} {g o : Nat} {a0 a1 a2 a3 a4 : Value} : Same (fun d => d ≠ g) w (put5 w g o a0 a1 a2 a3 a4) :=
 ((((setCell_same fun _ h => h).trans (setCell_same fun _ h => h)).trans (setCell_same fun _ h => h)).trans (setCell_same fun _ h => h)).trans (setCell_same fun _ h => h)
theorem Ntes.weakA {ok inn : Nat → Prop} {w : World} {v : Value} {l : List PNte} (h : Ntes ok inn w v l) : Ntes anyB anyB w v l :=
 h.imp (fun _ _ => trivial) (Nat.le_refl _) fun _ _ _ _ _ ⟨a1, a2, c, a3, a4⟩ => ⟨a1, a2, c, a3, Ints.weak a4 fun _ _ => trivial⟩
theorem sendP_len {p : PPrg} {x : PWld} {f : Int} {ns : List PNte} : (sendP p x f ns).acts.length = x.acts.length := by
 unfold sendP
 split
 ·exact send_acts _
 ·rfl
def Hdl (W : World) (vp : Value) (x x1 : PWld) (e : PEv) (j : Nat) (R : PRes) : Prop :=
 ∀ (N bo : Nat) (W4 : World) (a m : Value), Below W.heap.size W W4 → W.heap.size ≤ bo → W.heap.size ≤ N → N ≤ W4.heap.size → BW (fun b => N ≤ b) bo W4 a m x →
  Calls Tryz.prog 38 #[vp, .pointer (some ⟨bo, 0, none⟩), eVal e] W4 fun r w' => ∃ u m', r = .returned (.tuple #[.int .i64 (j : Int), u]) ∧ BW (fun b => N ≤ b) bo w' a m' x1 ∧ ResV (fun b => W4.heap.size ≤ b) w' u R ∧ Ex (fun b => b = bo ∨ N ≤ b) W4 w'
set_option maxHeartbeats 8000000 in
set_option maxRecDepth 100000 in
theorem do_hdl (W : World) (vp vw : Value) (p : PPrg) (b : PBud) (x x1 : PWld) (e : PEv) (j : Nat) (y : PLoc) (R : PRes) (ht : Tab W) (hp : PrgV W vp p) (hx : WldV W vw x) (hs : SmW x) (hi : isP p b x e = true) (hk : e.kind = 1 ∨ e.kind = 4) (hH : Hdl W vp x x1 e j R) (hz : x1.acts[j]? = some y) (hla : x1.acts.length = x.acts.length) (hs1 : SmW (setL x1 j R.loc)) (hn : R.notes.length ≤ 300) (hna : ∀ n ∈ R.notes, n.args.length ≤ 1000) :
  Calls Tryz.prog 12 #[vp, uVal b, vw, eVal e] W fun r w' => ∃ v, r = .returned (.tuple #[v, .int .i64 0]) ∧ WldA (fun b => W.heap.size ≤ b) w' v (sendP p (setL x1 j R.loc) j R.notes) ∧ Below W.heap.size W w' := by
 have HT := hid_mk ht
 have HP := hid_mk hp
 have HX := hid_mk hx
 have HS := hid_mk hs
 have HI := hid_mk hi
 have HH := hid_mk hH
 have HZ := hid_mk hz
 have HS1 := hid_mk hs1
 have HNN := hid_mk (And.intro hn hna)
 obtain ⟨κ, ⟨f, n, c⟩, who⟩ := e
 dsimp only at hk
 obtain ⟨vh, vb, vc, rfl, h1, h2, h3⟩ := hp
 obtain ⟨A1, c1, rfl, _⟩ := h1.form
 obtain ⟨A2, c2, rfl, _⟩ := h2.form
 obtain ⟨A3, c3, rfl, _⟩ := h3.form
 obtain ⟨va, vm, rfl, g1, g2⟩ := hx
 obtain ⟨B1, d1, rfl, _⟩ := g1.form
 obtain ⟨B2, d2, rfl, _⟩ := g2.form
 have hjl : j < x.acts.length := by rw [← hla]; exact (List.getElem?_eq_some_iff.1 hz).1
 have hji : (j : Int) < x.acts.length := by omega
 have HLA := hid_mk hla
 clear h1 h2 h3 g1 g2 ht hs hi hH hz hla hs1 hn hna
 have hA := five_new W (.cells #[.slice A1 p.hs.length c1, .slice A2 p.acs.length c2, .slice A3 p.bs.length c3, .int .i64 p.fuel] 26) (.cells #[.int .i64 b.drop, .int .i64 b.dup, .int .i64 b.time, .int .i64 b.crash] 28) (.cells #[.slice B1 x.acts.length d1, .slice B2 x.mail.length d2, .int .i64 x.used.drop, .int .i64 x.used.dup, .int .i64 x.used.time, .int .i64 x.used.crash] 32) (.cells #[.int .i64 κ, .int .i64 f, .int .i64 n, .int .i64 c, .int .i64 who] 36) zW
 have HL : Below W.heap.size W (((((W.alloc (.cells #[.slice A1 p.hs.length c1, .slice A2 p.acs.length c2, .slice A3 p.bs.length c3, .int .i64 p.fuel] 26)).alloc (.cells #[.int .i64 b.drop, .int .i64 b.dup, .int .i64 b.time, .int .i64 b.crash] 28)).alloc (.cells #[.slice B1 x.acts.length d1, .slice B2 x.mail.length d2, .int .i64 x.used.drop, .int .i64 x.used.dup, .int .i64 x.used.time, .int .i64 x.used.crash] 32)).alloc (.cells #[.int .i64 κ, .int .i64 f, .int .i64 n, .int .i64 c, .int .i64 who] 36)).alloc zW) := bAlloc (bAlloc (bAlloc (bAlloc (bAlloc (bRefl _) _) _) _) _) _
 go_enter Tryz.func12, Tryz.ntmps12
 go_wp2_with fail
 generalize (((((W.alloc (.cells #[.slice A1 p.hs.length c1, .slice A2 p.acs.length c2, .slice A3 p.bs.length c3, .int .i64 p.fuel] 26)).alloc (.cells #[.int .i64 b.drop, .int .i64 b.dup, .int .i64 b.time, .int .i64 b.crash] 28)).alloc (.cells #[.slice B1 x.acts.length d1, .slice B2 x.mail.length d2, .int .i64 x.used.drop, .int .i64 x.used.dup, .int .i64 x.used.time, .int .i64 x.used.crash] 32)).alloc (.cells #[.int .i64 κ, .int .i64 f, .int .i64 n, .int .i64 c, .int .i64 who] 36)).alloc zW) = w1 at hA HL ⊢
 refine (is_any _ _ _ p b x ⟨κ, ⟨f, n, c⟩, who⟩ (HT.out.below HL) (HP.out.below HL) (HX.out.below HL)).mono ?_
 rw [HI.out]
 rintro e w2 ⟨rfl, hb2⟩
 have HW2 := hid_mk (bTrans HL hb2)
 have HK0 := hid_mk (boxAt hA.1 hb2)
 have HK2 := hid_mk (boxAt hA.2.2.1 hb2)
 have HK3 := hid_mk (boxAt hA.2.2.2.1 hb2)
 have HK4 := hid_mk (boxAt hA.2.2.2.2.1 hb2)
 have hs2 : W.heap.size + 5 ≤ w2.heap.size := by have := hb2.size; have := hA.2.2.2.2.2; omega
 clear hA HL hb2
 obtain ⟨k0, k1, k2, k3, k4, k5⟩ := blk6 HK2.out
 go_wp2_with fail
 refine (copyW_any _ _ x (HX.out.below HW2.out) HS.out).mono ?_
 rintro e w3 ⟨a, m, lo, hi, rfl, hwn, hb3⟩
 obtain ⟨A', c', rfl⟩ := hwn.acts.form
 obtain ⟨B', d', rfl, _⟩ := hwn.mail.form
 have hs3 := hb3.size
 have HPW := hid_mk (hwn.toPW hb3.size).bw
 have hb4 : Below w2.heap.size w2 (w3.alloc (.cells #[.slice A' x.acts.length c', .slice B' x.mail.length d', .int .i64 x.used.drop, .int .i64 x.used.dup, .int .i64 x.used.time, .int .i64 x.used.crash] 32)) := bAlloc hb3 _
 have HK0' := hid_mk (boxAt HK0.out hb4)
 have HK3' := hid_mk (boxAt HK3.out hb4)
 have HK4' := hid_mk (boxAt HK4.out hb4)
 have HW4 := hid_mk (bTrans HW2.out hb4)
 obtain ⟨e0, e1, e2, e3, e4⟩ := blk5 (boxAt HK3.out hb3)
 obtain ⟨q0, q1, q2, q3⟩ := blk4 (boxAt HK0.out hb3)
 have z3 : W.heap.size + 3 < w3.heap.size := by omega
 have z0 : W.heap.size < w3.heap.size := by omega
 clear hwn hb3 k0 k1 k2 k3 k4 k5
 rcases hk with rfl | rfl
 all_goals
  go_wp2_with fail
  have hz4 : (w3.alloc (.cells #[.slice A' x.acts.length c', .slice B' x.mail.length d', .int .i64 x.used.drop, .int .i64 x.used.dup, .int .i64 x.used.time, .int .i64 x.used.crash] 32)).heap.size = w3.heap.size + 1 := by simp
  have hb4 := HPW.out.blt
  generalize (w3.alloc (.cells #[.slice A' x.acts.length c', .slice B' x.mail.length d', .int .i64 x.used.drop, .int .i64 x.used.dup, .int .i64 x.used.time, .int .i64 x.used.crash] 32)) = w4 at HPW HK0' HK3' HK4' HW4 hz4 hb4 ⊢
  refine (HH.out w2.heap.size w3.heap.size w4 _ _ HW4.out (by omega) (by omega) (by omega) HPW.out).mono ?_
  rintro e w5 ⟨u, m5, rfl, hbw5, hres, hex5⟩
  obtain ⟨cr, cn, rfl, hr1, hr2⟩ := hres
  obtain ⟨C1, e5, rfl, _⟩ := hr1.form
  obtain ⟨C2, e6, rfl, _⟩ := hr2.form
  obtain ⟨g, cg, hge, hgN, hgb, hgr⟩ := hbw5.row (by rw [HLA.out]; omega)
  simp only [Value.slice.injEq] at hge
  obtain ⟨rfl, _, rfl⟩ := hge
  have hbw6 := hbw5
  rw [← HLA.out] at hbw6
  have hg4 : g < w4.heap.size := (HPW.out.acts.own (g := g) rfl).2
  have hs5 := hex5.size
  obtain ⟨M5, dm, rfl, _⟩ := hbw5.mail.form
  obtain ⟨o0, o1, o2, o3, o4, o5⟩ := blk6 hbw5.box
  obtain ⟨p0, p1, p2, p3⟩ := blk4 (hex5.box HK0'.out (by omega))
  obtain ⟨⟨v, r0, r0'⟩, r1, r2, r3, r4⟩ := hgr.rd j y HZ.out
  have fg : ∀ o, w5.frozen? ⟨g, o, none⟩ = false := hgr.frozen
  have y1 : g < w5.heap.size := hgr.lt
  have y2 : w3.heap.size < w5.heap.size := by omega
  have y3 : W.heap.size < w5.heap.size := by omega
  have n1 : ¬ g = w3.heap.size := hgb
  have n2 : ¬ w3.heap.size = g := fun e => hgb e.symm
  have n3 : ¬ g = W.heap.size := by omega
  have n4 : ¬ W.heap.size = g := by omega
  have HBW6 := hid_mk hbw6
  have HR1 := hid_mk hr1
  have HR2 := hid_mk hr2
  have HE5 := hid_mk hex5
  have HZ4 := hid_mk hz4
  clear hbw5 hbw6 hr1 hr2 hgr r0' hex5 hz4
  go_wp2_with fail
  have hz4 := HZ4.out
  have hBW := HBW6.out.setLoc HZ.out (y' := R.loc) (cr := .slice C1 R.loc.regs.length e5) (HR1.out.weak fun b hb => by have hb' : w4.heap.size ≤ b := hb; exact ⟨⟨by omega, by omega⟩, by omega⟩)
  have hl5 : Below W.heap.size w4 w5 := HE5.out.below HW4.out.size fun b hb => by show ¬ (b = w3.heap.size ∨ w2.heap.size ≤ b); omega
  have hl6 : Below W.heap.size W (put5 w5 g (j * 5) (.slice C1 R.loc.regs.length e5) (.bool R.loc.armed) (.int .i64 R.loc.down) (.int .i64 R.loc.sent) (.int .i64 R.loc.over)) :=
   (((((HW4.out.trans hl5).setCell (p := ⟨g, _, none⟩) (by show W.heap.size ≤ g; omega) _).setCell (p := ⟨g, _, none⟩) (by show W.heap.size ≤ g; omega) _).setCell (p := ⟨g, _, none⟩) (by show W.heap.size ≤ g; omega) _).setCell (p := ⟨g, _, none⟩) (by show W.heap.size ≤ g; omega) _).setCell (p := ⟨g, _, none⟩) (by show W.heap.size ≤ g; omega) _
  have hS5 : Same (fun d => d ≠ g) w5 (put5 w5 g (j * 5) (.slice C1 R.loc.regs.length e5) (.bool R.loc.armed) (.int .i64 R.loc.down) (.int .i64 R.loc.sent) (.int .i64 R.loc.over)) := put5_same
  have hN6 := Ntes.weakA (HR2.out.same (hS5.weak fun b hb => by have hb' : w4.heap.size ≤ b := hb; show b ≠ g; omega) (hS5.weak fun b hb => by have hb' : w4.heap.size ≤ b := hb; show b ≠ g; omega))
  have hk4 := (hS5.block (W.heap.size + 4) (by show W.heap.size + 4 ≠ g; omega) (by omega)).trans (HE5.out.box HK4'.out (by omega))
  have hal : (setL x1 j R.loc).acts.length ≤ 1000 := by have := HS1.out.n; omega
  have HWLD := hid_mk (hBW.wld hal)
  have hz6 : (put5 w5 g (j * 5) (.slice C1 R.loc.regs.length e5) (.bool R.loc.armed) (.int .i64 R.loc.down) (.int .i64 R.loc.sent) (.int .i64 R.loc.over)).heap.size = w5.heap.size := by simp [put5, World.setCell]
  have hal2 : (setL x1 j R.loc).acts.length = x1.acts.length := by simp [setL]
  change Calls Tryz.prog 39 _ ((put5 w5 g (j * 5) (.slice C1 R.loc.regs.length e5) (.bool R.loc.armed) (.int .i64 R.loc.down) (.int .i64 R.loc.sent) (.int .i64 R.loc.over)).alloc _) _
  clear hBW hl5 hS5 r0 r1 r2 r3 r4 o0 o1 o2 o3 o4 o5 p0 p1 p2 p3
  generalize put5 w5 g (j * 5) (.slice C1 R.loc.regs.length e5) (.bool R.loc.armed) (.int .i64 R.loc.down) (.int .i64 R.loc.sent) (.int .i64 R.loc.over) = w6 at hl6 hN6 hk4 HWLD hz6 ⊢
  have hA6 : Below w6.heap.size w6 (w6.alloc (.cells #[.slice C1 R.loc.regs.length e5, .bool R.loc.armed, .int .i64 R.loc.down, .int .i64 R.loc.sent, .int .i64 R.loc.over, .slice C2 R.notes.length e6, .int .i64 R.steps] 84)) := bAlloc (bRefl _) _
  have HL7 := hid_mk (bTrans hl6 hA6)
  have hk4 := boxAt hk4 hA6
  have HWLD := hid_mk (HWLD.out.below hA6)
  have hN6 := Ntes.below hN6 hA6
  have hz7 : (w6.alloc (.cells #[.slice C1 R.loc.regs.length e5, .bool R.loc.armed, .int .i64 R.loc.down, .int .i64 R.loc.sent, .int .i64 R.loc.over, .slice C2 R.notes.length e6, .int .i64 R.steps] 84)).heap.size = w6.heap.size + 1 := by simp
  clear hA6 hl6
  generalize w6.alloc (.cells #[.slice C1 R.loc.regs.length e5, .bool R.loc.armed, .int .i64 R.loc.down, .int .i64 R.loc.sent, .int .i64 R.loc.over, .slice C2 R.notes.length e6, .int .i64 R.steps] 84) = w7 at HL7 hk4 HWLD hN6 hz7 ⊢
  have HV := HWLD.out
  rw [show (setL x1 j R.loc).used = x1.used from rfl] at HV
  refine (send_any w7 _ _ _ p (setL x1 j R.loc) j R.notes (HP.out.below HL7.out) HV HS1.out hN6 HNN.out.1 HNN.out.2).mono ?_
  rintro e w8 ⟨a8, m8, lo8, hi8, rfl, hwn8, hb8⟩
  have hXl : (sendP p (setL x1 j R.loc) j R.notes).acts.length ≤ 1000 := by rw [sendP_len]; exact hal
  generalize hXX : sendP p (setL x1 j R.loc) j R.notes = X at *
  have HXX := hid_mk hXX
  clear hXX
  obtain ⟨A8, c8, rfl⟩ := hwn8.acts.form
  obtain ⟨B8, d8, rfl, _⟩ := hwn8.mail.form
  have hk8 := boxAt hk4 hb8
  obtain ⟨u0, u1, u2, u3, u4, u5⟩ := blk6 hk8
  have fz : ∀ o, w8.frozen? ⟨W.heap.size + 1 + 1 + 1 + 1, o, none⟩ = false := fun o => heap_frozen hk8
  have HW8 := hid_mk hwn8
  have HL8 := hid_mk (bTrans HL7.out hb8)
  have HX8 := hid_mk hXl
  clear hwn8 hb8 hk8 hXl
  go_wp2
  refine bodyPost_ret (v := .tuple #[wVal X.used (.slice A8 X.acts.length c8) (.slice B8 X.mail.length d8), .int .i64 0]) (by simp [results, Tryz.results12, go_sem, u0, u1, u2, u3, u4, u5]) rfl ⟨_, rfl, ?_, ?_⟩
  ·rw [HXX.out]
   exact wldNA (HW8.out.far (rb := W.heap.size + 1 + 1 + 1 + 1) put6_same (by omega)) HX8.out (by omega)
  ·exact put6_below HL8.out (by omega)
end Go.Proofs.YtfbeiedhdmndnaaGreatDoor
namespace Go.Proofs.YtfbeiedhdmndnaaGreatDoor
open Go.RowKit
set_option maxHeartbeats 8000000 in
set_option maxRecDepth 100000 in
theorem do_2 (W : World) (vp vw : Value) (p : PPrg) (b : PBud) (x : PWld) (e : PEv) (k : Nat) (y : PMsg) (ht : Tab W) (hp : PrgV W vp p) (hx : WldV W vw x) (hs : SmW x) (hi : isP p b x e = true) (hk : e.kind = 2) (hf : fnd x.mail e.id = k) (hy : x.mail[k]? = some y) :
  Calls Tryz.prog 12 #[vp, uVal b, vw, eVal e] W fun r w' => ∃ v, r = .returned (.tuple #[v, .int .i64 0]) ∧ WldA (fun b => W.heap.size ≤ b) w' v (dropP x e.id) ∧ Below W.heap.size W w' := by
 have HT := hid_mk ht
 have HP := hid_mk hp
 have HX := hid_mk hx
 have HS := hid_mk hs
 have HI := hid_mk hi
 have HQ := hid_mk (And.intro hf hy)
 clear hf hy
 obtain ⟨κ, ⟨f, n, c⟩, who⟩ := e
 dsimp only at hk
 have HKK := hid_mk hk
 clear hk
 obtain ⟨vh, vb, vc, rfl, h1, h2, h3⟩ := hp
 obtain ⟨A1, c1, rfl, _⟩ := h1.form
 obtain ⟨A2, c2, rfl, _⟩ := h2.form
 obtain ⟨A3, c3, rfl, _⟩ := h3.form
 obtain ⟨va, vm, rfl, g1, g2⟩ := hx
 obtain ⟨B1, d1, rfl, _⟩ := g1.form
 obtain ⟨B2, d2, rfl, _⟩ := g2.form
 clear h1 h2 h3 g1 g2 ht hs hi
 have hA := five_new W (.cells #[.slice A1 p.hs.length c1, .slice A2 p.acs.length c2, .slice A3 p.bs.length c3, .int .i64 p.fuel] 26) (.cells #[.int .i64 b.drop, .int .i64 b.dup, .int .i64 b.time, .int .i64 b.crash] 28) (.cells #[.slice B1 x.acts.length d1, .slice B2 x.mail.length d2, .int .i64 x.used.drop, .int .i64 x.used.dup, .int .i64 x.used.time, .int .i64 x.used.crash] 32) (.cells #[.int .i64 κ, .int .i64 f, .int .i64 n, .int .i64 c, .int .i64 who] 36) zW
 have HL : Below W.heap.size W (((((W.alloc (.cells #[.slice A1 p.hs.length c1, .slice A2 p.acs.length c2, .slice A3 p.bs.length c3, .int .i64 p.fuel] 26)).alloc (.cells #[.int .i64 b.drop, .int .i64 b.dup, .int .i64 b.time, .int .i64 b.crash] 28)).alloc (.cells #[.slice B1 x.acts.length d1, .slice B2 x.mail.length d2, .int .i64 x.used.drop, .int .i64 x.used.dup, .int .i64 x.used.time, .int .i64 x.used.crash] 32)).alloc (.cells #[.int .i64 κ, .int .i64 f, .int .i64 n, .int .i64 c, .int .i64 who] 36)).alloc zW) := bAlloc (bAlloc (bAlloc (bAlloc (bAlloc (bRefl _) _) _) _) _) _
 go_enter Tryz.func12, Tryz.ntmps12
 go_wp2_with fail
 generalize (((((W.alloc (.cells #[.slice A1 p.hs.length c1, .slice A2 p.acs.length c2, .slice A3 p.bs.length c3, .int .i64 p.fuel] 26)).alloc (.cells #[.int .i64 b.drop, .int .i64 b.dup, .int .i64 b.time, .int .i64 b.crash] 28)).alloc (.cells #[.slice B1 x.acts.length d1, .slice B2 x.mail.length d2, .int .i64 x.used.drop, .int .i64 x.used.dup, .int .i64 x.used.time, .int .i64 x.used.crash] 32)).alloc (.cells #[.int .i64 κ, .int .i64 f, .int .i64 n, .int .i64 c, .int .i64 who] 36)).alloc zW) = w1 at hA HL ⊢
 refine (is_any _ _ _ p b x ⟨κ, ⟨f, n, c⟩, who⟩ (HT.out.below HL) (HP.out.below HL) (HX.out.below HL)).mono ?_
 rw [HI.out]
 rintro e w2 ⟨rfl, hb2⟩
 have HW2 := hid_mk (bTrans HL hb2)
 have HK0 := hid_mk (boxAt hA.1 hb2)
 have HK2 := hid_mk (boxAt hA.2.2.1 hb2)
 have HK3 := hid_mk (boxAt hA.2.2.2.1 hb2)
 have HK4 := hid_mk (boxAt hA.2.2.2.2.1 hb2)
 have hs2 : W.heap.size + 5 ≤ w2.heap.size := by have := hb2.size; have := hA.2.2.2.2.2; omega
 clear hA HL hb2
 obtain ⟨k0, k1, k2, k3, k4, k5⟩ := blk6 HK2.out
 go_wp2_with fail
 refine (copyW_any _ _ x (HX.out.below HW2.out) HS.out).mono ?_
 rintro e w3 ⟨a, m, lo, hi, rfl, hwn, hb3⟩
 obtain ⟨A', c', rfl⟩ := hwn.acts.form
 obtain ⟨B', d', rfl, _⟩ := hwn.mail.form
 have hs3 := hb3.size
 have HPW := hid_mk (hwn.toPW hb3.size).bw
 have hb4 : Below w2.heap.size w2 (w3.alloc (.cells #[.slice A' x.acts.length c', .slice B' x.mail.length d', .int .i64 x.used.drop, .int .i64 x.used.dup, .int .i64 x.used.time, .int .i64 x.used.crash] 32)) := bAlloc hb3 _
 have HK0' := hid_mk (boxAt HK0.out hb4)
 have HK3' := hid_mk (boxAt HK3.out hb4)
 have HK4' := hid_mk (boxAt HK4.out hb4)
 have HW4 := hid_mk (bTrans HW2.out hb4)
 obtain ⟨e0, e1, e2, e3, e4⟩ := blk5 (boxAt HK3.out hb3)
 obtain ⟨q0, q1, q2, q3⟩ := blk4 (boxAt HK0.out hb3)
 have z3 : W.heap.size + 3 < w3.heap.size := by omega
 have z0 : W.heap.size < w3.heap.size := by omega
 have HWN := hid_mk hwn
 have HB3 := hid_mk hb3
 clear hwn hb3 k0 k1 k2 k3 k4 k5
 have hk := HKK.out
 subst hk
 go_wp2_with fail
 have hwn' : WN w2.heap.size lo hi w3 (.slice A' x.acts.length c') (.slice B' x.mail.length d') { x with used := { x.used with drop := wrap64 (x.used.drop + 1) } } := ⟨HWN.out.acts, HWN.out.mail, HWN.out.le, HWN.out.hi⟩
 have HB4 := hid_mk (hwn'.toPW hs3).bw
 have hK4 := boxAt HK4.out (bAlloc HB3.out (.cells #[.slice A' x.acts.length c', .slice B' x.mail.length d', .int .i64 (wrap64 (x.used.drop + 1)), .int .i64 x.used.dup, .int .i64 x.used.time, .int .i64 x.used.crash] 32))
 have hW4 := bTrans HW2.out (bAlloc HB3.out (.cells #[.slice A' x.acts.length c', .slice B' x.mail.length d', .int .i64 (wrap64 (x.used.drop + 1)), .int .i64 x.used.dup, .int .i64 x.used.time, .int .i64 x.used.crash] 32))
 have hz4 : (w3.alloc (.cells #[.slice A' x.acts.length c', .slice B' x.mail.length d', .int .i64 (wrap64 (x.used.drop + 1)), .int .i64 x.used.dup, .int .i64 x.used.time, .int .i64 x.used.crash] 32)).heap.size = w3.heap.size + 1 := by simp
 clear hwn'
 generalize w3.alloc (.cells #[.slice A' x.acts.length c', .slice B' x.mail.length d', .int .i64 (wrap64 (x.used.drop + 1)), .int .i64 x.used.dup, .int .i64 x.used.time, .int .i64 x.used.crash] 32) = w4 at HB4 hK4 hW4 hz4 ⊢
 have HW4' := hid_mk hW4
 have HZ4 := hid_mk hz4
 refine (stake_any (fun b => w2.heap.size ≤ b) w3.heap.size w4 _ _ { x with used := { x.used with drop := wrap64 (x.used.drop + 1) } } ⟨f, n, c⟩ k y (fun b hb => by omega) HB4.out HQ.out.1 HQ.out.2 ⟨by have := HS.out.mail; show x.mail.length ≤ 900; omega, HS.out.args⟩).mono ?_
 rintro e w5 ⟨u, m5, rfl, hbw5, _, hex5⟩
 obtain ⟨M5, dm, rfl, _⟩ := hbw5.mail.form
 obtain ⟨o0, o1, o2, o3, o4, o5⟩ := blk6 hbw5.box
 have hk5 := hex5.box hK4 (by omega)
 obtain ⟨u0, u1, u2, u3, u4, u5⟩ := blk6 hk5
 have fz : ∀ o, w5.frozen? ⟨W.heap.size + 1 + 1 + 1 + 1, o, none⟩ = false := fun o => heap_frozen hk5
 have n9 : ¬ W.heap.size + 1 + 1 + 1 + 1 = w3.heap.size := by omega
 have n8 : ¬ w3.heap.size = W.heap.size + 1 + 1 + 1 + 1 := by omega
 have y2 : w3.heap.size < w5.heap.size := by have := hex5.size; omega
 have HL5 := hid_mk ((HW4'.out).trans (hex5.below HW4'.out.size fun b hb => by show b ≠ w3.heap.size; omega))
 have HBW := hid_mk hbw5
 have HD : Hid (dropP x ⟨f, n, c⟩ = { x with mail := cutP x.mail k, used := { x.used with drop := wrap64 (x.used.drop + 1) } }) := by show _ = _; unfold dropP tookP; dsimp only; rw [HQ.out.1, Int.toNat_natCast]
 have hal : x.acts.length ≤ 1000 := by have := HS.out.n; omega
 clear hbw5 hex5 hk5 hK4 hW4 hz4
 go_wp2
 refine bodyPost_ret (v := .tuple #[wVal { x.used with drop := wrap64 (x.used.drop + 1) } (.slice A' x.acts.length c') (.slice M5 (cutP x.mail k).length dm), .int .i64 0]) (by simp [results, Tryz.results12, go_sem, u0, u1, u2, u3, u4, u5]) rfl ⟨_, rfl, ?_, ?_⟩
 ·rw [HD.out]
  exact BW.wldA (x := { x with mail := cutP x.mail k, used := { x.used with drop := wrap64 (x.used.drop + 1) } }) (HBW.out.same (put6_same.weak fun b hb => by
   rcases hb with hb | hb
   ·have hb' : w2.heap.size ≤ b := hb; show b ≠ W.heap.size + 1 + 1 + 1 + 1; omega
   ·show b ≠ W.heap.size + 1 + 1 + 1 + 1; omega)) hal (fun b hb => by have hb' : w2.heap.size ≤ b := hb; omega)
 ·exact put6_below HL5.out (by omega)
end Go.Proofs.YtfbeiedhdmndnaaGreatDoor
namespace Go.Proofs.YtfbeiedhdmndnaaGreatDoor
open Go.RowKit
theorem dupP_len {p : PPrg} {x : PWld} {d : PID} : (dupP p x d).acts.length = x.acts.length := by
 unfold dupP postG
 split
 ·rw [post_acts]
 ·rfl
set_option maxHeartbeats 8000000 in
set_option maxRecDepth 100000 in
theorem do_3 (W : World) (vp vw : Value) (p : PPrg) (b : PBud) (x : PWld) (e : PEv) (k : Nat) (y : PMsg) (ht : Tab W) (hp : PrgV W vp p) (hx : WldV W vw x) (hs : SmW x) (hi : isP p b x e = true) (hk : e.kind = 3) (hf : fnd x.mail e.id = k) (hy : x.mail[k]? = some y) :
  Calls Tryz.prog 12 #[vp, uVal b, vw, eVal e] W fun r w' => ∃ v, r = .returned (.tuple #[v, .int .i64 0]) ∧ WldA (fun b => W.heap.size ≤ b) w' v (dupP p x e.id) ∧ Below W.heap.size W w' := by
 have HT := hid_mk ht
 have HP := hid_mk hp
 have HX := hid_mk hx
 have HS := hid_mk hs
 have HI := hid_mk hi
 have HQ := hid_mk (And.intro hf hy)
 clear hf hy
 obtain ⟨κ, ⟨f, n, c⟩, who⟩ := e
 dsimp only at hk
 have HKK := hid_mk hk
 clear hk
 obtain ⟨vh, vb, vc, rfl, h1, h2, h3⟩ := hp
 obtain ⟨A1, c1, rfl, _⟩ := h1.form
 obtain ⟨A2, c2, rfl, _⟩ := h2.form
 obtain ⟨A3, c3, rfl, _⟩ := h3.form
 obtain ⟨va, vm, rfl, g1, g2⟩ := hx
 obtain ⟨B1, d1, rfl, _⟩ := g1.form
 obtain ⟨B2, d2, rfl, _⟩ := g2.form
 clear h1 h2 h3 g1 g2 ht hs hi
 have hA := five_new W (.cells #[.slice A1 p.hs.length c1, .slice A2 p.acs.length c2, .slice A3 p.bs.length c3, .int .i64 p.fuel] 26) (.cells #[.int .i64 b.drop, .int .i64 b.dup, .int .i64 b.time, .int .i64 b.crash] 28) (.cells #[.slice B1 x.acts.length d1, .slice B2 x.mail.length d2, .int .i64 x.used.drop, .int .i64 x.used.dup, .int .i64 x.used.time, .int .i64 x.used.crash] 32) (.cells #[.int .i64 κ, .int .i64 f, .int .i64 n, .int .i64 c, .int .i64 who] 36) zW
 have HL : Below W.heap.size W (((((W.alloc (.cells #[.slice A1 p.hs.length c1, .slice A2 p.acs.length c2, .slice A3 p.bs.length c3, .int .i64 p.fuel] 26)).alloc (.cells #[.int .i64 b.drop, .int .i64 b.dup, .int .i64 b.time, .int .i64 b.crash] 28)).alloc (.cells #[.slice B1 x.acts.length d1, .slice B2 x.mail.length d2, .int .i64 x.used.drop, .int .i64 x.used.dup, .int .i64 x.used.time, .int .i64 x.used.crash] 32)).alloc (.cells #[.int .i64 κ, .int .i64 f, .int .i64 n, .int .i64 c, .int .i64 who] 36)).alloc zW) := bAlloc (bAlloc (bAlloc (bAlloc (bAlloc (bRefl _) _) _) _) _) _
 go_enter Tryz.func12, Tryz.ntmps12
 go_wp2_with fail
 generalize (((((W.alloc (.cells #[.slice A1 p.hs.length c1, .slice A2 p.acs.length c2, .slice A3 p.bs.length c3, .int .i64 p.fuel] 26)).alloc (.cells #[.int .i64 b.drop, .int .i64 b.dup, .int .i64 b.time, .int .i64 b.crash] 28)).alloc (.cells #[.slice B1 x.acts.length d1, .slice B2 x.mail.length d2, .int .i64 x.used.drop, .int .i64 x.used.dup, .int .i64 x.used.time, .int .i64 x.used.crash] 32)).alloc (.cells #[.int .i64 κ, .int .i64 f, .int .i64 n, .int .i64 c, .int .i64 who] 36)).alloc zW) = w1 at hA HL ⊢
 refine (is_any _ _ _ p b x ⟨κ, ⟨f, n, c⟩, who⟩ (HT.out.below HL) (HP.out.below HL) (HX.out.below HL)).mono ?_
 rw [HI.out]
 rintro e w2 ⟨rfl, hb2⟩
 have HW2 := hid_mk (bTrans HL hb2)
 have HK0 := hid_mk (boxAt hA.1 hb2)
 have HK2 := hid_mk (boxAt hA.2.2.1 hb2)
 have HK3 := hid_mk (boxAt hA.2.2.2.1 hb2)
 have HK4 := hid_mk (boxAt hA.2.2.2.2.1 hb2)
 have hs2 : W.heap.size + 5 ≤ w2.heap.size := by have := hb2.size; have := hA.2.2.2.2.2; omega
 clear hA HL hb2
 obtain ⟨k0, k1, k2, k3, k4, k5⟩ := blk6 HK2.out
 go_wp2_with fail
 refine (copyW_any _ _ x (HX.out.below HW2.out) HS.out).mono ?_
 rintro e w3 ⟨a, m, lo, hi, rfl, hwn, hb3⟩
 obtain ⟨A', c', rfl⟩ := hwn.acts.form
 obtain ⟨B', d', rfl, _⟩ := hwn.mail.form
 have hs3 := hb3.size
 have HPW := hid_mk (hwn.toPW hb3.size)
 have hb4 : Below w2.heap.size w2 (w3.alloc (.cells #[.slice A' x.acts.length c', .slice B' x.mail.length d', .int .i64 x.used.drop, .int .i64 x.used.dup, .int .i64 x.used.time, .int .i64 x.used.crash] 32)) := bAlloc hb3 _
 have HK0' := hid_mk (boxAt HK0.out hb4)
 have HK3' := hid_mk (boxAt HK3.out hb4)
 have HK4' := hid_mk (boxAt HK4.out hb4)
 have HW4 := hid_mk (bTrans HW2.out hb4)
 obtain ⟨e0, e1, e2, e3, e4⟩ := blk5 (boxAt HK3.out hb3)
 obtain ⟨q0, q1, q2, q3⟩ := blk4 (boxAt HK0.out hb3)
 have z3 : W.heap.size + 3 < w3.heap.size := by omega
 have z0 : W.heap.size < w3.heap.size := by omega
 clear hwn hb3 k0 k1 k2 k3 k4 k5
 have hk := HKK.out
 subst hk
 go_wp2_with fail
 have hz4 : (w3.alloc (.cells #[.slice A' x.acts.length c', .slice B' x.mail.length d', .int .i64 x.used.drop, .int .i64 x.used.dup, .int .i64 x.used.time, .int .i64 x.used.crash] 32)).heap.size = w3.heap.size + 1 := by simp
 have hXl : (dupP p x ⟨f, n, c⟩).acts.length ≤ 1000 := by rw [dupP_len]; have := HS.out.n; omega
 generalize w3.alloc (.cells #[.slice A' x.acts.length c', .slice B' x.mail.length d', .int .i64 x.used.drop, .int .i64 x.used.dup, .int .i64 x.used.time, .int .i64 x.used.crash] 32) = w4 at HPW HK4' HW4 hz4 ⊢
 have HZ4 := hid_mk hz4
 refine (double_any w2.heap.size w3.heap.size lo hi w4 W _ _ _ p x ⟨f, n, c⟩ k y HP.out HW4.out (by omega) HPW.out HQ.out.1 HQ.out.2 ⟨by have := HS.out.mail; omega, HS.out.args⟩ (by have := HS.out.n; omega)).mono ?_
 generalize hEq : dupP p x ⟨f, n, c⟩ = X at *
 have HEq := hid_mk hEq
 clear hEq
 rintro e w5 ⟨rfl, ⟨a5, m5, lo5, hi5, hpw5⟩, hb5⟩
 obtain ⟨A5, c5, rfl⟩ := hpw5.acts.form
 obtain ⟨M5, dm, rfl, _⟩ := hpw5.mail.form
 obtain ⟨o0, o1, o2, o3, o4, o5⟩ := blk6 hpw5.box
 have hk5 := lowBlk HK4'.out hb5 (by omega)
 obtain ⟨u0, u1, u2, u3, u4, u5⟩ := blk6 hk5
 have fz : ∀ o, w5.frozen? ⟨W.heap.size + 1 + 1 + 1 + 1, o, none⟩ = false := fun o => heap_frozen hk5
 have n9 : ¬ W.heap.size + 1 + 1 + 1 + 1 = w3.heap.size := by omega
 have n8 : ¬ w3.heap.size = W.heap.size + 1 + 1 + 1 + 1 := by omega
 have y2 : w3.heap.size < w5.heap.size := by have := hb5.size; omega
 have HL5 := hid_mk ((HW4.out).trans (hb5.mono (by omega)))
 have HPW5 := hid_mk hpw5
 have HXL := hid_mk hXl
 clear hpw5 hb5 hk5 hz4 hXl
 go_wp2
 refine bodyPost_ret (v := .tuple #[wVal X.used (.slice A5 X.acts.length c5) (.slice M5 X.mail.length dm), .int .i64 0]) (by simp [results, Tryz.results12, go_sem, u0, u1, u2, u3, u4, u5]) rfl ⟨_, rfl, ?_, ?_⟩
 ·rw [HEq.out]
  exact wldNA (HPW5.out.wn.far (rb := W.heap.size + 1 + 1 + 1 + 1) put6_same (by omega)) HXL.out (by omega)
 ·exact put6_below HL5.out (by omega)
end Go.Proofs.YtfbeiedhdmndnaaGreatDoor
namespace Go.Proofs.YtfbeiedhdmndnaaGreatDoor
open Go.RowKit
theorem WN.setAct {N lo hi g c k i off : Nat} {W : World} {m v : Value} {x : PWld} {y y' : PLoc} (h : WN N lo hi W (.slice (some ⟨g, 0, none⟩) x.acts.length c) m x) (hy : x.acts[k]? = some y) (ho : off = k * 5 + i) (hi5 : i < 5) (hi0 : i ≠ 0) (hr0 : y'.regs = y.regs)
  (h1 : (i = 1 ∧ v = .bool y'.armed) ∨ (i ≠ 1 ∧ y'.armed = y.armed)) (h2 : (i = 2 ∧ v = .int .i64 y'.down) ∨ (i ≠ 2 ∧ y'.down = y.down))
  (h3 : (i = 3 ∧ v = .int .i64 y'.sent) ∨ (i ≠ 3 ∧ y'.sent = y.sent)) (h4 : (i = 4 ∧ v = .int .i64 y'.over) ∨ (i ≠ 4 ∧ y'.over = y.over)) :
  WN N lo hi (W.setCell ⟨g, off, none⟩ v) (.slice (some ⟨g, 0, none⟩) x.acts.length c) m (setL x k y') := by
 obtain ⟨A, cc, he, hc, hl⟩ := h.acts
 simp only [Value.slice.injEq] at he
 obtain ⟨rfl, _, rfl⟩ := he
 obtain ⟨g', e, hg, hr⟩ : ∃ g', (some ⟨g, 0, none⟩ : Option Addr) = some ⟨g', 0, none⟩ ∧ Qa N lo hi g' ∧ LR g' (fun _ b => Qa N lo hi b ∧ b ≠ g') W x.acts := by
  rcases hl with ⟨_, h2⟩ | h2
  ·cases h2
  ·exact h2
 cases e
 have hS : Same (fun d => d ≠ g) W (W.setCell ⟨g, off, none⟩ v) := setCell_same fun _ h => h
 have key := hr.put (P' := fun _ b => Qa N lo hi b ∧ b ≠ g) hy ho hi5 (fun _ _ hb => hb.2) (fun _ hb => hb.2) (fun _ _ _ hb => hb) (Or.inr ⟨hi0, hr0, fun _ hb => hb⟩) h1 h2 h3 h4
 refine ⟨⟨_, c, by rw [setL, List.length_set], by simpa [setL] using hc, Or.inr ⟨g, rfl, hg, key⟩⟩, h.mail.same (hS.weak ?_) (hS.weak ?_), h.le, by simpa [World.setCell] using h.hi⟩
 ·rintro b ⟨h1, _⟩ rfl; exact hg.2 h1
 ·rintro b ⟨h1, _⟩ rfl; exact hg.2 h1
set_option maxHeartbeats 8000000 in
set_option maxRecDepth 100000 in
theorem do_5 (W : World) (vp vw : Value) (p : PPrg) (b : PBud) (x : PWld) (e : PEv) (j : Nat) (y : PLoc) (ht : Tab W) (hp : PrgV W vp p) (hx : WldV W vw x) (hs : SmW x) (hi : isP p b x e = true) (hk : e.kind = 5) (hw : e.who = (j : Int)) (hz : x.acts[j]? = some y) :
  Calls Tryz.prog 12 #[vp, uVal b, vw, eVal e] W fun r w' => ∃ v, r = .returned (.tuple #[v, .int .i64 0]) ∧ WldA (fun b => W.heap.size ≤ b) w' v (crashP x j) ∧ Below W.heap.size W w' := by
 have HT := hid_mk ht
 have HP := hid_mk hp
 have HX := hid_mk hx
 have HS := hid_mk hs
 have HI := hid_mk hi
 have HZ := hid_mk hz
 have HWH := hid_mk hw
 have hjl : j < x.acts.length := (List.getElem?_eq_some_iff.1 hz).1
 have hji : (j : Int) < x.acts.length := by omega
 clear hz hw
 obtain ⟨κ, ⟨f, n, c⟩, who⟩ := e
 dsimp only at hk
 have HKK := hid_mk hk
 clear hk
 obtain ⟨vh, vb, vc, rfl, h1, h2, h3⟩ := hp
 obtain ⟨A1, c1, rfl, _⟩ := h1.form
 obtain ⟨A2, c2, rfl, _⟩ := h2.form
 obtain ⟨A3, c3, rfl, _⟩ := h3.form
 obtain ⟨va, vm, rfl, g1, g2⟩ := hx
 obtain ⟨B1, d1, rfl, _⟩ := g1.form
 obtain ⟨B2, d2, rfl, _⟩ := g2.form
 clear h1 h2 h3 g1 g2 ht hs hi
 have hA := five_new W (.cells #[.slice A1 p.hs.length c1, .slice A2 p.acs.length c2, .slice A3 p.bs.length c3, .int .i64 p.fuel] 26) (.cells #[.int .i64 b.drop, .int .i64 b.dup, .int .i64 b.time, .int .i64 b.crash] 28) (.cells #[.slice B1 x.acts.length d1, .slice B2 x.mail.length d2, .int .i64 x.used.drop, .int .i64 x.used.dup, .int .i64 x.used.time, .int .i64 x.used.crash] 32) (.cells #[.int .i64 κ, .int .i64 f, .int .i64 n, .int .i64 c, .int .i64 who] 36) zW
 have HL : Below W.heap.size W (((((W.alloc (.cells #[.slice A1 p.hs.length c1, .slice A2 p.acs.length c2, .slice A3 p.bs.length c3, .int .i64 p.fuel] 26)).alloc (.cells #[.int .i64 b.drop, .int .i64 b.dup, .int .i64 b.time, .int .i64 b.crash] 28)).alloc (.cells #[.slice B1 x.acts.length d1, .slice B2 x.mail.length d2, .int .i64 x.used.drop, .int .i64 x.used.dup, .int .i64 x.used.time, .int .i64 x.used.crash] 32)).alloc (.cells #[.int .i64 κ, .int .i64 f, .int .i64 n, .int .i64 c, .int .i64 who] 36)).alloc zW) := bAlloc (bAlloc (bAlloc (bAlloc (bAlloc (bRefl _) _) _) _) _) _
 go_enter Tryz.func12, Tryz.ntmps12
 go_wp2_with fail
 generalize (((((W.alloc (.cells #[.slice A1 p.hs.length c1, .slice A2 p.acs.length c2, .slice A3 p.bs.length c3, .int .i64 p.fuel] 26)).alloc (.cells #[.int .i64 b.drop, .int .i64 b.dup, .int .i64 b.time, .int .i64 b.crash] 28)).alloc (.cells #[.slice B1 x.acts.length d1, .slice B2 x.mail.length d2, .int .i64 x.used.drop, .int .i64 x.used.dup, .int .i64 x.used.time, .int .i64 x.used.crash] 32)).alloc (.cells #[.int .i64 κ, .int .i64 f, .int .i64 n, .int .i64 c, .int .i64 who] 36)).alloc zW) = w1 at hA HL ⊢
 refine (is_any _ _ _ p b x ⟨κ, ⟨f, n, c⟩, who⟩ (HT.out.below HL) (HP.out.below HL) (HX.out.below HL)).mono ?_
 rw [HI.out]
 rintro e w2 ⟨rfl, hb2⟩
 have HW2 := hid_mk (bTrans HL hb2)
 have HK0 := hid_mk (boxAt hA.1 hb2)
 have HK2 := hid_mk (boxAt hA.2.2.1 hb2)
 have HK3 := hid_mk (boxAt hA.2.2.2.1 hb2)
 have HK4 := hid_mk (boxAt hA.2.2.2.2.1 hb2)
 have hs2 : W.heap.size + 5 ≤ w2.heap.size := by have := hb2.size; have := hA.2.2.2.2.2; omega
 clear hA HL hb2
 obtain ⟨k0, k1, k2, k3, k4, k5⟩ := blk6 HK2.out
 go_wp2_with fail
 refine (copyW_any _ _ x (HX.out.below HW2.out) HS.out).mono ?_
 rintro e w3 ⟨a, m, lo, hi, rfl, hwn, hb3⟩
 obtain ⟨A', c', rfl⟩ := hwn.acts.form
 obtain ⟨B', d', rfl, _⟩ := hwn.mail.form
 have hs3 := hb3.size
 have HPW := hid_mk (hwn.toPW hb3.size).bw
 have hb4 : Below w2.heap.size w2 (w3.alloc (.cells #[.slice A' x.acts.length c', .slice B' x.mail.length d', .int .i64 x.used.drop, .int .i64 x.used.dup, .int .i64 x.used.time, .int .i64 x.used.crash] 32)) := bAlloc hb3 _
 have HK0' := hid_mk (boxAt HK0.out hb4)
 have HK3' := hid_mk (boxAt HK3.out hb4)
 have HK4' := hid_mk (boxAt HK4.out hb4)
 have HW4 := hid_mk (bTrans HW2.out hb4)
 obtain ⟨e0, e1, e2, e3, e4⟩ := blk5 (boxAt HK3.out hb3)
 obtain ⟨q0, q1, q2, q3⟩ := blk4 (boxAt HK0.out hb3)
 have z3 : W.heap.size + 3 < w3.heap.size := by omega
 have z0 : W.heap.size < w3.heap.size := by omega
 obtain ⟨g, cg, hge, hgN, hgr⟩ : ∃ g cg, Value.slice A' x.acts.length c' = .slice (some ⟨g, 0, none⟩) x.acts.length cg ∧ w2.heap.size ≤ g ∧ LR g (fun _ b => Qa w2.heap.size lo hi b ∧ b ≠ g) w3 x.acts := by
  obtain ⟨A, cc, he, _, ⟨e0, _⟩ | ⟨g, rfl, hg, hr⟩⟩ := hwn.acts
  ·rw [e0] at hjl; simp at hjl
  ·exact ⟨g, cc, he, hg.1, hr⟩
 simp only [Value.slice.injEq] at hge
 obtain ⟨rfl, _, rfl⟩ := hge
 obtain ⟨_, _, r2, _, _⟩ := hgr.rd j y HZ.out
 have fg : ∀ o, w3.frozen? ⟨g, o, none⟩ = false := hgr.frozen
 have y1 : g < w3.heap.size := hgr.lt
 have n1 : ¬ g = w3.heap.size := by omega
 have n2 : ¬ w3.heap.size = g := by omega
 have n3 : ¬ g = W.heap.size + 1 + 1 + 1 := by omega
 have n4 : ¬ W.heap.size + 1 + 1 + 1 = g := by omega
 have n5 : ¬ g = W.heap.size + 1 + 1 + 1 + 1 := by omega
 have n6 : ¬ W.heap.size + 1 + 1 + 1 + 1 = g := by omega
 have HWN := hid_mk hwn
 have HB3 := hid_mk hb3
 have HK4'' := hid_mk (boxAt HK4.out hb3)
 obtain ⟨u0, u1, u2, u3, u4, u5⟩ := blk6 HK4''.out
 have fz : ∀ o, w3.frozen? ⟨W.heap.size + 1 + 1 + 1 + 1, o, none⟩ = false := fun o => heap_frozen HK4''.out
 have n9 : ¬ W.heap.size + 1 + 1 + 1 + 1 = w3.heap.size := by omega
 have n8 : ¬ w3.heap.size = W.heap.size + 1 + 1 + 1 + 1 := by omega
 have z9 : W.heap.size + 1 + 1 + 1 + 1 < w3.heap.size := by omega
 clear hgr
 clear hwn hb3 k0 k1 k2 k3 k4 k5
 have hk := HKK.out
 have hw : who = (j : Int) := HWH.out
 subst hk hw
 go_wp2
 have hl : locAt x j = y := getD_at HZ.out
 have hw := HWN.out.setAct (y := y) (y' := { y with down := 1 }) (i := 2) (off := j * 5 + 2) (v := .int .i64 1) HZ.out rfl (by omega) (by omega) rfl (Or.inr ⟨by omega, rfl⟩) (Or.inl ⟨rfl, rfl⟩) (Or.inr ⟨by omega, rfl⟩) (Or.inr ⟨by omega, rfl⟩)
 have hcr : crashP x j = { setL x j { y with down := 1 } with used := { x.used with crash := wrap64 (x.used.crash + 1) } } := by unfold crashP; rw [hl]; rfl
 have hw' : WN w2.heap.size lo hi (w3.setCell ⟨g, j * 5 + 2, none⟩ (.int .i64 1)) (.slice (some ⟨g, 0, none⟩) x.acts.length c') (.slice B' x.mail.length d') (crashP x j) := by rw [hcr]; exact ⟨hw.acts, hw.mail, hw.le, hw.hi⟩
 have hcl : (crashP x j).acts.length ≤ 1000 := by rw [hcr]; have := HS.out.n; show (x.acts.set j _).length ≤ 1000; rw [List.length_set]; omega
 have hcu : (crashP x j).used = { x.used with crash := wrap64 (x.used.crash + 1) } := by rw [hcr]
 refine bodyPost_ret (v := .tuple #[wVal { x.used with crash := wrap64 (x.used.crash + 1) } (.slice (some ⟨g, 0, none⟩) x.acts.length c') (.slice B' x.mail.length d'), .int .i64 0]) (by simp [results, Tryz.results12, go_sem, u0, u1, u2, u3, u4, u5, z9]) rfl ⟨_, rfl, ?_, ?_⟩
 ·rw [← hcu]
  exact wldNA ((hw'.far (rb := W.heap.size + 1 + 1 + 1 + 1) put6_same (by omega)).below (bAlloc (bRefl _) _)) hcl (by omega)
 ·exact bAlloc (put6_below (((HW2.out).trans (HB3.out.mono (by omega))).setCell (p := ⟨g, _, none⟩) (by show W.heap.size ≤ g; omega) _) (by omega)) _
end Go.Proofs.YtfbeiedhdmndnaaGreatDoor
namespace Go.Proofs.YtfbeiedhdmndnaaGreatDoor
open Go.RowKit
structure SB (s t : MS) : Prop where
 regs : t.regs.length = s.regs.length
 nl : t.notes.length ≤ s.notes.length + 1
 st : t.st.length ≤ s.st.length + 2
 steps : t.steps = s.steps
 ar : ∀ n ∈ t.notes, n ∈ s.notes ∨ n.args.length ≤ s.st.length
theorem stp_b (p : PPrg) (who : Int) (args : List Int) (len : Nat) (i : PIns) (s : MS) : SB s (stp p who args len i s).2 := by
 unfold stp
 split <;> (try split) <;> refine ⟨?_, ?_, ?_, ?_, ?_⟩ <;> dsimp only <;> (try (intro n hn; first | exact Or.inl hn | (rcases List.mem_append.1 hn with hn | hn; exact Or.inl hn; rw [List.mem_singleton] at hn; subst hn; right; simp; omega))) <;> (try simp) <;> (try omega)
structure JB (s : MS) : Prop where
 nl : s.notes.length ≤ s.steps
 st : s.st.length ≤ 2 * s.steps
 ar : ∀ n ∈ s.notes, n.args.length ≤ 2 * s.steps
theorem rn_b (p : PPrg) (who : Int) (args : List Int) (code : List PIns) : ∀ (f : Nat) (s : MS), JB s → (rn p who args code f s).2.regs.length = s.regs.length ∧ JB (rn p who args code f s).2 ∧ (rn p who args code f s).2.steps ≤ s.steps + f
 | 0, s, h => by
  unfold rn
  split <;> exact ⟨rfl, h, Nat.le_refl _⟩
 | f + 1, s, h => by
  rw [rn]
  by_cases hp : s.pc < code.length
  ·rw [if_pos hp]
   have hb := stp_b p who args code.length (code.getD s.pc default) { s with pc := s.pc + 1, steps := s.steps + 1 }
   generalize stp p who args code.length (code.getD s.pc default) { s with pc := s.pc + 1, steps := s.steps + 1 } = r at hb ⊢
   have hst : r.2.steps = s.steps + 1 := hb.steps
   have hj : JB r.2 := by
    have h1 : r.2.notes.length ≤ s.notes.length + 1 := hb.nl
    have h2 : r.2.st.length ≤ s.st.length + 2 := hb.st
    refine ⟨by have := h.nl; omega, by have := h.st; omega, fun n hn => ?_⟩
    rcases hb.ar n hn with h3 | h3
    ·have := h.ar n h3; omega
    ·have h3' : n.args.length ≤ s.st.length := h3
     have := h.st; omega
   show (if r.1 = 0 then rn p who args code f r.2 else r).2.regs.length = _ ∧ JB (if r.1 = 0 then rn p who args code f r.2 else r).2 ∧ (if r.1 = 0 then rn p who args code f r.2 else r).2.steps ≤ _
   split
   ·obtain ⟨h1, h2, h3⟩ := rn_b p who args code f r.2 hj
    exact ⟨h1.trans hb.regs, h2, by omega⟩
   ·exact ⟨hb.regs, hj, by omega⟩
  ·rw [if_neg hp]; exact ⟨rfl, h, by show s.steps ≤ s.steps + (f + 1); omega⟩
structure RB (l : PLoc) (r : PRes) : Prop where
 nl : r.notes.length ≤ 256
 ar : ∀ n ∈ r.notes, n.args.length ≤ 512
 regs : r.loc.regs.length ≤ l.regs.length
theorem fin_b {p : PPrg} {who : Int} {l : PLoc} {h : Int} {args : List Int} (hf : p.fuel.toNat ≤ 256) : RB l (fin l (rnR p who l h args)) := by
 obtain ⟨h1, h2, h3⟩ := rn_b p who args (fcode p h) p.fuel.toNat (ms0 l) ⟨Nat.le_refl _, Nat.zero_le _, fun n hn => by cases hn⟩
 have h3' : (rn p who args (fcode p h) p.fuel.toNat (ms0 l)).2.steps ≤ 256 := by have : (ms0 l).steps = 0 := rfl; omega
 unfold fin rnR
 split
 ·exact ⟨by have := h2.nl; show (rn p who args (fcode p h) p.fuel.toNat (ms0 l)).2.notes.length ≤ 256; omega, fun n hn => by have := h2.ar n hn; omega, by show List.length _ ≤ _; rw [h1]; exact Nat.le_refl _⟩
 ·exact ⟨by simp, (fun n hn => by cases hn), Nat.le_refl _⟩
theorem runP_b (p : PPrg) (who : Int) (l : PLoc) (h : Int) (args : List Int) : RB l (runP p who l h args) := by
 by_cases hm : mayP p who l h args
 ·have e : runP p who l h args = fin l (rnR p who l h args) := by unfold runP; exact @if_pos _ (Classical.propDecidable _) hm _ _ _
  rw [e]
  have := chk_fuel (fc_parts hm.1).1
  exact fin_b (by omega)
 ·have e : runP p who l h args = ⟨⟨[], false, 0, 0, 0⟩, [], 0⟩ := by unfold runP; exact @if_neg _ (Classical.propDecidable _) hm _ _ _
  rw [e]
  exact ⟨by simp, (fun n hn => by cases hn), by simp⟩
end Go.Proofs.YtfbeiedhdmndnaaGreatDoor
namespace Go.Proofs.YtfbeiedhdmndnaaGreatDoor
open Go.RowKit
theorem isP_parts {p : PPrg} {b : PBud} {x : PWld} {e : PEv} (h : isP p b x e = true) : mayB b = true ∧ chkW p x = true ∧ isL (leftB b x.used) x e = true := by
 unfold isP fitsP at h
 simp only [Bool.and_eq_true] at h
 exact ⟨h.1.1, h.1.2, h.2⟩
theorem isP_msg {p : PPrg} {b : PBud} {x : PWld} {e : PEv} (h : isP p b x e = true) (hk : e.kind = 1 ∨ e.kind = 2 ∨ e.kind = 3) :
  ∃ (k : Nat) (y : PMsg) (j : Nat) (z : PLoc), fnd x.mail e.id = k ∧ x.mail[k]? = some y ∧ y.id = e.id ∧ y.nt.to = (j : Int) ∧ x.acts[j]? = some z ∧ e.who = 0 ∧ ofM (leftB b x.used) x e.kind y = true := by
 obtain ⟨_, hc, hl⟩ := isP_parts h
 unfold isL at hl
 rw [if_pos hk] at hl
 unfold isM at hl
 simp only [Bool.and_eq_true, decide_eq_true_eq] at hl
 obtain ⟨hw, hm⟩ := hl
 cases hfi : x.mail.findIdx? (fun m => decide (m.id = e.id)) with
 | none => rw [hfi] at hm; cases hm
 | some k =>
  rw [hfi] at hm
  have hf : fnd x.mail e.id = k := by unfold fnd; rw [hfi]
  obtain ⟨hkl, hid, _⟩ := List.findIdx?_eq_some_iff_getElem.1 hfi
  have hy : x.mail[k]? = some x.mail[k] := List.getElem?_eq_getElem hkl
  obtain ⟨h0, h1⟩ := chkW_to hc (List.getElem_mem hkl)
  obtain ⟨j, hj⟩ := Int.eq_ofNat_of_zero_le h0
  obtain ⟨z, hz⟩ := at_lt (l := x.acts) (k := j) (by omega)
  refine ⟨k, x.mail[k], j, z, hf, hy, by simpa using hid, hj, hz, hw, ?_⟩
  dsimp only at hm
  rw [getD_at hy] at hm
  exact hm
theorem isP_act {p : PPrg} {b : PBud} {x : PWld} {e : PEv} (h : isP p b x e = true) (hk : e.kind = 4 ∨ e.kind = 5) :
  ∃ (j : Nat) (z : PLoc) (ac : PAct), e.who = (j : Int) ∧ x.acts[j]? = some z ∧ p.acs[j]? = some ac ∧ chkLoc ac z = true ∧ e.id = ⟨0, 0, 0⟩ ∧ ofA (leftB b x.used) e.kind z = true := by
 obtain ⟨_, hc, hl⟩ := isP_parts h
 unfold isL at hl
 rw [if_neg (by omega), if_pos hk] at hl
 unfold isA at hl
 simp only [Bool.and_eq_true, decide_eq_true_eq] at hl
 obtain ⟨hi, ⟨h0, h1⟩, ha⟩ := hl
 obtain ⟨j, hj⟩ := Int.eq_ofNat_of_zero_le h0
 obtain ⟨z, hz⟩ := at_lt (l := x.acts) (k := j) (by omega)
 unfold chkW chkAs at hc
 simp only [Bool.and_eq_true, decide_eq_true_eq] at hc
 have hla := hc.2.1.1
 have hjl := (List.getElem?_eq_some_iff.1 hz).1
 obtain ⟨ac, hac⟩ := at_lt (l := p.acs) (k := j) (by omega)
 refine ⟨j, z, ac, hj, hz, hac, ?_, hi, ?_⟩
 ·have := hc.2.1.2 j hjl
  rwa [getD_at hac, getD_at hz] at this
 ·rw [hj, Int.toNat_natCast, getD_at hz] at ha
  exact ha
theorem isP_kind {p : PPrg} {b : PBud} {x : PWld} {e : PEv} (h : isP p b x e = true) : e.kind = 1 ∨ e.kind = 2 ∨ e.kind = 3 ∨ e.kind = 4 ∨ e.kind = 5 := by
 obtain ⟨_, _, hl⟩ := isP_parts h
 unfold isL at hl
 by_cases h1 : e.kind = 1 ∨ e.kind = 2 ∨ e.kind = 3
 ·rcases h1 with h1 | h1 | h1 <;> simp [h1]
 ·rw [if_neg h1] at hl
  by_cases h2 : e.kind = 4 ∨ e.kind = 5
  ·rcases h2 with h2 | h2 <;> simp [h2]
  ·rw [if_neg h2] at hl; cases hl
theorem set_mem {α : Type} {l : List α} {k : Nat} {y z : α} (h : z ∈ l.set k y) : z = y ∨ z ∈ l := (List.mem_or_eq_of_mem_set h).symm
theorem smW_set {x : PWld} {j : Nat} {y : PLoc} (hs : SmW x) (hy : y.regs.length ≤ 1000) : SmW (setL x j y) :=
 ⟨by show (x.acts.set j y).length ≤ 100; rw [List.length_set]; exact hs.n, fun a ha => by rcases set_mem ha with rfl | ha; exact hy; exact hs.regs a ha, hs.mail, hs.args⟩
theorem cut_in {l : List PMsg} {k : Nat} {m : PMsg} (h : m ∈ cutP l k) : m ∈ l := by
 unfold cutP at h
 rcases List.mem_append.1 h with h | h
 ·exact List.mem_of_mem_take h
 ·exact List.mem_of_mem_drop h
theorem cut_le (l : List PMsg) (k : Nat) : (cutP l k).length ≤ l.length := by unfold cutP; simp; omega
theorem smW_cut {x : PWld} {k : Nat} (hs : SmW x) : SmW { x with mail := cutP x.mail k } :=
 ⟨hs.n, hs.regs, Nat.le_trans (cut_le _ _) hs.mail, fun m hm => hs.args m (cut_in hm)⟩
theorem smW_used {x : PWld} {u : PBud} (hs : SmW x) : SmW { x with used := u } := ⟨hs.n, hs.regs, hs.mail, hs.args⟩
theorem tookP_eq {x : PWld} {d : PID} {k : Nat} (hf : fnd x.mail d = k) : tookP x d = { x with mail := cutP x.mail k } := by unfold tookP; rw [hf, Int.toNat_natCast]
theorem msgOf_eq {x : PWld} {d : PID} {k : Nat} {y : PMsg} (hf : fnd x.mail d = k) (hy : x.mail[k]? = some y) : msgOf x d = y := by unfold msgOf; rw [hf, Int.toNat_natCast, List.getD_eq_getElem?_getD, hy]; rfl
theorem doP_1 {p : PPrg} {x : PWld} {e : PEv} {k j : Nat} {y : PMsg} {z : PLoc} (hk : e.kind = 1) (hf : fnd x.mail e.id = k) (hy : x.mail[k]? = some y) (hj : y.nt.to = (j : Int)) (hz : x.acts[j]? = some z) :
  doP p x e = sendP p (setL { x with mail := cutP x.mail k } j (runP p j z y.nt.hd y.nt.args).loc) j (runP p j z y.nt.hd y.nt.args).notes := by
 unfold doP
 rw [doG_hdl (Or.inl hk)]
 unfold hdlW hdlWho hdlR
 have h4 : ¬ e.kind = 4 := by omega
 simp only [if_neg h4]
 rw [tookP_eq hf, msgOf_eq hf hy, hj, Int.toNat_natCast]
 have : locAt { x with mail := cutP x.mail k } j = z := getD_at hz
 rw [this]
theorem doP_4 {p : PPrg} {x : PWld} {e : PEv} {j : Nat} {z : PLoc} {ac : PAct} (hk : e.kind = 4) (hj : e.who = (j : Int)) (hz : x.acts[j]? = some z) (hac : p.acs[j]? = some ac) :
  doP p x e = sendP p (setL (calmP x j) j (runP p j { z with armed := false } ac.timer []).loc) j (runP p j { z with armed := false } ac.timer []).notes := by
 unfold doP
 rw [doG_hdl (Or.inr hk)]
 unfold hdlW hdlWho hdlR
 simp only [if_pos hk]
 rw [hj, Int.toNat_natCast]
 have h1 : locAt (calmP x j) j = { z with armed := false } := by
  unfold calmP
  have : locAt x j = z := getD_at hz
  rw [this]
  exact getD_at (List.getElem?_set_self (List.getElem?_eq_some_iff.1 hz).1)
 have h2 : tmOf p j = ac.timer := by unfold tmOf; rw [getD_at hac]
 rw [h1, h2]
theorem do_yes (W : World) (vp vw : Value) (p : PPrg) (b : PBud) (x : PWld) (e : PEv) (ht : Tab W) (hp : PrgV W vp p) (hx : WldV W vw x) (hs : SmW x) (hi : isP p b x e = true) :
  Calls Tryz.prog 12 #[vp, uVal b, vw, eVal e] W fun r w' => ∃ v, r = .returned (.tuple #[v, .int .i64 0]) ∧ WldA (fun b => W.heap.size ≤ b) w' v (doP p x e) ∧ Below W.heap.size W w' := by
 have hsz : x.acts.length ≤ 1000 := by have := hs.n; omega
 have hF : Few x.mail := ⟨by have := hs.mail; omega, hs.args⟩
 rcases isP_kind hi with hk | hk | hk | hk | hk
 ·obtain ⟨k, ⟨yd, ⟨t, hd, args⟩⟩, j, z, hf, hy, _, hj, hz, _⟩ := isP_msg hi (Or.inl hk)
  dsimp only at hj
  subst hj
  rw [doP_1 hk hf hy rfl hz]
  have hR := runP_b p j z hd args
  have hzr : z.regs.length ≤ 1000 := hs.regs z (List.mem_of_getElem? hz)
  refine do_hdl W vp vw p b x { x with mail := cutP x.mail k } e j z (runP p j z hd args) ht hp hx hs hi (Or.inl hk) ?_ hz rfl (smW_set (smW_cut hs) (by have := hR.regs; omega)) (by have := hR.nl; omega) (fun n hn => by have := hR.ar n hn; omega)
  intro N bo W4 a m hb hbo hWN hN4 hbw
  obtain ⟨κ, d, who⟩ := e
  dsimp only at hk hf
  refine (handle_1 (fun b => N ≤ b) bo W4 vp a m p x κ who d yd k j hd args z W (fun b hb => by omega) ht hp hb hbo hbw (by omega) hf hy hF hz hsz).mono ?_
  rintro r w' ⟨u, m', h1, h2, h3, h4⟩
  exact ⟨u, m', h1, h2, h3, h4.weak fun b hb => Or.inl hb⟩
 ·obtain ⟨k, y, j, z, hf, hy, _⟩ := isP_msg hi (Or.inr (Or.inl hk))
  have e1 : doP p x e = dropP x e.id := doG_2 hk
  rw [e1]
  exact do_2 W vp vw p b x e k y ht hp hx hs hi hk hf hy
 ·obtain ⟨k, y, j, z, hf, hy, _⟩ := isP_msg hi (Or.inr (Or.inr hk))
  have e1 : doP p x e = dupP p x e.id := doG_3 hk
  rw [e1]
  exact do_3 W vp vw p b x e k y ht hp hx hs hi hk hf hy
 ·obtain ⟨j, z, ac, hj, hz, hac, _⟩ := isP_act hi (Or.inl hk)
  rw [doP_4 hk hj hz hac]
  have hR := runP_b p j { z with armed := false } ac.timer []
  have hzr : z.regs.length ≤ 1000 := hs.regs z (List.mem_of_getElem? hz)
  have hlz : locAt x j = z := getD_at hz
  have hcs : SmW (calmP x j) := by unfold calmP; rw [hlz]; exact smW_set (smW_used hs) hzr
  have hz1 : (calmP x j).acts[j]? = some { z with armed := false } := by unfold calmP; rw [hlz]; exact List.getElem?_set_self (List.getElem?_eq_some_iff.1 hz).1
  have hl1 : (calmP x j).acts.length = x.acts.length := by unfold calmP; show (x.acts.set j _).length = _; rw [List.length_set]
  refine do_hdl W vp vw p b x (calmP x j) e j _ (runP p j { z with armed := false } ac.timer []) ht hp hx hs hi (Or.inr hk) ?_ hz1 hl1 (smW_set hcs (by have h1 := hR.regs; have h2 : ({ z with armed := false } : PLoc).regs.length = z.regs.length := rfl; omega)) (by have := hR.nl; omega) (fun n hn => by have := hR.ar n hn; omega)
  intro N bo W4 a m hb hbo hWN hN4 hbw
  obtain ⟨κ, d, who⟩ := e
  dsimp only at hk hj
  subst hk hj
  refine (handle_4 (fun b => N ≤ b) bo W4 vp a m p x d j z ac W (fun b hb => by omega) (fun b hb => by omega) ht hp hb hbo hbw hz hac hsz).mono ?_
  rintro r w' ⟨u, h1, h2, h3, h4⟩
  exact ⟨u, m, h1, h2, h3, h4⟩
 ·obtain ⟨j, z, ac, hj, hz, _⟩ := isP_act hi (Or.inr hk)
  have e1 : doP p x e = crashP x j := by unfold doP; rw [doG_5 hk, hj, Int.toNat_natCast]
  rw [e1]
  exact do_5 W vp vw p b x e j z ht hp hx hs hi hk hj hz
end Go.Proofs.YtfbeiedhdmndnaaGreatDoor
namespace Go.Proofs.YtfbeiedhdmndnaaGreatDoor
open Go.RowKit
def lrow (m : PLoc) (u : Value) : List Value := [u, .bool m.armed, .int .i64 m.down, .int .i64 m.sent, .int .i64 m.over]
structure LT (P : Nat → Prop) (base : Nat) (w : World) (v : Value) (l : List PLoc) (us : List Value) : Prop where
 own : w.ownsRow base 56 5 v l.length ((List.zipWith lrow l us).flatten)
 len : us.length = l.length
 rd : ∀ (k : Nat) (n : PLoc) (u : Value), l[k]? = some n → us[k]? = some u → Ints (fun b => P b ∧ v.ownBlock ≠ some b) w u n.regs
section
variable {P : Nat → Prop} {base : Nat} {w w1 w' : World} {v : Value} {l : List PLoc} {us : List Value}
theorem LT.same (h : LT P base w v l us) (hz : w.heap.size ≤ w'.heap.size) (hs : ∀ b, b < w.heap.size → P b ∨ v.ownBlock = some b → w'.heap[b]? = w.heap[b]?) : LT P base w' v l us :=
 ⟨own_block h.own fun g hg hlt => hs g hlt (Or.inr hg), h.len, fun k n u hn hu => (h.rd k n u hn hu).same ⟨hz, fun b hb hlt => hs b hlt (Or.inl hb.1)⟩⟩
theorem LT.below (h : LT P base w v l us) (hb : Below w.heap.size w w') : LT P base w' v l us := h.same hb.size fun b hlt _ => hb.block b hlt
theorem LT.form (h : LT P base w v l us) : ∃ A c, v = .slice A l.length c := by
 obtain ⟨h1, h2⟩ := h.own
 rcases h2 with ⟨rfl, h2⟩ | ⟨g, cap, cur, rfl, _⟩
 ·exact ⟨none, 0, by rw [h2]⟩
 ·exact ⟨_, cap, rfl⟩
theorem LT.nil (P : Nat → Prop) (base : Nat) (w : World) : LT P base w (.slice none 0 0) [] [] :=
 ⟨⟨rfl, Or.inl ⟨rfl, rfl⟩⟩, rfl, fun k n u hn => by simp at hn⟩
theorem zip_lenL : ∀ (l : List PLoc) (us : List Value), ∀ e ∈ List.zipWith lrow l us, e.length = 5
 | [], _, e, he => by simp at he
 | _ :: _, [], e, he => by simp at he
 | n :: l, u :: us, e, he => by
  rw [List.zipWith_cons_cons, List.mem_cons] at he
  rcases he with rfl | he
  ·rfl
  ·exact zip_lenL l us e he
theorem LT.push {g cap m : Nat} {ms : List PLoc} {xs : List Value} (h : LT P base w v l us) (hm : ms.length = m) (hx : xs.length = ms.length)
  (ho : w'.ownsRow base 56 5 (.slice (some ⟨g, 0, none⟩) (l.length + m) cap) (l.length + m) ((List.zipWith lrow l us).flatten ++ (List.zipWith lrow ms xs).flatten))
  (hg : w.grownBy w' v.ownBlock) (hat : v.ownBlock = some g ∨ g = w.heap.size) (hu : ∀ (k : Nat) (n : PLoc) (u : Value), ms[k]? = some n → xs[k]? = some u → Ints (fun b => P b ∧ v.ownBlock ≠ some b) w u n.regs) :
  LT P base w' (.slice (some ⟨g, 0, none⟩) (l.length + m) cap) (l ++ ms) (us ++ xs) := by
 have hge : ∀ b, (Value.slice (some ⟨g, 0, none⟩) (l.length + m) cap).ownBlock = some b → b = g := fun b hb => (Option.some.inj hb).symm
 have key : ∀ (n : PLoc) (u : Value), Ints (fun b => P b ∧ v.ownBlock ≠ some b) w u n.regs → Ints (fun b => P b ∧ (Value.slice (some ⟨g, 0, none⟩) (l.length + m) cap).ownBlock ≠ some b) w' u n.regs := fun n u h1 =>
  h1.lt.imp (fun b hb => ⟨hb.1.1, fun e => by
   have := hge b e
   subst this
   rcases hat with hat | hat
   ·exact hb.1.2 hat
   ·have := hb.2; omega⟩) hg.size fun b o x hb hlt hr => (World.cell?_of_block (w := w) (hg.block b hlt (fun e => hb.1.2 e.symm))).trans hr
 refine ⟨?_, by simp [h.len, hx], fun k n' u' hn hu' => ?_⟩
 ·rw [List.length_append, hm, List.zipWith_append (by rw [h.len]), List.flatten_append]
  exact ho
 ·by_cases hk : k < l.length
  ·rw [List.getElem?_append_left hk] at hn
   rw [List.getElem?_append_left (by rw [h.len]; exact hk)] at hu'
   exact key _ _ (h.rd k n' u' hn hu')
  ·rw [List.getElem?_append_right (by omega)] at hn
   rw [List.getElem?_append_right (by rw [h.len]; omega), h.len] at hu'
   exact key _ _ (hu _ n' u' hn hu')
theorem LT.locs (h : LT P base w v l us) (hl : l.length ≤ 1000000) : Locs (fun b => base ≤ b ∧ v.ownBlock = some b) P w v l := by
 obtain ⟨h1, h2⟩ := h.own
 rcases h2 with ⟨rfl, h2⟩ | ⟨g, cap, cur, rfl, hb, hh, h3, h4, h5, h6⟩
 ·have : l = [] := by cases l with | nil => rfl | cons _ _ => simp at h2
  subst this; exact ⟨_, _, rfl, by simp, by simp, Or.inl rfl⟩
 ·refine ⟨_, cap, rfl, by omega, h3, Or.inr ⟨g, 0, rfl, ⟨hb, rfl⟩, (Array.getElem?_eq_some_iff.1 hh).1, fun k n hn => ?_⟩⟩
  have hk := (List.getElem?_eq_some_iff.1 hn).1
  obtain ⟨u, hu⟩ := at_lt (l := us) (k := k) (by rw [h.len]; exact hk)
  have hz : (List.zipWith lrow l us)[k]? = some (lrow n u) := by rw [List.getElem?_zipWith, hn, hu]
  have hcell : ∀ j, j < l.length * 5 → w.cell? ⟨g, j, none⟩ = ((List.zipWith lrow l us).flatten)[j]? := fun j hj => by
   rw [cell_of_row _ _ _ _ _ _ hh, ← h6, List.getElem?_take, if_pos hj]; simp
  have hc : ∀ j, j < 5 → w.cell? ⟨g, 0 + k * 5 + j, none⟩ = (lrow n u)[j]? := fun j hj => by
   rw [Nat.zero_add, hcell _ (by omega), flat_at _ (zip_lenL l us) k j hj, hz]; rfl
  exact ⟨⟨u, hc 0 (by omega), (h.rd k n u hn hu).weak fun b hb => hb.1⟩, hc 1 (by omega), hc 2 (by omega), hc 3 (by omega), hc 4 (by omega)⟩
end
structure SS (N bw : Nat) (l : List PLoc) (v : Value) (wr : World) : Prop where
 box : wr.heap[bw]? = some (.cells #[v, .slice none 0 0, .int .i64 0, .int .i64 0, .int .i64 0, .int .i64 0] 32)
 lt : ∃ us, LT (fun b => N ≤ b ∧ b ≠ bw) N wr v l us
 nb : v.ownBlock ≠ some bw
 le : N ≤ bw
theorem SS.below {N bw : Nat} {l : List PLoc} {v : Value} {w w' : World} (h : SS N bw l v w) (hb : Below w.heap.size w w') : SS N bw l v w' := ⟨boxAt h.box hb, let ⟨us, hu⟩ := h.lt; ⟨us, hu.below hb⟩, h.nb, h.le⟩
theorem SS.next {N bw gn cn : Nat} {l : List PLoc} {us : List Value} {v u : Value} {x : PLoc} {wr w2 w3 : World} (h : SS N bw l v wr) (hl : LT (fun b => N ≤ b ∧ b ≠ bw) N wr v l us) (hN : N ≤ wr.heap.size) (hb : Below wr.heap.size wr w2) (hu : Ints (fun b => wr.heap.size ≤ b) w2 u x.regs)
  (ho : w3.ownsRow N 56 5 (.slice (some ⟨gn, 0, none⟩) (l.length + 1) cn) (l.length + 1) ((List.zipWith lrow l us).flatten ++ lrow x u)) (hg : (w2.alloc (.cells #[u, .bool x.armed, .int .i64 x.down, .int .i64 x.sent, .int .i64 x.over] 56)).grownBy w3 v.ownBlock) (hat : v.ownBlock = some gn ∨ gn = w2.heap.size + 1) :
  SS N bw (l ++ [x]) (.slice (some ⟨gn, 0, none⟩) (l.length + 1) cn) (w3.setCell ⟨bw, 0, none⟩ (.slice (some ⟨gn, 0, none⟩) (l.length + 1) cn)) := by
 have hbl : bw < wr.heap.size := (Array.getElem?_eq_some_iff.1 h.box).1
 have hz := hb.size
 have hB : Below wr.heap.size wr (w2.alloc (.cells #[u, .bool x.armed, .int .i64 x.down, .int .i64 x.sent, .int .i64 x.over] 56)) := bAlloc hb _
 have hvb : ∀ b, v.ownBlock = some b → b < wr.heap.size := fun b e => (own_lt hl.own e).2
 have hgb : gn ≠ bw := by
  rintro rfl
  rcases hat with e | e
  ·exact h.nb e
  ·omega
 have key := (hl.below hB).push (ms := [x]) (xs := [u]) (m := 1) rfl rfl (by simpa using ho) hg (hat.imp id fun e => by rw [e]; simp) (fun k n u' hn hu' => by
  cases k with
  | zero =>
   simp at hn hu'
   subst hn hu'
   exact (Ints.weak hu.lt fun b (hb : wr.heap.size ≤ b ∧ b < w2.heap.size) => ⟨⟨by omega, by omega⟩, fun e => by have := hvb b e; omega⟩).below (bAlloc (bRefl _) _)
  | succ k => simp at hn)
 have hS : Same (fun d => d ≠ bw) w3 (w3.setCell ⟨bw, 0, none⟩ (.slice (some ⟨gn, 0, none⟩) (l.length + 1) cn)) := setCell_same fun _ h => h
 have hbox3 : w3.heap[bw]? = some (.cells #[v, .slice none 0 0, .int .i64 0, .int .i64 0, .int .i64 0, .int .i64 0] 32) := by
  rw [hg.block bw (by simp; omega) (fun e => h.nb e.symm)]
  exact boxAt h.box hB
 refine ⟨(setCell_heap hbox3).trans (by simp), ⟨us ++ [u], key.same hS.size fun b hlt hb => hS.block b ?_ hlt⟩, fun e => hgb (Option.some.inj e), h.le⟩
 rcases hb with hb | hb
 ·exact hb.2
 ·intro e; exact hgb ((Option.some.inj hb).trans e)
theorem SS.low {N bw gn cn : Nat} {l : List PLoc} {us : List Value} {v u : Value} {x : PLoc} {w1 wr w2 w3 : World} (h : SS N bw l v wr) (hl : LT (fun b => N ≤ b ∧ b ≠ bw) N wr v l us) (hN : N ≤ w1.heap.size) (hw : Below N w1 wr) (hb : Below wr.heap.size wr w2)
  (hg : (w2.alloc (.cells #[u, .bool x.armed, .int .i64 x.down, .int .i64 x.sent, .int .i64 x.over] 56)).grownBy w3 v.ownBlock) : Below N w1 (w3.setCell ⟨bw, 0, none⟩ (.slice (some ⟨gn, 0, none⟩) (l.length + 1) cn)) := by
 have hz := hw.size
 have hB : Below wr.heap.size wr (w2.alloc (.cells #[u, .bool x.armed, .int .i64 x.down, .int .i64 x.sent, .int .i64 x.over] 56)) := bAlloc hb _
 have h1 : Below N w1 (w2.alloc (.cells #[u, .bool x.armed, .int .i64 x.down, .int .i64 x.sent, .int .i64 x.over] 56)) := hw.trans (hB.mono (by omega))
 exact (h1.grown hg (by have := h1.size; omega) (fun k hk => (own_lt hl.own hk).1)).setCell (p := ⟨bw, 0, none⟩) h.le _
section
attribute [local go_sem ↓] Go.wp_at_zero Go.wp_at_succ
def loc0 (a : PAct) : PLoc := ⟨a.regs, a.armed, 0, 0, 0⟩
def startL (p : PPrg) : List PLoc := p.acs.map loc0
def startW (p : PPrg) : PWld := ⟨startL p, [], ⟨0, 0, 0, 0⟩⟩
def startP (p : PPrg) : PWld := sendP p (startW p) (-1) p.bs
theorem infoL5 : (Tryz.prog.info? 56).map (fun i => (i.zero, i.size, i.bytes)) = some (some (.agg #[.slice none 0 0, .bool false, .int .i64 0, .int .i64 0, .int .i64 0]), 5, 56) := by kernel_rfl
theorem ss_next {N bw gn cn : Nat} {l : List PLoc} {us : List Value} {v u : Value} {ac : PAct} {w1 wr wa w2 w3 : World} (h : SS N bw l v wr) (hl : LT (fun b => N ≤ b ∧ b ≠ bw) N wr v l us) (hN : N = w1.heap.size) (hw : Below w1.heap.size w1 wr) (hba : Below wr.heap.size wr wa) (hb : Below wa.heap.size wa w2) (hu : Ints (fun b => wa.drew.heap.size ≤ b) w2 u ac.regs)
  (ho : w3.ownsRow N 56 5 (.slice (some ⟨gn, 0, none⟩) (l.length + 1) cn) (l.length + 1) ((List.zipWith lrow l us).flatten ++ [u, .bool ac.armed, .int .i64 0, .int .i64 0, .int .i64 0])) (hg : (w2.alloc (.cells #[u, .bool ac.armed, .int .i64 0, .int .i64 0, .int .i64 0] 56)).grownBy w3 v.ownBlock) (hat : v.ownBlock = some gn ∨ gn = w2.heap.size + 1) :
  SS N bw (l ++ [loc0 ac]) (.slice (some ⟨gn, 0, none⟩) (l.length + 1) cn) (w3.setCell ⟨bw, 0, none⟩ (.slice (some ⟨gn, 0, none⟩) (l.length + 1) cn)) ∧ Below w1.heap.size w1 (w3.setCell ⟨bw, 0, none⟩ (.slice (some ⟨gn, 0, none⟩) (l.length + 1) cn)) := by
 subst hN
 have hz := hw.size
 have hz2 := hba.size
 exact ⟨SS.next (x := loc0 ac) (h.below hba) (hl.below hba) (by omega) hb hu ho hg hat, SS.low (x := loc0 ac) (h.below hba) (hl.below hba) (Nat.le_refl _) (bTrans hw hba) hb hg⟩
theorem startL_at {p : PPrg} {k : Nat} {a : PAct} (h : p.acs[k]? = some a) : (startL p).take (k + 1) = (startL p).take k ++ [loc0 a] := by
 rw [List.take_add_one]; unfold startL; rw [List.getElem?_map, h]; rfl
theorem startL_len (p : PPrg) : (startL p).length = p.acs.length := by simp [startL]
theorem startSm {p : PPrg} (h : Small p) : SmW (startW p) := by
 obtain ⟨h1, h2, h3, h4, h5, h6⟩ := h
 refine ⟨?_, ?_, Nat.zero_le _, fun m hm => by cases hm⟩
 ·show (startL p).length ≤ 100; rw [startL_len]; omega
 ·intro a ha
  obtain ⟨b, hb, rfl⟩ := List.mem_map.1 (show a ∈ p.acs.map loc0 from ha)
  have := h5 b hb
  show b.regs.length ≤ 1000; omega
theorem msgs_nil (w : World) : Msgs anyB anyB w (.slice none 0 0) [] := ⟨none, 0, rfl, by simp, by simp, Or.inl rfl⟩
set_option maxHeartbeats 4000000 in
set_option maxRecDepth 100000 in
theorem start_yes (W : World) (vp : Value) (p : PPrg) (ht : Tab W) (hp : PrgV W vp p) (hs : Small p) (he : fc p = 0) :
  Calls Tryz.prog 27 #[vp] W fun e w' => ∃ a m lo hi, e = .returned (.tuple #[wVal (startP p).used a m, .int .i64 0]) ∧ WN W.heap.size lo hi w' a m (startP p) ∧ Below W.heap.size W w' := by
 have HP := hid_mk hp
 have HT := hid_mk ht
 have HS := hid_mk hs
 obtain ⟨i0, hi0, hz0, hz1, hz2⟩ := info_parts infoL5
 obtain ⟨vh, vb, vc, rfl, h1, h2, h3⟩ := hp
 obtain ⟨A1, c1, rfl, hl1⟩ := h1.form
 obtain ⟨A2, c2, rfl, hl2⟩ := h2.form
 obtain ⟨A3, c3, rfl, hl3⟩ := h3.form
 have e1 := ne0_no he
 have HBoot := hid_mk h3
 obtain ⟨w1, hw1⟩ := new_one (W.alloc (.cells #[.slice A1 p.hs.length c1, .slice A2 p.acs.length c2, .slice A3 p.bs.length c3, .int .i64 p.fuel] 26)) (.cells #[.slice none 0 0, .slice none 0 0, .int .i64 0, .int .i64 0, .int .i64 0, .int .i64 0] 32)
 have hA := two_new W (.cells #[.slice A1 p.hs.length c1, .slice A2 p.acs.length c2, .slice A3 p.bs.length c3, .int .i64 p.fuel] 26) (.cells #[.slice none 0 0, .slice none 0 0, .int .i64 0, .int .i64 0, .int .i64 0, .int .i64 0] 32)
 have HL : Hid (Below W.heap.size W ((W.alloc (.cells #[.slice A1 p.hs.length c1, .slice A2 p.acs.length c2, .slice A3 p.bs.length c3, .int .i64 p.fuel] 26)).alloc (.cells #[.slice none 0 0, .slice none 0 0, .int .i64 0, .int .i64 0, .int .i64 0, .int .i64 0] 32))) := bAlloc (bAlloc (bRefl _) _) _
 have HL1 : Hid (Below W.heap.size W w1) := by rw [hw1]; exact HL.out
 rw [← hw1] at hA
 have HA1 := hid_mk hA.1
 have HA2 := hid_mk hA.2.1
 have HZ := hid_mk hA.2.2
 have HW1 := hid_mk hw1
 clear h1 h3 he ht hA hw1 hs
 go_enter Tryz.func27, Tryz.ntmps27
 go_wp2_with (first
  | (go_at_call 68; refine (fcheck_any _ _ p (HT.out.below (by exact HL.out)) (HP.out.below (by exact HL.out))).mono ?_; rw [← HW1.out]; rintro e w2 ⟨rfl, hb2⟩; obtain ⟨k0, k1, k2, k3⟩ := blk4 (boxAt HA1.out hb2); have hz := hb2.size; have hzz := HZ.out; have z1 : W.heap.size < w2.heap.size := (by omega); have HB2 := hid_mk hb2; clear hb2 hz hzz))
 have HSS : Hid (SS w1.heap.size w2.heap.size [] (.slice none 0 0) (w2.alloc (.cells #[.slice none 0 0, .slice none 0 0, .int .i64 0, .int .i64 0, .int .i64 0, .int .i64 0] 32))) := ⟨heap_new _ _, ⟨[], ⟨⟨rfl, Or.inl ⟨rfl, rfl⟩⟩, rfl, fun k n u hn => by simp at hn⟩⟩, (fun e => by cases e), HB2.out.size⟩
 have HLW : Hid (Below w1.heap.size w1 (w2.alloc (.cells #[.slice none 0 0, .slice none 0 0, .int .i64 0, .int .i64 0, .int .i64 0, .int .i64 0] 32))) := bAlloc HB2.out _
 clear k0 k1 k2 k3 z1
 go_loopg [7, 17] p.acs.length (fun g i7 i17 wr => ∃ k : Nat, g = p.acs.length - k ∧ k ≤ p.acs.length ∧ i17 = .int .i64 k ∧ (∃ v, SS w1.heap.size w2.heap.size ((startL p).take k) v wr) ∧ Below w1.heap.size w1 wr)
 case atStart => exact ⟨0, rfl, by omega, rfl, ⟨_, HSS.out⟩, HLW.out⟩
 case round =>
  obtain ⟨k, rfl, hk, rfl, ⟨v, ss⟩, hb⟩ := hrel
  have hbw : Below W.heap.size W wr := bTrans HL1.out hb
  by_cases hlt : k < p.acs.length
  ·obtain ⟨b2, o2, ac, v2, rfl, ha, hzb, s1, s2, s3, s4, hv2⟩ := h2.cell hbw hlt
   obtain ⟨V2, n2, rfl, _⟩ := hv2.form
   have hsm : ac.regs.length ≤ 1000 := by have := HS.out.2.2.2.2.1 ac (List.mem_of_getElem? ha); omega
   have HTk := hid_mk (startL_at ha)
   have hlen : ((startL p).take k).length ≤ 10 := by rw [List.length_take]; have := startL_len p; have := HS.out.2.1; omega
   have HLn := hid_mk hlen
   clear ha hlen
   generalize (startL p).take k = l at *
   obtain ⟨us, hlt'⟩ := ss.lt
   obtain ⟨A9, c9, rfl⟩ := hlt'.form
   have hbl : w2.heap.size < wr.heap.size := (Array.getElem?_eq_some_iff.1 ss.box).1
   have hN1 : w1.heap.size ≤ wr.heap.size := hb.size
   have hnb := ss.nb
   have HSS2 := hid_mk ss
   have HLT := hid_mk hlt'
   have HB := hid_mk hb
   clear ss hlt' hb hbw
   go_wp2_with fail
   have hAB : (wr.alloc (.cells #[.slice V2 ac.regs.length n2, .int .i64 ac.cap, .int .i64 ac.timer, .bool ac.armed] 75)).heap[wr.heap.size]? = some (.cells #[.slice V2 ac.regs.length n2, .int .i64 ac.cap, .int .i64 ac.timer, .bool ac.armed] 75) := heap_new _ _
   have HLr : Hid (Below wr.heap.size wr (wr.alloc (.cells #[.slice V2 ac.regs.length n2, .int .i64 ac.cap, .int .i64 ac.timer, .bool ac.armed] 75))) := bAlloc (bRefl _) _
   generalize (wr.alloc (.cells #[.slice V2 ac.regs.length n2, .int .i64 ac.cap, .int .i64 ac.timer, .bool ac.armed] 75)) = wa at hAB HLr ⊢
   obtain ⟨t0, t1, t2, t3⟩ := blk4 hAB
   have hbx := boxAt HSS2.out.box HLr.out
   obtain ⟨u0, u1, u2, u3, u4, u5⟩ := blk6 hbx
   have fz : ∀ o, wa.frozen? ⟨w2.heap.size, o, none⟩ = false := fun o => heap_frozen hbx
   have zr : wr.heap.size < wa.heap.size := (Array.getElem?_eq_some_iff.1 hAB).1
   have zw : w2.heap.size < wa.heap.size := by omega
   have HBX := hid_mk hbx
   clear hAB s1 s2 s3 s4 hbx
   go_region_law ((first
    | (refine step_append_lies _ (by rfl) _ _ 29 (by rfl) w1.heap.size 56 i0 _ 5 56 Tryz.underlying29 hi0 hz0 hz1 hz2 rfl (by decide) (.slice A9 l.length c9) l.length _ (by rfl) HOWN.out ⟨w5.heap.size, 0, none⟩ 1 1 [.slice D1 ac.regs.length m1, .bool ac.armed, .int .i64 0, .int .i64 0, .int .i64 0] (by rfl) rfl HNEWS.out HONE.out (by decide) HM1.out HM2.out HM3.out (w5.heap.size + 1) HM4.out ?_; intro gn cn w6 hown hgr hat hgl2; obtain ⟨f0, f1⟩ := HFACTS.out w6 hgr; have HOW := hid_mk hown; have HGR := hid_mk hgr; have HAT := hid_mk hat; clear hown hgr hat hgl2)
    | (go_simp; go_at_call 69; refine (freshI_any _ _ _ ac.regs (hv2.below (by first | exact HLr.out | exact HLr.out.drew)) hsm).mono ?_; rintro e w5 ⟨D1, m1, rfl, hi1, hb1⟩; have HI1 := hid_mk hi1; have HB5 := hid_mk (undrew hb1); have hc5 := bcell (undrew hb1); have y5 := (undrew hb1).size; have yw : w2.heap.size < w5.heap.size := (by omega); have nw : ¬ w2.heap.size = w5.heap.size := (by omega); have nw' : ¬ w5.heap.size = w2.heap.size := (by omega); have yr : wr.heap.size < w5.heap.size := (by omega); have nr : ¬ wr.heap.size = w5.heap.size := (by omega); have nr' : ¬ w5.heap.size = wr.heap.size := (by omega); have HOWN : Hid ((w5.alloc (.cells #[.slice D1 ac.regs.length m1, .bool ac.armed, .int .i64 0, .int .i64 0, .int .i64 0] 56)).ownsRow w1.heap.size 56 5 (.slice A9 l.length c9) l.length ((List.zipWith lrow l us).flatten)) := (HLT.out.below (bTrans HLr.out (bAlloc HB5.out _))).own; have HNEWS : Hid (∀ j u, [.slice D1 ac.regs.length m1, .bool ac.armed, .int .i64 0, .int .i64 0, .int .i64 0][j]? = some u → (w5.alloc (.cells #[.slice D1 ac.regs.length m1, .bool ac.armed, .int .i64 0, .int .i64 0, .int .i64 0] 56)).cell? ((⟨w5.heap.size, 0, none⟩ : Addr).add j) = some u) := World.news_of_block (heap_new w5 _); have HONE : Hid (∀ u ∈ [Value.slice D1 ac.regs.length m1, .bool ac.armed, .int .i64 0, .int .i64 0, .int .i64 0], u.oneCell' = true) := (fun u hu => by simp at hu; rcases hu with rfl | rfl | rfl <;> rfl); have HM1 : Hid (l.length + 1 ≤ maxLen) := (by show _ ≤ _; have := HLn.out; unfold maxLen; omega); have HM2 : Hid ((l.length + 1) * 56 ≤ 140737488355328) := (by show _ ≤ _; have := HLn.out; omega); have HM3 : Hid (w1.heap.size ≤ (w5.alloc (.cells #[.slice D1 ac.regs.length m1, .bool ac.armed, .int .i64 0, .int .i64 0, .int .i64 0] 56)).heap.size) := (by show _ ≤ _; simp; omega); have HM4 : Hid ((w5.alloc (.cells #[.slice D1 ac.regs.length m1, .bool ac.armed, .int .i64 0, .int .i64 0, .int .i64 0] 56)).heap.size = w5.heap.size + 1) := (by show _ = _; simp); have HFACTS : Hid (∀ w6, (w5.alloc (.cells #[.slice D1 ac.regs.length m1, .bool ac.armed, .int .i64 0, .int .i64 0, .int .i64 0] 56)).grownBy w6 (Value.slice A9 l.length c9).ownBlock → w6.cell? ⟨w2.heap.size, 0, none⟩ = some (.slice A9 l.length c9) ∧ ∀ o, w6.frozen? ⟨w2.heap.size, o, none⟩ = false) := (fun w6 hgr => by have hk : w6.heap[w2.heap.size]? = _ := (hgr.block w2.heap.size (by simp; omega) (fun e => hnb e.symm)).trans (boxAt HBX.out (bAlloc HB5.out _)); exact ⟨(blk6 hk).1, fun o => heap_frozen hk⟩); clear hi1 hb1)))
   all_goals
    go_wp2
    go_roundg (p.acs.length - (k + 1))
    case measure => omega
    case rel =>
     have key := ss_next HSS2.out HLT.out rfl HB.out HLr.out HB5.out HI1.out HOW.out HGR.out HAT.out
     rw [← HTk.out] at key
     exact ⟨k + 1, rfl, by omega, by go_num, ⟨_, key.1⟩, key.2⟩
  ·obtain rfl : k = p.acs.length := by omega
   have hall : (startL p).take p.acs.length = startL p := List.take_of_length_le (by rw [startL_len]; exact Nat.le_refl _)
   rw [hall] at ss
   obtain ⟨us, hlt'⟩ := ss.lt
   obtain ⟨A9, c9, rfl⟩ := hlt'.form
   obtain ⟨k0, k1, k2, k3⟩ := blk4 (boxAt HA1.out hb)
   obtain ⟨u0, u1, u2, u3, u4, u5⟩ := blk6 ss.box
   have HWl : Hid (WldV wr (wVal (startW p).used (.slice A9 (startL p).length c9) (.slice none 0 0)) (startW p)) := ⟨_, _, rfl, (hlt'.locs (by rw [startL_len]; have := HS.out.2.1; omega)).any2, msgs_nil wr⟩
   have HB := hid_mk hb
   have HBw := hid_mk hbw
   have HR := hid_mk (boxAt HA2.out hb)
   clear ss hlt' hb hbw hall
   go_wp2_with (first
    | (go_at_call 39; refine (send_any _ _ _ _ p (startW p) (-1) p.bs (HP.out.below (by exact HBw.out)) HWl.out (startSm HS.out) (HBoot.out.below HBw.out) (by have := HS.out.2.2.1; omega) (fun n hn => by have := HS.out.2.2.2.2.2 n hn; omega)).mono ?_; rintro e w4 ⟨a4, m4, lo4, hi4, rfl, hwn, hb4⟩; obtain ⟨A', c', rfl⟩ := hwn.acts.form; obtain ⟨B', d', rfl, _⟩ := hwn.mail.form; obtain ⟨r0, r1, r2, r3, r4, r5⟩ := blk6 (boxAt HR.out hb4); have fz : ∀ o, w4.frozen? ⟨W.heap.size + 1, o, none⟩ = false := fun o => heap_frozen (boxAt HR.out hb4); have HWN := hid_mk hwn; have HB4 := hid_mk hb4; clear hwn hb4))
   have hz9 := HB.out.size
   have hz8 := HZ.out
   exact bodyPost_ret (v := .tuple #[wVal (sendP p (startW p) (-1) p.bs).used (.slice A' (sendP p (startW p) (-1) p.bs).acts.length c') (.slice B' (sendP p (startW p) (-1) p.bs).mail.length d'), .int .i64 0]) (by simp [results, Tryz.results27, go_sem, r0, r1, r2, r3, r4, r5]) rfl ⟨_, _, lo4, hi4, rfl, (HWN.out.far (rb := W.heap.size + 1) put6_same (by omega)).mono (by omega), put6_below (bTrans HBw.out HB4.out) (by omega)⟩
end
end Go.Proofs.YtfbeiedhdmndnaaGreatDoor
namespace Go.Proofs.YtfbeiedhdmndnaaGreatDoor

def closedAt (hs : List PHnd) (code : List PIns) (l : List Int) (k : Nat) : Bool :=
 match l[k]?, code[k]? with
 | some d, some i => if 0 ≤ d then decide (okI hs i d) && (nxt i k).all (fun j => l[j]? == some (lft hs i d)) else true
 | _, _ => true
def soundAt (code : List PIns) (l : List Int) (k pr : Nat) : Bool :=
 l[k]? == some (-1) || (decide (pr < k) && (match l[pr]?, code[pr]? with
  | some d, some i => decide (0 ≤ d) && (nxt i pr).contains k
  | _, _ => false))
def goodB (hs : List PHnd) (code : List PIns) (l : List Int) (pr : Nat → Nat) : Bool :=
 l.length == code.length + 1 && l[0]? == some 0 && (List.range code.length).all (closedAt hs code l) && (List.range code.length).all (fun k => soundAt code l (k + 1) (pr (k + 1)))

section
variable {hs : List PHnd} {code : List PIns} {l : List Int}
theorem closedAt_dn {k : Nat} (h : closedAt hs code l k = true) : Dn hs code l k := by
 intro d i hd h0 hi
 unfold closedAt at h
 rw [hd, hi] at h
 simp only [if_pos h0, Bool.and_eq_true, decide_eq_true_eq, List.all_eq_true, beq_iff_eq] at h
 exact ⟨h.1, fun j hj => h.2 j hj⟩
theorem goodB_good {pr : Nat → Nat} (h : goodB hs code l pr = true) : Good hs code l := by
 unfold goodB at h
 simp only [Bool.and_eq_true, beq_iff_eq, List.all_eq_true, List.mem_range] at h
 obtain ⟨⟨⟨h1, h2⟩, h3⟩, h4⟩ := h
 have cl : ∀ k, Dn hs code l k := fun k => by
  by_cases hk : k < code.length
  ·exact closedAt_dn (h3 k hk)
  ·intro d i _ _ hi
   rw [List.getElem?_eq_none (by omega)] at hi; cases hi
 refine ⟨⟨h1, h2, fun k => ?_⟩, cl⟩
 induction k using Nat.strongRecOn with
 | _ k ih =>
  intro d hd
  match k, ih, hd with
  | 0, _, hd => rw [h2] at hd; cases hd; exact Or.inr .start
  | k + 1, ih, hd =>
   have hk : k < code.length := by have := (List.getElem?_eq_some_iff.1 hd).1; omega
   have hs := h4 k hk
   unfold soundAt at hs
   rw [Bool.or_eq_true, Bool.and_eq_true, beq_iff_eq, decide_eq_true_eq] at hs
   rcases hs with hs | ⟨hlt, hs⟩
   ·rw [hd] at hs; exact Or.inl (Option.some.inj hs)
   ·generalize hpr : pr (k + 1) = r at hlt hs
    cases hx : l[r]? with
    | none => rw [hx] at hs; simp at hs
    | some x =>
     cases hy : code[r]? with
     | none => rw [hx, hy] at hs; simp at hs
     | some i =>
      rw [hx, hy] at hs
      simp only [Bool.and_eq_true, decide_eq_true_eq, List.contains_iff_mem] at hs
      obtain ⟨h0, hm⟩ := hs
      obtain ⟨ho, hn⟩ := cl r x i hx h0 hy
      have hr : Rch _ code r x := (ih r hlt x hx).resolve_left (by omega)
      have e := hn _ hm
      rw [hd] at e
      rw [Option.some.inj e]
      exact Or.inr (.step hr hy ho hm)

def way (hs : List PHnd) (code : List PIns) : Nat → Int → List Nat → Option (Nat × Int)
 | k, d, [] => some (k, d)
 | k, d, j :: r =>
  match code[k]? with
  | some i => if okI hs i d ∧ j ∈ nxt i k then way hs code j (lft hs i d) r else none
  | none => none
end

def hP (code : List PIns) : PPrg := ⟨[⟨0, code⟩], [⟨[0], 0, -1, false⟩], [], 100⟩
end Go.Proofs.YtfbeiedhdmndnaaGreatDoor
