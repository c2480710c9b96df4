/-
  Who falls (StepCrashes), plainly; and walked. Condition: the table of the instructions is in the world.
-/
import Derived.Test.YtgdloonpemaijaaDoorPk14
namespace Go.Proofs.YtgdloonpemaijaaDoor
open Go.RowKit
def cbu : PBud := ⟨1, 0, 0, 1⟩
def ev0 : PEv := ⟨1, ⟨-1, 0, 0⟩, 0⟩
def evC (k : Nat) : PEv := ⟨5, ⟨0, 0, 0⟩, (k : Int)⟩
/-- The world ahead of the fall. -/
def xc (f : Bool) (n : Nat) : PWld := if f then startP (pairP (n : Int)) else doQ (pairP (n : Int)) (startP (pairP (n : Int))) ev0
def kc (f : Bool) : Nat := if f then 0 else 1
/-- Behind the fall. -/
def xd (f : Bool) (n : Nat) : PWld := { setL (xc f n) (kc f) { locAt (xc f n) (kc f) with down := 1 } with used := { (xc f n).used with crash := 1 } }
def crOk (f : Bool) (n : Nat) : Bool := decide ((xc f n).acts.length = 2) && (decide ((xc f n).mail.length = 1) && (smwB (xc f n) && (isQ (pairP (n : Int)) cbu (xc f n) (evC (kc f)) &&
  (decide (doQ (pairP (n : Int)) (xc f n) (evC (kc f)) = xd f n) && (decide ((enQ (leftB ⟨0, 0, 0, 0⟩ (xd f n).used) (xd f n) 2).length = 0) && (decide ((enQ (leftB cbu (xd f n).used) (xd f n) 2).length = 1) && (chkAs (pairP (n : Int)) (xd f n).acts && (chkM (pairP (n : Int)) (xd f n) && (chkUsed (xd f n).used && (isQ (pairP (n : Int)) cbu (startP (pairP (n : Int))) ev0 && (smwB (startP (pairP (n : Int))) && decide ((startP (pairP (n : Int))).acts.length = 2 ∧ (startP (pairP (n : Int))).mail.length = 1))))))))))))
theorem cr_all : ∀ n, n < 11 → 1 ≤ n → crOk true n = true ∧ crOk false n = true := by decide +kernel
structure CrF (f : Bool) (n : Nat) : Prop where
  al : (xc f n).acts.length = 2
  ml : (xc f n).mail.length = 1
  sm : SmW (xc f n)
  is : isP (pairP (n : Int)) cbu (xc f n) (evC (kc f)) = true
  dq : doP (pairP (n : Int)) (xc f n) (evC (kc f)) = xd f n
  e0 : (enabP (pairP (n : Int)) ⟨0, 0, 0, 0⟩ (xd f n)).length = 0
  e1 : (enabP (pairP (n : Int)) cbu (xd f n)).length = 1
  i0 : isP (pairP (n : Int)) cbu (startP (pairP (n : Int))) ev0 = true
  s0 : SmW (startP (pairP (n : Int)))
  a0 : (startP (pairP (n : Int))).acts.length = 2
  m0 : (startP (pairP (n : Int))).mail.length = 1
theorem cr_f {f : Bool} {n : Nat} (h : crOk f n = true) : CrF f n := by
  unfold crOk at h
  simp only [Bool.and_eq_true, decide_eq_true_eq] at h
  obtain ⟨h1, h2, h3, h4, h5, h6, h7, h8, h9, h10, h11, h12, h13, h14⟩ := h
  have hfc := pair_fc (n : Int)
  have hch : chkW (pairP (n : Int)) (xd f n) = true := by unfold chkW; rw [decide_eq_true hfc, h8, h9, h10]; rfl
  have hf1 : fitsP (pairP (n : Int)) ⟨0, 0, 0, 0⟩ (xd f n) = true := by unfold fitsP; rw [hch]; rfl
  have hf2 : fitsP (pairP (n : Int)) cbu (xd f n) = true := by unfold fitsP; rw [hch]; rfl
  exact ⟨h1, h2, smW_of h3, by rw [isP_Q hfc]; exact h4, by rw [doP_Q hfc]; exact h5, by rw [enabP_yes hf1]; exact h6, by rw [enabP_yes hf2]; exact h7, by rw [isP_Q hfc]; exact h11, smW_of h12, h13, h14⟩
set_option maxHeartbeats 8000000 in
set_option maxRecDepth 100000 in
theorem crash_true (w : World) (n : Nat) (ht : Tab w) (h1 : 1 ≤ n) (h2 : n < 11) : Calls Tryd.prog 12 #[.int .i64 (n : Int), .bool true] w fun e w' => e = .returned (.bool true) ∧ Below w.heap.size w w' := by
  have HT := hid_mk ht
  have HC := hid_mk (cr_f (cr_all n h2 h1).1)
  have hn1 : ¬ (n : Int) < 1 := by omega
  have hn2 : ¬ (10 : Int) < (n : Int) := by omega
  clear ht h1 h2
  go_enter Tryd.func12, Tryd.ntmps12
  go_wp2_with fail
  refine (pair_any (n : Int) w).mono ?_
  rintro e w1 ⟨rfl, hp1, hb1⟩
  have HP1 := hid_mk hp1
  have HB1 := hid_mk hb1
  clear hp1 hb1 hn1 hn2
  go_wp2_with fail
  have hK2 := heap_new w1 (.cells #[.slice (some ⟨w.heap.size + 1 + 1 + 1, 0, none⟩) 2 2, .slice (some ⟨w.heap.size + 1 + 1 + 1 + 1 + 1 + 1, 0, none⟩) 2 2, .slice (some ⟨w.heap.size + 1 + 1 + 1 + 1 + 1 + 1 + 1 + 1, 0, none⟩) 1 1, .int .i64 20] 26)
  have HL2 : Below w1.heap.size w1 (w1.alloc (.cells #[.slice (some ⟨w.heap.size + 1 + 1 + 1, 0, none⟩) 2 2, .slice (some ⟨w.heap.size + 1 + 1 + 1 + 1 + 1 + 1, 0, none⟩) 2 2, .slice (some ⟨w.heap.size + 1 + 1 + 1 + 1 + 1 + 1 + 1 + 1, 0, none⟩) 1 1, .int .i64 20] 26)) := bAlloc (bRefl _) _
  generalize w1.alloc (.cells #[.slice (some ⟨w.heap.size + 1 + 1 + 1, 0, none⟩) 2 2, .slice (some ⟨w.heap.size + 1 + 1 + 1 + 1 + 1 + 1, 0, none⟩) 2 2, .slice (some ⟨w.heap.size + 1 + 1 + 1 + 1 + 1 + 1 + 1 + 1, 0, none⟩) 1 1, .int .i64 20] 26) = w2 at hK2 HL2 ⊢
  have HW2 := hid_mk (bTrans HB1.out HL2)
  have HP2 := hid_mk (HP1.out.below HL2)
  refine (start_yes w2 _ (pairP (n : Int)) (HT.out.below HW2.out) HP2.out.prg (pair_small _) (pair_fc _)).mono ?_
  rw [show startP (pairP (n : Int)) = xc true n from rfl]
  rintro e w3 ⟨a3, m3, lo3, hi3, rfl, hwn3, hb3⟩
  have l2 : (xc true n).acts.length = 2 := HC.out.al
  have l1 : (xc true n).mail.length = 1 := HC.out.ml
  obtain ⟨A3, c3, rfl⟩ := hwn3.acts.form
  obtain ⟨M3, d3, rfl, _⟩ := hwn3.mail.form
  rw [l2, l1] at hwn3
  have HWV := hid_mk (hwn3.wld HC.out.sm)
  have HK0 := hid_mk (boxAt hK2 hb3)
  have HP3 := hid_mk (HP2.out.below hb3)
  have HW3 := hid_mk (bTrans HW2.out hb3)
  have z1 : w1.heap.size < w3.heap.size := (Array.getElem?_eq_some_iff.1 HK0.out).1
  obtain ⟨p0, p1, p2, p3⟩ := blk4 HK0.out
  clear hK2 hwn3 hb3
  go_wp2_with fail
  have hA := two_new w3 (.cells #[.slice A3 2 c3, .slice M3 1 d3, .int .i64 (xc true n).used.drop, .int .i64 (xc true n).used.dup, .int .i64 (xc true n).used.time, .int .i64 (xc true n).used.crash] 44) (.cells #[.int .i64 1, .int .i64 0, .int .i64 0, .int .i64 1] 42)
  have HL : Below w3.heap.size w3 ((w3.alloc (.cells #[.slice A3 2 c3, .slice M3 1 d3, .int .i64 (xc true n).used.drop, .int .i64 (xc true n).used.dup, .int .i64 (xc true n).used.time, .int .i64 (xc true n).used.crash] 44)).alloc (.cells #[.int .i64 1, .int .i64 0, .int .i64 0, .int .i64 1] 42)) := bAlloc (bAlloc (bRefl _) _) _
  generalize ((w3.alloc (.cells #[.slice A3 2 c3, .slice M3 1 d3, .int .i64 (xc true n).used.drop, .int .i64 (xc true n).used.dup, .int .i64 (xc true n).used.time, .int .i64 (xc true n).used.crash] 44)).alloc (.cells #[.int .i64 1, .int .i64 0, .int .i64 0, .int .i64 1] 42)) = wq at hA HL ⊢
  have HKP := hid_mk (boxAt HK0.out HL)
  have HKW := hid_mk hA.1
  have HKB := hid_mk hA.2.1
  have HPQ := hid_mk (HP3.out.below HL)
  have HWQ := hid_mk (bTrans HW3.out HL)
  have HWV := hid_mk (HWV.out.below HL)
  clear hA HL p0 p1 p2 p3 l1 l2
  have l2 : (xc true n).acts.length = 2 := HC.out.al
  have l1 : (xc true n).mail.length = 1 := HC.out.ml
  refine (copyW_any _ _ (xc true n) HWV.out HC.out.sm).mono ?_
  rintro e w4 ⟨a4, m4, lo4, hi4, rfl, hwn4, hb4⟩
  obtain ⟨A4, c4, rfl⟩ := hwn4.acts.form
  obtain ⟨M4, d4, rfl, _⟩ := hwn4.mail.form
  rw [l2, l1] at hwn4
  have HPW := hid_mk (hwn4.toPW hb4.size)
  have HN4 := hid_mk hb4.size
  have hkp := boxAt HKP.out hb4
  have hkb := boxAt HKB.out hb4
  have hkw := boxAt HKW.out hb4
  obtain ⟨p0, p1, p2, p3⟩ := blk4 hkp
  obtain ⟨b0, b1, b2, b3⟩ := blk4 hkb
  obtain ⟨x0, x1, x2, x3, x4, x5⟩ := blk6 hkw
  have y1 : w1.heap.size < w4.heap.size := (Array.getElem?_eq_some_iff.1 hkp).1
  have y2 : w3.heap.size < w4.heap.size := (Array.getElem?_eq_some_iff.1 hkw).1
  have y3 : w3.heap.size + 1 < w4.heap.size := (Array.getElem?_eq_some_iff.1 hkb).1
  have HB4 := hid_mk hb4
  clear hwn4 hkp hkb hkw hb4
  go_wp2_with fail
  have HL5 : Below wq.heap.size wq (w4.alloc (.cells #[.slice A4 2 c4, .slice M4 1 d4, .int .i64 (xc true n).used.drop, .int .i64 (xc true n).used.dup, .int .i64 (xc true n).used.time, .int .i64 (xc true n).used.crash] 44)) := bAlloc HB4.out _
  have hz5 : w4.heap.size < (w4.alloc (.cells #[.slice A4 2 c4, .slice M4 1 d4, .int .i64 (xc true n).used.drop, .int .i64 (xc true n).used.dup, .int .i64 (xc true n).used.time, .int .i64 (xc true n).used.crash] 44)).heap.size := by simp
  generalize (w4.alloc (.cells #[.slice A4 2 c4, .slice M4 1 d4, .int .i64 (xc true n).used.drop, .int .i64 (xc true n).used.dup, .int .i64 (xc true n).used.time, .int .i64 (xc true n).used.crash] 44)) = w5 at HPW HL5 hz5 ⊢
  clear p0 p1 p2 p3 b0 b1 b2 b3 x0 x1 x2 x3 x4 x5 y1 y2 y3
  refine (do_yes w5 _ _ (pairP (n : Int)) cbu (xc true n) (evC (kc true)) (HT.out.below (bTrans HWQ.out HL5)) (HPQ.out.below HL5).prg (HWV.out.below HL5) HC.out.sm HC.out.is).mono ?_
  rw [HC.out.dq]
  rintro e w6 ⟨v6, rfl, hv6, hb6⟩
  have e2 : (xd true n).acts.length = 2 := by show ((xc true n).acts.set _ _).length = 2; rw [List.length_set]; exact HC.out.al
  have e1 : (xd true n).mail.length = 1 := HC.out.ml
  obtain ⟨a6, m6, rfl, ha6, hm6⟩ := hv6
  obtain ⟨A6, c6, rfl, _⟩ := ha6.form
  obtain ⟨M6, d6, rfl, _⟩ := hm6.form
  rw [e2] at ha6
  rw [e1] at hm6
  have HV6 : Hid (WldA (fun b => w5.heap.size ≤ b) w6 (wVal (xd true n).used (.slice A6 2 c6) (.slice M6 1 d6)) (xd true n)) := ⟨_, _, rfl, ha6, hm6⟩
  have hpw6 := HPW.out.below hb6
  obtain ⟨g, cg, hge, hgN, hgb, hgr⟩ := hpw6.row (by rw [l2]; omega)
  rw [l2] at hge
  simp only [Value.slice.injEq] at hge
  obtain ⟨rfl, _, rfl⟩ := hge
  have hg4 : g < w5.heap.size := by
    have h := HPW.out.acts
    exact (h.own (g := g) rfl).2
  obtain ⟨y, hy⟩ := at_lt (l := (xc true n).acts) (k := 0) (by rw [l2]; omega)
  obtain ⟨_, _, r2, _, _⟩ := hgr.rd 0 y hy
  have fg : ∀ o, w6.frozen? ⟨g, o, none⟩ = false := hgr.frozen
  have hg6 : g < w6.heap.size := hgr.lt
  obtain ⟨o0, o1, o2, o3, o4, o5⟩ := blk6 hpw6.box
  have fo : ∀ o, w6.frozen? ⟨w4.heap.size, o, none⟩ = false := fun o => heap_frozen hpw6.box
  have y4 : w4.heap.size < w6.heap.size := (Array.getElem?_eq_some_iff.1 hpw6.box).1
  have n1 : ¬ g = w4.heap.size := hgb
  have n2 : ¬ w4.heap.size = g := fun e => hgb e.symm
  have HPW6 := hid_mk hpw6
  have HY := hid_mk hy
  have HB6 := hid_mk hb6
  have HL5' := hid_mk HL5
  clear hpw6 hgr hy hb6 ha6 hm6
  rw [show 0 * 5 + 2 = 2 from rfl] at r2
  go_wp2_with fail
  have hh : PW wq.heap.size w4.heap.size lo4 hi4 w6 (.slice (some ⟨g, 0, none⟩) (xc true n).acts.length c4) (.slice M4 1 d4) (xc true n) := by rw [l2]; exact HPW6.out
  have hlk : locAt (xc true n) 0 = y := getD_at HY.out
  have hpa := (hh.setAct (y := y) (y' := { y with down := 1 }) (i := 2) (off := 2) (v := .int .i64 1) HY.out rfl (by omega) (by omega) rfl (Or.inr ⟨by omega, rfl⟩) (Or.inl ⟨rfl, rfl⟩) (Or.inr ⟨by omega, rfl⟩) (Or.inr ⟨by omega, rfl⟩)).setUsed (i := 5) (v := .int .i64 1) (u := { (xc true n).used with crash := 1 }) (by simp)
  have hxd : xd true n = { { (xc true n) with acts := (xc true n).acts.set 0 { y with down := 1 } } with used := { (xc true n).used with crash := 1 } } := by
    show ({ setL (xc true n) 0 { locAt (xc true n) 0 with down := 1 } with used := _ } : PWld) = _
    rw [hlk]; rfl
  rw [l2] at hpa
  have hwx : WldV ((w6.setCell ⟨g, 2, none⟩ (.int .i64 1)).setCell ⟨w4.heap.size, 5, none⟩ (.int .i64 1)) (wVal { (xc true n).used with crash := 1 } (.slice (some ⟨g, 0, none⟩) 2 c4) (.slice M4 1 d4)) (xd true n) := by
    rw [hxd]
    exact hpa.bw.wld (by show ((xc true n).acts.set 0 _).length ≤ 1000; rw [List.length_set, l2]; decide)
  have hS1 : Same (fun d => d ≠ g) w6 (w6.setCell ⟨g, 2, none⟩ (.int .i64 1)) := setCell_same fun _ h => h
  have hS2 : Same (fun d => d ≠ w4.heap.size) (w6.setCell ⟨g, 2, none⟩ (.int .i64 1)) ((w6.setCell ⟨g, 2, none⟩ (.int .i64 1)).setCell ⟨w4.heap.size, 5, none⟩ (.int .i64 1)) := setCell_same fun _ h => h
  have hv7 := (HV6.out.same (hS1.weak fun b hb => by have hb' : w5.heap.size ≤ b := hb; show b ≠ g; omega)).same (hS2.weak fun b hb => by have hb' : w5.heap.size ≤ b := hb; show b ≠ w4.heap.size; omega)
  have hN4 := HN4.out
  have hb46 : Below wq.heap.size wq w6 := bTrans HL5'.out HB6.out
  have hlow : Below wq.heap.size wq ((w6.setCell ⟨g, 2, none⟩ (.int .i64 1)).setCell ⟨w4.heap.size, 5, none⟩ (.int .i64 1)) := (hb46.setCell (p := ⟨g, _, none⟩) hgN _).setCell (p := ⟨w4.heap.size, _, none⟩) hN4 _
  have hz7 : ((w6.setCell ⟨g, 2, none⟩ (.int .i64 1)).setCell ⟨w4.heap.size, 5, none⟩ (.int .i64 1)).heap.size = w6.heap.size := by simp [World.setCell]
  clear hh hpa hS1 hS2 o0 o1 o2 o3 o4 o5 fo fg r2 hlk hxd n1 n2 y4 hg4 hg6 hb46
  generalize ((w6.setCell ⟨g, 2, none⟩ (.int .i64 1)).setCell ⟨w4.heap.size, 5, none⟩ (.int .i64 1)) = w7 at hwx hv7 hlow hz7 ⊢
  have hK8 := heap_new w7 (.cells #[.slice A6 2 c6, .slice M6 1 d6, .int .i64 (xd true n).used.drop, .int .i64 (xd true n).used.dup, .int .i64 (xd true n).used.time, .int .i64 (xd true n).used.crash] 44)
  rw [hz7] at hK8
  have hL8 : Below w7.heap.size w7 (w7.alloc (.cells #[.slice A6 2 c6, .slice M6 1 d6, .int .i64 (xd true n).used.drop, .int .i64 (xd true n).used.dup, .int .i64 (xd true n).used.time, .int .i64 (xd true n).used.crash] 44)) := bAlloc (bRefl _) _
  have hv8 := (hv7.below hL8).wld
  have hwx8 := hwx.below hL8
  have hlow8 := hlow.trans (hL8.mono hlow.size)
  clear hz7 hv7 hwx hlow
  generalize w7.alloc (.cells #[.slice A6 2 c6, .slice M6 1 d6, .int .i64 (xd true n).used.drop, .int .i64 (xd true n).used.dup, .int .i64 (xd true n).used.time, .int .i64 (xd true n).used.crash] 44) = w8 at hK8 hL8 hv8 hwx8 hlow8 ⊢
  clear hL8
  have HV8 := hid_mk hv8
  have HLW := hid_mk hlow8
  have HK8 := hid_mk hK8
  refine (sameW_any w8 _ _ (xd true n) (xd true n) hv8 hwx8).mono ?_
  rw [eqB_self]
  rintro e w9 ⟨rfl, hb9⟩
  have hL9 := HLW.out.trans (hb9.mono HLW.out.size)
  have hk9 := boxAt HK8.out hb9
  have HPV := hid_mk (HPQ.out.below hL9).prg
  have HT9 := hid_mk (HT.out.below (bTrans HWQ.out hL9))
  have HV9 := hid_mk (HV8.out.below hb9)
  have hkp := boxAt HKP.out hL9
  have hkb := boxAt HKB.out hL9
  have HKP9 := hid_mk hkp
  have HKB9 := hid_mk hkb
  have HKV9 := hid_mk hk9
  have HW9 := hid_mk (bTrans HWQ.out hL9)
  obtain ⟨p0, p1, p2, p3⟩ := blk4 hkp
  obtain ⟨x0, x1, x2, x3, x4, x5⟩ := blk6 hk9
  have y1 : w1.heap.size < w9.heap.size := (Array.getElem?_eq_some_iff.1 hkp).1
  have y6 : w6.heap.size < w9.heap.size := (Array.getElem?_eq_some_iff.1 hk9).1
  clear hv8 hwx8 hlow8 hK8 hL9 hb9 hkp hkb hk9 l1 l2
  have q0 := HC.out.e0
  have q1 := HC.out.e1
  have HQ0 := hid_mk q0
  have HQ1 := hid_mk q1
  clear q0 q1
  go_wp2_with fail
  refine (enab_any _ _ _ (pairP (n : Int)) ⟨0, 0, 0, 0⟩ (xd true n) HT9.out HPV.out HV9.out (by rw [e1]; decide) (by rw [e2]; decide)).mono ?_
  rintro e w10 ⟨v10, rfl, hen⟩
  obtain ⟨A10, c10, rfl⟩ := hen.form
  rw [HQ0.out]
  have hb10 := hen.low
  have hkp := boxAt HKP9.out hb10
  have hkb := boxAt HKB9.out hb10
  have hk9 := boxAt HKV9.out hb10
  obtain ⟨p0, p1, p2, p3⟩ := blk4 hkp
  obtain ⟨b0, b1, b2, b3⟩ := blk4 hkb
  obtain ⟨x0, x1, x2, x3, x4, x5⟩ := blk6 hk9
  have y1 : w1.heap.size < w10.heap.size := (Array.getElem?_eq_some_iff.1 hkp).1
  have y6 : w6.heap.size < w10.heap.size := (Array.getElem?_eq_some_iff.1 hk9).1
  have y3 : w3.heap.size + 1 < w10.heap.size := (Array.getElem?_eq_some_iff.1 hkb).1
  have HB10 := hid_mk hb10
  clear hen hb10 hkp hkb hk9
  go_wp2_with fail
  refine (enab_any _ _ _ (pairP (n : Int)) cbu (xd true n) (HT9.out.below HB10.out) (PrgV.below HPV.out HB10.out) (HV9.out.below HB10.out) (by rw [e1]; decide) (by rw [e2]; decide)).mono ?_
  rintro e w11 ⟨v11, rfl, hen⟩
  obtain ⟨A11, c11, rfl⟩ := hen.form
  rw [HQ1.out]
  have HB11 := hid_mk (bTrans HB10.out hen.low)
  clear hen
  go_wp2_with fail
  refine (swake_any _ (HT9.out.below HB11.out)).mono ?_
  rintro e w12 ⟨rfl, hb12⟩
  go_wp2
  go_ret
  exact ⟨rfl, bTrans HW9.out (bTrans HB11.out hb12)⟩
set_option maxHeartbeats 8000000 in
set_option maxRecDepth 100000 in
theorem crash_false (w : World) (n : Nat) (ht : Tab w) (h1 : 1 ≤ n) (h2 : n < 11) : Calls Tryd.prog 12 #[.int .i64 (n : Int), .bool false] w fun e w' => e = .returned (.bool true) ∧ Below w.heap.size w w' := by
  have HT := hid_mk ht
  have HC := hid_mk (cr_f (cr_all n h2 h1).2)
  have hn1 : ¬ (n : Int) < 1 := by omega
  have hn2 : ¬ (10 : Int) < (n : Int) := by omega
  clear ht h1 h2
  go_enter Tryd.func12, Tryd.ntmps12
  go_wp2_with fail
  refine (pair_any (n : Int) w).mono ?_
  rintro e w1 ⟨rfl, hp1, hb1⟩
  have HP1 := hid_mk hp1
  have HB1 := hid_mk hb1
  clear hp1 hb1 hn1 hn2
  go_wp2_with fail
  have hK2 := heap_new w1 (.cells #[.slice (some ⟨w.heap.size + 1 + 1 + 1, 0, none⟩) 2 2, .slice (some ⟨w.heap.size + 1 + 1 + 1 + 1 + 1 + 1, 0, none⟩) 2 2, .slice (some ⟨w.heap.size + 1 + 1 + 1 + 1 + 1 + 1 + 1 + 1, 0, none⟩) 1 1, .int .i64 20] 26)
  have HL2 : Below w1.heap.size w1 (w1.alloc (.cells #[.slice (some ⟨w.heap.size + 1 + 1 + 1, 0, none⟩) 2 2, .slice (some ⟨w.heap.size + 1 + 1 + 1 + 1 + 1 + 1, 0, none⟩) 2 2, .slice (some ⟨w.heap.size + 1 + 1 + 1 + 1 + 1 + 1 + 1 + 1, 0, none⟩) 1 1, .int .i64 20] 26)) := bAlloc (bRefl _) _
  generalize w1.alloc (.cells #[.slice (some ⟨w.heap.size + 1 + 1 + 1, 0, none⟩) 2 2, .slice (some ⟨w.heap.size + 1 + 1 + 1 + 1 + 1 + 1, 0, none⟩) 2 2, .slice (some ⟨w.heap.size + 1 + 1 + 1 + 1 + 1 + 1 + 1 + 1, 0, none⟩) 1 1, .int .i64 20] 26) = w2 at hK2 HL2 ⊢
  have HW2 := hid_mk (bTrans HB1.out HL2)
  have HP2 := hid_mk (HP1.out.below HL2)
  refine (start_yes w2 _ (pairP (n : Int)) (HT.out.below HW2.out) HP2.out.prg (pair_small _) (pair_fc _)).mono ?_
  rintro e w3 ⟨a3, m3, lo3, hi3, rfl, hwn3, hb3⟩
  have l2 : (startP (pairP (n : Int))).acts.length = 2 := HC.out.a0
  have l1 : (startP (pairP (n : Int))).mail.length = 1 := HC.out.m0
  obtain ⟨A3, c3, rfl⟩ := hwn3.acts.form
  obtain ⟨M3, d3, rfl, _⟩ := hwn3.mail.form
  rw [l2, l1] at hwn3
  have HWV := hid_mk (hwn3.wld HC.out.s0)
  have HK0 := hid_mk (boxAt hK2 hb3)
  have HP3 := hid_mk (HP2.out.below hb3)
  have HW3 := hid_mk (bTrans HW2.out hb3)
  have z1 : w1.heap.size < w3.heap.size := (Array.getElem?_eq_some_iff.1 HK0.out).1
  obtain ⟨p0, p1, p2, p3⟩ := blk4 HK0.out
  clear hK2 hwn3 hb3
  go_wp2_with fail
  have hA := two_new w3 (.cells #[.slice A3 2 c3, .slice M3 1 d3, .int .i64 (startP (pairP (n : Int))).used.drop, .int .i64 (startP (pairP (n : Int))).used.dup, .int .i64 (startP (pairP (n : Int))).used.time, .int .i64 (startP (pairP (n : Int))).used.crash] 44) (.cells #[.int .i64 1, .int .i64 0, .int .i64 0, .int .i64 1] 42)
  have HL : Below w3.heap.size w3 ((w3.alloc (.cells #[.slice A3 2 c3, .slice M3 1 d3, .int .i64 (startP (pairP (n : Int))).used.drop, .int .i64 (startP (pairP (n : Int))).used.dup, .int .i64 (startP (pairP (n : Int))).used.time, .int .i64 (startP (pairP (n : Int))).used.crash] 44)).alloc (.cells #[.int .i64 1, .int .i64 0, .int .i64 0, .int .i64 1] 42)) := bAlloc (bAlloc (bRefl _) _) _
  generalize ((w3.alloc (.cells #[.slice A3 2 c3, .slice M3 1 d3, .int .i64 (startP (pairP (n : Int))).used.drop, .int .i64 (startP (pairP (n : Int))).used.dup, .int .i64 (startP (pairP (n : Int))).used.time, .int .i64 (startP (pairP (n : Int))).used.crash] 44)).alloc (.cells #[.int .i64 1, .int .i64 0, .int .i64 0, .int .i64 1] 42)) = wq at hA HL ⊢
  have HKP := hid_mk (boxAt HK0.out HL)
  have HKW := hid_mk hA.1
  have HKB := hid_mk hA.2.1
  have HPQ := hid_mk (HP3.out.below HL)
  have HWQ := hid_mk (bTrans HW3.out HL)
  have HWV := hid_mk (HWV.out.below HL)
  clear hA HL p0 p1 p2 p3 l1 l2
  refine (do_yes wq _ _ (pairP (n : Int)) cbu (startP (pairP (n : Int))) ev0 (HT.out.below HWQ.out) HPQ.out.prg HWV.out HC.out.s0 HC.out.i0).mono ?_
  rw [show doP (pairP (n : Int)) (startP (pairP (n : Int))) ev0 = xc false n from doP_Q (pair_fc _) _ _]
  rintro e w6 ⟨v6, rfl, hv6, hb6⟩
  have l2 : (xc false n).acts.length = 2 := HC.out.al
  have l1 : (xc false n).mail.length = 1 := HC.out.ml
  obtain ⟨a6, m6, rfl, ha6, hm6⟩ := hv6
  obtain ⟨A6, c6, rfl, _⟩ := ha6.form
  obtain ⟨M6, d6, rfl, _⟩ := hm6.form
  rw [l2] at ha6
  rw [l1] at hm6
  have hkw := boxAt HKW.out hb6
  have fz : ∀ o, w6.frozen? ⟨w3.heap.size, o, none⟩ = false := fun o => heap_frozen hkw
  obtain ⟨x0, x1, x2, x3, x4, x5⟩ := blk6 hkw
  have z3 : w3.heap.size < w6.heap.size := (Array.getElem?_eq_some_iff.1 hkw).1
  have hzq : w3.heap.size < wq.heap.size := (Array.getElem?_eq_some_iff.1 HKW.out).1
  have z2 : w1.heap.size < w6.heap.size := by omega
  go_wp2_with fail
  change Calls Tryd.prog 23 _ (put6 w6 w3.heap.size (.slice A6 2 c6) (.slice M6 1 d6) (.int .i64 (xc false n).used.drop) (.int .i64 (xc false n).used.dup) (.int .i64 (xc false n).used.time) (.int .i64 (xc false n).used.crash)) _
  have hS : Same (fun d => d ≠ w3.heap.size) w6 (put6 w6 w3.heap.size (.slice A6 2 c6) (.slice M6 1 d6) (.int .i64 (xc false n).used.drop) (.int .i64 (xc false n).used.dup) (.int .i64 (xc false n).used.time) (.int .i64 (xc false n).used.crash)) := put6_same
  have hlow : Below w3.heap.size w6 (put6 w6 w3.heap.size (.slice A6 2 c6) (.slice M6 1 d6) (.int .i64 (xc false n).used.drop) (.int .i64 (xc false n).used.dup) (.int .i64 (xc false n).used.time) (.int .i64 (xc false n).used.crash)) := put6_below (Below.refl _ _) (Nat.le_refl _)
  have hKW := put6_heap (a0 := .slice A6 2 c6) (a1 := .slice M6 1 d6) (a2 := .int .i64 (xc false n).used.drop) (a3 := .int .i64 (xc false n).used.dup) (a4 := .int .i64 (xc false n).used.time) (a5 := .int .i64 (xc false n).used.crash) hkw
  have hwv : WldV (put6 w6 w3.heap.size (.slice A6 2 c6) (.slice M6 1 d6) (.int .i64 (xc false n).used.drop) (.int .i64 (xc false n).used.dup) (.int .i64 (xc false n).used.time) (.int .i64 (xc false n).used.crash)) (wVal (xc false n).used (.slice A6 2 c6) (.slice M6 1 d6)) (xc false n) :=
    WldA.wld (WldA.same (ok := fun b => wq.heap.size ≤ b) ⟨_, _, rfl, ha6, hm6⟩ (hS.weak fun b hb => by have hb' : wq.heap.size ≤ b := hb; show b ≠ w3.heap.size; omega))
  have hkp := (hlow.block w1.heap.size (by omega)).trans (boxAt HKP.out hb6)
  have hkb := (hS.block (w3.heap.size + 1) (by show _ ≠ _; omega) (Array.getElem?_eq_some_iff.1 (boxAt HKB.out hb6)).1).trans (boxAt HKB.out hb6)
  have hpq := (HPQ.out.below hb6)
  have hpq' : PairB w.heap.size (n : Int) (put6 w6 w3.heap.size (.slice A6 2 c6) (.slice M6 1 d6) (.int .i64 (xc false n).used.drop) (.int .i64 (xc false n).used.dup) (.int .i64 (xc false n).used.time) (.int .i64 (xc false n).used.crash)) := by
    have ht := HP3.out.top
    exact ⟨(hlow.block _ (by omega)).trans hpq.b1, (hlow.block _ (by omega)).trans hpq.b2, (hlow.block _ (by omega)).trans hpq.b3, (hlow.block _ (by omega)).trans hpq.b4, (hlow.block _ (by omega)).trans hpq.b5, (hlow.block _ (by omega)).trans hpq.b6, (hlow.block _ (by omega)).trans hpq.b7, (hlow.block _ (by omega)).trans hpq.b8⟩
  have hwq : Below w.heap.size w (put6 w6 w3.heap.size (.slice A6 2 c6) (.slice M6 1 d6) (.int .i64 (xc false n).used.drop) (.int .i64 (xc false n).used.dup) (.int .i64 (xc false n).used.time) (.int .i64 (xc false n).used.crash)) := put6_below (bTrans HWQ.out hb6) HW3.out.size
  clear hS hlow ha6 hm6 hb6 hkw fz x0 x1 x2 x3 x4 x5 z2 z3 hpq
  generalize (put6 w6 w3.heap.size (.slice A6 2 c6) (.slice M6 1 d6) (.int .i64 (xc false n).used.drop) (.int .i64 (xc false n).used.dup) (.int .i64 (xc false n).used.time) (.int .i64 (xc false n).used.crash)) = wr at hKW hwv hkp hkb hpq' hwq ⊢
  have HKW := hid_mk hKW
  have HKP := hid_mk hkp
  have HKB := hid_mk hkb
  have HPQ := hid_mk hpq'
  have HWQ := hid_mk hwq
  have HWV := hid_mk hwv
  clear hKW hwv hkp hkb hpq' hwq l1 l2 z1 hzq
  have l2 : (xc false n).acts.length = 2 := HC.out.al
  have l1 : (xc false n).mail.length = 1 := HC.out.ml
  refine (copyW_any _ _ (xc false n) HWV.out HC.out.sm).mono ?_
  rintro e w4 ⟨a4, m4, lo4, hi4, rfl, hwn4, hb4⟩
  obtain ⟨A4, c4, rfl⟩ := hwn4.acts.form
  obtain ⟨M4, d4, rfl, _⟩ := hwn4.mail.form
  rw [l2, l1] at hwn4
  have HPW := hid_mk (hwn4.toPW hb4.size)
  have HN4 := hid_mk hb4.size
  have hkp := boxAt HKP.out hb4
  have hkb := boxAt HKB.out hb4
  have hkw := boxAt HKW.out hb4
  obtain ⟨p0, p1, p2, p3⟩ := blk4 hkp
  obtain ⟨b0, b1, b2, b3⟩ := blk4 hkb
  obtain ⟨x0, x1, x2, x3, x4, x5⟩ := blk6 hkw
  have y1 : w1.heap.size < w4.heap.size := (Array.getElem?_eq_some_iff.1 hkp).1
  have y2 : w3.heap.size < w4.heap.size := (Array.getElem?_eq_some_iff.1 hkw).1
  have y3 : w3.heap.size + 1 < w4.heap.size := (Array.getElem?_eq_some_iff.1 hkb).1
  have HB4 := hid_mk hb4
  clear hwn4 hkp hkb hkw hb4
  go_wp2_with fail
  have HL5 : Below wr.heap.size wr (w4.alloc (.cells #[.slice A4 2 c4, .slice M4 1 d4, .int .i64 (xc false n).used.drop, .int .i64 (xc false n).used.dup, .int .i64 (xc false n).used.time, .int .i64 (xc false n).used.crash] 44)) := bAlloc HB4.out _
  have hz5 : w4.heap.size < (w4.alloc (.cells #[.slice A4 2 c4, .slice M4 1 d4, .int .i64 (xc false n).used.drop, .int .i64 (xc false n).used.dup, .int .i64 (xc false n).used.time, .int .i64 (xc false n).used.crash] 44)).heap.size := by simp
  generalize (w4.alloc (.cells #[.slice A4 2 c4, .slice M4 1 d4, .int .i64 (xc false n).used.drop, .int .i64 (xc false n).used.dup, .int .i64 (xc false n).used.time, .int .i64 (xc false n).used.crash] 44)) = w5 at HPW HL5 hz5 ⊢
  clear p0 p1 p2 p3 b0 b1 b2 b3 x0 x1 x2 x3 x4 x5 y1 y2 y3
  refine (do_yes w5 _ _ (pairP (n : Int)) cbu (xc false n) (evC (kc false)) (HT.out.below (bTrans HWQ.out HL5)) (HPQ.out.below HL5).prg (HWV.out.below HL5) HC.out.sm HC.out.is).mono ?_
  rw [HC.out.dq]
  rintro e w6 ⟨v6, rfl, hv6, hb6⟩
  have e2 : (xd false n).acts.length = 2 := by show ((xc false n).acts.set _ _).length = 2; rw [List.length_set]; exact HC.out.al
  have e1 : (xd false n).mail.length = 1 := HC.out.ml
  obtain ⟨a6, m6, rfl, ha6, hm6⟩ := hv6
  obtain ⟨A6, c6, rfl, _⟩ := ha6.form
  obtain ⟨M6, d6, rfl, _⟩ := hm6.form
  rw [e2] at ha6
  rw [e1] at hm6
  have HV6 : Hid (WldA (fun b => w5.heap.size ≤ b) w6 (wVal (xd false n).used (.slice A6 2 c6) (.slice M6 1 d6)) (xd false n)) := ⟨_, _, rfl, ha6, hm6⟩
  have hpw6 := HPW.out.below hb6
  obtain ⟨g, cg, hge, hgN, hgb, hgr⟩ := hpw6.row (by rw [l2]; omega)
  rw [l2] at hge
  simp only [Value.slice.injEq] at hge
  obtain ⟨rfl, _, rfl⟩ := hge
  have hg4 : g < w5.heap.size := by
    have h := HPW.out.acts
    exact (h.own (g := g) rfl).2
  obtain ⟨y, hy⟩ := at_lt (l := (xc false n).acts) (k := 1) (by rw [l2]; omega)
  obtain ⟨_, _, r2, _, _⟩ := hgr.rd 1 y hy
  have fg : ∀ o, w6.frozen? ⟨g, o, none⟩ = false := hgr.frozen
  have hg6 : g < w6.heap.size := hgr.lt
  obtain ⟨o0, o1, o2, o3, o4, o5⟩ := blk6 hpw6.box
  have fo : ∀ o, w6.frozen? ⟨w4.heap.size, o, none⟩ = false := fun o => heap_frozen hpw6.box
  have y4 : w4.heap.size < w6.heap.size := (Array.getElem?_eq_some_iff.1 hpw6.box).1
  have n1 : ¬ g = w4.heap.size := hgb
  have n2 : ¬ w4.heap.size = g := fun e => hgb e.symm
  have HPW6 := hid_mk hpw6
  have HY := hid_mk hy
  have HB6 := hid_mk hb6
  have HL5' := hid_mk HL5
  clear hpw6 hgr hy hb6 ha6 hm6
  rw [show 1 * 5 + 2 = 7 from rfl] at r2
  go_wp2_with fail
  have hh : PW wr.heap.size w4.heap.size lo4 hi4 w6 (.slice (some ⟨g, 0, none⟩) (xc false n).acts.length c4) (.slice M4 1 d4) (xc false n) := by rw [l2]; exact HPW6.out
  have hlk : locAt (xc false n) 1 = y := getD_at HY.out
  have hpa := (hh.setAct (y := y) (y' := { y with down := 1 }) (i := 2) (off := 7) (v := .int .i64 1) HY.out rfl (by omega) (by omega) rfl (Or.inr ⟨by omega, rfl⟩) (Or.inl ⟨rfl, rfl⟩) (Or.inr ⟨by omega, rfl⟩) (Or.inr ⟨by omega, rfl⟩)).setUsed (i := 5) (v := .int .i64 1) (u := { (xc false n).used with crash := 1 }) (by simp)
  have hxd : xd false n = { { (xc false n) with acts := (xc false n).acts.set 1 { y with down := 1 } } with used := { (xc false n).used with crash := 1 } } := by
    show ({ setL (xc false n) 1 { locAt (xc false n) 1 with down := 1 } with used := _ } : PWld) = _
    rw [hlk]; rfl
  rw [l2] at hpa
  have hwx : WldV ((w6.setCell ⟨g, 7, none⟩ (.int .i64 1)).setCell ⟨w4.heap.size, 5, none⟩ (.int .i64 1)) (wVal { (xc false n).used with crash := 1 } (.slice (some ⟨g, 0, none⟩) 2 c4) (.slice M4 1 d4)) (xd false n) := by
    rw [hxd]
    exact hpa.bw.wld (by show ((xc false n).acts.set 1 _).length ≤ 1000; rw [List.length_set, l2]; decide)
  have hS1 : Same (fun d => d ≠ g) w6 (w6.setCell ⟨g, 7, none⟩ (.int .i64 1)) := setCell_same fun _ h => h
  have hS2 : Same (fun d => d ≠ w4.heap.size) (w6.setCell ⟨g, 7, none⟩ (.int .i64 1)) ((w6.setCell ⟨g, 7, none⟩ (.int .i64 1)).setCell ⟨w4.heap.size, 5, none⟩ (.int .i64 1)) := setCell_same fun _ h => h
  have hv7 := (HV6.out.same (hS1.weak fun b hb => by have hb' : w5.heap.size ≤ b := hb; show b ≠ g; omega)).same (hS2.weak fun b hb => by have hb' : w5.heap.size ≤ b := hb; show b ≠ w4.heap.size; omega)
  have hN4 := HN4.out
  have hb46 : Below wr.heap.size wr w6 := bTrans HL5'.out HB6.out
  have hlow : Below wr.heap.size wr ((w6.setCell ⟨g, 7, none⟩ (.int .i64 1)).setCell ⟨w4.heap.size, 5, none⟩ (.int .i64 1)) := (hb46.setCell (p := ⟨g, _, none⟩) hgN _).setCell (p := ⟨w4.heap.size, _, none⟩) hN4 _
  have hz7 : ((w6.setCell ⟨g, 7, none⟩ (.int .i64 1)).setCell ⟨w4.heap.size, 5, none⟩ (.int .i64 1)).heap.size = w6.heap.size := by simp [World.setCell]
  clear hh hpa hS1 hS2 o0 o1 o2 o3 o4 o5 fo fg r2 hlk hxd n1 n2 y4 hg4 hg6 hb46
  generalize ((w6.setCell ⟨g, 7, none⟩ (.int .i64 1)).setCell ⟨w4.heap.size, 5, none⟩ (.int .i64 1)) = w7 at hwx hv7 hlow hz7 ⊢
  have hK8 := heap_new w7 (.cells #[.slice A6 2 c6, .slice M6 1 d6, .int .i64 (xd false n).used.drop, .int .i64 (xd false n).used.dup, .int .i64 (xd false n).used.time, .int .i64 (xd false n).used.crash] 44)
  rw [hz7] at hK8
  have hL8 : Below w7.heap.size w7 (w7.alloc (.cells #[.slice A6 2 c6, .slice M6 1 d6, .int .i64 (xd false n).used.drop, .int .i64 (xd false n).used.dup, .int .i64 (xd false n).used.time, .int .i64 (xd false n).used.crash] 44)) := bAlloc (bRefl _) _
  have hv8 := (hv7.below hL8).wld
  have hwx8 := hwx.below hL8
  have hlow8 := hlow.trans (hL8.mono hlow.size)
  clear hz7 hv7 hwx hlow
  generalize w7.alloc (.cells #[.slice A6 2 c6, .slice M6 1 d6, .int .i64 (xd false n).used.drop, .int .i64 (xd false n).used.dup, .int .i64 (xd false n).used.time, .int .i64 (xd false n).used.crash] 44) = w8 at hK8 hL8 hv8 hwx8 hlow8 ⊢
  clear hL8
  have HV8 := hid_mk hv8
  have HLW := hid_mk hlow8
  have HK8 := hid_mk hK8
  refine (sameW_any w8 _ _ (xd false n) (xd false n) hv8 hwx8).mono ?_
  rw [eqB_self]
  rintro e w9 ⟨rfl, hb9⟩
  have hL9 := HLW.out.trans (hb9.mono HLW.out.size)
  have hk9 := boxAt HK8.out hb9
  have HPV := hid_mk (HPQ.out.below hL9).prg
  have HT9 := hid_mk (HT.out.below (bTrans HWQ.out hL9))
  have HV9 := hid_mk (HV8.out.below hb9)
  have hkp := boxAt HKP.out hL9
  have hkb := boxAt HKB.out hL9
  have HKP9 := hid_mk hkp
  have HKB9 := hid_mk hkb
  have HKV9 := hid_mk hk9
  have HW9 := hid_mk (bTrans HWQ.out hL9)
  obtain ⟨p0, p1, p2, p3⟩ := blk4 hkp
  obtain ⟨x0, x1, x2, x3, x4, x5⟩ := blk6 hk9
  have y1 : w1.heap.size < w9.heap.size := (Array.getElem?_eq_some_iff.1 hkp).1
  have y6 : w6.heap.size < w9.heap.size := (Array.getElem?_eq_some_iff.1 hk9).1
  clear hv8 hwx8 hlow8 hK8 hL9 hb9 hkp hkb hk9 l1 l2
  have q0 := HC.out.e0
  have q1 := HC.out.e1
  have HQ0 := hid_mk q0
  have HQ1 := hid_mk q1
  clear q0 q1
  go_wp2_with fail
  refine (enab_any _ _ _ (pairP (n : Int)) ⟨0, 0, 0, 0⟩ (xd false n) HT9.out HPV.out HV9.out (by rw [e1]; decide) (by rw [e2]; decide)).mono ?_
  rintro e w10 ⟨v10, rfl, hen⟩
  obtain ⟨A10, c10, rfl⟩ := hen.form
  rw [HQ0.out]
  have hb10 := hen.low
  have hkp := boxAt HKP9.out hb10
  have hkb := boxAt HKB9.out hb10
  have hk9 := boxAt HKV9.out hb10
  obtain ⟨p0, p1, p2, p3⟩ := blk4 hkp
  obtain ⟨b0, b1, b2, b3⟩ := blk4 hkb
  obtain ⟨x0, x1, x2, x3, x4, x5⟩ := blk6 hk9
  have y1 : w1.heap.size < w10.heap.size := (Array.getElem?_eq_some_iff.1 hkp).1
  have y6 : w6.heap.size < w10.heap.size := (Array.getElem?_eq_some_iff.1 hk9).1
  have y3 : w3.heap.size + 1 < w10.heap.size := (Array.getElem?_eq_some_iff.1 hkb).1
  have HB10 := hid_mk hb10
  clear hen hb10 hkp hkb hk9
  go_wp2_with fail
  refine (enab_any _ _ _ (pairP (n : Int)) cbu (xd false n) (HT9.out.below HB10.out) (PrgV.below HPV.out HB10.out) (HV9.out.below HB10.out) (by rw [e1]; decide) (by rw [e2]; decide)).mono ?_
  rintro e w11 ⟨v11, rfl, hen⟩
  obtain ⟨A11, c11, rfl⟩ := hen.form
  rw [HQ1.out]
  have HB11 := hid_mk (bTrans HB10.out hen.low)
  clear hen
  go_wp2_with fail
  refine (swake_any _ (HT9.out.below HB11.out)).mono ?_
  rintro e w12 ⟨rfl, hb12⟩
  go_wp2
  go_ret
  exact ⟨rfl, bTrans HW9.out (bTrans HB11.out hb12)⟩
set_option maxHeartbeats 2000000 in
theorem crash_out (w : World) (n : Int) (f : Bool) (ht : Tab w) (h : n < 1 ∨ 10 < n) : Calls Tryd.prog 12 #[.int .i64 n, .bool f] w fun e w' => e = .returned (.bool true) ∧ Below w.heap.size w w' := by
  have HT := hid_mk ht
  clear ht
  by_cases h1 : n < 1
  · clear h
    go_enter Tryd.func12, Tryd.ntmps12
    go_wp2_with fail
    refine (swake_any _ HT.out).mono ?_
    rintro e w2 ⟨rfl, hb2⟩
    go_wp2
    go_ret
    exact ⟨rfl, hb2⟩
  · have h2 : 10 < n := by omega
    clear h
    go_enter Tryd.func12, Tryd.ntmps12
    go_wp2_with fail
    refine (swake_any _ HT.out).mono ?_
    rintro e w2 ⟨rfl, hb2⟩
    go_wp2
    go_ret
    exact ⟨rfl, hb2⟩
theorem scrashes_any (w : World) (n : Int) (f : Bool) (ht : Tab w) : Calls Tryd.prog 12 #[.int .i64 n, .bool f] w fun e w' => e = .returned (.bool true) ∧ Below w.heap.size w w' := by
  by_cases h : n < 1 ∨ 10 < n
  · exact crash_out w n f ht h
  · obtain ⟨k, rfl⟩ := Int.eq_ofNat_of_zero_le (show 0 ≤ n by omega)
    cases f
    · exact crash_false w k ht (by omega) (by omega)
    · exact crash_true w k ht (by omega) (by omega)
end Go.Proofs.YtgdloonpemaijaaDoor
