/-
  Two actors that tell each other a number (StepPair), walked. Condition: the table of the instructions is in the world.
-/
import Derived.Test.YtgdloonpemaijaaDoorPm
namespace Go.Proofs.YtgdloonpemaijaaDoor
open Go.RowKit
/-- Between two steps: the world lies in a box, the budget and the sums in two more; all below them is as it was. -/
structure TP (wP : World) (x : PWld) (p0 p1 : Int) (wr : World) : Prop where
  bw : ∃ a m, wr.heap[wP.heap.size]? = some (.cells #[a, m, .int .i64 x.used.drop, .int .i64 x.used.dup, .int .i64 x.used.time, .int .i64 x.used.crash] 44) ∧ WldA (fun b => b < wP.heap.size ∨ wP.heap.size + 3 ≤ b) wr (wVal x.used a m) x
  bb : wr.heap[wP.heap.size + 1]? = some (.cells #[.int .i64 1, .int .i64 0, .int .i64 0, .int .i64 0] 42)
  bq : wr.heap[wP.heap.size + 1 + 1]? = some (.cells #[.int .i64 p0, .int .i64 p1] 75)
  low : Below wP.heap.size wP wr
section
variable {wP wr wa : World} {x x' : PWld} {p0 p1 v : Int} {a m : Value}
theorem TP.below (h : TP wP x p0 p1 wr) (hb : Below wr.heap.size wr wa) : TP wP x p0 p1 wa :=
  let ⟨a, m, h1, h2⟩ := h.bw
  ⟨⟨a, m, boxAt h1 hb, h2.below hb⟩, boxAt h.bb hb, boxAt h.bq hb, bTrans h.low hb⟩
theorem TP.next (h : TP wP x p0 p1 wr) (hb : Below wr.heap.size wr wa) (hx : WldA (fun b => b < wP.heap.size ∨ wP.heap.size + 3 ≤ b) wa (wVal x'.used a m) x') :
    TP wP x' p0 p1 (put6 wa wP.heap.size a m (.int .i64 x'.used.drop) (.int .i64 x'.used.dup) (.int .i64 x'.used.time) (.int .i64 x'.used.crash)) := by
  obtain ⟨a0, m0, h1, _⟩ := h.bw
  have hS : Same (fun d => d ≠ wP.heap.size) wa (put6 wa wP.heap.size a m (.int .i64 x'.used.drop) (.int .i64 x'.used.dup) (.int .i64 x'.used.time) (.int .i64 x'.used.crash)) := put6_same
  have z : wP.heap.size + 1 + 1 < wa.heap.size := (Array.getElem?_eq_some_iff.1 (boxAt h.bq hb)).1
  exact ⟨⟨a, m, put6_heap (boxAt h1 hb), hx.same (hS.weak fun b hb => by have hb' : b < wP.heap.size ∨ wP.heap.size + 3 ≤ b := hb; show b ≠ _; omega)⟩, (hS.block _ (by show _ ≠ _; omega) (by omega)).trans (boxAt h.bb hb), (hS.block _ (by show _ ≠ _; omega) (by omega)).trans (boxAt h.bq hb), put6_below (bTrans h.low hb) (Nat.le_refl _)⟩
/-- A sum is stored. -/
theorem TP.sum (h : TP wP x p0 p1 wr) (r : Nat) (hr : r < 2) (v : Int) : TP wP x (if r = 0 then v else p0) (if r = 1 then v else p1) (wr.setCell ⟨wP.heap.size + 1 + 1, r, none⟩ (.int .i64 v)) := by
  obtain ⟨a0, m0, h1, h2⟩ := h.bw
  have hS : Same (fun d => d ≠ wP.heap.size + 1 + 1) wr (wr.setCell ⟨wP.heap.size + 1 + 1, r, none⟩ (.int .i64 v)) := setCell_same fun _ h => h
  have z : wP.heap.size + 1 + 1 < wr.heap.size := (Array.getElem?_eq_some_iff.1 h.bq).1
  refine ⟨⟨a0, m0, (hS.block _ (by show _ ≠ _; omega) (by omega)).trans h1, h2.same (hS.weak fun b hb => by have hb' : b < wP.heap.size ∨ wP.heap.size + 3 ≤ b := hb; show b ≠ _; omega)⟩, (hS.block _ (by show _ ≠ _; omega) (by omega)).trans h.bb, ?_, h.low.setCell (p := ⟨wP.heap.size + 1 + 1, _, none⟩) (by show _ ≤ wP.heap.size + 1 + 1; omega) _⟩
  have hq := (Array.getElem?_eq_some_iff.1 h.bq).2
  match r, hr with
  | 0, _ => simp [World.setCell, z, Array.getElem_modify, hq]
  | 1, _ => simp [World.setCell, z, Array.getElem_modify, hq]
end
theorem arr_0 {w : World} {B : Nat} {a b : Int} (h : w.heap[B]? = some (.cells #[.int .i64 a, .int .i64 b] 75)) : Ints anyB w (.slice (some ⟨B, 0, none⟩) 1 2) [a] := by
  refine ⟨_, 2, rfl, by simp, by simp, Or.inr ⟨B, 0, rfl, trivial, (Array.getElem?_eq_some_iff.1 h).1, fun j y hy => ?_⟩⟩
  match j, hy with
  | 0, hy => cases hy; exact (blk2 h).1
theorem arr_1 {w : World} {B : Nat} {a b : Int} (h : w.heap[B]? = some (.cells #[.int .i64 a, .int .i64 b] 75)) : Ints anyB w (.slice (some ⟨B, 1, none⟩) 1 1) [b] := by
  refine ⟨_, 1, rfl, by simp, by simp, Or.inr ⟨B, 1, rfl, trivial, (Array.getElem?_eq_some_iff.1 h).1, fun j y hy => ?_⟩⟩
  match j, hy with
  | 0, hy => cases hy; exact (blk2 h).2
set_option maxHeartbeats 8000000 in
set_option maxRecDepth 100000 in
theorem pair_in (w : World) (n d : Nat) (ht : Tab w) (h1 : n < 21) (h2 : d < 26) : Calls Tryd.prog 9 #[.int .i64 (n : Int), .int .i64 (d : Int)] w fun e w' => e = .returned (.bool true) ∧ Below w.heap.size w w' := by
  have HT := hid_mk ht
  have hn1 : ¬ (n : Int) < 0 := by omega
  have hn2 : ¬ (20 : Int) < (n : Int) := by omega
  have hn3 : ¬ (d : Int) < 0 := by omega
  have hn4 : ¬ (25 : Int) < (d : Int) := by omega
  have HN := hid_mk h1
  have HD := hid_mk h2
  clear ht h1 h2
  go_enter Tryd.func9, Tryd.ntmps9
  go_wp2_with fail
  refine (pair_any (n : Int) w).mono ?_
  rintro e w1 ⟨rfl, hp1, hb1⟩
  have HP1 := hid_mk hp1
  have HB1 := hid_mk hb1
  clear hp1 hb1
  go_wp2_with fail
  have hK2 := heap_new w1 (.cells #[.slice (some ⟨w.heap.size + 1 + 1 + 1, 0, none⟩) 2 2, .slice (some ⟨w.heap.size + 1 + 1 + 1 + 1 + 1 + 1, 0, none⟩) 2 2, .slice (some ⟨w.heap.size + 1 + 1 + 1 + 1 + 1 + 1 + 1 + 1, 0, none⟩) 1 1, .int .i64 20] 26)
  have HL2 : Below w1.heap.size w1 (w1.alloc (.cells #[.slice (some ⟨w.heap.size + 1 + 1 + 1, 0, none⟩) 2 2, .slice (some ⟨w.heap.size + 1 + 1 + 1 + 1 + 1 + 1, 0, none⟩) 2 2, .slice (some ⟨w.heap.size + 1 + 1 + 1 + 1 + 1 + 1 + 1 + 1, 0, none⟩) 1 1, .int .i64 20] 26)) := bAlloc (bRefl _) _
  generalize w1.alloc (.cells #[.slice (some ⟨w.heap.size + 1 + 1 + 1, 0, none⟩) 2 2, .slice (some ⟨w.heap.size + 1 + 1 + 1 + 1 + 1 + 1, 0, none⟩) 2 2, .slice (some ⟨w.heap.size + 1 + 1 + 1 + 1 + 1 + 1 + 1 + 1, 0, none⟩) 1 1, .int .i64 20] 26) = w2 at hK2 HL2 ⊢
  have HW2 := hid_mk (bTrans HB1.out HL2)
  have HP2 := hid_mk (HP1.out.below HL2)
  refine (start_yes w2 _ (pairP (n : Int)) (HT.out.below HW2.out) HP2.out.prg (pair_small _) (pair_fc _)).mono ?_
  rw [pair_start n HN.out]
  rintro e w3 ⟨a3, m3, lo3, hi3, rfl, hwn3, hb3⟩
  obtain ⟨A3, c3, rfl⟩ := hwn3.acts.form
  obtain ⟨M3, d3, rfl, _⟩ := hwn3.mail.form
  have hv3 := (hwn3.wld (p_f HN.out (Nat.zero_le n)).sm).lt
  have hk0 := boxAt hK2 hb3
  have HP3 := hid_mk (HP2.out.below hb3)
  have HB3 := hid_mk (bTrans HW2.out hb3)
  obtain ⟨p0, p1, p2, p3⟩ := blk4 hk0
  have z1 : w1.heap.size < w3.heap.size := (Array.getElem?_eq_some_iff.1 hk0).1
  have HK0 := hid_mk hk0
  have HV3 := hid_mk hv3
  clear hK2 HL2 hwn3 hk0 hb3 hv3
  have HS0 : Hid (TP w3 (xP n 0) 0 0 (((w3.alloc (.cells #[.slice A3 (xP n 0).acts.length c3, .slice M3 (xP n 0).mail.length d3, .int .i64 (xP n 0).used.drop, .int .i64 (xP n 0).used.dup, .int .i64 (xP n 0).used.time, .int .i64 (xP n 0).used.crash] 44)).alloc (.cells #[.int .i64 1, .int .i64 0, .int .i64 0, .int .i64 0] 42)).alloc (.cells #[.int .i64 0, .int .i64 0] 75))) := by
    have h := fun i X e => allocs_at [(.cells #[.slice A3 (xP n 0).acts.length c3, .slice M3 (xP n 0).mail.length d3, .int .i64 (xP n 0).used.drop, .int .i64 (xP n 0).used.dup, .int .i64 (xP n 0).used.time, .int .i64 (xP n 0).used.crash] 44), (.cells #[.int .i64 1, .int .i64 0, .int .i64 0, .int .i64 0] 42), (.cells #[.int .i64 0, .int .i64 0] 75)] w3 i X e
    exact ⟨⟨_, _, (h 0 _ rfl).1, (HV3.out.below (h 0 _ rfl).2).weak fun b hb => Or.inl hb⟩, (h 1 _ rfl).1, (h 2 _ rfl).1, (h 0 _ rfl).2⟩
  go_wp2
  go_loopg [10, 11, 12, 13] (n + 1) (fun g i10 i11 i12 i13 wr => ∃ k : Nat, g = n + 1 - k ∧ k ≤ n + 1 ∧ k ≤ d ∧ i10 = .int .i64 (k : Int) ∧ TP w3 (xP n k) (psm n k 0) (psm n k 1) wr)
  case atStart => exact ⟨0, rfl, by omega, by omega, rfl, HS0.out⟩
  case round =>
    obtain ⟨k, rfl, hk, hkd, rfl, tn⟩ := hrel
    have hpb := p_bd HN.out hk
    obtain ⟨X, hX⟩ : ∃ X, xP n k = X := ⟨_, rfl⟩
    obtain ⟨s0, hs0⟩ : ∃ s, psm n k 0 = s := ⟨_, rfl⟩
    obtain ⟨s1, hs1⟩ : ∃ s, psm n k 1 = s := ⟨_, rfl⟩
    rw [hX, hs0, hs1] at tn
    rw [hs0, hs1] at hpb
    obtain ⟨g0, g1, g2, g3⟩ := hpb
    have HX := hid_mk hX
    have HS0 := hid_mk hs0
    have HS1 := hid_mk hs1
    have HTN := hid_mk tn
    have HL := hid_mk tn.low
    obtain ⟨am, mm, hbx, hwa⟩ := tn.bw
    have hwa' := hwa
    obtain ⟨a0, m0, he0, hac, hml⟩ := hwa'
    simp only [Value.agg.injEq, Array.mk.injEq, List.cons.injEq, and_true] at he0
    obtain ⟨rfl, rfl⟩ := he0
    obtain ⟨Ak, ck, rfl, _⟩ := hac.form
    obtain ⟨Mk, dk, rfl, _⟩ := hml.form
    have HK := hid_mk (boxAt HK0.out HL.out)
    obtain ⟨p0, p1, p2, p3⟩ := blk4 HK.out
    obtain ⟨o0, o1, o2, o3, o4, o5⟩ := blk6 hbx
    obtain ⟨b0, b1, b2, b3⟩ := blk4 tn.bb
    obtain ⟨q0, q1⟩ := blk2 tn.bq
    have fk : ∀ o, wr.frozen? ⟨w3.heap.size, o, none⟩ = false := fun o => heap_frozen hbx
    have fq : ∀ o, wr.frozen? ⟨w3.heap.size + 1 + 1, o, none⟩ = false := fun o => heap_frozen tn.bq
    have z5 : w3.heap.size + 1 + 1 < wr.heap.size := (Array.getElem?_eq_some_iff.1 tn.bq).1
    have z4 : w3.heap.size + 1 < wr.heap.size := by omega
    have z3 : w3.heap.size < wr.heap.size := by omega
    have z0 : w1.heap.size < wr.heap.size := by omega
    have HWV := hid_mk hwa.wld
    have HPR := hid_mk (HP3.out.below HL.out)
    have HT9 := hid_mk (HT.out.below (bTrans HB3.out HL.out))
    have HBX := hid_mk hbx
    have HWA := hid_mk hwa
    have HKD := hid_mk hkd
    clear tn hwa hbx hkd hs0 hs1
    by_cases hlt : k ≤ n
    · have hpf := p_f HN.out hlt
      have l1 : X.mail.length = 1 := by rw [← hX]; unfold xP; rw [if_pos hlt]; rfl
      have hwa1 := HWA.out
      rw [l1] at hwa1
      have HWA1 := hid_mk hwa1
      have HWV1 := hid_mk hwa1.wld
      have hbx1 := HBX.out
      rw [l1] at hbx1
      have HBX1 := hid_mk hbx1
      clear hwa1 hbx1
      obtain ⟨bM, oM, xM, vM, rfl, hxM, hzM, m0, m1, m2, _⟩ := hml.cell (bRefl wr) (k := 0) (by rw [l1]; decide)
      have hid : xM.id = pid k := by
        have h := hxM
        rw [← hX] at h
        unfold xP at h
        simp only [if_pos hlt] at h
        cases h; rfl
      obtain ⟨dd, hdd⟩ : ∃ dd, pid k = dd := ⟨_, rfl⟩
      rw [hid, hdd, Nat.zero_mul, Nat.add_zero] at m0 m1 m2
      have hpe : ∀ κ, pev κ k = ⟨κ, dd, 0⟩ := fun κ => by unfold pev; rw [hdd]
      obtain ⟨Xd, hXd⟩ : ∃ Xd, xPd n k = Xd := ⟨_, rfl⟩
      obtain ⟨X', hX'⟩ : ∃ X', xP n (k + 1) = X' := ⟨_, rfl⟩
      have hsm := hpf.sm
      have hi1 := hpf.i1
      have hd1 := hpf.d1
      have hi2 := hpf.i2
      have hd2 := hpf.d2
      rw [hX] at hsm
      rw [hX, hpe] at hi1 hi2
      rw [hX, hpe, hX'] at hd1
      rw [hX, hpe, hXd] at hd2
      have HSM := hid_mk hsm
      have HI1 := hid_mk hi1
      have HD1 := hid_mk hd1
      have HI2 := hid_mk hi2
      have HD2 := hid_mk hd2
      have HXd := hid_mk hXd
      have HX' := hid_mk hX'
      have HLT := hid_mk hlt
      have hki : (k : Int) ≤ n := by omega
      clear hxM hid hml hac hlt hX hdd hpe hXd hX' hsm hi1 hd1 hi2 hd2 hpf
      by_cases hkd : k = d
      · subst hkd
        go_wp2_with fail
        refine (do_yes _ _ _ (pairP (n : Int)) pbu X ⟨2, dd, 0⟩ (HT9.out.below (bAlloc (bRefl _) _)) (HPR.out.below (bAlloc (bRefl _) _)).prg (HWV1.out.below (bAlloc (bRefl _) _)) HSM.out HI2.out).mono ?_
        rw [HD2.out]
        rintro e w4 ⟨v4, rfl, hv4, hb4'⟩
        have hb4 := bTrans (bAlloc (bRefl wr) _) hb4'
        obtain ⟨a4, m4, rfl, ha4, hm4⟩ := hv4
        obtain ⟨A4, c4, rfl, _⟩ := ha4.form
        obtain ⟨M4, d4, rfl, _⟩ := hm4.form
        have hk4 := boxAt HBX.out hb4
        have fk4 : ∀ o, w4.frozen? ⟨w3.heap.size, o, none⟩ = false := fun o => heap_frozen hk4
        clear o0 o1 o2 o3 o4 o5 p0 p1 p2 p3 b0 b1 b2 b3 q0 q1 m0 m1 m2
        obtain ⟨o0, o1, o2, o3, o4, o5⟩ := blk6 hk4
        have z4' : w3.heap.size < w4.heap.size := (Array.getElem?_eq_some_iff.1 hk4).1
        have v2 : Xd.acts.length = 2 := by rw [← HXd.out]; rfl
        have HN4 := hid_mk (HTN.out.next (x' := Xd) hb4 (WldA.weak (ok := fun b => (wr.alloc (.cells #[.int .i64 2, .int .i64 dd.f, .int .i64 dd.n, .int .i64 dd.c, .int .i64 0] 62)).heap.size ≤ b) ⟨_, _, rfl, ha4, hm4⟩ (fun b hb => by simp at hb; omega)))
        clear ha4 hm4 hb4 hb4' hk4
        go_wp2_with fail
        have HNF := hid_mk (HN4.out.below (bAlloc (bRefl _) (.cells #[.slice A4 2 c4, .slice M4 Xd.mail.length d4, .int .i64 Xd.used.drop, .int .i64 Xd.used.dup, .int .i64 Xd.used.time, .int .i64 Xd.used.crash] 44)))
        rw [v2] at HNF
        generalize (put6 w4 w3.heap.size (.slice A4 2 c4) (.slice M4 Xd.mail.length d4) (.int .i64 Xd.used.drop) (.int .i64 Xd.used.dup) (.int .i64 Xd.used.time) (.int .i64 Xd.used.crash)).alloc (.cells #[.slice A4 2 c4, .slice M4 Xd.mail.length d4, .int .i64 Xd.used.drop, .int .i64 Xd.used.dup, .int .i64 Xd.used.time, .int .i64 Xd.used.crash] 44) = wf at HNF ⊢
        clear o0 o1 o2 o3 o4 o5 fk fk4 fq v2
        obtain ⟨am, mm, hbx, hwa⟩ := HNF.out.bw
        have hbq := HNF.out.bq
        obtain ⟨a0, m0, he0, hac, hml⟩ := hwa
        simp only [Value.agg.injEq, Array.mk.injEq, List.cons.injEq, and_true] at he0
        obtain ⟨rfl, rfl⟩ := he0
        obtain ⟨Ak, ck, rfl, _⟩ := hac.form
        obtain ⟨Mk, dk, rfl, _⟩ := hml.form
        obtain ⟨o0, o1, o2, o3, o4, o5⟩ := blk6 hbx
        have u1 : Xd.acts.length = 2 := by rw [← HXd.out]; rfl
        have u2 : Xd.mail.length = 0 := by rw [← HXd.out]; rfl
        obtain ⟨bA, oA, xA, vA, rfl, hxA, hzA, c0, _, _, _, _, hvA⟩ := hac.cell (bRefl wf) (k := 0) (by omega)
        obtain ⟨bB, oB, xB, vB, hAB, hxB, hzB, r0, _, _, _, _, hvB⟩ := hac.cell (bRefl wf) (k := 1) (by omega)
        cases hAB
        have hxA' : xA.regs = [s0] := by
          rw [← HXd.out] at hxA
          rw [← Option.some.inj hxA, ← HS0.out]
        have hxB' : xB.regs = [s1] := by
          rw [← HXd.out] at hxB
          rw [← Option.some.inj hxB, ← HS1.out]
        rw [hxA'] at hvA
        rw [hxB'] at hvB
        obtain ⟨VA, cA, rfl, _⟩ := hvA.form
        obtain ⟨VB, cB, rfl, _⟩ := hvB.form
        have HVA := hid_mk hvA
        have HVB := hid_mk hvB
        rw [Nat.zero_mul, Nat.add_zero] at c0
        rw [Nat.one_mul] at r0
        have HI0 : Hid (Ints anyB wf (.slice (some ⟨w3.heap.size + 1 + 1, 0, none⟩) 1 2) [s0]) := arr_0 hbq
        have HI1 : Hid (Ints anyB wf (.slice (some ⟨w3.heap.size + 1 + 1, 1, none⟩) 1 1) [s1]) := arr_1 hbq
        have e0 : eqB ([s0] : List Int) [s0] = true := eqB_self _
        have e1 : eqB ([s1] : List Int) [s1] = true := eqB_self _
        have zb : w3.heap.size < wf.heap.size := (Array.getElem?_eq_some_iff.1 hbx).1
        have zq : w3.heap.size + 1 + 1 < wf.heap.size := (Array.getElem?_eq_some_iff.1 hbq).1
        have HLF := hid_mk HNF.out.low
        obtain ⟨y0, y1⟩ := blk2 hbq
        rw [u1] at o0
        rw [u2] at o1
        have c0' : wf.cell? ⟨bA, oA, none⟩ = some (.slice VA 1 cA) := c0
        have r0' : wf.cell? ⟨bA, oA + 5, none⟩ = some (.slice VB 1 cB) := r0
        clear hxA hvA hxB hvB hac hml hbx hbq hxA' hxB' c0 r0 o2 o3 o4 o5 y0 y1
        refine wp_region_held_drew (S := fun w' => w'.cell? ⟨w3.heap.size, 0, none⟩ = some (.slice (some ⟨bA, oA, none⟩) 2 ck) ∧ w'.cell? ⟨w3.heap.size, 1, none⟩ = some (.slice Mk 0 dk) ∧ w'.cell? ⟨bA, oA, none⟩ = some (.slice VA 1 cA) ∧ w'.cell? ⟨bA, oA + 5, none⟩ = some (.slice VB 1 cB)) (by kernel_rfl) ?_ (fun hHeld => ?_)
        · try dsimp only
          go_keep
        refine wpAnyH_take (i := 0) (oi := ⟨some 90, .fieldAddr 44 (.tmp 6) 1, 0, "law.go:126", #[], none⟩) (v := ?_) rfl (by kernel_rfl) (by kernel_rfl) (by kernel_rfl) (fun _ _ _ h => h) (Or.inl ⟨by rfl, ?_⟩) (by assumption) ?_
        rotate_left
        · intro w hSw
          try dsimp only at hSw
          go_simp
          try with_reducible rfl
        try simp only [Act.put, List.setIfInBounds_toArray, List.set_cons_zero, List.set_cons_succ]
        refine wpAnyH_take (i := 1) (oi := ⟨some 91, .load 40 (.tmp 90), 40, "law.go:126", #[⟨0, .data⟩], none⟩) (v := ?_) rfl (by kernel_rfl) (by kernel_rfl) (by kernel_rfl) (fun _ _ _ h => h) (Or.inl ⟨by rfl, ?_⟩) (by assumption) ?_
        rotate_left
        · intro w hSw
          try dsimp only at hSw
          go_simp
          try with_reducible rfl
        try simp only [Act.put, List.setIfInBounds_toArray, List.set_cons_zero, List.set_cons_succ]
        refine wpAnyH_take (i := 2) (oi := ⟨some 92, .call { callee := .builtin .len, args := #[.tmp 91], argTypes := #[40] }, 3, "law.go:126", #[⟨1, .data⟩], none⟩) (v := ?_) rfl (by kernel_rfl) (by kernel_rfl) (by kernel_rfl) (fun _ _ _ h => h) (Or.inl ⟨by rfl, ?_⟩) (by assumption) ?_
        rotate_left
        · intro w hSw
          try dsimp only at hSw
          go_simp
          try with_reducible rfl
        try simp only [Act.put, List.setIfInBounds_toArray, List.set_cons_zero, List.set_cons_succ]
        refine wpAnyH_take (i := 3) (oi := ⟨some 93, .binOp .eql 3 (.tmp 92) (.const (.int .i64 0)) 3, 4, "law.go:126", #[⟨2, .data⟩], none⟩) (v := ?_) rfl (by kernel_rfl) (by kernel_rfl) (by kernel_rfl) (fun _ _ _ h => h) (Or.inl ⟨by rfl, ?_⟩) (by assumption) ?_
        rotate_left
        · intro w hSw
          try dsimp only at hSw
          go_simp
          try with_reducible rfl
        try simp only [Act.put, List.setIfInBounds_toArray, List.set_cons_zero, List.set_cons_succ]
        refine wpAnyH_take (i := 4) (oi := ⟨some 94, .move (.tmp 93), 4, "law.go:126", #[⟨3, .data⟩], none⟩) (v := ?_) rfl (by kernel_rfl) (by kernel_rfl) (by kernel_rfl) (fun _ _ _ h => h) (Or.inl ⟨by rfl, ?_⟩) (by assumption) ?_
        rotate_left
        · intro w hSw
          try dsimp only at hSw
          go_simp
          try with_reducible rfl
        try simp only [Act.put, List.setIfInBounds_toArray, List.set_cons_zero, List.set_cons_succ]
        refine wpAnyH_take (i := 5) (oi := ⟨some 95, .fieldAddr 44 (.tmp 6) 0, 0, "law.go:126", #[⟨4, .guard⟩], some (4, true)⟩) (v := ?_) rfl (by kernel_rfl) (by kernel_rfl) (by kernel_rfl) (fun _ _ _ h => h) (Or.inl ⟨by rfl, ?_⟩) (by assumption) ?_
        rotate_left
        · intro w hSw
          try dsimp only at hSw
          go_simp
          try with_reducible rfl
        try simp only [Act.put, List.setIfInBounds_toArray, List.set_cons_zero, List.set_cons_succ]
        refine wpAnyH_take (i := 6) (oi := ⟨some 96, .load 39 (.tmp 95), 39, "law.go:126", #[⟨5, .data⟩, ⟨4, .guard⟩], some (4, true)⟩) (v := ?_) rfl (by kernel_rfl) (by kernel_rfl) (by kernel_rfl) (fun _ _ _ h => h) (Or.inl ⟨by rfl, ?_⟩) (by assumption) ?_
        rotate_left
        · intro w hSw
          try dsimp only at hSw
          go_simp
          try with_reducible rfl
        try simp only [Act.put, List.setIfInBounds_toArray, List.set_cons_zero, List.set_cons_succ]
        refine wpAnyH_take (i := 7) (oi := ⟨some 97, .indexAddr 39 (.tmp 96) (.const (.int .i64 0)), 0, "law.go:126", #[⟨6, .data⟩, ⟨4, .guard⟩], some (4, true)⟩) (v := ?_) rfl (by kernel_rfl) (by kernel_rfl) (by kernel_rfl) (fun _ _ _ h => h) (Or.inl ⟨by rfl, ?_⟩) (by assumption) ?_
        rotate_left
        · intro w hSw
          try dsimp only at hSw
          go_simp
          try with_reducible rfl
        try simp only [Act.put, List.setIfInBounds_toArray, List.set_cons_zero, List.set_cons_succ]
        refine wpAnyH_take (i := 8) (oi := ⟨some 98, .fieldAddr 29 (.tmp 97) 0, 0, "law.go:126", #[⟨7, .data⟩, ⟨4, .guard⟩], some (4, true)⟩) (v := ?_) rfl (by kernel_rfl) (by kernel_rfl) (by kernel_rfl) (fun _ _ _ h => h) (Or.inl ⟨by rfl, ?_⟩) (by assumption) ?_
        rotate_left
        · intro w hSw
          try dsimp only at hSw
          go_simp
          try with_reducible rfl
        try simp only [Act.put, List.setIfInBounds_toArray, List.set_cons_zero, List.set_cons_succ]
        refine wpAnyH_take (i := 9) (oi := ⟨some 99, .load 27 (.tmp 98), 27, "law.go:126", #[⟨8, .data⟩, ⟨4, .guard⟩], some (4, true)⟩) (v := ?_) rfl (by kernel_rfl) (by kernel_rfl) (by kernel_rfl) (fun _ _ _ h => h) (Or.inl ⟨by rfl, ?_⟩) (by assumption) ?_
        rotate_left
        · intro w hSw
          try dsimp only at hSw
          go_simp
          try with_reducible rfl
        try simp only [Act.put, List.setIfInBounds_toArray, List.set_cons_zero, List.set_cons_succ]
        refine wpAnyH_take (i := 10) (oi := ⟨some 100, .slice 75 (.tmp 9) none (some (.const (.int .i64 1))) none, 27, "law.go:126", #[⟨4, .guard⟩], some (4, true)⟩) (v := ?_) rfl (by kernel_rfl) (by kernel_rfl) (by kernel_rfl) (fun _ _ _ h => h) (Or.inl ⟨by rfl, ?_⟩) (by assumption) ?_
        rotate_left
        · intro w hSw
          try dsimp only at hSw
          go_simp
          try with_reducible rfl
        try simp only [Act.put, List.setIfInBounds_toArray, List.set_cons_zero, List.set_cons_succ]
        refine wpAnyH_ready (rs := [11]) (by kernel_rfl) (by simp) ?_
        refine AllReadyH.cons (o := ⟨some 101, .call { callee := .value (.func 43), args := #[.tmp 99, .tmp 100], argTypes := #[27, 27] }, 4, "law.go:126", #[⟨9, .data⟩, ⟨10, .data⟩, ⟨4, .chain⟩, ⟨4, .guard⟩], some (4, true)⟩) rfl (fun K hK => ?_) AllReadyH.nil
        go_simp
        go_at_call 43
        refine (alikeI _ _ _ _ _ [s0] [s0] (HVA.out.below (bRefl _).drew) (HI0.out.below (bRefl _).drew)).mono ?_
        rw [e0]
        rintro e w10 ⟨rfl, n10, h10⟩
        have hb10 : Below wf.heap.size wf w10 := by rw [h10]; exact bDrewN (bRefl _).drew n10
        have hc10 := bcell hb10
        have HB10 := hid_mk hb10
        clear h10 hb10
        try (go_wp2_with fail)
        refine hK.out _ _ ?_ (fun hHeld => ?_)
        · try dsimp only
          exact ⟨(hc10 _ _ zb).trans o0, (hc10 _ _ zb).trans o1, (hc10 _ _ hzA).trans c0', (hc10 _ _ hzA).trans r0'⟩
        clear hK K
        try simp only [Act.put, List.setIfInBounds_toArray, List.set_cons_zero, List.set_cons_succ]
        refine wpAnyH_take (i := 12) (oi := ⟨some 102, .pick (.tmp 94) (.tmp 101) (.const (.bool false)), 4, "law.go:126", #[⟨4, .data⟩, ⟨11, .data⟩], none⟩) (v := ?_) rfl (by kernel_rfl) (by kernel_rfl) (by kernel_rfl) (fun _ _ _ h => h) (Or.inl ⟨by rfl, ?_⟩) (by assumption) ?_
        rotate_left
        · intro w hSw
          try dsimp only at hSw
          go_simp
          try with_reducible rfl
        try simp only [Act.put, List.setIfInBounds_toArray, List.set_cons_zero, List.set_cons_succ]
        refine wpAnyH_take (i := 13) (oi := ⟨some 103, .move (.tmp 102), 4, "law.go:126", #[⟨12, .data⟩, ⟨11, .chain⟩], none⟩) (v := ?_) rfl (by kernel_rfl) (by kernel_rfl) (by kernel_rfl) (fun _ _ _ h => h) (Or.inl ⟨by rfl, ?_⟩) (by assumption) ?_
        rotate_left
        · intro w hSw
          try dsimp only at hSw
          go_simp
          try with_reducible rfl
        try simp only [Act.put, List.setIfInBounds_toArray, List.set_cons_zero, List.set_cons_succ]
        refine wpAnyH_take (i := 14) (oi := ⟨some 104, .fieldAddr 44 (.tmp 6) 0, 0, "law.go:126", #[⟨13, .guard⟩], some (13, true)⟩) (v := ?_) rfl (by kernel_rfl) (by kernel_rfl) (by kernel_rfl) (fun _ _ _ h => h) (Or.inl ⟨by rfl, ?_⟩) (by assumption) ?_
        rotate_left
        · intro w hSw
          try dsimp only at hSw
          go_simp
          try with_reducible rfl
        try simp only [Act.put, List.setIfInBounds_toArray, List.set_cons_zero, List.set_cons_succ]
        refine wpAnyH_take (i := 15) (oi := ⟨some 105, .load 39 (.tmp 104), 39, "law.go:126", #[⟨14, .data⟩, ⟨13, .guard⟩], some (13, true)⟩) (v := ?_) rfl (by kernel_rfl) (by kernel_rfl) (by kernel_rfl) (fun _ _ _ h => h) (Or.inl ⟨by rfl, ?_⟩) (by assumption) ?_
        rotate_left
        · intro w hSw
          try dsimp only at hSw
          go_simp
          try with_reducible rfl
        try simp only [Act.put, List.setIfInBounds_toArray, List.set_cons_zero, List.set_cons_succ]
        refine wpAnyH_take (i := 16) (oi := ⟨some 106, .indexAddr 39 (.tmp 105) (.const (.int .i64 1)), 0, "law.go:126", #[⟨15, .data⟩, ⟨13, .guard⟩], some (13, true)⟩) (v := ?_) rfl (by kernel_rfl) (by kernel_rfl) (by kernel_rfl) (fun _ _ _ h => h) (Or.inl ⟨by rfl, ?_⟩) (by assumption) ?_
        rotate_left
        · intro w hSw
          try dsimp only at hSw
          go_simp
          try with_reducible rfl
        try simp only [Act.put, List.setIfInBounds_toArray, List.set_cons_zero, List.set_cons_succ]
        refine wpAnyH_take (i := 17) (oi := ⟨some 107, .fieldAddr 29 (.tmp 106) 0, 0, "law.go:126", #[⟨16, .data⟩, ⟨13, .guard⟩], some (13, true)⟩) (v := ?_) rfl (by kernel_rfl) (by kernel_rfl) (by kernel_rfl) (fun _ _ _ h => h) (Or.inl ⟨by rfl, ?_⟩) (by assumption) ?_
        rotate_left
        · intro w hSw
          try dsimp only at hSw
          go_simp
          try with_reducible rfl
        try simp only [Act.put, List.setIfInBounds_toArray, List.set_cons_zero, List.set_cons_succ]
        refine wpAnyH_take (i := 18) (oi := ⟨some 108, .load 27 (.tmp 107), 27, "law.go:126", #[⟨17, .data⟩, ⟨13, .guard⟩], some (13, true)⟩) (v := ?_) rfl (by kernel_rfl) (by kernel_rfl) (by kernel_rfl) (fun _ _ _ h => h) (Or.inl ⟨by rfl, ?_⟩) (by assumption) ?_
        rotate_left
        · intro w hSw
          try dsimp only at hSw
          go_simp
          try with_reducible rfl
        try simp only [Act.put, List.setIfInBounds_toArray, List.set_cons_zero, List.set_cons_succ]
        refine wpAnyH_take (i := 19) (oi := ⟨some 109, .slice 75 (.tmp 9) (some (.const (.int .i64 1))) none none, 27, "law.go:126", #[⟨13, .guard⟩], some (13, true)⟩) (v := ?_) rfl (by kernel_rfl) (by kernel_rfl) (by kernel_rfl) (fun _ _ _ h => h) (Or.inl ⟨by rfl, ?_⟩) (by assumption) ?_
        rotate_left
        · intro w hSw
          try dsimp only at hSw
          go_simp
          try with_reducible rfl
        try simp only [Act.put, List.setIfInBounds_toArray, List.set_cons_zero, List.set_cons_succ]
        refine wpAnyH_ready (rs := [20]) (by kernel_rfl) (by simp) ?_
        refine AllReadyH.cons (o := ⟨some 110, .call { callee := .value (.func 43), args := #[.tmp 108, .tmp 109], argTypes := #[27, 27] }, 4, "law.go:126", #[⟨18, .data⟩, ⟨19, .data⟩, ⟨13, .chain⟩, ⟨13, .guard⟩], some (13, true)⟩) rfl (fun K hK => ?_) AllReadyH.nil
        go_simp
        go_at_call 43
        refine (alikeI _ _ _ _ _ [s1] [s1] (HVB.out.below HB10.out) (HI1.out.below HB10.out)).mono ?_
        rw [e1]
        rintro e w11 ⟨rfl, n11, h11⟩
        have hb11 : Below wf.heap.size wf w11 := by rw [h11]; exact bDrewN HB10.out n11
        have hc11 := bcell hb11
        have HB11 := hid_mk hb11
        clear h11 hb11
        try (go_wp2_with fail)
        refine hK.out _ _ ?_ (fun hHeld => ?_)
        · try dsimp only
          exact ⟨(hc11 _ _ zb).trans o0, (hc11 _ _ zb).trans o1, (hc11 _ _ hzA).trans c0', (hc11 _ _ hzA).trans r0'⟩
        clear hK K
        try simp only [Act.put, List.setIfInBounds_toArray, List.set_cons_zero, List.set_cons_succ]
        refine wpAnyH_take (i := 21) (oi := ⟨some 111, .pick (.tmp 103) (.tmp 110) (.const (.bool false)), 4, "law.go:126", #[⟨13, .data⟩, ⟨20, .data⟩], none⟩) (v := ?_) rfl (by kernel_rfl) (by kernel_rfl) (by kernel_rfl) (fun _ _ _ h => h) (Or.inl ⟨by rfl, ?_⟩) (by assumption) ?_
        rotate_left
        · intro w hSw
          try dsimp only at hSw
          go_simp
          try with_reducible rfl
        try simp only [Act.put, List.setIfInBounds_toArray, List.set_cons_zero, List.set_cons_succ]
        refine wpAnyH_take (i := 22) (oi := ⟨some 112, .move (.tmp 111), 4, "law.go:126", #[⟨21, .data⟩, ⟨20, .chain⟩], none⟩) (v := ?_) rfl (by kernel_rfl) (by kernel_rfl) (by kernel_rfl) (fun _ _ _ h => h) (Or.inl ⟨by rfl, ?_⟩) (by assumption) ?_
        rotate_left
        · intro w hSw
          try dsimp only at hSw
          go_simp
          try with_reducible rfl
        try simp only [Act.put, List.setIfInBounds_toArray, List.set_cons_zero, List.set_cons_succ]
        refine wpAnyH_ready (rs := [23]) (by kernel_rfl) (by simp) ?_
        refine AllReadyH.cons (o := ⟨some 113, .call { callee := .value (.func 39), args := #[], argTypes := #[] }, 4, "law.go:126", #[⟨22, .chain⟩, ⟨22, .guard⟩], some (22, true)⟩) rfl (fun K hK => ?_) AllReadyH.nil
        go_simp
        go_at_call 39
        refine (swake_any _ (HT.out.below (bTrans (bTrans HB3.out HLF.out) HB11.out))).mono ?_
        rintro e w12 ⟨rfl, hb12⟩
        have hb12' := bTrans HB11.out hb12
        have hc12 := bcell hb12'
        have HB12 := hid_mk hb12'
        clear hb12 hb12'
        try (go_wp2_with fail)
        refine hK.out _ _ ?_ (fun hHeld => ?_)
        · try dsimp only
          exact ⟨(hc12 _ _ zb).trans o0, (hc12 _ _ zb).trans o1, (hc12 _ _ hzA).trans c0', (hc12 _ _ hzA).trans r0'⟩
        clear hK K
        try simp only [Act.put, List.setIfInBounds_toArray, List.set_cons_zero, List.set_cons_succ]
        refine wpAnyH_take (i := 24) (oi := ⟨some 114, .pick (.tmp 112) (.tmp 113) (.const (.bool false)), 4, "law.go:126", #[⟨22, .data⟩, ⟨23, .data⟩], none⟩) (v := ?_) rfl (by kernel_rfl) (by kernel_rfl) (by kernel_rfl) (fun _ _ _ h => h) (Or.inl ⟨by rfl, ?_⟩) (by assumption) ?_
        rotate_left
        · intro w hSw
          try dsimp only at hSw
          go_simp
          try with_reducible rfl
        try simp only [Act.put, List.setIfInBounds_toArray, List.set_cons_zero, List.set_cons_succ]
        refine wpAnyH_take (i := 25) (oi := ⟨some 4, .assign (.tmp 114), 4, "law.go:126", #[⟨24, .data⟩, ⟨23, .chain⟩, ⟨0, .phase⟩, ⟨1, .phase⟩, ⟨2, .phase⟩, ⟨3, .phase⟩, ⟨4, .phase⟩, ⟨5, .phase⟩, ⟨6, .phase⟩, ⟨7, .phase⟩, ⟨8, .phase⟩, ⟨9, .phase⟩, ⟨10, .phase⟩, ⟨11, .phase⟩, ⟨12, .phase⟩, ⟨13, .phase⟩, ⟨14, .phase⟩, ⟨15, .phase⟩, ⟨16, .phase⟩, ⟨17, .phase⟩, ⟨18, .phase⟩, ⟨19, .phase⟩, ⟨20, .phase⟩, ⟨21, .phase⟩, ⟨22, .phase⟩, ⟨23, .phase⟩, ⟨24, .phase⟩], none⟩) (v := ?_) rfl (by kernel_rfl) (by kernel_rfl) (by kernel_rfl) (fun _ _ _ h => h) (Or.inl ⟨by rfl, ?_⟩) (by assumption) ?_
        rotate_left
        · intro w hSw
          try dsimp only at hSw
          go_simp
          try with_reducible rfl
        try simp only [Act.put, List.setIfInBounds_toArray, List.set_cons_zero, List.set_cons_succ]
        refine wpAnyH_done (by kernel_rfl) ?_ _
        go_wp2
        go_ret
        exact ⟨rfl, bTrans (bTrans HB3.out HLF.out) HB12.out⟩
      · have hkd' : ((k : Int) == (d : Int)) = false := beq_eq_false_iff_ne.2 (by omega)
        have HKD' := hid_mk hkd
        clear hkd
        rcases Nat.mod_two_eq_zero_or_one k with hr | hr
        · have hrem : (k : Int).tmod 2 = 0 := by rw [Int.tmod_eq_emod_of_nonneg (by omega)]; omega
          have e0 : psm n (k + 1) 0 = s0 + (n : Int) - (k : Int) := by
            show psm n k 0 + (if k % 2 = 0 then (n : Int) - (k : Int) else 0) = _
            rw [if_pos hr, HS0.out]; omega
          have e1 : psm n (k + 1) 1 = s1 := by
            show psm n k 1 + (if k % 2 = 1 then (n : Int) - (k : Int) else 0) = _
            rw [if_neg (by omega), HS1.out]; omega
          have HE := hid_mk (And.intro e0 e1)
          have hTS := HTN.out.sum 0 (by decide) (s0 + (n : Int) - (k : Int))
          rw [if_pos rfl, if_neg (by decide)] at hTS
          have HTS := hid_mk hTS
          have hS : Same (fun d => d ≠ w3.heap.size + 1 + 1) wr (wr.setCell ⟨w3.heap.size + 1 + 1, 0, none⟩ (.int .i64 (s0 + (n : Int) - (k : Int)))) := setCell_same fun _ h => h
          have HWS := hid_mk (HWA1.out.same (hS.weak fun b hb => by have hb' : b < w3.heap.size ∨ w3.heap.size + 3 ≤ b := hb; show b ≠ _; omega)).wld
          have HBS := hid_mk ((hS.block w3.heap.size (by show _ ≠ _; omega) z3).trans HBX1.out)
          clear hTS hr e0 e1 hS
          go_wp2_with fail
          generalize wr.setCell ⟨w3.heap.size + 1 + 1, 0, none⟩ (.int .i64 (s0 + (n : Int) - (k : Int))) = ws at HTS HWS HBS ⊢
          have hbE : Below ws.heap.size ws (ws.alloc (.cells #[.int .i64 1, .int .i64 dd.f, .int .i64 dd.n, .int .i64 dd.c, .int .i64 0] 62)) := bAlloc (bRefl _) _
          have x1 := HT.out.below (bTrans (bTrans HB3.out HTS.out.low) hbE)
          have x2 := ((HP3.out.below HTS.out.low).below hbE).prg
          have x3 := HWS.out.below hbE
          refine (do_yes _ _ _ (pairP (n : Int)) pbu X ⟨1, dd, 0⟩ x1 x2 x3 HSM.out HI1.out).mono ?_
          clear x1 x2 x3 hbE
          rw [HD1.out]
          rintro e w4 ⟨v4, rfl, hv4, hb4'⟩
          have hb4 := bTrans (bAlloc (bRefl ws) _) hb4'
          obtain ⟨a4, m4, rfl, ha4, hm4⟩ := hv4
          obtain ⟨A4, c4, rfl, _⟩ := ha4.form
          obtain ⟨M4, d4, rfl, _⟩ := hm4.form
          have hk4 := boxAt HBS.out hb4
          have fk4 : ∀ o, w4.frozen? ⟨w3.heap.size, o, none⟩ = false := fun o => heap_frozen hk4
          clear o0 o1 o2 o3 o4 o5 p0 p1 p2 p3 b0 b1 b2 b3 q0 q1 m0 m1 m2
          obtain ⟨o0, o1, o2, o3, o4, o5⟩ := blk6 hk4
          have z4' : w3.heap.size < w4.heap.size := (Array.getElem?_eq_some_iff.1 hk4).1
          have v2 : X'.acts.length = 2 := by rw [← HX'.out]; rfl
          have zs : w3.heap.size + 3 ≤ ws.heap.size := (Array.getElem?_eq_some_iff.1 HTS.out.bq).1
          have HN4 := hid_mk (HTS.out.next (x' := X') hb4 (WldA.weak (ok := fun b => (ws.alloc (.cells #[.int .i64 1, .int .i64 dd.f, .int .i64 dd.n, .int .i64 dd.c, .int .i64 0] 62)).heap.size ≤ b) ⟨_, _, rfl, ha4, hm4⟩ (fun b hb => by simp at hb; omega)))
          clear ha4 hm4 hb4 hb4' hk4
          have hn4 := HN4.out
          rw [v2] at hn4
          have HN5 : Hid (TP w3 X' _ _ _) := hn4
          clear hn4
          go_wp2
          go_roundg (n + 1 - (k + 1))
          case measure => have := HLT.out; omega
          case rel => exact ⟨k + 1, rfl, by have := HLT.out; omega, by have := HKD.out; have := HKD'.out; omega, by go_num, by rw [HE.out.1, HE.out.2, HX'.out]; exact HN5.out.below (bAlloc (bRefl _) _)⟩
        · have hrem : (k : Int).tmod 2 = 1 := by rw [Int.tmod_eq_emod_of_nonneg (by omega)]; omega
          have e0 : psm n (k + 1) 1 = s1 + (n : Int) - (k : Int) := by
            show psm n k 1 + (if k % 2 = 1 then (n : Int) - (k : Int) else 0) = _
            rw [if_pos hr, HS1.out]; omega
          have e1 : psm n (k + 1) 0 = s0 := by
            show psm n k 0 + (if k % 2 = 0 then (n : Int) - (k : Int) else 0) = _
            rw [if_neg (by omega), HS0.out]; omega
          have HE := hid_mk (And.intro e0 e1)
          have hTS := HTN.out.sum 1 (by decide) (s1 + (n : Int) - (k : Int))
          rw [if_neg (by decide), if_pos rfl] at hTS
          have HTS := hid_mk hTS
          have hS : Same (fun d => d ≠ w3.heap.size + 1 + 1) wr (wr.setCell ⟨w3.heap.size + 1 + 1, 1, none⟩ (.int .i64 (s1 + (n : Int) - (k : Int)))) := setCell_same fun _ h => h
          have HWS := hid_mk (HWA1.out.same (hS.weak fun b hb => by have hb' : b < w3.heap.size ∨ w3.heap.size + 3 ≤ b := hb; show b ≠ _; omega)).wld
          have HBS := hid_mk ((hS.block w3.heap.size (by show _ ≠ _; omega) z3).trans HBX1.out)
          clear hTS hr e0 e1 hS
          go_wp2_with fail
          generalize wr.setCell ⟨w3.heap.size + 1 + 1, 1, none⟩ (.int .i64 (s1 + (n : Int) - (k : Int))) = ws at HTS HWS HBS ⊢
          have hbE : Below ws.heap.size ws (ws.alloc (.cells #[.int .i64 1, .int .i64 dd.f, .int .i64 dd.n, .int .i64 dd.c, .int .i64 0] 62)) := bAlloc (bRefl _) _
          have x1 := HT.out.below (bTrans (bTrans HB3.out HTS.out.low) hbE)
          have x2 := ((HP3.out.below HTS.out.low).below hbE).prg
          have x3 := HWS.out.below hbE
          refine (do_yes _ _ _ (pairP (n : Int)) pbu X ⟨1, dd, 0⟩ x1 x2 x3 HSM.out HI1.out).mono ?_
          clear x1 x2 x3 hbE
          rw [HD1.out]
          rintro e w4 ⟨v4, rfl, hv4, hb4'⟩
          have hb4 := bTrans (bAlloc (bRefl ws) _) hb4'
          obtain ⟨a4, m4, rfl, ha4, hm4⟩ := hv4
          obtain ⟨A4, c4, rfl, _⟩ := ha4.form
          obtain ⟨M4, d4, rfl, _⟩ := hm4.form
          have hk4 := boxAt HBS.out hb4
          have fk4 : ∀ o, w4.frozen? ⟨w3.heap.size, o, none⟩ = false := fun o => heap_frozen hk4
          clear o0 o1 o2 o3 o4 o5 p0 p1 p2 p3 b0 b1 b2 b3 q0 q1 m0 m1 m2
          obtain ⟨o0, o1, o2, o3, o4, o5⟩ := blk6 hk4
          have z4' : w3.heap.size < w4.heap.size := (Array.getElem?_eq_some_iff.1 hk4).1
          have v2 : X'.acts.length = 2 := by rw [← HX'.out]; rfl
          have zs : w3.heap.size + 3 ≤ ws.heap.size := (Array.getElem?_eq_some_iff.1 HTS.out.bq).1
          have HN4 := hid_mk (HTS.out.next (x' := X') hb4 (WldA.weak (ok := fun b => (ws.alloc (.cells #[.int .i64 1, .int .i64 dd.f, .int .i64 dd.n, .int .i64 dd.c, .int .i64 0] 62)).heap.size ≤ b) ⟨_, _, rfl, ha4, hm4⟩ (fun b hb => by simp at hb; omega)))
          clear ha4 hm4 hb4 hb4' hk4
          have hn4 := HN4.out
          rw [v2] at hn4
          have HN5 : Hid (TP w3 X' _ _ _) := hn4
          clear hn4
          go_wp2
          go_roundg (n + 1 - (k + 1))
          case measure => have := HLT.out; omega
          case rel => exact ⟨k + 1, rfl, by have := HLT.out; omega, by have := HKD.out; have := HKD'.out; omega, by go_num, by rw [HE.out.1, HE.out.2, HX'.out]; exact HN5.out.below (bAlloc (bRefl _) _)⟩
    · obtain rfl : k = n + 1 := by omega
      have hkn : ¬ ((n + 1 : Nat) : Int) ≤ (n : Int) := by omega
      go_wp2_with fail
      clear hac hml hX o0 o1 o2 o3 o4 o5 p0 p1 p2 p3 b0 b1 b2 b3 q0 q1 fk fq z3 z5
      obtain ⟨am, mm, hbx, hwa⟩ := HTN.out.bw
      have hbq := HTN.out.bq
      obtain ⟨a0, m0, he0, hac, hml⟩ := hwa
      simp only [Value.agg.injEq, Array.mk.injEq, List.cons.injEq, and_true] at he0
      obtain ⟨rfl, rfl⟩ := he0
      obtain ⟨Ak, ck, rfl, _⟩ := hac.form
      obtain ⟨Mk, dk, rfl, _⟩ := hml.form
      obtain ⟨o0, o1, o2, o3, o4, o5⟩ := blk6 hbx
      have u1 : X.acts.length = 2 := by rw [← HX.out]; rfl
      have u2 : X.mail.length = 0 := by rw [← HX.out]; show (if n + 1 ≤ n then _ else _ : List PMsg).length = 0; rw [if_neg (by omega)]; rfl
      obtain ⟨bA, oA, xA, vA, rfl, hxA, hzA, c0, _, _, _, _, hvA⟩ := hac.cell (bRefl wr) (k := 0) (by omega)
      obtain ⟨bB, oB, xB, vB, hAB, hxB, hzB, r0, _, _, _, _, hvB⟩ := hac.cell (bRefl wr) (k := 1) (by omega)
      cases hAB
      have hxA' : xA.regs = [s0] := by
        rw [← HX.out] at hxA
        rw [← Option.some.inj hxA, ← HS0.out]
      have hxB' : xB.regs = [s1] := by
        rw [← HX.out] at hxB
        rw [← Option.some.inj hxB, ← HS1.out]
      rw [hxA'] at hvA
      rw [hxB'] at hvB
      obtain ⟨VA, cA, rfl, _⟩ := hvA.form
      obtain ⟨VB, cB, rfl, _⟩ := hvB.form
      have HVA := hid_mk hvA
      have HVB := hid_mk hvB
      rw [Nat.zero_mul, Nat.add_zero] at c0
      rw [Nat.one_mul] at r0
      have HI0 : Hid (Ints anyB wr (.slice (some ⟨w3.heap.size + 1 + 1, 0, none⟩) 1 2) [s0]) := arr_0 hbq
      have HI1 : Hid (Ints anyB wr (.slice (some ⟨w3.heap.size + 1 + 1, 1, none⟩) 1 1) [s1]) := arr_1 hbq
      have e0 : eqB ([s0] : List Int) [s0] = true := eqB_self _
      have e1 : eqB ([s1] : List Int) [s1] = true := eqB_self _
      have zb : w3.heap.size < wr.heap.size := (Array.getElem?_eq_some_iff.1 hbx).1
      have zq : w3.heap.size + 1 + 1 < wr.heap.size := (Array.getElem?_eq_some_iff.1 hbq).1
      have HLF := hid_mk HL.out
      obtain ⟨y0, y1⟩ := blk2 hbq
      rw [u1] at o0
      rw [u2] at o1
      have c0' : wr.cell? ⟨bA, oA, none⟩ = some (.slice VA 1 cA) := c0
      have r0' : wr.cell? ⟨bA, oA + 5, none⟩ = some (.slice VB 1 cB) := r0
      clear hxA hvA hxB hvB hac hml hbx hbq hxA' hxB' c0 r0 o2 o3 o4 o5 y0 y1
      refine wp_region_held_drew (S := fun w' => w'.cell? ⟨w3.heap.size, 0, none⟩ = some (.slice (some ⟨bA, oA, none⟩) 2 ck) ∧ w'.cell? ⟨w3.heap.size, 1, none⟩ = some (.slice Mk 0 dk) ∧ w'.cell? ⟨bA, oA, none⟩ = some (.slice VA 1 cA) ∧ w'.cell? ⟨bA, oA + 5, none⟩ = some (.slice VB 1 cB)) (by kernel_rfl) ?_ (fun hHeld => ?_)
      · try dsimp only
        go_keep
      refine wpAnyH_take (i := 0) (oi := ⟨some 90, .fieldAddr 44 (.tmp 6) 1, 0, "law.go:126", #[], none⟩) (v := ?_) rfl (by kernel_rfl) (by kernel_rfl) (by kernel_rfl) (fun _ _ _ h => h) (Or.inl ⟨by rfl, ?_⟩) (by assumption) ?_
      rotate_left
      · intro w hSw
        try dsimp only at hSw
        go_simp
        try with_reducible rfl
      try simp only [Act.put, List.setIfInBounds_toArray, List.set_cons_zero, List.set_cons_succ]
      refine wpAnyH_take (i := 1) (oi := ⟨some 91, .load 40 (.tmp 90), 40, "law.go:126", #[⟨0, .data⟩], none⟩) (v := ?_) rfl (by kernel_rfl) (by kernel_rfl) (by kernel_rfl) (fun _ _ _ h => h) (Or.inl ⟨by rfl, ?_⟩) (by assumption) ?_
      rotate_left
      · intro w hSw
        try dsimp only at hSw
        go_simp
        try with_reducible rfl
      try simp only [Act.put, List.setIfInBounds_toArray, List.set_cons_zero, List.set_cons_succ]
      refine wpAnyH_take (i := 2) (oi := ⟨some 92, .call { callee := .builtin .len, args := #[.tmp 91], argTypes := #[40] }, 3, "law.go:126", #[⟨1, .data⟩], none⟩) (v := ?_) rfl (by kernel_rfl) (by kernel_rfl) (by kernel_rfl) (fun _ _ _ h => h) (Or.inl ⟨by rfl, ?_⟩) (by assumption) ?_
      rotate_left
      · intro w hSw
        try dsimp only at hSw
        go_simp
        try with_reducible rfl
      try simp only [Act.put, List.setIfInBounds_toArray, List.set_cons_zero, List.set_cons_succ]
      refine wpAnyH_take (i := 3) (oi := ⟨some 93, .binOp .eql 3 (.tmp 92) (.const (.int .i64 0)) 3, 4, "law.go:126", #[⟨2, .data⟩], none⟩) (v := ?_) rfl (by kernel_rfl) (by kernel_rfl) (by kernel_rfl) (fun _ _ _ h => h) (Or.inl ⟨by rfl, ?_⟩) (by assumption) ?_
      rotate_left
      · intro w hSw
        try dsimp only at hSw
        go_simp
        try with_reducible rfl
      try simp only [Act.put, List.setIfInBounds_toArray, List.set_cons_zero, List.set_cons_succ]
      refine wpAnyH_take (i := 4) (oi := ⟨some 94, .move (.tmp 93), 4, "law.go:126", #[⟨3, .data⟩], none⟩) (v := ?_) rfl (by kernel_rfl) (by kernel_rfl) (by kernel_rfl) (fun _ _ _ h => h) (Or.inl ⟨by rfl, ?_⟩) (by assumption) ?_
      rotate_left
      · intro w hSw
        try dsimp only at hSw
        go_simp
        try with_reducible rfl
      try simp only [Act.put, List.setIfInBounds_toArray, List.set_cons_zero, List.set_cons_succ]
      refine wpAnyH_take (i := 5) (oi := ⟨some 95, .fieldAddr 44 (.tmp 6) 0, 0, "law.go:126", #[⟨4, .guard⟩], some (4, true)⟩) (v := ?_) rfl (by kernel_rfl) (by kernel_rfl) (by kernel_rfl) (fun _ _ _ h => h) (Or.inl ⟨by rfl, ?_⟩) (by assumption) ?_
      rotate_left
      · intro w hSw
        try dsimp only at hSw
        go_simp
        try with_reducible rfl
      try simp only [Act.put, List.setIfInBounds_toArray, List.set_cons_zero, List.set_cons_succ]
      refine wpAnyH_take (i := 6) (oi := ⟨some 96, .load 39 (.tmp 95), 39, "law.go:126", #[⟨5, .data⟩, ⟨4, .guard⟩], some (4, true)⟩) (v := ?_) rfl (by kernel_rfl) (by kernel_rfl) (by kernel_rfl) (fun _ _ _ h => h) (Or.inl ⟨by rfl, ?_⟩) (by assumption) ?_
      rotate_left
      · intro w hSw
        try dsimp only at hSw
        go_simp
        try with_reducible rfl
      try simp only [Act.put, List.setIfInBounds_toArray, List.set_cons_zero, List.set_cons_succ]
      refine wpAnyH_take (i := 7) (oi := ⟨some 97, .indexAddr 39 (.tmp 96) (.const (.int .i64 0)), 0, "law.go:126", #[⟨6, .data⟩, ⟨4, .guard⟩], some (4, true)⟩) (v := ?_) rfl (by kernel_rfl) (by kernel_rfl) (by kernel_rfl) (fun _ _ _ h => h) (Or.inl ⟨by rfl, ?_⟩) (by assumption) ?_
      rotate_left
      · intro w hSw
        try dsimp only at hSw
        go_simp
        try with_reducible rfl
      try simp only [Act.put, List.setIfInBounds_toArray, List.set_cons_zero, List.set_cons_succ]
      refine wpAnyH_take (i := 8) (oi := ⟨some 98, .fieldAddr 29 (.tmp 97) 0, 0, "law.go:126", #[⟨7, .data⟩, ⟨4, .guard⟩], some (4, true)⟩) (v := ?_) rfl (by kernel_rfl) (by kernel_rfl) (by kernel_rfl) (fun _ _ _ h => h) (Or.inl ⟨by rfl, ?_⟩) (by assumption) ?_
      rotate_left
      · intro w hSw
        try dsimp only at hSw
        go_simp
        try with_reducible rfl
      try simp only [Act.put, List.setIfInBounds_toArray, List.set_cons_zero, List.set_cons_succ]
      refine wpAnyH_take (i := 9) (oi := ⟨some 99, .load 27 (.tmp 98), 27, "law.go:126", #[⟨8, .data⟩, ⟨4, .guard⟩], some (4, true)⟩) (v := ?_) rfl (by kernel_rfl) (by kernel_rfl) (by kernel_rfl) (fun _ _ _ h => h) (Or.inl ⟨by rfl, ?_⟩) (by assumption) ?_
      rotate_left
      · intro w hSw
        try dsimp only at hSw
        go_simp
        try with_reducible rfl
      try simp only [Act.put, List.setIfInBounds_toArray, List.set_cons_zero, List.set_cons_succ]
      refine wpAnyH_take (i := 10) (oi := ⟨some 100, .slice 75 (.tmp 9) none (some (.const (.int .i64 1))) none, 27, "law.go:126", #[⟨4, .guard⟩], some (4, true)⟩) (v := ?_) rfl (by kernel_rfl) (by kernel_rfl) (by kernel_rfl) (fun _ _ _ h => h) (Or.inl ⟨by rfl, ?_⟩) (by assumption) ?_
      rotate_left
      · intro w hSw
        try dsimp only at hSw
        go_simp
        try with_reducible rfl
      try simp only [Act.put, List.setIfInBounds_toArray, List.set_cons_zero, List.set_cons_succ]
      refine wpAnyH_ready (rs := [11]) (by kernel_rfl) (by simp) ?_
      refine AllReadyH.cons (o := ⟨some 101, .call { callee := .value (.func 43), args := #[.tmp 99, .tmp 100], argTypes := #[27, 27] }, 4, "law.go:126", #[⟨9, .data⟩, ⟨10, .data⟩, ⟨4, .chain⟩, ⟨4, .guard⟩], some (4, true)⟩) rfl (fun K hK => ?_) AllReadyH.nil
      go_simp
      go_at_call 43
      refine (alikeI _ _ _ _ _ [s0] [s0] (HVA.out.below (bRefl _).drew) (HI0.out.below (bRefl _).drew)).mono ?_
      rw [e0]
      rintro e w10 ⟨rfl, n10, h10⟩
      have hb10 : Below wr.heap.size wr w10 := by rw [h10]; exact bDrewN (bRefl _).drew n10
      have hc10 := bcell hb10
      have HB10 := hid_mk hb10
      clear h10 hb10
      try (go_wp2_with fail)
      refine hK.out _ _ ?_ (fun hHeld => ?_)
      · try dsimp only
        exact ⟨(hc10 _ _ zb).trans o0, (hc10 _ _ zb).trans o1, (hc10 _ _ hzA).trans c0', (hc10 _ _ hzA).trans r0'⟩
      clear hK K
      try simp only [Act.put, List.setIfInBounds_toArray, List.set_cons_zero, List.set_cons_succ]
      refine wpAnyH_take (i := 12) (oi := ⟨some 102, .pick (.tmp 94) (.tmp 101) (.const (.bool false)), 4, "law.go:126", #[⟨4, .data⟩, ⟨11, .data⟩], none⟩) (v := ?_) rfl (by kernel_rfl) (by kernel_rfl) (by kernel_rfl) (fun _ _ _ h => h) (Or.inl ⟨by rfl, ?_⟩) (by assumption) ?_
      rotate_left
      · intro w hSw
        try dsimp only at hSw
        go_simp
        try with_reducible rfl
      try simp only [Act.put, List.setIfInBounds_toArray, List.set_cons_zero, List.set_cons_succ]
      refine wpAnyH_take (i := 13) (oi := ⟨some 103, .move (.tmp 102), 4, "law.go:126", #[⟨12, .data⟩, ⟨11, .chain⟩], none⟩) (v := ?_) rfl (by kernel_rfl) (by kernel_rfl) (by kernel_rfl) (fun _ _ _ h => h) (Or.inl ⟨by rfl, ?_⟩) (by assumption) ?_
      rotate_left
      · intro w hSw
        try dsimp only at hSw
        go_simp
        try with_reducible rfl
      try simp only [Act.put, List.setIfInBounds_toArray, List.set_cons_zero, List.set_cons_succ]
      refine wpAnyH_take (i := 14) (oi := ⟨some 104, .fieldAddr 44 (.tmp 6) 0, 0, "law.go:126", #[⟨13, .guard⟩], some (13, true)⟩) (v := ?_) rfl (by kernel_rfl) (by kernel_rfl) (by kernel_rfl) (fun _ _ _ h => h) (Or.inl ⟨by rfl, ?_⟩) (by assumption) ?_
      rotate_left
      · intro w hSw
        try dsimp only at hSw
        go_simp
        try with_reducible rfl
      try simp only [Act.put, List.setIfInBounds_toArray, List.set_cons_zero, List.set_cons_succ]
      refine wpAnyH_take (i := 15) (oi := ⟨some 105, .load 39 (.tmp 104), 39, "law.go:126", #[⟨14, .data⟩, ⟨13, .guard⟩], some (13, true)⟩) (v := ?_) rfl (by kernel_rfl) (by kernel_rfl) (by kernel_rfl) (fun _ _ _ h => h) (Or.inl ⟨by rfl, ?_⟩) (by assumption) ?_
      rotate_left
      · intro w hSw
        try dsimp only at hSw
        go_simp
        try with_reducible rfl
      try simp only [Act.put, List.setIfInBounds_toArray, List.set_cons_zero, List.set_cons_succ]
      refine wpAnyH_take (i := 16) (oi := ⟨some 106, .indexAddr 39 (.tmp 105) (.const (.int .i64 1)), 0, "law.go:126", #[⟨15, .data⟩, ⟨13, .guard⟩], some (13, true)⟩) (v := ?_) rfl (by kernel_rfl) (by kernel_rfl) (by kernel_rfl) (fun _ _ _ h => h) (Or.inl ⟨by rfl, ?_⟩) (by assumption) ?_
      rotate_left
      · intro w hSw
        try dsimp only at hSw
        go_simp
        try with_reducible rfl
      try simp only [Act.put, List.setIfInBounds_toArray, List.set_cons_zero, List.set_cons_succ]
      refine wpAnyH_take (i := 17) (oi := ⟨some 107, .fieldAddr 29 (.tmp 106) 0, 0, "law.go:126", #[⟨16, .data⟩, ⟨13, .guard⟩], some (13, true)⟩) (v := ?_) rfl (by kernel_rfl) (by kernel_rfl) (by kernel_rfl) (fun _ _ _ h => h) (Or.inl ⟨by rfl, ?_⟩) (by assumption) ?_
      rotate_left
      · intro w hSw
        try dsimp only at hSw
        go_simp
        try with_reducible rfl
      try simp only [Act.put, List.setIfInBounds_toArray, List.set_cons_zero, List.set_cons_succ]
      refine wpAnyH_take (i := 18) (oi := ⟨some 108, .load 27 (.tmp 107), 27, "law.go:126", #[⟨17, .data⟩, ⟨13, .guard⟩], some (13, true)⟩) (v := ?_) rfl (by kernel_rfl) (by kernel_rfl) (by kernel_rfl) (fun _ _ _ h => h) (Or.inl ⟨by rfl, ?_⟩) (by assumption) ?_
      rotate_left
      · intro w hSw
        try dsimp only at hSw
        go_simp
        try with_reducible rfl
      try simp only [Act.put, List.setIfInBounds_toArray, List.set_cons_zero, List.set_cons_succ]
      refine wpAnyH_take (i := 19) (oi := ⟨some 109, .slice 75 (.tmp 9) (some (.const (.int .i64 1))) none none, 27, "law.go:126", #[⟨13, .guard⟩], some (13, true)⟩) (v := ?_) rfl (by kernel_rfl) (by kernel_rfl) (by kernel_rfl) (fun _ _ _ h => h) (Or.inl ⟨by rfl, ?_⟩) (by assumption) ?_
      rotate_left
      · intro w hSw
        try dsimp only at hSw
        go_simp
        try with_reducible rfl
      try simp only [Act.put, List.setIfInBounds_toArray, List.set_cons_zero, List.set_cons_succ]
      refine wpAnyH_ready (rs := [20]) (by kernel_rfl) (by simp) ?_
      refine AllReadyH.cons (o := ⟨some 110, .call { callee := .value (.func 43), args := #[.tmp 108, .tmp 109], argTypes := #[27, 27] }, 4, "law.go:126", #[⟨18, .data⟩, ⟨19, .data⟩, ⟨13, .chain⟩, ⟨13, .guard⟩], some (13, true)⟩) rfl (fun K hK => ?_) AllReadyH.nil
      go_simp
      go_at_call 43
      refine (alikeI _ _ _ _ _ [s1] [s1] (HVB.out.below HB10.out) (HI1.out.below HB10.out)).mono ?_
      rw [e1]
      rintro e w11 ⟨rfl, n11, h11⟩
      have hb11 : Below wr.heap.size wr w11 := by rw [h11]; exact bDrewN HB10.out n11
      have hc11 := bcell hb11
      have HB11 := hid_mk hb11
      clear h11 hb11
      try (go_wp2_with fail)
      refine hK.out _ _ ?_ (fun hHeld => ?_)
      · try dsimp only
        exact ⟨(hc11 _ _ zb).trans o0, (hc11 _ _ zb).trans o1, (hc11 _ _ hzA).trans c0', (hc11 _ _ hzA).trans r0'⟩
      clear hK K
      try simp only [Act.put, List.setIfInBounds_toArray, List.set_cons_zero, List.set_cons_succ]
      refine wpAnyH_take (i := 21) (oi := ⟨some 111, .pick (.tmp 103) (.tmp 110) (.const (.bool false)), 4, "law.go:126", #[⟨13, .data⟩, ⟨20, .data⟩], none⟩) (v := ?_) rfl (by kernel_rfl) (by kernel_rfl) (by kernel_rfl) (fun _ _ _ h => h) (Or.inl ⟨by rfl, ?_⟩) (by assumption) ?_
      rotate_left
      · intro w hSw
        try dsimp only at hSw
        go_simp
        try with_reducible rfl
      try simp only [Act.put, List.setIfInBounds_toArray, List.set_cons_zero, List.set_cons_succ]
      refine wpAnyH_take (i := 22) (oi := ⟨some 112, .move (.tmp 111), 4, "law.go:126", #[⟨21, .data⟩, ⟨20, .chain⟩], none⟩) (v := ?_) rfl (by kernel_rfl) (by kernel_rfl) (by kernel_rfl) (fun _ _ _ h => h) (Or.inl ⟨by rfl, ?_⟩) (by assumption) ?_
      rotate_left
      · intro w hSw
        try dsimp only at hSw
        go_simp
        try with_reducible rfl
      try simp only [Act.put, List.setIfInBounds_toArray, List.set_cons_zero, List.set_cons_succ]
      refine wpAnyH_ready (rs := [23]) (by kernel_rfl) (by simp) ?_
      refine AllReadyH.cons (o := ⟨some 113, .call { callee := .value (.func 39), args := #[], argTypes := #[] }, 4, "law.go:126", #[⟨22, .chain⟩, ⟨22, .guard⟩], some (22, true)⟩) rfl (fun K hK => ?_) AllReadyH.nil
      go_simp
      go_at_call 39
      refine (swake_any _ (HT.out.below (bTrans (bTrans HB3.out HLF.out) HB11.out))).mono ?_
      rintro e w12 ⟨rfl, hb12⟩
      have hb12' := bTrans HB11.out hb12
      have hc12 := bcell hb12'
      have HB12 := hid_mk hb12'
      clear hb12 hb12'
      try (go_wp2_with fail)
      refine hK.out _ _ ?_ (fun hHeld => ?_)
      · try dsimp only
        exact ⟨(hc12 _ _ zb).trans o0, (hc12 _ _ zb).trans o1, (hc12 _ _ hzA).trans c0', (hc12 _ _ hzA).trans r0'⟩
      clear hK K
      try simp only [Act.put, List.setIfInBounds_toArray, List.set_cons_zero, List.set_cons_succ]
      refine wpAnyH_take (i := 24) (oi := ⟨some 114, .pick (.tmp 112) (.tmp 113) (.const (.bool false)), 4, "law.go:126", #[⟨22, .data⟩, ⟨23, .data⟩], none⟩) (v := ?_) rfl (by kernel_rfl) (by kernel_rfl) (by kernel_rfl) (fun _ _ _ h => h) (Or.inl ⟨by rfl, ?_⟩) (by assumption) ?_
      rotate_left
      · intro w hSw
        try dsimp only at hSw
        go_simp
        try with_reducible rfl
      try simp only [Act.put, List.setIfInBounds_toArray, List.set_cons_zero, List.set_cons_succ]
      refine wpAnyH_take (i := 25) (oi := ⟨some 4, .assign (.tmp 114), 4, "law.go:126", #[⟨24, .data⟩, ⟨23, .chain⟩, ⟨0, .phase⟩, ⟨1, .phase⟩, ⟨2, .phase⟩, ⟨3, .phase⟩, ⟨4, .phase⟩, ⟨5, .phase⟩, ⟨6, .phase⟩, ⟨7, .phase⟩, ⟨8, .phase⟩, ⟨9, .phase⟩, ⟨10, .phase⟩, ⟨11, .phase⟩, ⟨12, .phase⟩, ⟨13, .phase⟩, ⟨14, .phase⟩, ⟨15, .phase⟩, ⟨16, .phase⟩, ⟨17, .phase⟩, ⟨18, .phase⟩, ⟨19, .phase⟩, ⟨20, .phase⟩, ⟨21, .phase⟩, ⟨22, .phase⟩, ⟨23, .phase⟩, ⟨24, .phase⟩], none⟩) (v := ?_) rfl (by kernel_rfl) (by kernel_rfl) (by kernel_rfl) (fun _ _ _ h => h) (Or.inl ⟨by rfl, ?_⟩) (by assumption) ?_
      rotate_left
      · intro w hSw
        try dsimp only at hSw
        go_simp
        try with_reducible rfl
      try simp only [Act.put, List.setIfInBounds_toArray, List.set_cons_zero, List.set_cons_succ]
      refine wpAnyH_done (by kernel_rfl) ?_ _
      go_wp2
      go_ret
      exact ⟨rfl, bTrans (bTrans HB3.out HLF.out) HB12.out⟩
set_option maxHeartbeats 4000000 in
set_option maxRecDepth 100000 in
theorem pair_out (W : World) (n d : Int) (ht : Tab W) (h : n < 0 ∨ 20 < n ∨ d < 0 ∨ 25 < d) : Calls Tryd.prog 9 #[.int .i64 n, .int .i64 d] W fun e w' => e = .returned (.bool true) ∧ Below W.heap.size W w' := by
  have HT := hid_mk ht
  clear ht
  by_cases h1 : n < 0
  · clear h
    go_enter Tryd.func9, Tryd.ntmps9
    go_wp2_with fail
    refine (swake_any _ HT.out).mono ?_
    rintro e w2 ⟨rfl, hb2⟩
    go_wp2
    go_ret
    exact ⟨rfl, hb2⟩
  by_cases h2 : 20 < n
  · clear h
    go_enter Tryd.func9, Tryd.ntmps9
    go_wp2_with fail
    refine (swake_any _ HT.out).mono ?_
    rintro e w2 ⟨rfl, hb2⟩
    go_wp2
    go_ret
    exact ⟨rfl, hb2⟩
  by_cases h3 : d < 0
  · clear h
    go_enter Tryd.func9, Tryd.ntmps9
    go_wp2_with fail
    refine (swake_any _ HT.out).mono ?_
    rintro e w2 ⟨rfl, hb2⟩
    go_wp2
    go_ret
    exact ⟨rfl, hb2⟩
  have h6 : 25 < d := by omega
  clear h
  go_enter Tryd.func9, Tryd.ntmps9
  go_wp2_with fail
  refine (swake_any _ HT.out).mono ?_
  rintro e w2 ⟨rfl, hb2⟩
  go_wp2
  go_ret
  exact ⟨rfl, hb2⟩
theorem spair_any (W : World) (n d : Int) (ht : Tab W) : Calls Tryd.prog 9 #[.int .i64 n, .int .i64 d] W fun e w' => e = .returned (.bool true) ∧ Below W.heap.size W w' := by
  by_cases h : n < 0 ∨ 20 < n ∨ d < 0 ∨ 25 < d
  · exact pair_out W n d ht h
  · obtain ⟨i, rfl⟩ := Int.eq_ofNat_of_zero_le (show 0 ≤ n by omega)
    obtain ⟨j, rfl⟩ := Int.eq_ofNat_of_zero_le (show 0 ≤ d by omega)
    exact pair_in W i j ht (by omega) (by omega)
end Go.Proofs.YtgdloonpemaijaaDoor
