/-
  world.Text. Conditions: numbers of 64 bits, not too many; what is read of the world is there.
-/
import Derived.Test.YtflpkdhmkgidiaaDoorWf
namespace Go.Proofs.YtflpkdhmkgidiaaDoor
open Go.RowKit
attribute [local go_sem ↓] Go.wp_at_zero Go.wp_at_succ
/-- The builder, between two lines. -/
structure TB (w1 : World) (t : List UInt8) (wr : World) : Prop where
  bld : Lib.IsBuilder 89 5 w1.heap.size w1.heap.size (Lib.byteCells t) wr
  low : Below w1.heap.size w1 wr
theorem TB.below {w1 : World} {t : List UInt8} {w w' : World} (h : TB w1 t w) (hb : Below w.heap.size w w') : TB w1 t w' := ⟨builder_below h.bld hb, bTrans h.low hb⟩
theorem ints4 {W : World} {B : Nat} {a b c d : Int} (h : W.heap[B]? = some (.cells #[.int .i64 a, .int .i64 b, .int .i64 c, .int .i64 d] 3)) : Ints anyB W (.slice (some ⟨B, 0, none⟩) 4 4) [a, b, c, d] := by
  refine ⟨_, 4, rfl, by simp, by simp, Or.inr ⟨B, 0, rfl, trivial, (Array.getElem?_eq_some_iff.1 h).1, fun k x hx => ?_⟩⟩
  match k, hx with
  | 0, hx => cases hx; show W.cell? ⟨B, 0, none⟩ = _; rw [cell_of_row _ _ _ _ _ _ h]; rfl
  | 1, hx => cases hx; show W.cell? ⟨B, 1, none⟩ = _; rw [cell_of_row _ _ _ _ _ _ h]; rfl
  | 2, hx => cases hx; show W.cell? ⟨B, 2, none⟩ = _; rw [cell_of_row _ _ _ _ _ _ h]; rfl
  | 3, hx => cases hx; show W.cell? ⟨B, 3, none⟩ = _; rw [cell_of_row _ _ _ _ _ _ h]; rfl
theorem own2 {base : Nat} {W : World} {B : Nat} {n m : Int} (h : W.heap[B]? = some (.cells #[.int .i64 n, .int .i64 m] 3)) (he : base ≤ B) : OwnI base W (.slice (some ⟨B, 0, none⟩) 2 2) [n, m] :=
  ⟨rfl, Or.inr ⟨B, 2, _, rfl, he, h, by simp, by simp [maxLen], rfl, rfl⟩⟩
theorem catL {a b t : List UInt8} (h : t = a ++ 124 :: (b ++ [10])) : bs a ++ ⟨#[124]⟩ ++ bs b ++ ⟨#[10]⟩ = bs t := by
  rw [h, show (⟨#[124]⟩ : ByteArray) = bs [124] from rfl, show (⟨#[10]⟩ : ByteArray) = bs [10] from rfl, bs_app, bs_app, bs_app]; congr 1; simp
theorem catM {a b t : List UInt8} (h : t = a ++ 32 :: (b ++ [10])) : bs a ++ ⟨#[32]⟩ ++ bs b ++ ⟨#[10]⟩ = bs t := by
  rw [h, show (⟨#[32]⟩ : ByteArray) = bs [32] from rfl, show (⟨#[10]⟩ : ByteArray) = bs [10] from rfl, bs_app, bs_app, bs_app]; congr 1; simp
theorem catU {a t : List UInt8} (h : t = a ++ [10]) : bs a ++ ⟨#[10]⟩ = bs t := by
  rw [h, show (⟨#[10]⟩ : ByteArray) = bs [10] from rfl, bs_app]
set_option maxHeartbeats 4000000 in
set_option maxRecDepth 100000 in
theorem text_W (W : World) (v : Value) (x : PWld) (h : WldV W v x) (ho : OkT x) (he : Env W) :
    Calls Tryd.prog 19 #[v] W fun e w' => e = .returned (.string (bs (txtW x))) ∧ Below W.heap.size W w' := by
  obtain ⟨va, vm, rfl, h1, h2⟩ := h
  obtain ⟨A1, c1, rfl, hl1⟩ := h1.form
  obtain ⟨A2, c2, rfl, hl2⟩ := h2.form
  have HO := hid_mk ho
  have HE := hid_mk he
  obtain ⟨w1, hw1⟩ : ∃ w1, w1 = W.alloc (.cells #[.slice A1 x.acts.length c1, .slice A2 x.mail.length c2, .int .i64 x.used.drop, .int .i64 x.used.dup, .int .i64 x.used.time, .int .i64 x.used.crash] 34) := ⟨_, rfl⟩
  have HA1 : Hid (w1.heap[W.heap.size]? = some (.cells #[.slice A1 x.acts.length c1, .slice A2 x.mail.length c2, .int .i64 x.used.drop, .int .i64 x.used.dup, .int .i64 x.used.time, .int .i64 x.used.crash] 34)) := by rw [hw1]; exact heap_new _ _
  have HL1 : Hid (Below W.heap.size W w1) := by rw [hw1]; exact bAlloc (bRefl _) _
  have HZ1 : Hid (w1.heap.size = W.heap.size + 1) := by rw [hw1]; show _ = _; simp
  have HT0 : Hid (TB w1 [] (w1.alloc (.cells #[.pointer none, .slice none 0 0] 89))) := ⟨builder_new w1, bAlloc (bRefl _) _⟩
  have HW1 := hid_mk hw1
  clear ho he hw1
  go_enter Tryd.func19, Tryd.ntmps19
  go_wp2
  go_loopg [5, 12] x.acts.length (fun g i5 i12 wr => ∃ k : Nat, g = x.acts.length - k ∧ k ≤ x.acts.length ∧ i12 = .int .i64 k ∧ TB w1 (txtLs (x.acts.take k)) wr)
  case atStart => exact ⟨0, rfl, by omega, rfl, by have := HT0.out; rw [HW1.out] at this ⊢; exact this⟩
  case round =>
    obtain ⟨k, rfl, hk, rfl, tb⟩ := hrel
    have hbw : Below W.heap.size W wr := bTrans HL1.out tb.low
    have hzr := tb.low.size
    by_cases hlt : k < x.acts.length
    · obtain ⟨b1, o1, y, v1, rfl, hy, hz1, q1, q2, q3, q4, q5, hv1⟩ := h1.cell hbw hlt
      obtain ⟨V1, n1, rfl, _⟩ := hv1.form
      have HY := hid_mk (txtLs_take hy)
      have HOL := hid_mk (HO.out.acts y (List.mem_of_getElem? hy))
      have HLn : Hid ((txtLs (x.acts.take k)).length ≤ 600 * 20) := by
        show _ ≤ _
        have := txtLs_len (l := x.acts.take k) (fun z hz => HO.out.acts z (List.mem_of_mem_take hz))
        rw [List.length_take] at this; have := HO.out.na; omega
      have HTB := hid_mk tb
      have HBw := hid_mk hbw
      obtain ⟨T0, hT0⟩ : ∃ T0, T0 = spc y.regs := ⟨_, rfl⟩
      obtain ⟨T1, hT1⟩ : ∃ T1, T1 = spc [dg y.armed, y.down, y.sent, y.over] := ⟨_, rfl⟩
      have HT0' := hid_mk hT0
      have HLR : Hid (y.regs.length ≤ 1000) := by show _ ≤ _; have := HOL.out.1; omega
      have HT1' := hid_mk hT1
      have hs0 : (bs T0).size ≤ 440 := by rw [bs_size, hT0]; have := spc_len HOL.out.2.1; have := HOL.out.1; omega
      have hs1 : (bs T1).size ≤ 88 := by rw [bs_size, hT1]; have : (spc [dg y.armed, y.down, y.sent, y.over]).length ≤ _ := spc_len HOL.out.2.2; have h4 : (four y).length = 4 := rfl; omega
      have HCat : Hid (∃ L, L = txtL y ∧ L.length ≤ 600 ∧ bs T0 ++ ⟨#[124]⟩ ++ bs T1 ++ ⟨#[10]⟩ = bs L) := ⟨txtL y, rfl, txtL_len HOL.out, catL (by rw [hT0, hT1]; rfl)⟩
      obtain ⟨L, hL, hLl, hcat⟩ := HCat.out
      have HLL := hid_mk hL
      have HLl := hid_mk hLl
      have y1 : ¬ 9223372036854775807 < (bs T0).size + 1 := by omega
      have y2 : ¬ 9223372036854775807 < (bs T0).size + 1 + (bs T1).size := by omega
      have y3 : ¬ 9223372036854775807 < (bs T0).size + 1 + (bs T1).size + 1 := by omega
      have HLM : Hid ((txtLs (x.acts.take k)).length + L.length ≤ 1000000) := by show _ ≤ _; have := HLn.out; omega
      have HWR : Hid (w1.heap.size ≤ wr.heap.size) := hzr
      have HBL : Hid (Lib.IsBuilder 89 5 w1.heap.size (W.heap.size + 1) (Lib.byteCells (txtLs (x.acts.take k))) wr) := by rw [← HZ1.out]; exact tb.bld
      clear hy tb hbw hT0 hT1 hL hLl HCat hs0 hs1
      go_wp2_with fail
      have hAB : (wr.alloc (.cells #[.slice V1 y.regs.length n1, .bool y.armed, .int .i64 y.down, .int .i64 y.sent, .int .i64 y.over] 40)).heap[wr.heap.size]? = some (.cells #[.slice V1 y.regs.length n1, .bool y.armed, .int .i64 y.down, .int .i64 y.sent, .int .i64 y.over] 40) := heap_new _ _
      have HLr : Below wr.heap.size wr (wr.alloc (.cells #[.slice V1 y.regs.length n1, .bool y.armed, .int .i64 y.down, .int .i64 y.sent, .int .i64 y.over] 40)) := bAlloc (bRefl _) _
      generalize (wr.alloc (.cells #[.slice V1 y.regs.length n1, .bool y.armed, .int .i64 y.down, .int .i64 y.sent, .int .i64 y.over] 40)) = wa at hAB HLr ⊢
      obtain ⟨t0, t1, t2, t3, t4⟩ := blk5 hAB
      have za : wr.heap.size < wa.heap.size := (Array.getElem?_eq_some_iff.1 hAB).1
      have za' : wr.heap.size < wa.heap.size + 1 := by omega
      have na : ¬ wr.heap.size = wa.heap.size := by omega
      have na' : ¬ wa.heap.size = wr.heap.size := by omega
      have hbb := HLr
      clear hAB q1 q2 q3 q4 q5
      go_region_held3 (fun w' => w'.cell? ⟨wr.heap.size, 0, none⟩ = some (.slice V1 y.regs.length n1) ∧ w'.cell? ⟨wr.heap.size, 1, none⟩ = some (.bool y.armed) ∧ w'.cell? ⟨wr.heap.size, 2, none⟩ = some (.int .i64 y.down) ∧ w'.cell? ⟨wr.heap.size, 3, none⟩ = some (.int .i64 y.sent) ∧ w'.cell? ⟨wr.heap.size, 4, none⟩ = some (.int .i64 y.over)) (go_keep)
        (first
          | (go_at_call 50; refine (digit_any _ _).mono ?_; rintro e w' ⟨rfl, hw⟩; replace hw := hw.symm; subst hw)
          | (go_at_call 49; refine (spaced_any anyB _ _ _ (by first | exact hv1.below (by first | exact hbb | exact hbb.drew | exact bAlloc hbb _ | exact (bAlloc hbb _).drew | exact bAlloc hbb.drew _) | exact ints4 (heap_new _ _) | exact ints4 (heap_new2 (by simp))) (by first | exact HLR.out | (simp; done)) (by first | exact HOL.out.2.1 | exact HOL.out.2.2) (HE.out.below (bTrans HBw.out (by first | exact hbb | exact hbb.drew | exact bAlloc hbb _ | exact (bAlloc hbb _).drew | exact bAlloc hbb.drew _)))).mono ?_; (first | rw [← HT0'.out] | rw [← HT1'.out]); rintro e w2 ⟨rfl, hb2⟩; have hc2 := (by first | exact bcell (undrew hb2) | exact bcell hb2); have hj2 := hb2.size; replace hbb := bTrans (by first | exact hbb | exact hbb.drew | exact bAlloc hbb _ | exact (bAlloc hbb _).drew | exact bAlloc hbb.drew _) hb2; have x2 : wr.heap.size < w2.heap.size := (by (try simp at hj2); omega); have x2' : wr.heap.size < w2.heap.size + 1 := (by omega); have n2 : ¬ wr.heap.size = w2.heap.size := (by omega); have n2' : ¬ w2.heap.size = wr.heap.size := (by omega); clear hb2)
          | (go_at_call 48; refine (wsBK L HBL.out hbb HLM.out HWR.out).mono ?_; rintro e w4 ⟨rfl, hbl, hb4, hk4⟩; have he4 := hk4 wr.heap.size (Nat.le_refl _) (by assumption); have hc4 : ∀ o, w4.cell? ⟨wr.heap.size, o, none⟩ = _ := (fun o => World.cell?_of_block he4); clear hk4 he4))
      all_goals
        go_wp2
        go_roundg (x.acts.length - (k + 1))
        case measure => omega
        case rel => exact ⟨k + 1, rfl, by omega, by go_num, ⟨by rw [← HZ1.out] at hbl; rw [HY.out, ← HLL.out]; exact hbl, ((HTB.out.below hbb).low).trans hb4⟩⟩
    · obtain rfl : k = x.acts.length := by omega
      have e0 : x.acts.take x.acts.length = x.acts := List.take_of_length_le (Nat.le_refl _)
      rw [e0] at tb
      obtain ⟨k0, k1, k2, k3, k4, k5⟩ := blk6 (boxAt HA1.out tb.low)
      have HTA := hid_mk tb
      clear tb hbw hzr e0
      go_wp2
      go_loopg [7, 8, 38] x.mail.length (fun g i7 i8 i38 wr => ∃ k : Nat, g = x.mail.length - k ∧ k ≤ x.mail.length ∧ i38 = .int .i64 k ∧ TB w1 (txtLs x.acts ++ txtMs (x.mail.take k)) wr)
      case atStart => exact ⟨0, rfl, by omega, rfl, by have := HTA.out; simpa [txtMs] using this⟩
      case round =>
        clear k0 k1 k2 k3 k4 k5
        obtain ⟨k, rfl, hk, rfl, tb⟩ := hrel
        have hbw : Below W.heap.size W wr := bTrans HL1.out tb.low
        have hzr := tb.low.size
        have HLa : Hid ((txtLs x.acts).length ≤ 600 * 20) := by
          show _ ≤ _
          have := txtLs_len (l := x.acts) (fun z hz => HO.out.acts z hz)
          have := HO.out.na; omega
        have HLn : Hid ((txtLs x.acts ++ txtMs (x.mail.take k)).length ≤ 600 * 70) := by
          show _ ≤ _
          have h9 := txtMs_len (l := x.mail.take k) (fun z hz => HO.out.mail z (List.mem_of_mem_take hz))
          rw [List.length_take] at h9
          have := HLa.out; have := HO.out.nm
          rw [List.length_append]; omega
        have HBL : Hid (Lib.IsBuilder 89 5 w1.heap.size (W.heap.size + 1) (Lib.byteCells (txtLs x.acts ++ txtMs (x.mail.take k))) wr) := by rw [← HZ1.out]; exact tb.bld
        have HTB := hid_mk tb
        have HBw := hid_mk hbw
        have HWR : Hid (w1.heap.size ≤ wr.heap.size) := hzr
        by_cases hlt : k < x.mail.length
        · obtain ⟨b1, o1, y, v1, rfl, hy, hz1, q1, q2, q3, q4, q5, q6, hv1⟩ := h2.cell hbw hlt
          obtain ⟨V1, n1, rfl, _⟩ := hv1.form
          have HY := hid_mk (txtMs_take hy)
          have HOM := hid_mk (HO.out.mail y (List.mem_of_getElem? hy))
          obtain ⟨T0, hT0⟩ : ∃ T0, T0 = tid y.id := ⟨_, rfl⟩
          obtain ⟨T1, hT1⟩ : ∃ T1, T1 = spc (nts y) := ⟨_, rfl⟩
          have HT0' := hid_mk hT0
          have HT1' := hid_mk hT1
          have hln : (nts y).length = y.nt.args.length + 2 := rfl
          have hs0 : (bs T0).size ≤ 65 := by rw [bs_size, hT0]; exact tid_len HOM.out.2.1
          have hs1 : (bs T1).size ≤ 484 := by rw [bs_size, hT1]; have := spc_len HOM.out.2.2; have := HOM.out.1; omega
          have HCat : Hid (∃ L, L = txtM y ∧ L.length ≤ 600 ∧ bs T0 ++ ⟨#[32]⟩ ++ bs T1 ++ ⟨#[10]⟩ = bs L) := ⟨txtM y, rfl, txtM_len HOM.out, catM (by rw [hT0, hT1]; rfl)⟩
          obtain ⟨L, hL, hLl, hcat⟩ := HCat.out
          have HLL := hid_mk hL
          have HLM : Hid ((txtLs x.acts ++ txtMs (x.mail.take k)).length + L.length ≤ 1000000) := by show _ ≤ _; have := HLn.out; omega
          have y1 : ¬ 9223372036854775807 < (bs T0).size + 1 := by omega
          have y2 : ¬ 9223372036854775807 < (bs T0).size + 1 + (bs T1).size := by omega
          have y3 : ¬ 9223372036854775807 < (bs T0).size + 1 + (bs T1).size + 1 := by omega
          have HEL : Hid ([y.nt.to, y.nt.hd].length + y.nt.args.length = (nts y).length) := by show _ = _; rw [hln]; simp; omega
          have HNL : Hid ((nts y).length ≤ 1000) := by show _ ≤ _; have := HOM.out.1; omega
          clear hy tb hbw hT0 hT1 hL hLl HCat hs0 hs1 hln
          go_wp2_with (first
            | (at_builtin; refine appI (a := [y.nt.to, y.nt.hd]) (b := y.nt.args) (base := wr.heap.size) rfl _ _ rfl (own2 (B := wr.heap.size + 1) (heap_new2 (by simp)) (by omega)) rfl rfl (hv1.below (by exact bAlloc (bAlloc (bRefl _) _) _)) (by have := HNL.out; have := HEL.out; omega) (by first | (simp; done) | (simp; omega)) ?_; rintro A5 c5 w5 ⟨ho5, hg5, hat5⟩; rw [HEL.out] at ho5 ⊢; have HO5 : Hid (Ints anyB w5 (.slice A5 (nts y).length c5) (nts y)) := (Sl.any (OwnI.ints (show OwnI wr.heap.size w5 (.slice A5 (nts y).length c5) (nts y) from ho5) (by have := HNL.out; omega))); have HB5 : Hid (Below wr.heap.size wr w5) := (Below.grown (bAlloc (bAlloc (bRefl _) _) _) hg5 (by first | (simp; done) | (simp; omega)) (fun j hj => by simp [Value.ownBlock] at hj; omega)); have hblk := (hg5.block wr.heap.size (by first | (simp; done) | (simp; omega)) (by simp [Value.ownBlock])).trans (((bAlloc (bRefl _) _).block wr.heap.size (by simp)).trans (heap_new wr (.cells #[.int .i64 y.id.f, .int .i64 y.id.n, .int .i64 y.id.c, .int .i64 y.nt.to, .int .i64 y.nt.hd, .slice V1 y.nt.args.length n1] 47))); obtain ⟨t0, t1, t2, t3, t4, t5⟩ := blk6 hblk; clear ho5 hg5 hat5 hblk)
            | (go_at_call 51; refine (text_any y.id _ HOM.out.2.1 (HE.out.below (bTrans HBw.out HB5.out))).mono ?_; rw [← HT0'.out]; rintro e w6 ⟨rfl, hb6⟩; have HB6 := hid_mk (bTrans HB5.out hb6); have HI6 := hid_mk (HO5.out.below hb6); clear hb6)
            | (go_at_call 49; refine (spaced_any anyB _ _ (nts y) HI6.out HNL.out HOM.out.2.2 (HE.out.below (bTrans HBw.out HB6.out))).mono ?_; rw [← HT1'.out]; rintro e w7 ⟨rfl, hb7⟩; have HB7 := hid_mk (bTrans HB6.out hb7); clear hb7)
            | (go_at_call 48; refine (wsBK L HBL.out HB7.out HLM.out HWR.out).mono ?_; rintro e w8 ⟨rfl, hbl, hb8, -⟩))
          go_roundg (x.mail.length - (k + 1))
          case measure => omega
          case rel => exact ⟨k + 1, rfl, by omega, by go_num, ⟨by rw [← HZ1.out] at hbl; rw [HY.out, ← HLL.out, ← List.append_assoc]; exact hbl, ((HTB.out.below HB7.out).low).trans hb8⟩⟩
        · obtain rfl : k = x.mail.length := by omega
          have e0 : x.mail.take x.mail.length = x.mail := List.take_of_length_le (Nat.le_refl _)
          rw [e0] at HBL HLn HTB
          obtain ⟨k0, k1, k2, k3, k4, k5⟩ := blk6 (boxAt HA1.out tb.low)
          obtain ⟨T1, hT1⟩ : ∃ T1, T1 = spc [x.used.drop, x.used.dup, x.used.time, x.used.crash] := ⟨_, rfl⟩
          have HT1' := hid_mk hT1
          have hs1 : (bs T1).size ≤ 88 := by rw [bs_size, hT1]; have h8 : (spc [x.used.drop, x.used.dup, x.used.time, x.used.crash]).length ≤ _ := spc_len HO.out.used; have h4 : (usd x.used).length = 4 := rfl; omega
          have HCat : Hid (∃ L, L = T1 ++ [10] ∧ L.length ≤ 89 ∧ bs T1 ++ ⟨#[10]⟩ = bs L) := ⟨T1 ++ [10], rfl, by rw [bs_size] at hs1; simp; omega, catU rfl⟩
          obtain ⟨L, hL, hLl, hcat⟩ := HCat.out
          have HLL := hid_mk hL
          have HLM : Hid ((txtLs x.acts ++ txtMs x.mail).length + L.length ≤ 1000000) := by show _ ≤ _; have := HLn.out; omega
          have y3 : ¬ 9223372036854775807 < (bs T1).size + 1 := by omega
          clear tb hbw hT1 hL hLl HCat hs1 e0
          go_wp2_with (first
            | (go_at_call 49; refine (spaced_any anyB _ _ [x.used.drop, x.used.dup, x.used.time, x.used.crash] (ints4 (heap_new _ _)) (by simp) HO.out.used (HE.out.below (by exact bAlloc HBw.out _))).mono ?_; rw [← HT1'.out]; rintro e w7 ⟨rfl, hb7⟩; have HB7 := hid_mk (bTrans (bAlloc (bRefl _) _) hb7); clear hb7)
            | (go_at_call 48; refine (wsBK L HBL.out HB7.out HLM.out HWR.out).mono ?_; rintro e w8 ⟨rfl, hbl, hb8, -⟩; have HBL8 := hid_mk hbl; have HB8 := hid_mk (((HTB.out.below HB7.out).low).trans hb8); clear hbl hb8)
            | (go_at_call 52; refine (Tryd.Builder_String_any _ _ _ _ HBL8.out HB8.out.size).mono ?_; rintro e w9 ⟨rfl, hb9⟩))
          go_ret
          refine ⟨?_, bTrans HL1.out (HB8.out.trans hb9)⟩
          have e9 : txtLs x.acts ++ (txtMs x.mail ++ L) = txtW x := by unfold txtW usd; rw [HLL.out, HT1'.out]
          exact ret_str (show bs _ = bs _ from congrArg bs e9)
end Go.Proofs.YtflpkdhmkgidiaaDoor
