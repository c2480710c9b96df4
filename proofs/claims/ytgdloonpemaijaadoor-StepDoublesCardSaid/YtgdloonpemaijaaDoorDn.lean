/-
  Doubled messages (StepDoubles), walked. Condition: the table of the instructions is in the world.
-/
import Derived.Test.YtgdloonpemaijaaDoorDq
namespace Go.Proofs.YtgdloonpemaijaaDoor
open Go.RowKit
/-- Between two steps: the world and the budget lie in two boxes; all below them is as it was. -/
structure TB (wP : World) (d : Nat) (x : PWld) (wr : World) : Prop where
  bw : ∃ a m, wr.heap[wP.heap.size]? = some (.cells #[a, m, .int .i64 x.used.drop, .int .i64 x.used.dup, .int .i64 x.used.time, .int .i64 x.used.crash] 44) ∧ WldA (fun b => b < wP.heap.size ∨ wP.heap.size + 2 ≤ b) wr (wVal x.used a m) x
  bb : wr.heap[wP.heap.size + 1]? = some (.cells #[.int .i64 0, .int .i64 (d : Int), .int .i64 0, .int .i64 0] 42)
  low : Below wP.heap.size wP wr
theorem TB.below {wP wr wa : World} {d : Nat} {x : PWld} (h : TB wP d x wr) (hb : Below wr.heap.size wr wa) : TB wP d x wa :=
  let ⟨a, m, h1, h2⟩ := h.bw
  ⟨⟨a, m, boxAt h1 hb, h2.below hb⟩, boxAt h.bb hb, bTrans h.low hb⟩
theorem TB.next {wP wr wa : World} {d : Nat} {x x' : PWld} {a m : Value} (h : TB wP d x wr) (hb : Below wr.heap.size wr wa) (hx : WldA (fun b => b < wP.heap.size ∨ wP.heap.size + 2 ≤ b) wa (wVal x'.used a m) x') :
    TB wP d x' (put6 wa wP.heap.size a m (.int .i64 x'.used.drop) (.int .i64 x'.used.dup) (.int .i64 x'.used.time) (.int .i64 x'.used.crash)) := by
  obtain ⟨a0, m0, h1, _⟩ := h.bw
  have hS : Same (fun d => d ≠ wP.heap.size) wa (put6 wa wP.heap.size a m (.int .i64 x'.used.drop) (.int .i64 x'.used.dup) (.int .i64 x'.used.time) (.int .i64 x'.used.crash)) := put6_same
  have z : wP.heap.size + 1 < wa.heap.size := (Array.getElem?_eq_some_iff.1 (boxAt h.bb hb)).1
  exact ⟨⟨a, m, put6_heap (boxAt h1 hb), hx.same (hS.weak fun b hb => by have hb' : b < wP.heap.size ∨ wP.heap.size + 2 ≤ b := hb; show b ≠ _; omega)⟩, (hS.block _ (by show _ ≠ _; omega) (by omega)).trans (boxAt h.bb hb), put6_below (bTrans h.low hb) (Nat.le_refl _)⟩
theorem run_mh (P : Program) (w : World) (ts : Array TypeId) (t : TypeId) (n d m : Nat) : (Builtin.min_ ts t #[.int .i64 ((n : Int) + (d : Int)), .int .i64 (m : Int)]).run P w = .ok (.int .i64 ((hav n m d : Nat) : Int)) w := by
  rw [run_min_int2]
  unfold hav
  by_cases h : (m : Int) < (n : Int) + (d : Int)
  · rw [if_pos h, show min (n + d) m = m by omega]
  · rw [if_neg h, show min (n + d) m = n + d by omega]; rfl
attribute [local go_sem ↓] run_mh
set_option maxHeartbeats 8000000 in
set_option maxRecDepth 100000 in
theorem dbl_in (W : World) (n m d : Nat) (ht : Tab W) (h : DR n m d) : Calls Tryd.prog 10 #[.int .i64 (n : Int), .int .i64 (m : Int), .int .i64 (d : Int)] W fun e w' => e = .returned (.bool true) ∧ Below W.heap.size W w' := by
  obtain ⟨i0, hi0, hz0, hz1, hz2⟩ := info_parts infoN
  have HT := hid_mk ht
  have HD := hid_mk h
  have g1 : ¬ (n : Int) < 1 := by have := h.n0; omega
  have g2 : ¬ (3 : Int) < (n : Int) := by have := h.n3; omega
  have g3 : ¬ (m : Int) < (n : Int) := by have := h.mn; omega
  have g4 : ¬ (10 : Int) < (m : Int) := by have := h.m10; omega
  have g5 : ¬ (d : Int) < 0 := by omega
  have g6 : ¬ (8 : Int) < (d : Int) := by have := h.d8; omega
  have HT0 := hid_mk (TD.start W (m : Int))
  clear ht h
  go_enter Tryd.func10, Tryd.ntmps10
  go_wp2
  go_loopg [8] n (fun g i8 wr => ∃ k : Nat, g = n - k ∧ k ≤ n ∧ i8 = .int .i64 (k : Int) ∧ ∃ v, TD W (m : Int) k v wr)
  case atStart => exact ⟨0, rfl, by omega, rfl, _, HT0.out⟩
  case round =>
    obtain ⟨k, rfl, hk, rfl, v, tw⟩ := hrel
    by_cases hlt : k < n
    · obtain ⟨us, hu⟩ := tw.nt
      have hf := hu.form
      rw [List.length_replicate] at hf
      obtain ⟨A9, c9, rfl⟩ := hf
      have hown := hu.own
      rw [List.length_replicate] at hown
      obtain ⟨p0, p1, p2, p3⟩ := blk4 tw.b4
      have ht := tw.top
      have hnb := tw.nb
      have HTW := hid_mk tw
      have HU := hid_mk hu
      have HOWN := hid_mk hown
      have hki : (k : Int) < (n : Int) := by omega
      have hk16 : k ≤ 16 := by have := HD.out.n3; omega
      have z4 : W.heap.size + 1 + 1 + 1 + 1 < wr.heap.size := by omega
      have HNEWS : Hid (∀ j u, (ntrow nte0 (.slice none 0 0))[j]? = some u → (wr.alloc (.cells #[.int .i64 0, .int .i64 0, .slice none 0 0] 54)).cell? ((⟨wr.heap.size, 0, none⟩ : Addr).add j) = some u) := World.news_of_block (heap_new _ _)
      have HONE : Hid (∀ u ∈ ntrow nte0 (.slice none 0 0), u.oneCell' = true) := fun u hu => by
        simp [ntrow] at hu; rcases hu with rfl | rfl | rfl <;> rfl
      have HM1 : Hid (k + 1 ≤ maxLen) := by show _ ≤ _; unfold maxLen; omega
      have HM2 : Hid ((k + 1) * 40 ≤ 140737488355328) := by show _ ≤ _; omega
      have HB9 : ∀ X : Obj, Below wr.heap.size wr (wr.alloc X) := fun X => bAlloc (bRefl _) _
      clear tw hu hown
      go_wp2_with (first
        | (at_builtin; refine wpList_append_lies _ rfl _ _ 24 rfl (W.heap.size + 1 + 1 + 1 + 1 + 1) 54 i0 _ 3 40 Tryd.underlying24 hi0 hz0 hz1 hz2 rfl (by decide) (.slice A9 k c9) k _ rfl (own_block HOWN.out fun g hg hl => (HB9 _).block g hl) ⟨wr.heap.size, 0, none⟩ 1 1 (ntrow nte0 (.slice none 0 0)) rfl rfl HNEWS.out HONE.out (by decide) HM1.out HM2.out (by simp; omega) (wr.heap.size + 1) (by simp) ?_; intro gn cn w6 ho6 hg6 hat6 hgl6; have hk6 := (hg6.block (W.heap.size + 1 + 1 + 1 + 1) (by simp; omega) (fun e => by have := hnb (W.heap.size + 1 + 1 + 1 + 1) e.symm; omega)).trans (boxAt HTW.out.b4 (HB9 _)); obtain ⟨f0, f1, f2, f3⟩ := blk4 hk6; have ff : ∀ o, w6.frozen? ⟨W.heap.size + 1 + 1 + 1 + 1, o, none⟩ = false := (fun o => heap_frozen hk6); have HO6 := hid_mk ho6; have HG6 := hid_mk hg6; have HAT6 := hid_mk hat6; clear ho6 hg6 hat6 hgl6 hk6))
      go_roundg (n - (k + 1))
      case measure => omega
      case rel => exact ⟨k + 1, rfl, by omega, by go_num, _, HTW.out.next HU.out HO6.out HG6.out HAT6.out⟩
    · obtain rfl : k = n := by omega
      obtain ⟨us, hu⟩ := tw.nt
      have hf := hu.form
      rw [List.length_replicate] at hf
      obtain ⟨A9, c9, rfl⟩ := hf
      obtain ⟨p0, p1, p2, p3⟩ := blk4 tw.b4
      have HP2 := hid_mk (tw.prg (n := k) (mo := m) (by have := HD.out.n3; omega))
      have HB2 := hid_mk tw.low
      have hbx := tw.b4
      have z1 : W.heap.size + 1 + 1 + 1 + 1 < wr.heap.size := tw.top
      clear tw hu hlt hk
      go_wp2_with fail
      refine (start_yes wr _ (dblP k m) (HT.out.below HB2.out) HP2.out (dbl_small HD.out.n3) (dbl_fc HD.out.n3 HD.out.m10)).mono ?_
      rw [HD.out.start]
      rintro e w3 ⟨a3, m3, lo3, hi3, rfl, hwn3, hb3⟩
      obtain ⟨A3, c3, rfl⟩ := hwn3.acts.form
      obtain ⟨M3, d3, rfl, _⟩ := hwn3.mail.form
      have hv3 := (hwn3.wld (HD.out.start ▸ start_sm (dbl_fc HD.out.n3 HD.out.m10) (dbl_small HD.out.n3))).lt
      have hk0 := boxAt hbx hb3
      have HP3 := hid_mk (HP2.out.below hb3)
      have HB3 := hid_mk (bTrans HB2.out hb3)
      have z3 : W.heap.size + 1 + 1 + 1 + 1 < w3.heap.size := (Array.getElem?_eq_some_iff.1 hk0).1
      have HK0 := hid_mk hk0
      obtain ⟨p0, p1, p2, p3⟩ := blk4 hk0
      have HS0 : Hid (TB w3 d (xD k m 0 0) ((w3.alloc (.cells #[.slice A3 (xD k m 0 0).acts.length c3, .slice M3 (xD k m 0 0).mail.length d3, .int .i64 (xD k m 0 0).used.drop, .int .i64 (xD k m 0 0).used.dup, .int .i64 (xD k m 0 0).used.time, .int .i64 (xD k m 0 0).used.crash] 44)).alloc (.cells #[.int .i64 0, .int .i64 (d : Int), .int .i64 0, .int .i64 0] 42))) := by
        have h := two_new w3 (.cells #[.slice A3 (xD k m 0 0).acts.length c3, .slice M3 (xD k m 0 0).mail.length d3, .int .i64 (xD k m 0 0).used.drop, .int .i64 (xD k m 0 0).used.dup, .int .i64 (xD k m 0 0).used.time, .int .i64 (xD k m 0 0).used.crash] 44) (.cells #[.int .i64 0, .int .i64 (d : Int), .int .i64 0, .int .i64 0] 42)
        exact ⟨⟨_, _, h.1, (hv3.below (bAlloc (bAlloc (bRefl _) _) _)).weak fun b hb => Or.inl hb⟩, h.2.1, bAlloc (bAlloc (bRefl _) _) _⟩
      clear hbx hwn3 hv3 hk0 hb3
      obtain ⟨wb, hwb⟩ : ∃ wb, wb = wr := ⟨_, rfl⟩
      subst hwb
      go_wp2
      go_loopg [10, 12] d (fun g i10 i12 wr => ∃ i : Nat, g = d - i ∧ i ≤ d ∧ i10 = .int .i64 0 ∧ i12 = .int .i64 (i : Int) ∧ TB w3 d (xD k m i 0) wr)
      case atStart => exact ⟨0, rfl, by omega, rfl, rfl, HS0.out⟩
      case round =>
        obtain ⟨i, rfl, hi, rfl, rfl, tn⟩ := hrel
        have HL := hid_mk tn.low
        obtain ⟨am, mm, hbx, hwa⟩ := tn.bw
        have hwa' := hwa
        obtain ⟨a0, m0, he0, hac, hml⟩ := hwa'
        simp only [Value.agg.injEq, Array.mk.injEq, List.cons.injEq, and_true] at he0
        obtain ⟨rfl, rfl⟩ := he0
        obtain ⟨Ak, ck, rfl, _⟩ := hac.form
        obtain ⟨Mk, dk, rfl, _⟩ := hml.form
        have HK := hid_mk (boxAt HK0.out HL.out)
        obtain ⟨p0, p1, p2, p3⟩ := blk4 HK.out
        obtain ⟨o0, o1, o2, o3, o4, o5⟩ := blk6 hbx
        obtain ⟨b0, b1, b2, b3⟩ := blk4 tn.bb
        have fk : ∀ o, wr.frozen? ⟨w3.heap.size, o, none⟩ = false := fun o => heap_frozen hbx
        have zb : w3.heap.size + 1 < wr.heap.size := (Array.getElem?_eq_some_iff.1 tn.bb).1
        have zw : w3.heap.size < wr.heap.size := by omega
        have z0 : W.heap.size + 1 + 1 + 1 + 1 < wr.heap.size := by omega
        have HWV := hid_mk hwa.wld
        have HPR := hid_mk (HP3.out.below HL.out)
        have HT9 := hid_mk (HT.out.below (bTrans HB3.out HL.out))
        have HBX := hid_mk hbx
        have HTN := hid_mk tn
        clear tn hwa hbx
        by_cases hlt : i < d
        · have hii : (i : Int) < (d : Int) := by omega
          have HDU := hid_mk (HD.out.dup hlt)
          have hd8 : d < 9 := HD.out.d8
          have HLT := hid_mk hlt
          clear hac hml hlt
          go_wp2_with fail
          refine (do_yes _ _ _ (dblP k m) (dbu d) (xD k m i 0) evD HT9.out HPR.out HWV.out HDU.out.1 HDU.out.2.1).mono ?_
          rw [HDU.out.2.2]
          rintro e w4 ⟨v4, rfl, hv4, hb4⟩
          obtain ⟨a4, m4, rfl, ha4, hm4⟩ := hv4
          obtain ⟨A4, c4, rfl, _⟩ := ha4.form
          obtain ⟨M4, d4, rfl, _⟩ := hm4.form
          have hk4 := boxAt HBX.out hb4
          have fk4 : ∀ o, w4.frozen? ⟨w3.heap.size, o, none⟩ = false := fun o => heap_frozen hk4
          have z4 : w3.heap.size < w4.heap.size := (Array.getElem?_eq_some_iff.1 hk4).1
          have HN4 := hid_mk (HTN.out.next (x' := xD k m (i + 1) 0) hb4 (WldA.weak (ok := fun b => wr.heap.size ≤ b) ⟨_, _, rfl, ha4, hm4⟩ (fun b hb => by have hb' : wr.heap.size ≤ b := hb; show b < _ ∨ _ ≤ b; omega)))
          clear ha4 hm4 hb4 o0 o1 o2 o3 o4 o5 p0 p1 p2 p3 b0 b1 b2 b3
          obtain ⟨o0, o1, o2, o3, o4, o5⟩ := blk6 hk4
          clear hk4
          go_wp2
          go_roundg (d - (i + 1))
          case measure => have := HLT.out; omega
          case rel => exact ⟨i + 1, rfl, by have := HLT.out; omega, rfl, by go_num, HN4.out⟩
        · obtain rfl : i = d := by omega
          have hd8 : i < 9 := HD.out.d8
          have hn3 : k < 4 := HD.out.n3
          have hmn : k ≤ m := HD.out.mn
          have hm10 : m < 11 := HD.out.m10
          have l1 : (xD k m i 0).mail.length = hav k m i := by rw [HD.out.mail hd8]; rfl
          have u1 : (xD k m i 0).acts.length = 1 := rfl
          have u2 : (xD k m i 0).used.dup = (i : Int) := rfl
          obtain ⟨bA, oA, xA, vA, rfl, hxA, hzA, s0, s1, s2, s3, s4, hvA⟩ := hac.cell (bRefl wr) (k := 0) (show 0 < 1 by decide)
          have hov : xA.over = (k : Int) + (i : Int) - ((hav k m i : Nat) : Int) := by
            rw [← Option.some.inj hxA]
            show ((i - dcp k m i : Nat) : Int) = _
            unfold dcp hav; omega
          rw [hov] at s4
          rw [Nat.zero_mul, Nat.add_zero] at s0 s1 s2 s3 s4
          have hhv : hav k m i ≤ 10 := by unfold hav; omega
          have hhk : k ≤ hav k m i := by unfold hav; omega
          have HHV := hid_mk hhv
          clear hxA hvA
          have HLP : Hid (∃ wo, wo = wr ∧ TB w3 i (xD k m i 0) wo) := ⟨_, rfl, HTN.out⟩
          go_upto_region 17 with fail
          go_cut [138] from 127 to 138 (fun i138 wc => i138 = .bool false ∧ wc = wr)
          case first =>
            by_cases hgt : k < hav k m i
            · have hgi : (k : Int) < ((hav k m i : Nat) : Int) := by omega
              obtain ⟨bM, oM, xM, vM, rfl, hxM, hzM, m0, m1, m2, _⟩ := hml.cell (bRefl wr) (k := 1) (by rw [l1]; omega)
              have hid := HD.out.two hgt hxM
              rw [hid, Nat.one_mul] at m0 m1 m2
              have hsd : sameD ⟨-1, 0, 1⟩ ⟨-1, 0, 1⟩ = true := by decide
              clear hxM hid hac hml hgt
              go_wp2_with fail
              go_meet
              exact ⟨rfl, rfl⟩
            · have hgi : ¬ (k : Int) < ((hav k m i : Nat) : Int) := by omega
              clear hac hml hgt
              go_wp2_with fail
              go_meet
              exact ⟨rfl, rfl⟩
          case rest =>
            obtain ⟨rfl, hwc⟩ := hcut
            have hwd := hwc.symm
            subst hwd
            clear hac hml hwc
            go_wp2_with fail
            obtain ⟨wo, hwo⟩ : ∃ wo, wo = wr := ⟨_, rfl⟩
            subst hwo
            clear p0 p1 p2 p3 o0 o1 o2 o3 o4 o5 b0 b1 b2 b3 s0 s1 s2 s3 s4 fk zb zw z0
            go_loopg [10, 14] (hav k m i) (fun g i10 i14 wr => ∃ j : Nat, g = hav k m i - j ∧ j ≤ hav k m i ∧ i10 = .int .i64 0 ∧ i14 = .int .i64 (j : Int) ∧ TB w3 i (xD k m i j) wr)
            case atStart => exact ⟨0, rfl, by omega, rfl, rfl, HTN.out⟩
            case round =>
              obtain ⟨j, rfl, hj, rfl, rfl, tn⟩ := hrel
              obtain ⟨X, hX⟩ : ∃ X, xD k m i j = X := ⟨_, rfl⟩
              rw [hX] at tn
              have HX := hid_mk hX
              clear hX
              have HL := hid_mk tn.low
              obtain ⟨am, mm, hbx, hwa⟩ := tn.bw
              have hwa' := hwa
              obtain ⟨a0, m0, he0, hac, hml⟩ := hwa'
              simp only [Value.agg.injEq, Array.mk.injEq, List.cons.injEq, and_true] at he0
              obtain ⟨rfl, rfl⟩ := he0
              obtain ⟨Ak, ck, rfl, _⟩ := hac.form
              obtain ⟨Mk, dk, rfl, _⟩ := hml.form
              have HK := hid_mk (boxAt HK0.out HL.out)
              obtain ⟨p0, p1, p2, p3⟩ := blk4 HK.out
              obtain ⟨o0, o1, o2, o3, o4, o5⟩ := blk6 hbx
              obtain ⟨b0, b1, b2, b3⟩ := blk4 tn.bb
              have fk : ∀ o, wr.frozen? ⟨w3.heap.size, o, none⟩ = false := fun o => heap_frozen hbx
              have zb : w3.heap.size + 1 < wr.heap.size := (Array.getElem?_eq_some_iff.1 tn.bb).1
              have zw : w3.heap.size < wr.heap.size := by omega
              have z0 : W.heap.size + 1 + 1 + 1 + 1 < wr.heap.size := by omega
              have HWV := hid_mk hwa.wld
              have HPR := hid_mk (HP3.out.below HL.out)
              have HT9 := hid_mk (HT.out.below (bTrans HB3.out HL.out))
              have HBX := hid_mk hbx
              have HTN := hid_mk tn
              clear tn hwa hbx
              by_cases hlt : j < hav k m i
              · have hji : (j : Int) < ((hav k m i : Nat) : Int) := by omega
                obtain ⟨dd, hdd⟩ : ∃ dd, (evX k m i j).id = dd := ⟨_, rfl⟩
                obtain ⟨X', hX'⟩ : ∃ X', xD k m i (j + 1) = X' := ⟨_, rfl⟩
                have hev : evX k m i j = ⟨1, dd, 0⟩ := by rw [← hdd]; rfl
                have hde := HD.out.del hlt
                rw [HX.out, hev, hX'] at hde
                have HDE := hid_mk hde
                have HX' := hid_mk hX'
                have HLT := hid_mk hlt
                have l2 : X.mail.length = hav k m i - j := by rw [← HX.out]; exact HD.out.mail hd8
                have hz0 : ((X.mail.length : Int) == 0) = false := beq_eq_false_iff_ne.2 (by omega)
                have hz1 : (0 : Int) < (X.mail.length : Int) := by omega
                have hz2 : 0 < X.mail.length := by omega
                obtain ⟨bN, oN, xN, vN, hMk, hxN, hzN, t0, t1, t2, _⟩ := hml.cell (bRefl wr) (k := 0) (by omega)
                have hnN : bN ≠ w3.heap.size := by
                  obtain ⟨b, o, e, hok, _⟩ := hml.at (by omega)
                  have e' := hMk.symm.trans e
                  cases e'
                  have hok' : bN < w3.heap.size ∨ w3.heap.size + 2 ≤ bN := hok
                  omega
                subst hMk
                have hidN : xN.id = dd := by
                  rw [← HX.out] at hxN
                  rw [← hdd]; exact dbl_head hxN
                rw [hidN, Nat.zero_mul, Nat.add_zero] at t0 t1 t2
                clear hxN hidN hac hml hlt l2 hde hX' hev hdd
                go_wp2_with fail
                clear hz0 hov l1 u1 u2 hhv hhk hi
                clear hd8 hn3 hmn hm10 g1 g2 g3 g4 g5 g6 hji
                go_cut [10] from 148 to 160 (fun i10 wc => i10 = .int .i64 0 ∧ TB w3 i X' wc)
                case first =>
                  refine wp_region_held_drew (S := fun w' => w'.cell? ⟨W.heap.size + 1 + 1 + 1 + 1, 0, none⟩ = some (.slice (some ⟨W.heap.size + 1, 0, none⟩) 1 1) ∧ w'.cell? ⟨W.heap.size + 1 + 1 + 1 + 1, 1, none⟩ = some (.slice (some ⟨W.heap.size + 1 + 1 + 1, 0, none⟩) 1 1) ∧ w'.cell? ⟨W.heap.size + 1 + 1 + 1 + 1, 2, none⟩ = some (.slice A9 k c9) ∧ w'.cell? ⟨W.heap.size + 1 + 1 + 1 + 1, 3, none⟩ = some (.int .i64 9) ∧ w'.cell? ⟨w3.heap.size + 1, 0, none⟩ = some (.int .i64 0) ∧ w'.cell? ⟨w3.heap.size + 1, 1, none⟩ = some (.int .i64 (i : Int)) ∧ w'.cell? ⟨w3.heap.size + 1, 2, none⟩ = some (.int .i64 0) ∧ w'.cell? ⟨w3.heap.size + 1, 3, none⟩ = some (.int .i64 0) ∧ w'.cell? ⟨bN, oN, none⟩ = some (.int .i64 dd.f) ∧ w'.cell? ⟨bN, oN + 1, none⟩ = some (.int .i64 dd.n) ∧ w'.cell? ⟨bN, oN + 2, none⟩ = some (.int .i64 dd.c)) (by kernel_rfl) ?_ (fun hHeld => ?_)
                  · try dsimp only
                    go_keep
                  refine wpAnyH_take (i := 0) (oi := ⟨some 149, .load 26 (.tmp 7), 26, "law.go:154", #[], none⟩) (v := ?_) rfl (by kernel_rfl) (by kernel_rfl) (by kernel_rfl) (fun _ _ _ h => h) (Or.inl ⟨by rfl, ?_⟩) (by assumption) ?_
                  rotate_left
                  · intro w hSw
                    try dsimp only at hSw
                    go_simp
                    try with_reducible rfl
                  try simp only [Act.put, List.setIfInBounds_toArray, List.set_cons_zero, List.set_cons_succ]
                  refine wpAnyH_take (i := 1) (oi := ⟨some 150, .load 42 (.tmp 11), 42, "law.go:154", #[], none⟩) (v := ?_) rfl (by kernel_rfl) (by kernel_rfl) (by kernel_rfl) (fun _ _ _ h => h) (Or.inl ⟨by rfl, ?_⟩) (by assumption) ?_
                  rotate_left
                  · intro w hSw
                    try dsimp only at hSw
                    go_simp
                    try with_reducible rfl
                  try simp only [Act.put, List.setIfInBounds_toArray, List.set_cons_zero, List.set_cons_succ]
                  refine wpAnyH_take (i := 3) (oi := ⟨some 152, .fieldAddr 44 (.tmp 9) 1, 0, "law.go:154", #[], none⟩) (v := ?_) rfl (by kernel_rfl) (by kernel_rfl) (by kernel_rfl) (fun _ _ _ h => h) (Or.inl ⟨by rfl, ?_⟩) (by assumption) ?_
                  rotate_left
                  · intro w hSw
                    try dsimp only at hSw
                    go_simp
                    try with_reducible rfl
                  try simp only [Act.put, List.setIfInBounds_toArray, List.set_cons_zero, List.set_cons_succ]
                  refine wpAnyH_ready (rs := [2, 4]) (by kernel_rfl) (by simp) ?_
                  refine AllReadyH.cons (o := ⟨some 151, .load 44 (.tmp 9), 44, "law.go:154", #[], none⟩) rfl (fun K hK => ?_) (AllReadyH.cons (o := ⟨some 153, .load 40 (.tmp 152), 40, "law.go:154", #[⟨3, .data⟩], none⟩) rfl (fun K hK => ?_) AllReadyH.nil)
                  · go_simp
                    refine hK.out _ _ ?_ (fun hHeld => ?_)
                    · try dsimp only
                      exact hHeld
                    clear hK K
                    try simp only [Act.put, List.setIfInBounds_toArray, List.set_cons_zero, List.set_cons_succ]
                    refine wpAnyH_ready (rs := [4]) (by kernel_rfl) (by simp) ?_
                    refine AllReadyH.cons (o := ⟨some 153, .load 40 (.tmp 152), 40, "law.go:154", #[⟨3, .data⟩], none⟩) rfl (fun K hK => ?_) AllReadyH.nil
                    go_simp
                    refine hK.out _ _ ?_ (fun hHeld => ?_)
                    · try dsimp only
                      exact hHeld
                    clear hK K
                    try simp only [Act.put, List.setIfInBounds_toArray, List.set_cons_zero, List.set_cons_succ]
                    refine wpAnyH_take (i := 5) (oi := ⟨some 154, .indexAddr 40 (.tmp 153) (.const (.int .i64 0)), 0, "law.go:154", #[⟨4, .data⟩], none⟩) (v := ?_) rfl (by kernel_rfl) (by kernel_rfl) (by kernel_rfl) (fun _ _ _ h => h) (Or.inl ⟨by rfl, ?_⟩) (by assumption) ?_
                    rotate_left
                    · intro w hSw
                      try dsimp only at hSw
                      go_simp
                      try with_reducible rfl
                    try simp only [Act.put, List.setIfInBounds_toArray, List.set_cons_zero, List.set_cons_succ]
                    refine wpAnyH_take (i := 6) (oi := ⟨some 155, .fieldAddr 58 (.tmp 154) 0, 0, "law.go:154", #[⟨5, .data⟩], none⟩) (v := ?_) rfl (by kernel_rfl) (by kernel_rfl) (by kernel_rfl) (fun _ _ _ h => h) (Or.inl ⟨by rfl, ?_⟩) (by assumption) ?_
                    rotate_left
                    · intro w hSw
                      try dsimp only at hSw
                      go_simp
                      try with_reducible rfl
                    try simp only [Act.put, List.setIfInBounds_toArray, List.set_cons_zero, List.set_cons_succ]
                    refine wpAnyH_take (i := 7) (oi := ⟨some 156, .load 56 (.tmp 155), 56, "law.go:154", #[⟨6, .data⟩], none⟩) (v := ?_) rfl (by kernel_rfl) (by kernel_rfl) (by kernel_rfl) (fun _ _ _ h => h) (Or.inl ⟨by rfl, ?_⟩) (by assumption) ?_
                    rotate_left
                    · intro w hSw
                      try dsimp only at hSw
                      go_simp
                      try with_reducible rfl
                    try simp only [Act.put, List.setIfInBounds_toArray, List.set_cons_zero, List.set_cons_succ]
                    refine wpAnyH_take (i := 8) (oi := ⟨some 157, .build 62 #[(0, .const (.int .i64 1)), (1, .tmp 156)], 62, "law.go:154", #[⟨7, .data⟩], none⟩) (v := ?_) rfl (by kernel_rfl) (by kernel_rfl) (by kernel_rfl) (fun _ _ _ h => h) (Or.inl ⟨by rfl, ?_⟩) (by assumption) ?_
                    rotate_left
                    · intro w hSw
                      try dsimp only at hSw
                      go_simp
                      try with_reducible rfl
                    try simp only [Act.put, List.setIfInBounds_toArray, List.set_cons_zero, List.set_cons_succ]
                    refine wpAnyH_ready (rs := [9]) (by kernel_rfl) (by simp) ?_
                    refine AllReadyH.cons (o := ⟨some 158, .call { callee := .value (.func 40), args := #[.tmp 149, .tmp 150, .tmp 151, .tmp 157], argTypes := #[26, 42, 44, 62] }, 46, "law.go:154", #[⟨0, .data⟩, ⟨1, .data⟩, ⟨2, .data⟩, ⟨8, .data⟩], none⟩) rfl (fun K hK => ?_) AllReadyH.nil
                    go_simp
                    (go_at_call 40; refine (do_yes _ _ _ (dblP k m) (dbu i) X ⟨1, dd, 0⟩ (HT9.out.below (by first | exact (bRefl _).drew | exact bRefl _)) (HPR.out.below (by first | exact (bRefl _).drew | exact bRefl _)) (HWV.out.below (by first | exact (bRefl _).drew | exact bRefl _)) HDE.out.1 HDE.out.2.1).mono ?_; rw [HDE.out.2.2]; rintro e w4 ⟨v4, rfl, hv4, hb4'⟩; have hb4 : Below wr.heap.size wr w4 := (by first | exact undrew hb4' | exact hb4'); obtain ⟨a4, m4, rfl, ha4, hm4⟩ := hv4; obtain ⟨A4, c4, rfl, _⟩ := ha4.form; obtain ⟨M4, d4, rfl, _⟩ := hm4.form; have hk4 := boxAt HBX.out hb4; have fk4 : ∀ o, w4.frozen? ⟨w3.heap.size, o, none⟩ = false := (fun o => heap_frozen hk4); have z4 : w3.heap.size < w4.heap.size := (Array.getElem?_eq_some_iff.1 hk4).1; have HN4 := hid_mk (HTN.out.next (x' := X') hb4 (WldA.weak (ok := fun b => wr.heap.size ≤ b) ⟨_, _, rfl, ha4, hm4⟩ (fun b hb => by have hb' : wr.heap.size ≤ b := hb; show b < _ ∨ _ ≤ b; omega))); have hs4 : ∀ (b o : Nat) (v : Value), b ≠ w3.heap.size → b < wr.heap.size → wr.cell? ⟨b, o, none⟩ = some v → (put6 w4 w3.heap.size (.slice A4 X'.acts.length c4) (.slice M4 X'.mail.length d4) (.int .i64 X'.used.drop) (.int .i64 X'.used.dup) (.int .i64 X'.used.time) (.int .i64 X'.used.crash)).cell? ⟨b, o, none⟩ = some v := (fun b o v hne hlt hv => (put6_same.cell hne (Nat.lt_of_lt_of_le hlt hb4.size)).trans ((hb4.cell (p := ⟨b, o, none⟩) hlt).trans hv)); have HS4 : Hid ((fun w' => w'.cell? ⟨W.heap.size + 1 + 1 + 1 + 1, 0, none⟩ = some (.slice (some ⟨W.heap.size + 1, 0, none⟩) 1 1) ∧ w'.cell? ⟨W.heap.size + 1 + 1 + 1 + 1, 1, none⟩ = some (.slice (some ⟨W.heap.size + 1 + 1 + 1, 0, none⟩) 1 1) ∧ w'.cell? ⟨W.heap.size + 1 + 1 + 1 + 1, 2, none⟩ = some (.slice A9 k c9) ∧ w'.cell? ⟨W.heap.size + 1 + 1 + 1 + 1, 3, none⟩ = some (.int .i64 9) ∧ w'.cell? ⟨w3.heap.size + 1, 0, none⟩ = some (.int .i64 0) ∧ w'.cell? ⟨w3.heap.size + 1, 1, none⟩ = some (.int .i64 (i : Int)) ∧ w'.cell? ⟨w3.heap.size + 1, 2, none⟩ = some (.int .i64 0) ∧ w'.cell? ⟨w3.heap.size + 1, 3, none⟩ = some (.int .i64 0) ∧ w'.cell? ⟨bN, oN, none⟩ = some (.int .i64 dd.f) ∧ w'.cell? ⟨bN, oN + 1, none⟩ = some (.int .i64 dd.n) ∧ w'.cell? ⟨bN, oN + 2, none⟩ = some (.int .i64 dd.c)) (put6 w4 w3.heap.size (.slice A4 X'.acts.length c4) (.slice M4 X'.mail.length d4) (.int .i64 X'.used.drop) (.int .i64 X'.used.dup) (.int .i64 X'.used.time) (.int .i64 X'.used.crash))) := ⟨hs4 _ _ _ (by omega) z0 p0, hs4 _ _ _ (by omega) z0 p1, hs4 _ _ _ (by omega) z0 p2, hs4 _ _ _ (by omega) z0 p3, hs4 _ _ _ (by omega) zb b0, hs4 _ _ _ (by omega) zb b1, hs4 _ _ _ (by omega) zb b2, hs4 _ _ _ (by omega) zb b3, hs4 _ _ _ hnN hzN t0, hs4 _ _ _ hnN hzN t1, hs4 _ _ _ hnN hzN t2⟩; have hc4 := bcell hb4; clear ha4 hm4 hb4 hb4' hs4 hk4)
                    try (go_wp2_with fail)
                    refine hK.out _ _ ?_ (fun hHeld => ?_)
                    · try dsimp only
                      go_keep
                    clear hK K
                    try simp only [Act.put, List.setIfInBounds_toArray, List.set_cons_zero, List.set_cons_succ]
                    refine wpAnyH_take (i := 10) (oi := ⟨some 148, .move (.tmp 158), 46, "law.go:154", #[⟨9, .data⟩], none⟩) (v := ?_) rfl (by kernel_rfl) (by kernel_rfl) (by kernel_rfl) (fun _ _ _ h => h) (Or.inl ⟨by rfl, ?_⟩) (by assumption) ?_
                    rotate_left
                    · intro w hSw
                      try dsimp only at hSw
                      go_simp
                      try with_reducible rfl
                    try simp only [Act.put, List.setIfInBounds_toArray, List.set_cons_zero, List.set_cons_succ]
                    refine wpAnyH_take (i := 11) (oi := ⟨some 159, .extract (.tmp 148) 0, 44, "law.go:154", #[⟨10, .data⟩], none⟩) (v := ?_) rfl (by kernel_rfl) (by kernel_rfl) (by kernel_rfl) (fun _ _ _ h => h) (Or.inl ⟨by rfl, ?_⟩) (by assumption) ?_
                    rotate_left
                    · intro w hSw
                      try dsimp only at hSw
                      go_simp
                      try with_reducible rfl
                    try simp only [Act.put, List.setIfInBounds_toArray, List.set_cons_zero, List.set_cons_succ]
                    refine wpAnyH_take (i := 12) (oi := ⟨some 160, .extract (.tmp 148) 1, 45, "law.go:154", #[⟨10, .data⟩, ⟨13, .gcOnly .lateStores⟩], none⟩) (v := ?_) rfl (by kernel_rfl) (by kernel_rfl) (by kernel_rfl) (fun _ _ _ h => h) (Or.inl ⟨by rfl, ?_⟩) (by assumption) ?_
                    rotate_left
                    · intro w hSw
                      try dsimp only at hSw
                      go_simp
                      try with_reducible rfl
                    try simp only [Act.put, List.setIfInBounds_toArray, List.set_cons_zero, List.set_cons_succ]
                    refine wpAnyH_ready (rs := [13]) (by kernel_rfl) (by simp) ?_
                    refine AllReadyH.cons (o := ⟨none, .store 44 (.tmp 9) (.tmp 159), 0, "law.go:154", #[⟨11, .data⟩, ⟨9, .chain⟩, ⟨0, .phase⟩, ⟨1, .phase⟩, ⟨2, .phase⟩, ⟨3, .phase⟩, ⟨4, .phase⟩, ⟨5, .phase⟩, ⟨6, .phase⟩, ⟨7, .phase⟩, ⟨8, .phase⟩, ⟨9, .phase⟩, ⟨10, .phase⟩, ⟨11, .phase⟩, ⟨12, .textOnly .lateStores⟩], none⟩) rfl (fun K hK => ?_) AllReadyH.nil
                    go_simp
                    refine hK.out _ _ ?_ (fun hHeld => ?_)
                    · try dsimp only
                      exact HS4.out
                    clear hK K
                    try simp only [Act.put, List.setIfInBounds_toArray, List.set_cons_zero, List.set_cons_succ]
                    refine wpAnyH_take (i := 14) (oi := ⟨some 10, .assign (.tmp 160), 45, "law.go:154", #[⟨12, .data⟩, ⟨13, .chain⟩, ⟨0, .phase⟩, ⟨1, .phase⟩, ⟨2, .phase⟩, ⟨3, .phase⟩, ⟨4, .phase⟩, ⟨5, .phase⟩, ⟨6, .phase⟩, ⟨7, .phase⟩, ⟨8, .phase⟩, ⟨9, .phase⟩, ⟨10, .phase⟩, ⟨11, .phase⟩, ⟨12, .phase⟩, ⟨13, .phase⟩], none⟩) (v := ?_) rfl (by kernel_rfl) (by kernel_rfl) (by kernel_rfl) (fun _ _ _ h => h) (Or.inl ⟨by rfl, ?_⟩) (by assumption) ?_
                    rotate_left
                    · intro w hSw
                      try dsimp only at hSw
                      go_simp
                      try with_reducible rfl
                    try simp only [Act.put, List.setIfInBounds_toArray, List.set_cons_zero, List.set_cons_succ]
                    refine wpAnyH_done (by kernel_rfl) ?_ _
                    go_wp2_with fail
                    go_meet
                    exact ⟨rfl, HN4.out⟩
                  · go_simp
                    refine hK.out _ _ ?_ (fun hHeld => ?_)
                    · try dsimp only
                      exact hHeld
                    clear hK K
                    try simp only [Act.put, List.setIfInBounds_toArray, List.set_cons_zero, List.set_cons_succ]
                    refine wpAnyH_take (i := 5) (oi := ⟨some 154, .indexAddr 40 (.tmp 153) (.const (.int .i64 0)), 0, "law.go:154", #[⟨4, .data⟩], none⟩) (v := ?_) rfl (by kernel_rfl) (by kernel_rfl) (by kernel_rfl) (fun _ _ _ h => h) (Or.inl ⟨by rfl, ?_⟩) (by assumption) ?_
                    rotate_left
                    · intro w hSw
                      try dsimp only at hSw
                      go_simp
                      try with_reducible rfl
                    try simp only [Act.put, List.setIfInBounds_toArray, List.set_cons_zero, List.set_cons_succ]
                    refine wpAnyH_take (i := 6) (oi := ⟨some 155, .fieldAddr 58 (.tmp 154) 0, 0, "law.go:154", #[⟨5, .data⟩], none⟩) (v := ?_) rfl (by kernel_rfl) (by kernel_rfl) (by kernel_rfl) (fun _ _ _ h => h) (Or.inl ⟨by rfl, ?_⟩) (by assumption) ?_
                    rotate_left
                    · intro w hSw
                      try dsimp only at hSw
                      go_simp
                      try with_reducible rfl
                    try simp only [Act.put, List.setIfInBounds_toArray, List.set_cons_zero, List.set_cons_succ]
                    refine wpAnyH_take (i := 7) (oi := ⟨some 156, .load 56 (.tmp 155), 56, "law.go:154", #[⟨6, .data⟩], none⟩) (v := ?_) rfl (by kernel_rfl) (by kernel_rfl) (by kernel_rfl) (fun _ _ _ h => h) (Or.inl ⟨by rfl, ?_⟩) (by assumption) ?_
                    rotate_left
                    · intro w hSw
                      try dsimp only at hSw
                      go_simp
                      try with_reducible rfl
                    try simp only [Act.put, List.setIfInBounds_toArray, List.set_cons_zero, List.set_cons_succ]
                    refine wpAnyH_take (i := 8) (oi := ⟨some 157, .build 62 #[(0, .const (.int .i64 1)), (1, .tmp 156)], 62, "law.go:154", #[⟨7, .data⟩], none⟩) (v := ?_) rfl (by kernel_rfl) (by kernel_rfl) (by kernel_rfl) (fun _ _ _ h => h) (Or.inl ⟨by rfl, ?_⟩) (by assumption) ?_
                    rotate_left
                    · intro w hSw
                      try dsimp only at hSw
                      go_simp
                      try with_reducible rfl
                    try simp only [Act.put, List.setIfInBounds_toArray, List.set_cons_zero, List.set_cons_succ]
                    refine wpAnyH_ready (rs := [2]) (by kernel_rfl) (by simp) ?_
                    refine AllReadyH.cons (o := ⟨some 151, .load 44 (.tmp 9), 44, "law.go:154", #[], none⟩) rfl (fun K hK => ?_) AllReadyH.nil
                    go_simp
                    refine hK.out _ _ ?_ (fun hHeld => ?_)
                    · try dsimp only
                      exact hHeld
                    clear hK K
                    try simp only [Act.put, List.setIfInBounds_toArray, List.set_cons_zero, List.set_cons_succ]
                    refine wpAnyH_ready (rs := [9]) (by kernel_rfl) (by simp) ?_
                    refine AllReadyH.cons (o := ⟨some 158, .call { callee := .value (.func 40), args := #[.tmp 149, .tmp 150, .tmp 151, .tmp 157], argTypes := #[26, 42, 44, 62] }, 46, "law.go:154", #[⟨0, .data⟩, ⟨1, .data⟩, ⟨2, .data⟩, ⟨8, .data⟩], none⟩) rfl (fun K hK => ?_) AllReadyH.nil
                    go_simp
                    (go_at_call 40; refine (do_yes _ _ _ (dblP k m) (dbu i) X ⟨1, dd, 0⟩ (HT9.out.below (by first | exact (bRefl _).drew | exact bRefl _)) (HPR.out.below (by first | exact (bRefl _).drew | exact bRefl _)) (HWV.out.below (by first | exact (bRefl _).drew | exact bRefl _)) HDE.out.1 HDE.out.2.1).mono ?_; rw [HDE.out.2.2]; rintro e w4 ⟨v4, rfl, hv4, hb4'⟩; have hb4 : Below wr.heap.size wr w4 := (by first | exact undrew hb4' | exact hb4'); obtain ⟨a4, m4, rfl, ha4, hm4⟩ := hv4; obtain ⟨A4, c4, rfl, _⟩ := ha4.form; obtain ⟨M4, d4, rfl, _⟩ := hm4.form; have hk4 := boxAt HBX.out hb4; have fk4 : ∀ o, w4.frozen? ⟨w3.heap.size, o, none⟩ = false := (fun o => heap_frozen hk4); have z4 : w3.heap.size < w4.heap.size := (Array.getElem?_eq_some_iff.1 hk4).1; have HN4 := hid_mk (HTN.out.next (x' := X') hb4 (WldA.weak (ok := fun b => wr.heap.size ≤ b) ⟨_, _, rfl, ha4, hm4⟩ (fun b hb => by have hb' : wr.heap.size ≤ b := hb; show b < _ ∨ _ ≤ b; omega))); have hs4 : ∀ (b o : Nat) (v : Value), b ≠ w3.heap.size → b < wr.heap.size → wr.cell? ⟨b, o, none⟩ = some v → (put6 w4 w3.heap.size (.slice A4 X'.acts.length c4) (.slice M4 X'.mail.length d4) (.int .i64 X'.used.drop) (.int .i64 X'.used.dup) (.int .i64 X'.used.time) (.int .i64 X'.used.crash)).cell? ⟨b, o, none⟩ = some v := (fun b o v hne hlt hv => (put6_same.cell hne (Nat.lt_of_lt_of_le hlt hb4.size)).trans ((hb4.cell (p := ⟨b, o, none⟩) hlt).trans hv)); have HS4 : Hid ((fun w' => w'.cell? ⟨W.heap.size + 1 + 1 + 1 + 1, 0, none⟩ = some (.slice (some ⟨W.heap.size + 1, 0, none⟩) 1 1) ∧ w'.cell? ⟨W.heap.size + 1 + 1 + 1 + 1, 1, none⟩ = some (.slice (some ⟨W.heap.size + 1 + 1 + 1, 0, none⟩) 1 1) ∧ w'.cell? ⟨W.heap.size + 1 + 1 + 1 + 1, 2, none⟩ = some (.slice A9 k c9) ∧ w'.cell? ⟨W.heap.size + 1 + 1 + 1 + 1, 3, none⟩ = some (.int .i64 9) ∧ w'.cell? ⟨w3.heap.size + 1, 0, none⟩ = some (.int .i64 0) ∧ w'.cell? ⟨w3.heap.size + 1, 1, none⟩ = some (.int .i64 (i : Int)) ∧ w'.cell? ⟨w3.heap.size + 1, 2, none⟩ = some (.int .i64 0) ∧ w'.cell? ⟨w3.heap.size + 1, 3, none⟩ = some (.int .i64 0) ∧ w'.cell? ⟨bN, oN, none⟩ = some (.int .i64 dd.f) ∧ w'.cell? ⟨bN, oN + 1, none⟩ = some (.int .i64 dd.n) ∧ w'.cell? ⟨bN, oN + 2, none⟩ = some (.int .i64 dd.c)) (put6 w4 w3.heap.size (.slice A4 X'.acts.length c4) (.slice M4 X'.mail.length d4) (.int .i64 X'.used.drop) (.int .i64 X'.used.dup) (.int .i64 X'.used.time) (.int .i64 X'.used.crash))) := ⟨hs4 _ _ _ (by omega) z0 p0, hs4 _ _ _ (by omega) z0 p1, hs4 _ _ _ (by omega) z0 p2, hs4 _ _ _ (by omega) z0 p3, hs4 _ _ _ (by omega) zb b0, hs4 _ _ _ (by omega) zb b1, hs4 _ _ _ (by omega) zb b2, hs4 _ _ _ (by omega) zb b3, hs4 _ _ _ hnN hzN t0, hs4 _ _ _ hnN hzN t1, hs4 _ _ _ hnN hzN t2⟩; have hc4 := bcell hb4; clear ha4 hm4 hb4 hb4' hs4 hk4)
                    try (go_wp2_with fail)
                    refine hK.out _ _ ?_ (fun hHeld => ?_)
                    · try dsimp only
                      go_keep
                    clear hK K
                    try simp only [Act.put, List.setIfInBounds_toArray, List.set_cons_zero, List.set_cons_succ]
                    refine wpAnyH_take (i := 10) (oi := ⟨some 148, .move (.tmp 158), 46, "law.go:154", #[⟨9, .data⟩], none⟩) (v := ?_) rfl (by kernel_rfl) (by kernel_rfl) (by kernel_rfl) (fun _ _ _ h => h) (Or.inl ⟨by rfl, ?_⟩) (by assumption) ?_
                    rotate_left
                    · intro w hSw
                      try dsimp only at hSw
                      go_simp
                      try with_reducible rfl
                    try simp only [Act.put, List.setIfInBounds_toArray, List.set_cons_zero, List.set_cons_succ]
                    refine wpAnyH_take (i := 11) (oi := ⟨some 159, .extract (.tmp 148) 0, 44, "law.go:154", #[⟨10, .data⟩], none⟩) (v := ?_) rfl (by kernel_rfl) (by kernel_rfl) (by kernel_rfl) (fun _ _ _ h => h) (Or.inl ⟨by rfl, ?_⟩) (by assumption) ?_
                    rotate_left
                    · intro w hSw
                      try dsimp only at hSw
                      go_simp
                      try with_reducible rfl
                    try simp only [Act.put, List.setIfInBounds_toArray, List.set_cons_zero, List.set_cons_succ]
                    refine wpAnyH_take (i := 12) (oi := ⟨some 160, .extract (.tmp 148) 1, 45, "law.go:154", #[⟨10, .data⟩, ⟨13, .gcOnly .lateStores⟩], none⟩) (v := ?_) rfl (by kernel_rfl) (by kernel_rfl) (by kernel_rfl) (fun _ _ _ h => h) (Or.inl ⟨by rfl, ?_⟩) (by assumption) ?_
                    rotate_left
                    · intro w hSw
                      try dsimp only at hSw
                      go_simp
                      try with_reducible rfl
                    try simp only [Act.put, List.setIfInBounds_toArray, List.set_cons_zero, List.set_cons_succ]
                    refine wpAnyH_ready (rs := [13]) (by kernel_rfl) (by simp) ?_
                    refine AllReadyH.cons (o := ⟨none, .store 44 (.tmp 9) (.tmp 159), 0, "law.go:154", #[⟨11, .data⟩, ⟨9, .chain⟩, ⟨0, .phase⟩, ⟨1, .phase⟩, ⟨2, .phase⟩, ⟨3, .phase⟩, ⟨4, .phase⟩, ⟨5, .phase⟩, ⟨6, .phase⟩, ⟨7, .phase⟩, ⟨8, .phase⟩, ⟨9, .phase⟩, ⟨10, .phase⟩, ⟨11, .phase⟩, ⟨12, .textOnly .lateStores⟩], none⟩) rfl (fun K hK => ?_) AllReadyH.nil
                    go_simp
                    refine hK.out _ _ ?_ (fun hHeld => ?_)
                    · try dsimp only
                      exact HS4.out
                    clear hK K
                    try simp only [Act.put, List.setIfInBounds_toArray, List.set_cons_zero, List.set_cons_succ]
                    refine wpAnyH_take (i := 14) (oi := ⟨some 10, .assign (.tmp 160), 45, "law.go:154", #[⟨12, .data⟩, ⟨13, .chain⟩, ⟨0, .phase⟩, ⟨1, .phase⟩, ⟨2, .phase⟩, ⟨3, .phase⟩, ⟨4, .phase⟩, ⟨5, .phase⟩, ⟨6, .phase⟩, ⟨7, .phase⟩, ⟨8, .phase⟩, ⟨9, .phase⟩, ⟨10, .phase⟩, ⟨11, .phase⟩, ⟨12, .phase⟩, ⟨13, .phase⟩], none⟩) (v := ?_) rfl (by kernel_rfl) (by kernel_rfl) (by kernel_rfl) (fun _ _ _ h => h) (Or.inl ⟨by rfl, ?_⟩) (by assumption) ?_
                    rotate_left
                    · intro w hSw
                      try dsimp only at hSw
                      go_simp
                      try with_reducible rfl
                    try simp only [Act.put, List.setIfInBounds_toArray, List.set_cons_zero, List.set_cons_succ]
                    refine wpAnyH_done (by kernel_rfl) ?_ _
                    go_wp2_with fail
                    go_meet
                    exact ⟨rfl, HN4.out⟩
                case rest =>
                  obtain ⟨rfl, tn2⟩ := hcut
                  have HT2 := hid_mk tn2
                  have hj10 : j < 10 := by have h1 := HLT.out; have h2 := HHV.out; omega
                  clear tn2 p0 p1 p2 p3 o0 o1 o2 o3 o4 o5 b0 b1 b2 b3 t0 t1 t2 fk
                  go_wp2
                  go_roundg (hav k m i - (j + 1))
                  case measure => have := HLT.out; omega
                  case rel => exact ⟨j + 1, rfl, by have := HLT.out; omega, rfl, by go_num, by rw [HX'.out]; exact HT2.out⟩
              · have hjh : j = hav k m i := by omega
                have l3 : X.mail.length = 0 := by rw [← HX.out, HD.out.mail hd8]; omega
                have u5 : X.acts.length = 1 := by rw [← HX.out]; rfl
                obtain ⟨bA, oA, xB, vB, rfl, hxB, hzB, s0, _, _, _, _, hvB⟩ := hac.cell (bRefl wr) (k := 0) (by omega)
                have hrg : xB.regs = [((hav k m i : Nat) : Int)] := by
                  rw [← HX.out] at hxB
                  rw [← Option.some.inj hxB, ← hjh]
                rw [hrg] at hvB
                obtain ⟨VA, cA, rfl, _⟩ := hvB.form
                have HVA := hid_mk hvB
                rw [Nat.zero_mul, Nat.add_zero] at s0
                have hnj : ¬ (j : Int) < ((hav k m i : Nat) : Int) := by omega
                have e9 : eqB ([((hav k m i : Nat) : Int)] : List Int) [((hav k m i : Nat) : Int)] = true := eqB_self _
                have hBI : Hid (∀ X, Below wr.heap.size wr (wr.alloc X)) := fun X => bAlloc (bRefl _) _
                have hI9 : Hid (Ints anyB (wr.alloc (.cells #[.int .i64 ((hav k m i : Nat) : Int)] 3)) (.slice (some ⟨wr.heap.size, 0, none⟩) 1 1) [((hav k m i : Nat) : Int)]) := ints_lit (heap_new _ _)
                clear hxB hvB hac hml hrg hlt hjh hov l1 u1 u2 hhv hhk hi
                go_wp2_with (first
                  | (go_at_call 43; refine (alikeI _ _ _ _ _ [((hav k m i : Nat) : Int)] [((hav k m i : Nat) : Int)] (HVA.out.below (hBI.out _)) hI9.out).mono ?_; rw [e9]; rintro e w10 ⟨rfl, n10, h10⟩; have hb10 : Below wr.heap.size wr w10 := (by rw [h10]; exact bDrewN (hBI.out _) n10); have hc10 := bcell hb10; have HB10 := hid_mk hb10; clear h10 hb10)
                  | fail)
                refine (swake_any _ (HT9.out.below HB10.out)).mono ?_
                rintro e w12 ⟨rfl, hb12⟩
                go_wp2
                go_ret
                exact ⟨rfl, bTrans (bTrans HB3.out HL.out) (bTrans HB10.out hb12)⟩
set_option maxHeartbeats 4000000 in
set_option maxRecDepth 100000 in
theorem dbl_out (W : World) (n m d : Int) (ht : Tab W) (h : n < 1 ∨ 3 < n ∨ m < n ∨ 10 < m ∨ d < 0 ∨ 8 < d) : Calls Tryd.prog 10 #[.int .i64 n, .int .i64 m, .int .i64 d] W fun e w' => e = .returned (.bool true) ∧ Below W.heap.size W w' := by
  have HT := hid_mk ht
  clear ht
  by_cases h1 : n < 1
  · clear h
    go_enter Tryd.func10, Tryd.ntmps10
    go_wp2_with fail
    refine (swake_any _ HT.out).mono ?_
    rintro e w2 ⟨rfl, hb2⟩
    go_wp2
    go_ret
    exact ⟨rfl, hb2⟩
  by_cases h2 : 3 < n
  · clear h
    go_enter Tryd.func10, Tryd.ntmps10
    go_wp2_with fail
    refine (swake_any _ HT.out).mono ?_
    rintro e w2 ⟨rfl, hb2⟩
    go_wp2
    go_ret
    exact ⟨rfl, hb2⟩
  by_cases h3 : m < n
  · clear h
    go_enter Tryd.func10, Tryd.ntmps10
    go_wp2_with fail
    refine (swake_any _ HT.out).mono ?_
    rintro e w2 ⟨rfl, hb2⟩
    go_wp2
    go_ret
    exact ⟨rfl, hb2⟩
  by_cases h4 : 10 < m
  · clear h
    go_enter Tryd.func10, Tryd.ntmps10
    go_wp2_with fail
    refine (swake_any _ HT.out).mono ?_
    rintro e w2 ⟨rfl, hb2⟩
    go_wp2
    go_ret
    exact ⟨rfl, hb2⟩
  by_cases h5 : d < 0
  · clear h
    go_enter Tryd.func10, Tryd.ntmps10
    go_wp2_with fail
    refine (swake_any _ HT.out).mono ?_
    rintro e w2 ⟨rfl, hb2⟩
    go_wp2
    go_ret
    exact ⟨rfl, hb2⟩
  have h6 : 8 < d := by omega
  clear h
  go_enter Tryd.func10, Tryd.ntmps10
  go_wp2_with fail
  refine (swake_any _ HT.out).mono ?_
  rintro e w2 ⟨rfl, hb2⟩
  go_wp2
  go_ret
  exact ⟨rfl, hb2⟩
theorem sdoubles_any (W : World) (n m d : Int) (ht : Tab W) : Calls Tryd.prog 10 #[.int .i64 n, .int .i64 m, .int .i64 d] W fun e w' => e = .returned (.bool true) ∧ Below W.heap.size W w' := by
  by_cases h : n < 1 ∨ 3 < n ∨ m < n ∨ 10 < m ∨ d < 0 ∨ 8 < d
  · exact dbl_out W n m d ht h
  · obtain ⟨i, rfl⟩ := Int.eq_ofNat_of_zero_le (show 0 ≤ n by omega)
    obtain ⟨j, rfl⟩ := Int.eq_ofNat_of_zero_le (show 0 ≤ m by omega)
    obtain ⟨k, rfl⟩ := Int.eq_ofNat_of_zero_le (show 0 ≤ d by omega)
    exact dbl_in W i j k ht ⟨by omega, by omega, by omega, by omega, by omega⟩
end Go.Proofs.YtgdloonpemaijaaDoor
