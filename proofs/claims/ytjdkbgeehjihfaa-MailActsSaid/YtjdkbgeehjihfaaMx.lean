/-
  MailActs: the walk. No conditions.
-/
import Derived.Test.YtjdkbgeehjihfaaMk
namespace Go.Proofs.Ytjdkbgeehjihfaa
open Go.RowKit
attribute [local go_sem ↓] Go.wp_at_zero Go.wp_at_succ fieldM subA_rule
attribute [local go_sem] subA_rule2
/-- A message in a box. -/
def Bm (P : Nat → Prop) (B : Nat) (x : PMsg) (c : Value) (w : World) : Prop := w.heap[B]? = some (.cells #[.int .i64 x.id.f, .int .i64 x.id.n, .int .i64 x.id.c, .int .i64 x.nt.to, .int .i64 x.nt.hd, c] 29) ∧ Ints P w c x.nt.args
theorem Bm.lt {P : Nat → Prop} {B : Nat} {x : PMsg} {c : Value} {w : World} (h : Bm P B x c w) : B < w.heap.size := (Array.getElem?_eq_some_iff.1 h.1).1
theorem Bm.below {P : Nat → Prop} {B : Nat} {x : PMsg} {c : Value} {w w' : World} (h : Bm P B x c w) (hb : Below w.heap.size w w') : Bm P B x c w' := ⟨(hb.block B h.lt).trans h.1, h.2.below hb⟩
set_option maxHeartbeats 16000000 in
set_option maxRecDepth 100000 in
theorem acts_any (w : World) (v : Value) (l : List PAct) (h : Acts anyB anyB w v l) :
    Calls Try.prog 4 #[v] w fun e w' => e = .returned (.bool true) ∧ Below w.heap.size w w' := by
  obtain ⟨A, c, rfl, hl⟩ := h.form
  by_cases h40 : 40 < l.length
  · have h4 : (40 : Int) < l.length := by omega
    go_enter Try.func4, Try.ntmps4
    go_wp2_with (go_at_call 7; refine (awake_any _).mono ?_; rintro e w1 ⟨rfl, hb1⟩)
    go_ret
    exact ⟨rfl, hb1⟩
  · have h4 : ¬ (40 : Int) < l.length := by omega
    go_enter Try.func4, Try.ntmps4
    go_wp2
    go_loopg [3, 4, 5] l.length (fun n i3 i4 i5 wr => ∃ (i : Nat) (N I : List PMsg) (A3 A4 : Option Addr) (c3 c4 n3 : Nat), n = l.length - i ∧ i ≤ l.length ∧ i5 = .int .i64 i ∧ i3 = .slice A3 n3 c3 ∧ i4 = .slice A4 n3 c4 ∧ Hid (N.length = n3) ∧ Hid (AP N I i ∧ AK w (.slice A3 n3 c3) (.slice A4 n3 c4) N I wr))
    case atStart => exact ⟨0, [], [], none, none, 0, 0, 0, rfl, by omega, rfl, rfl, rfl, rfl, ⟨AP.nil, ⟨bRefl w, ⟨[], MT.nil _ _ _⟩, ⟨none, 0, rfl, by simp, by simp, Or.inl rfl⟩⟩⟩⟩
    case round =>
      obtain ⟨i, N, I, A3, A4, c3, c4, n3, rfl, hi, rfl, rfl, rfl, HN3, HH⟩ := hrel
      have HP : Hid (AP N I i) := HH.out.1
      have ak := HH.out.2
      have HLI : Hid (I.length = n3) := HP.out.len.symm.trans HN3.out
      have HI40 : Hid (i ≤ 40) := by show _ ≤ _; omega
      have hn3 : (n3 : Int) ≤ 40 := by have := HP.out.ln; have := HN3.out; omega
      clear HH
      by_cases hlt : i < l.length
      · obtain ⟨b1, o1, x, va, rfl, hx, hz1, q0, q1, q2, q3, q4, q5, q6, hva⟩ := h.cell ak.low hlt
        obtain ⟨Va, na, rfl, _⟩ := hva.form
        clear hx
        have hb := bAlloc (bRefl wr) (.cells #[.int .i64 x.m.id.f, .int .i64 x.m.id.n, .int .i64 x.m.id.c, .int .i64 x.m.nt.to, .int .i64 x.m.nt.hd, .slice Va x.m.nt.args.length na] 29)
        have k0 := (hb.cell (p := ⟨b1, o1 + i * 7, none⟩) hz1).trans q0
        have bx : Bm (fun b => b < w.heap.size) wr.heap.size x.m (.slice Va x.m.nt.args.length na) (wr.alloc (.cells #[.int .i64 x.m.id.f, .int .i64 x.m.id.n, .int .i64 x.m.id.c, .int .i64 x.m.nt.to, .int .i64 x.m.nt.hd, .slice Va x.m.nt.args.length na] 29)) := ⟨heap_new _ _, hva.below hb⟩
        replace ak := ak.below hb
        have hz1' := Nat.lt_of_lt_of_le hz1 hb.size
        clear hb hva
        by_cases h6 : x.m.nt.args.length ≤ 6
        · have h6' : ¬ ((6 : Int) < x.m.nt.args.length) := by omega
          have HM6 : Hid (x.m.nt.args.length ≤ 6) := h6
          go_wp2_with fail
          generalize wr.alloc (.cells #[.int .i64 x.m.id.f, .int .i64 x.m.id.n, .int .i64 x.m.id.c, .int .i64 x.m.nt.to, .int .i64 x.m.nt.hd, .slice Va x.m.nt.args.length na] 29) = wb at k0 bx ak hz1' ⊢
          clear q0 q1 q2 q3 q4 q5 q6 hz1
          refine (rfind_any _ _ I x.m.id ((ak.ri (by have := HLI.out; omega)).any2)).mono ?_
          rintro e w1 ⟨rfl, hb⟩
          replace k0 := (hb.cell (p := ⟨b1, o1 + i * 7, none⟩) hz1').trans k0
          replace hz1' := Nat.lt_of_lt_of_le hz1' hb.size
          replace ak := ak.below hb
          replace bx := bx.below hb
          clear hb
          go_wp2_with fail
          refine (copy_any _ _ N ak.rn.any2 (by have := (HP.out.few HI40.out).1; omega) (HP.out.few HI40.out).2).mono ?_
          rintro e w2 ⟨uc, rfl, hu, hb⟩
          replace hu := hu.any2
          replace k0 := (hb.cell (p := ⟨b1, o1 + i * 7, none⟩) hz1').trans k0
          replace hz1' := Nat.lt_of_lt_of_le hz1' hb.size
          replace ak := ak.below hb
          replace bx := bx.below hb
          clear hb
          have zz := eqB_self N
          have hso : srt N = true := HP.out.so
          have eI : I.length = n3 := HLI.out
          by_cases hk : x.kind = 1
          · have hk1 := beq_yes hk
            by_cases hf : fnd N x.m.id = -1
            · have hfI := (HP.out.fnd x.m.id).2 hf
              obtain ⟨x0, x1, x2, x3, x4, x5⟩ := blk6 bx.1
              have hzB := bx.lt
              go_wp2_with fail
              refine (put_new _ _ _ N x.m ak.rn.any2 ⟨_, rfl, bx.2.any⟩ hf (HP.out.few HI40.out) (by have := HM6.out; omega)).mono ?_
              rintro e w3 ⟨u3, rfl, hu3, hb⟩
              have el : (putP N x.m).length = n3 + 1 := by rw [put_len, HN3.out]
              obtain ⟨A5, c5, rfl, _⟩ := hu3.form
              rw [el] at hu3 ⊢
              have hr3 := ak.rn.any2.below hb
              replace ak := ak.new hb hu3
              replace bx := bx.below hb
              replace hu := hu.below hb
              clear hb hu3
              go_wp2_with fail
              refine (same_any _ _ _ N N hr3 hu).mono ?_
              rintro e w4 ⟨rfl, hb⟩
              replace ak := ak.below hb
              replace bx := bx.below hb
              clear hb hr3 hu
              obtain ⟨x0, x1, x2, x3, x4, x5⟩ := blk6 bx.1
              have hzB := bx.lt
              have HA : Hid (AK w (.slice A5 (n3 + 1) c5) (.slice A4 n3 c4) (putP N x.m) I (w4.alloc (.cells #[.int .i64 x.m.id.f, .int .i64 x.m.id.n, .int .i64 x.m.id.c, .int .i64 x.m.nt.to, .int .i64 x.m.nt.hd, .slice Va x.m.nt.args.length na] 29))) := ak.below (bAlloc (bRefl w4) _)
              have HX : Hid (Ints (fun b => b < w.heap.size) (w4.alloc (.cells #[.int .i64 x.m.id.f, .int .i64 x.m.id.n, .int .i64 x.m.id.c, .int .i64 x.m.nt.to, .int .i64 x.m.nt.hd, .slice Va x.m.nt.args.length na] 29)) (.slice Va x.m.nt.args.length na) x.m.nt.args) := Ints.below bx.2 (bAlloc (bRefl w4) _)
              obtain ⟨us, hmt⟩ := HA.out.mt
              have HMT : Hid (MT (fun b => b < w.heap.size) w.heap.size (w4.alloc (.cells #[.int .i64 x.m.id.f, .int .i64 x.m.id.n, .int .i64 x.m.id.c, .int .i64 x.m.nt.to, .int .i64 x.m.nt.hd, .slice Va x.m.nt.args.length na] 29)) (.slice A4 n3 c4) I us) := hmt
              clear hmt ak
              have hso2 : srt (putP N x.m) = true := put_srt HP.out.so hf
              go_wp2_with (at_builtin; refine appM rfl _ _ rfl HMT.out rfl rfl (one_msgs (heap_new2 (by rfl)) HX.out) (fun b hb => ⟨hb, fun e => by have := (own_lt HMT.out.own e).1; omega⟩) (by have := HLI.out; simp; omega) HA.out.low.size ?_; rintro A6 c6 W5 hma; have ak : (AK w (.slice A5 (n3 + 1) c5) (.slice A6 (n3 + 1) c6) (putP N x.m) (I ++ [x.m]) W5) := (by have := HA.out.grow hma; rw [HLI.out] at this; exact this); clear hma)
              refine (sorted_any _ _ (putP N x.m) ak.rn.any2).mono ?_
              rintro e ws ⟨rfl, hb⟩
              replace ak := ak.below hb
              clear hb
              have HN : Hid (AP (putP N x.m) (I ++ [x.m]) (i + 1) ∧ AK w (.slice A5 (n3 + 1) c5) (.slice A6 (n3 + 1) c6) (putP N x.m) (I ++ [x.m]) ws) := ⟨HP.out.put hf HM6.out, ak⟩
              clear ak
              go_wp2
              go_roundg (l.length - (i + 1))
              case measure => omega
              case rel => exact ⟨i + 1, (putP N x.m), (I ++ [x.m]), _, _, _, _, _, rfl, by omega, by go_num, rfl, rfl, by show _ = _; rw [put_len, HN3.out], HN.out⟩
            · obtain ⟨j, y, hj, -, -⟩ := fnd_some hf
              obtain ⟨kI, yI, hkI, -, -⟩ := fnd_some (fun e => hf ((HP.out.fnd x.m.id).1 e))
              have hk0 : (0 : Int) ≤ kI := by omega
              clear hf
              obtain ⟨x0, x1, x2, x3, x4, x5⟩ := blk6 bx.1
              have hzB := bx.lt
              go_wp2_with fail
              refine (put_there _ _ _ N x.m ak.rn.any2 ⟨_, rfl, bx.2.any⟩ j hj).mono ?_
              rintro e w3 ⟨rfl, hb⟩
              replace ak := ak.below hb
              replace hu := hu.below hb
              clear hb
              go_wp2_with fail
              refine (same_any _ _ _ N N ak.rn.any2 hu).mono ?_
              rintro e w4 ⟨rfl, hb⟩
              replace ak := ak.below hb
              clear hb
              go_wp2_with fail
              refine (sorted_any _ _ N ak.rn.any2).mono ?_
              rintro e ws ⟨rfl, hb⟩
              replace ak := ak.below hb
              clear hb
              have HN : Hid (AP N I (i + 1) ∧ AK w (.slice A3 n3 c3) (.slice A4 n3 c4) N I ws) := ⟨HP.out.more (by omega), ak⟩
              clear ak
              go_wp2
              go_roundg (l.length - (i + 1))
              case measure => omega
              case rel => exact ⟨i + 1, N, I, _, _, _, _, _, rfl, by omega, by go_num, rfl, rfl, HN3.out, HN.out⟩
          · have hk1 := beq_no hk
            by_cases hf : fnd N x.m.id = -1
            · have hfI := (HP.out.fnd x.m.id).2 hf
              obtain ⟨x0, x1, x2, x3, x4, x5⟩ := blk6 bx.1
              have hzB := bx.lt
              go_wp2_with fail
              refine (take_none _ _ N x.m.id ak.rn.any2 hf).mono ?_
              rintro e w3 ⟨rfl, hb⟩
              replace ak := ak.below hb
              replace hu := hu.below hb
              clear hb
              have hb := bAlloc (bRefl w3) (.cells #[.int .i64 msg0.id.f, .int .i64 msg0.id.n, .int .i64 msg0.id.c, .int .i64 msg0.nt.to, .int .i64 msg0.nt.hd, .slice none 0 0] 29)
              replace ak := ak.below hb
              replace hu := hu.below hb
              clear hb
              go_wp2_with fail
              refine (same_any _ _ _ N N ak.rn.any2 hu).mono ?_
              rintro e w4 ⟨rfl, hb⟩
              replace ak := ak.below hb
              clear hb
              go_wp2_with fail
              refine (sorted_any _ _ N ak.rn.any2).mono ?_
              rintro e ws ⟨rfl, hb⟩
              replace ak := ak.below hb
              clear hb
              have HN : Hid (AP N I (i + 1) ∧ AK w (.slice A3 n3 c3) (.slice A4 n3 c4) N I ws) := ⟨HP.out.more (by omega), ak⟩
              clear ak
              go_wp2
              go_roundg (l.length - (i + 1))
              case measure => omega
              case rel => exact ⟨i + 1, N, I, _, _, _, _, _, rfl, by omega, by go_num, rfl, rfl, HN3.out, HN.out⟩
            · obtain ⟨j, y, hj, hjy, ey⟩ := fnd_some hf
              obtain ⟨kI, yI, hkI, hkIy, eyI⟩ := fnd_some (fun e => hf ((HP.out.fnd x.m.id).1 e))
              have e1 : y = yI := HP.out.eq hjy hkIy (ey.trans eyI.symm)
              subst e1
              have hk0 : (0 : Int) ≤ kI := by omega
              clear hf ey eyI
              obtain ⟨x0, x1, x2, x3, x4, x5⟩ := blk6 bx.1
              have hzB := bx.lt
              go_wp2_with fail
              refine (take_there _ _ N x.m.id ak.rn.any2 j y hj hjy (HP.out.few HI40.out)).mono ?_
              rintro e wt ⟨u3, a8, rfl, hu3, hI8, hb⟩
              obtain ⟨A5, c5, rfl, _⟩ := hu3.form
              obtain ⟨A8, c8, rfl, _⟩ := hI8.form
              obtain ⟨q, hq⟩ : ∃ q, (cutP N j).length = q := ⟨_, rfl⟩
              have hqn : q + 1 = n3 := by rw [← hq, ← HN3.out]; exact cut_len hjy
              rw [hq] at hu3 ⊢
              have hr3 := ak.rn.any2.below hb
              have hbA := bAlloc (bRefl wt) (.cells #[.int .i64 y.id.f, .int .i64 y.id.n, .int .i64 y.id.c, .int .i64 y.nt.to, .int .i64 y.nt.hd, .slice A8 y.nt.args.length c8] 29)
              have bt : Bm anyB wt.heap.size y (.slice A8 y.nt.args.length c8) (wt.alloc (.cells #[.int .i64 y.id.f, .int .i64 y.id.n, .int .i64 y.id.c, .int .i64 y.nt.to, .int .i64 y.nt.hd, .slice A8 y.nt.args.length c8] 29)) := ⟨heap_new _ _, Ints.below hI8.any hbA⟩
              replace ak := (ak.new hb hu3).below hbA
              replace hr3 := hr3.below hbA
              replace hu := (hu.below hb).below hbA
              clear hb hu3 hI8 hbA bx x0 x1 x2 x3 x4 x5 hzB
              go_wp2_with fail
              refine (same_any _ _ _ N N hr3 hu).mono ?_
              rintro e w4 ⟨rfl, hb⟩
              replace ak := ak.below hb
              replace bt := bt.below hb
              clear hb hr3 hu
              have hkIl : kI < I.length := (List.getElem?_eq_some_iff.1 hkIy).1
              obtain ⟨b4, o4, y', v4, rfl, hy', hz4, q0, q1, q2, q3, q4, q5, hv4⟩ := (ak.ri (by have := HLI.out; omega)).cell (bRefl w4) hkIl
              rw [hkIy] at hy'
              cases hy'
              obtain ⟨V4, n4, rfl, _⟩ := hv4.form
              have HCAP : Hid (I.length ≤ c4) := (ak.ri (by have := HLI.out; omega)).cap
              obtain ⟨p0, p1, p2, p3, p4, p5⟩ := blk6 bt.1
              have hzT := bt.lt
              have g1 : (kI : Int) < n3 := by have := HLI.out; omega
              have g2 : (kI : Int) ≤ n3 := by omega
              have g3 : (kI : Int) ≤ c4 := by have := HCAP.out; omega
              have g4 : (kI : Int) + 1 ≤ n3 := by omega
              have g5 : (0 : Int) ≤ (kI : Int) + 1 := by omega
              have g6 : ((kI : Int) + 1).toNat = kI + 1 := by omega
              have g7 : IntKind.i64.wrap ((kI : Int) + 1) = (kI : Int) + 1 := by rw [IntKind.wrap_i64]; omega
              have zz3 := eqB_self [y]
              have hbb : Below w4.heap.size w4 w4 := bRefl w4
              have BT2 : Hid (Ints anyB w4 (.slice A8 y.nt.args.length c8) y.nt.args) := bt.2
              have HV4 : Hid (Ints (fun b => b < w.heap.size) w4 (.slice V4 y.nt.args.length n4) y.nt.args) := hv4
              have HAK : Hid (AK w (.slice A5 q c5) (.slice (some ⟨b4, o4, none⟩) n3 c4) (cutP N j) I w4) := ak
              have HQ : Hid (q + 1 = n3 ∧ (cutP N j).length = q) := ⟨hqn, hq⟩
              clear ak bt hv4 hqn hq
              go_wp2_with fail
              go_region_held3 (fun w' => w'.cell? ⟨wt.heap.size, 0, none⟩ = some (.int .i64 y.id.f) ∧ w'.cell? ⟨wt.heap.size, 1, none⟩ = some (.int .i64 y.id.n) ∧ w'.cell? ⟨wt.heap.size, 2, none⟩ = some (.int .i64 y.id.c) ∧ w'.cell? ⟨wt.heap.size, 3, none⟩ = some (.int .i64 y.nt.to) ∧ w'.cell? ⟨wt.heap.size, 4, none⟩ = some (.int .i64 y.nt.hd) ∧ w'.cell? ⟨wt.heap.size, 5, none⟩ = some (.slice A8 y.nt.args.length c8) ∧ w'.cell? ⟨b4, o4 + kI * 6, none⟩ = some (.int .i64 y.id.f) ∧ w'.cell? ⟨b4, o4 + kI * 6 + 1, none⟩ = some (.int .i64 y.id.n) ∧ w'.cell? ⟨b4, o4 + kI * 6 + 2, none⟩ = some (.int .i64 y.id.c) ∧ w'.cell? ⟨b4, o4 + kI * 6 + 3, none⟩ = some (.int .i64 y.nt.to) ∧ w'.cell? ⟨b4, o4 + kI * 6 + 4, none⟩ = some (.int .i64 y.nt.hd) ∧ w'.cell? ⟨b4, o4 + kI * 6 + 5, none⟩ = some (.slice V4 y.nt.args.length n4)) (go_keep)
                (first | (go_at_call 12; refine (rsame_any _ _ _ [y] [y] ((one_msgs (by first | exact heap_new2 (by simp) | exact ((bAlloc (bRefl _) _).block _ (by first | (simp; done) | (simp; omega))).trans (heap_new2 (by simp))) (BT2.out.below (by first | exact hbb | exact hbb.drew | exact bAlloc hbb _ | exact (bAlloc hbb _).drew | exact bAlloc (bAlloc hbb _) _ | exact (bAlloc (bAlloc hbb _) _).drew | exact bAlloc (bAlloc hbb _).drew _ | exact bAlloc hbb.drew _ | exact bAlloc (bAlloc hbb.drew _) _))).any2) ((one_msgs (by first | exact heap_new2 (by simp) | exact ((bAlloc (bRefl _) _).block _ (by first | (simp; done) | (simp; omega))).trans (heap_new2 (by simp))) (HV4.out.below (by first | exact hbb | exact hbb.drew | exact bAlloc hbb _ | exact (bAlloc hbb _).drew | exact bAlloc (bAlloc hbb _) _ | exact (bAlloc (bAlloc hbb _) _).drew | exact bAlloc (bAlloc hbb _).drew _ | exact bAlloc hbb.drew _ | exact bAlloc (bAlloc hbb.drew _) _))).any2)).mono ?_; rintro e w6 ⟨rfl, hb6⟩; have hbw := midB hb6 (by first | exact hbb | exact hbb.drew | exact bAlloc hbb _ | exact (bAlloc hbb _).drew | exact bAlloc (bAlloc hbb _) _ | exact (bAlloc (bAlloc hbb _) _).drew | exact bAlloc (bAlloc hbb _).drew _ | exact bAlloc hbb.drew _ | exact bAlloc (bAlloc hbb.drew _) _); replace hbb := bTrans hbw hb6; clear hbw; have y0 := (hbb.cell (p := ⟨wt.heap.size, 0, none⟩) hzT).trans p0; have y1 := (hbb.cell (p := ⟨wt.heap.size, 1, none⟩) hzT).trans p1; have y2 := (hbb.cell (p := ⟨wt.heap.size, 2, none⟩) hzT).trans p2; have y3 := (hbb.cell (p := ⟨wt.heap.size, 3, none⟩) hzT).trans p3; have y4 := (hbb.cell (p := ⟨wt.heap.size, 4, none⟩) hzT).trans p4; have y5 := (hbb.cell (p := ⟨wt.heap.size, 5, none⟩) hzT).trans p5; have z0 := (hbb.cell (p := ⟨b4, o4 + kI * 6, none⟩) hz4).trans q0; have z1 := (hbb.cell (p := ⟨b4, o4 + kI * 6 + 1, none⟩) hz4).trans q1; have z2 := (hbb.cell (p := ⟨b4, o4 + kI * 6 + 2, none⟩) hz4).trans q2; have z3 := (hbb.cell (p := ⟨b4, o4 + kI * 6 + 3, none⟩) hz4).trans q3; have z4 := (hbb.cell (p := ⟨b4, o4 + kI * 6 + 4, none⟩) hz4).trans q4; have z5 := (hbb.cell (p := ⟨b4, o4 + kI * 6 + 5, none⟩) hz4).trans q5))
              all_goals
                have HAK6 : Hid (AK w (.slice A5 q c5) (.slice (some ⟨b4, o4, none⟩) n3 c4) (cutP N j) I w6) := HAK.out.below hbb
                clear hbb hb6 p0 p1 p2 p3 p4 p5 q0 q1 q2 q3 q4 q5 y0 y1 y2 y3 y4 y5 z0 z1 z2 z3 z4 z5 hzT hz4
                obtain ⟨a, ha⟩ : ∃ a, a = I.take kI := ⟨_, rfl⟩
                obtain ⟨z, hz0⟩ : ∃ z, z = I.drop (kI + 1) := ⟨_, rfl⟩
                have HPC : Hid (cutP I kI = a ++ z) := by show _ = _; unfold cutP; rw [ha, hz0]
                have HRI := HAK6.out.ri (by have := HLI.out; omega)
                have HTA : Hid (Msgs anyB (fun b => b < w.heap.size) w6 (.slice (some ⟨b4, o4, none⟩) kI c4) a) := by rw [ha]; exact HRI.takeS (by omega)
                have HTZ : Hid (Msgs anyB (fun b => b < w.heap.size) w6 (.slice (subA (some ⟨b4, o4, none⟩) c4 (kI + 1)) (n3 - (kI + 1)) (c4 - (kI + 1))) z) := by
                  have := HRI.dropS (k := kI + 1) (by omega)
                  rw [HLI.out] at this
                  rw [hz0]; exact this
                have HLA : Hid (a.length ≤ 900 ∧ z.length ≤ 900) := by rw [ha, hz0]; exact ⟨by have := HLI.out; simp; omega, by have := HLI.out; simp; omega⟩
                have eaz : (a.length : Int) + z.length = q := by rw [ha, hz0]; have := HLI.out; have := HQ.out.1; simp; omega
                have EAZ : Hid (a.length + z.length = q) := by show _ = _; omega
                have HWX : Hid (w.heap.size ≤ w6.heap.size) := HAK6.out.low.size
                have hbb : Below w6.heap.size w6 w6 := bRefl w6
                clear ha hz0 HRI
                go_wp2_with fail
                go_region_held3 (fun _ => True) (go_keep)
                  (first
                    | (refine step_appM (l := []) rfl _ _ rfl (MT.empty (P := fun b => b < w.heap.size) (base := w6.heap.size) (by exact heap_new2 (by simp)) (by first | exact Nat.le_refl _ | (simp; done) | (simp; omega))) rfl rfl (HTA.out.below (by first | exact hbb | exact hbb.drew | exact bAlloc hbb _ | exact (bAlloc hbb _).drew | exact bAlloc (bAlloc hbb _) _ | exact (bAlloc (bAlloc hbb _) _).drew | exact bAlloc (bAlloc hbb _).drew _ | exact bAlloc hbb.drew _ | exact bAlloc (bAlloc hbb.drew _) _)) (fun b hb => ⟨hb, ne_own (N := w.heap.size) (by have := HWX.out; first | omega | (simp; omega)) hb⟩) (by have := HLA.out.1; simp; omega) (by first | (simp; done) | (simp; omega)) ?_; rintro A9 c9 W1 ⟨⟨us1, hm1⟩, hg1, -⟩; have hb1 := MT.low (MT.empty (P := fun b => b < w.heap.size) (base := w6.heap.size) (by exact heap_new2 (by simp)) (by first | exact Nat.le_refl _ | (simp; done) | (simp; omega))) (mid hg1 (by first | exact hbb | exact hbb.drew | exact bAlloc hbb _ | exact (bAlloc hbb _).drew | exact bAlloc (bAlloc hbb _) _ | exact (bAlloc (bAlloc hbb _) _).drew | exact bAlloc (bAlloc hbb _).drew _ | exact bAlloc hbb.drew _ | exact bAlloc (bAlloc hbb.drew _) _)) hg1; replace hbb := hb1; simp only [List.nil_append, List.length_nil, Nat.zero_add] at hm1 hg1 ⊢)
                    | (refine step_appM (l := a) (ms := z) rfl _ _ rfl hm1 rfl rfl (HTZ.out.below hbb) (fun b hb => ⟨hb, fun e => by have := (own_lt hm1.own e).1; have := HWX.out; omega⟩) (by have := HLA.out; omega) (by have := hbb.size; omega) ?_; rintro A6 c6 W3 ⟨⟨us3, hm3⟩, hg3, -⟩; have hb3 := MT.low hm1 (mid hg3 hbb) hg3; replace hbb := hb3))
                all_goals
                  have ak : AK w (.slice A5 q c5) (.slice A6 (a.length + z.length) c6) (cutP N j) (cutP I kI) W3 := by rw [HPC.out]; exact HAK6.out.anew hbb hm3
                  have hso3 : srt (cutP N j) = true := cut_srt HP.out.so
                  rw [EAZ.out] at ak ⊢
                  clear hbb hm3 hm1 hg1 hg3 hb1 hb3
                  go_wp2_with fail
                  refine (sorted_any _ _ (cutP N j) ak.rn.any2).mono ?_
                  rintro e ws ⟨rfl, hb⟩
                  replace ak := ak.below hb
                  clear hb
                  have HN : Hid (AP (cutP N j) (cutP I kI) (i + 1) ∧ AK w (.slice A5 q c5) (.slice A6 q c6) (cutP N j) (cutP I kI) ws) := ⟨(HP.out.cut hjy hkIy).more (by omega), ak⟩
                  clear ak
                  go_wp2
                  go_roundg (l.length - (i + 1))
                  case measure => omega
                  case rel => exact ⟨i + 1, cutP N j, cutP I kI, _, _, _, _, _, rfl, by omega, by go_num, rfl, rfl, HQ.out.2, HN.out⟩
        · have h6' : ((6 : Int) < x.m.nt.args.length) := by omega
          have HLO := ak.low
          go_wp2_with (go_at_call 7; refine (awake_any _).mono ?_; rintro e w1 ⟨rfl, hb1⟩)
          go_ret
          exact ⟨rfl, bTrans HLO hb1⟩
      · have HAK0 : Hid (AK w (.slice A3 n3 c3) (.slice A4 n3 c4) N I wr) := ak
        clear ak
        go_wp2
        clear hlt
        go_loopg [14] n3 (fun g i14 wr => ∃ i : Nat, g = n3 - i ∧ i ≤ n3 ∧ i14 = .int .i64 i ∧ Hid (AK w (.slice A3 n3 c3) (.slice A4 n3 c4) N I wr))
        case atStart => exact ⟨0, rfl, by omega, rfl, HAK0.out⟩
        case round =>
          clear HAK0
          obtain ⟨i, rfl, hin, rfl, HAK⟩ := hrel
          by_cases hlt : i < n3
          · obtain ⟨b4, o4, y, v4, rfl, hy, hz4, q0, q1, q2, q3, q4, q5, hv4⟩ := (HAK.out.ri (by have := HLI.out; omega)).cell (bRefl wr) (k := i) (by have := HLI.out; omega)
            obtain ⟨V4, n4, rfl, _⟩ := hv4.form
            have HV4 : Hid (Ints (fun b => b < w.heap.size) wr (.slice V4 y.nt.args.length n4) y.nt.args) := hv4
            have hyN : y ∈ N := HP.out.pm.mem_iff.2 (List.mem_of_getElem? hy)
            obtain ⟨j, y', hj, hjy, ej⟩ := fnd_mem hyN
            have e1 : y' = y := HP.out.eq hjy hy ej
            subst e1
            have hjl : j < N.length := (List.getElem?_eq_some_iff.1 hjy).1
            have g1 : (0 : Int) ≤ j := by omega
            have g2 : (j : Int) < n3 := by have := HN3.out; omega
            have g3 : ¬ ((n3 : Int) ≤ j) := by omega
            have g4 : ¬ ((j : Int) < 0) := by omega
            have g5 : decide (n3 ≤ j) = false := decide_eq_false (by omega)
            have g7 : ¬ (n3 ≤ j) := by omega
            have g6 : decide ((j : Int) < 0) = false := decide_eq_false g4
            have HR : Hid (Msgs anyB anyB wr (.slice A3 n3 c3) N) := HAK.out.rn.any2
            clear hy hyN hv4 ej
            go_wp2_with fail
            refine (find_any _ _ N y'.id HR.out).mono ?_
            rintro e w1 ⟨rfl, hb⟩
            obtain ⟨b5, o5, y2, v5, rfl, hy2, hz5, p0, p1, p2, p3, p4, p5, hv5⟩ := (HR.out.below hb).cell (bRefl w1) hjl
            rw [hjy] at hy2
            cases hy2
            obtain ⟨V5, n5, rfl, _⟩ := hv5.form
            replace q0 := (hb.cell (p := ⟨b4, o4 + i * 6, none⟩) hz4).trans q0
            replace q1 := (hb.cell (p := ⟨b4, o4 + i * 6 + 1, none⟩) hz4).trans q1
            replace q2 := (hb.cell (p := ⟨b4, o4 + i * 6 + 2, none⟩) hz4).trans q2
            replace q3 := (hb.cell (p := ⟨b4, o4 + i * 6 + 3, none⟩) hz4).trans q3
            replace q4 := (hb.cell (p := ⟨b4, o4 + i * 6 + 4, none⟩) hz4).trans q4
            replace q5 := (hb.cell (p := ⟨b4, o4 + i * 6 + 5, none⟩) hz4).trans q5
            replace hz4 := Nat.lt_of_lt_of_le hz4 hb.size
            have HV4' : Hid (Ints (fun b => b < w.heap.size) w1 (.slice V4 y'.nt.args.length n4) y'.nt.args) := HV4.out.below hb
            have HV5 : Hid (Ints anyB w1 (.slice V5 y'.nt.args.length n5) y'.nt.args) := hv5
            have HAK1 : Hid (AK w (.slice (some ⟨b5, o5, none⟩) n3 c3) (.slice (some ⟨b4, o4, none⟩) n3 c4) N I w1) := HAK.out.below hb
            have zz3 := eqB_self [y']
            have hbb : Below w1.heap.size w1 w1 := bRefl w1
            clear hb hv5
            go_wp2_with fail
            go_region_held3 (fun w' => w'.cell? ⟨b5, o5 + j * 6, none⟩ = some (.int .i64 y'.id.f) ∧ w'.cell? ⟨b5, o5 + j * 6 + 1, none⟩ = some (.int .i64 y'.id.n) ∧ w'.cell? ⟨b5, o5 + j * 6 + 2, none⟩ = some (.int .i64 y'.id.c) ∧ w'.cell? ⟨b5, o5 + j * 6 + 3, none⟩ = some (.int .i64 y'.nt.to) ∧ w'.cell? ⟨b5, o5 + j * 6 + 4, none⟩ = some (.int .i64 y'.nt.hd) ∧ w'.cell? ⟨b5, o5 + j * 6 + 5, none⟩ = some (.slice V5 y'.nt.args.length n5) ∧ w'.cell? ⟨b4, o4 + i * 6, none⟩ = some (.int .i64 y'.id.f) ∧ w'.cell? ⟨b4, o4 + i * 6 + 1, none⟩ = some (.int .i64 y'.id.n) ∧ w'.cell? ⟨b4, o4 + i * 6 + 2, none⟩ = some (.int .i64 y'.id.c) ∧ w'.cell? ⟨b4, o4 + i * 6 + 3, none⟩ = some (.int .i64 y'.nt.to) ∧ w'.cell? ⟨b4, o4 + i * 6 + 4, none⟩ = some (.int .i64 y'.nt.hd) ∧ w'.cell? ⟨b4, o4 + i * 6 + 5, none⟩ = some (.slice V4 y'.nt.args.length n4)) (go_keep)
              (first | (go_at_call 12; refine (rsame_any _ _ _ [y'] [y'] ((one_msgs (by first | exact heap_new2 (by simp) | exact ((bAlloc (bRefl _) _).block _ (by first | (simp; done) | (simp; omega))).trans (heap_new2 (by simp))) (HV5.out.below (by first | exact hbb | exact hbb.drew | exact bAlloc hbb _ | exact (bAlloc hbb _).drew | exact bAlloc (bAlloc hbb _) _ | exact (bAlloc (bAlloc hbb _) _).drew | exact bAlloc (bAlloc hbb _).drew _ | exact bAlloc hbb.drew _ | exact bAlloc (bAlloc hbb.drew _) _))).any2) ((one_msgs (by first | exact heap_new2 (by simp) | exact ((bAlloc (bRefl _) _).block _ (by first | (simp; done) | (simp; omega))).trans (heap_new2 (by simp))) (HV4'.out.below (by first | exact hbb | exact hbb.drew | exact bAlloc hbb _ | exact (bAlloc hbb _).drew | exact bAlloc (bAlloc hbb _) _ | exact (bAlloc (bAlloc hbb _) _).drew | exact bAlloc (bAlloc hbb _).drew _ | exact bAlloc hbb.drew _ | exact bAlloc (bAlloc hbb.drew _) _))).any2)).mono ?_; rintro e w6 ⟨rfl, hb6⟩; have hbw := midB hb6 (by first | exact hbb | exact hbb.drew | exact bAlloc hbb _ | exact (bAlloc hbb _).drew | exact bAlloc (bAlloc hbb _) _ | exact (bAlloc (bAlloc hbb _) _).drew | exact bAlloc (bAlloc hbb _).drew _ | exact bAlloc hbb.drew _ | exact bAlloc (bAlloc hbb.drew _) _); replace hbb := bTrans hbw hb6; clear hbw; have y0 := (hbb.cell (p := ⟨b5, o5 + j * 6, none⟩) hz5).trans p0; have y1 := (hbb.cell (p := ⟨b5, o5 + j * 6 + 1, none⟩) hz5).trans p1; have y2 := (hbb.cell (p := ⟨b5, o5 + j * 6 + 2, none⟩) hz5).trans p2; have y3 := (hbb.cell (p := ⟨b5, o5 + j * 6 + 3, none⟩) hz5).trans p3; have y4 := (hbb.cell (p := ⟨b5, o5 + j * 6 + 4, none⟩) hz5).trans p4; have y5 := (hbb.cell (p := ⟨b5, o5 + j * 6 + 5, none⟩) hz5).trans p5; have z0 := (hbb.cell (p := ⟨b4, o4 + i * 6, none⟩) hz4).trans q0; have z1 := (hbb.cell (p := ⟨b4, o4 + i * 6 + 1, none⟩) hz4).trans q1; have z2 := (hbb.cell (p := ⟨b4, o4 + i * 6 + 2, none⟩) hz4).trans q2; have z3 := (hbb.cell (p := ⟨b4, o4 + i * 6 + 3, none⟩) hz4).trans q3; have z4 := (hbb.cell (p := ⟨b4, o4 + i * 6 + 4, none⟩) hz4).trans q4; have z5 := (hbb.cell (p := ⟨b4, o4 + i * 6 + 5, none⟩) hz4).trans q5))
            all_goals
              have HAK6 := HAK1.out.below hbb
              have HA6 : Hid (AK w (.slice (some ⟨b5, o5, none⟩) n3 c3) (.slice (some ⟨b4, o4, none⟩) n3 c4) N I w6) := HAK6
              clear hbb hb6 HAK6
              go_wp2
              go_roundg (n3 - (i + 1))
              case measure => omega
              case rel => exact ⟨i + 1, rfl, by omega, by go_num, HA6.out⟩
          · have HLO := HAK.out.low
            go_wp2_with (go_at_call 7; refine (awake_any _).mono ?_; rintro e w1 ⟨rfl, hb1⟩)
            go_ret
            exact ⟨rfl, bTrans HLO hb1⟩
end Go.Proofs.Ytjdkbgeehjihfaa
