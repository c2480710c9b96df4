/-
  The third law of chapter 5, where both codes can be written. Conditions: numbers of 64 bits; the variables are there.
-/
import Derived.Test.YtkfndedphpehiaaDoorLLin
namespace Go.Proofs.YtkfndedphpehiaaDoor
open Go.RowKit
attribute [local go_sem ↓] Go.wp_at_zero Go.wp_at_succ

set_option maxHeartbeats 1000000 in
set_option maxRecDepth 100000 in
theorem lines_nn (ok ok2 : Nat → Prop) (w : World) (va vb : Value) (a b : List PIns) (hra : ∀ i ∈ a, RgI i) (hrb : ∀ i ∈ b, RgI i) (h1 : Code ok w va a) (h2 : Code ok2 w vb b) (he : Env w) (hla : a.length ≤ 40) (hlb : b.length ≤ 40)
    (t1 : txt a ≠ []) (t2 : txt b ≠ []) :
    Calls Tryd.prog 5 #[va, vb] w fun e w' => e = .returned (.bool true) ∧ Below w.heap.size w w' := by
  obtain ⟨A1, c1, rfl, hl1⟩ := h1.form
  obtain ⟨A2, c2, rfl, hl2⟩ := h2.form
  have HE : Hid (Env w) := he
  have HR : Hid ((∀ i ∈ a, RgI i) ∧ ∀ i ∈ b, RgI i) := ⟨hra, hrb⟩
  have HL : Hid (a.length ≤ 40 ∧ b.length ≤ 40) := ⟨hla, hlb⟩
  have HRab : Hid (∀ i ∈ a ++ b, RgI i) := fun i hi => (List.mem_append.1 hi).elim (hra i) (hrb i)
  have HTa : Hid (txtO a = some (txt a)) := txtO_is (Or.inl t1)
  have HTb : Hid (txtO b = some (txt b)) := txtO_is (Or.inl t2)
  have HZ : Hid (txt (a ++ b) = txt a ++ txt b) := txt_app HTa.out HTb.out
  have ezz : bs (txt a) ++ bs (txt b) = bs (txt a ++ txt b) := bs_app _ _
  have h3 := emp_no t1
  have h4 := emp_no t2
  clear t1 t2
  clear he hra hrb
  go_enter Tryd.func5, Tryd.ntmps5
  go_wp2_with fail
  refine (text_any ok _ _ a (by have := HL.out; omega) HR.out.1 h1 HE.out).mono ?_
  rintro e w1 ⟨rfl, hb1⟩
  go_wp2_with fail
  refine (text_any ok2 _ _ b (by have := HL.out; omega) HR.out.2 (h2.below hb1) (HE.out.below hb1)).mono ?_
  rintro e w2 ⟨rfl, hb2⟩
  have hlo2 : Below w.heap.size w w2 := bTrans hb1 hb2
  go_wp2_with (first
    | (at_builtin; refine appS rfl _ _ rfl a (CO.nil2 w2) rfl rfl (h1.below (bTrans hlo2 (bAlloc (bRefl _) _))) (by have := HL.out; show _ + _ ≤ 1000000; first | (simp; done) | (simp; omega) | omega) ?_; intro A3 cap3 w3 hco3; replace hco3 : CO w2 (.slice A3 a.length cap3) a w3 := (by simpa using hco3))
    | (at_builtin; refine appS rfl _ _ rfl b hco3 rfl rfl (h2.below (bTrans hlo2 hco3.low)) (by have := HL.out; show _ + _ ≤ 1000000; first | (simp; done) | (simp; omega) | omega) ?_; intro A4 cap4 w4 hco4))
  have hlo4 : Below w.heap.size w w4 := bTrans hlo2 hco4.low
  have T := text_any anyB w4 _ (a ++ b) (by have := HL.out; rw [List.length_append]; omega) HRab.out (by have := hco4.cd (by have := HL.out; first | (simp; done) | (simp; omega)); simpa using this) (HE.out.below hlo4)
  rw [HZ.out] at T
  refine T.mono ?_
  rintro e w5 ⟨rfl, hb5⟩
  have hlo5 : Below w.heap.size w w5 := bTrans hlo4 hb5
  clear T
  go_wp2_with fail
  go_loopg [9, 10, 11] a.length (fun g i9 i10 i11 wr => ∃ k : Nat, g = a.length - k ∧ k ≤ a.length ∧ i9 = .int .i64 k ∧ Hid (Below w.heap.size w wr))
  case atStart => exact ⟨0, rfl, by omega, rfl, hlo5⟩
  case round =>
    obtain ⟨k, rfl, hk, rfl, hlo⟩ := hrel
    by_cases hlt : k < a.length
    · obtain ⟨b1, o1, x, rfl, hx, q1, q2⟩ := h1.cell hlo.out hlt
      have hxr : Hid (RgI x) := HR.out.1 x (List.mem_of_getElem? hx)
      have hxl := line_of HTa.out hx
      clear hx
      have hzb : b1 < wr.heap.size := World.block_lt_of_cell? _ _ q1
      have n1 : (bs (nmO x.op)).size ≤ 5 := by rw [bs_size]; exact nmO_len _
      have n2 : (bs (Lib.itoa x.a)).size ≤ 21 := by rw [bs_size]; exact Lib.itoa_length_le _ hxr.out.2.1 hxr.out.2.2
      have y1 : ¬ 9223372036854775807 < (bs (nmO x.op)).size + 1 := by omega
      have y2 : ¬ 9223372036854775807 < (bs (nmO x.op)).size + 1 + (bs (Lib.itoa x.a)).size := by omega
      have hcat := line_b (a := nmO x.op) (b := Lib.itoa x.a) rfl
      rcases line_two hxl with ⟨o0, l0⟩ | ⟨o0, l0, l1⟩
      · have e1 : (opd x.op == 0) = true := by simp [o0]
        have e2 := str_yes l0
        clear o0 l0 hxl
        go_wp2_with fail
        refine (line_any _ x hxr.out.2 (HE.out.below hlo.out)).mono ?_
        rintro e w7 ⟨rfl, hb7⟩
        have q17 := (hb7.cell (p := ⟨b1, o1 + k * 2, none⟩) hzb).trans q1
        have q27 := (hb7.cell (p := ⟨b1, o1 + k * 2 + 1, none⟩) hzb).trans q2
        have hz7 : b1 < w7.heap.size := Nat.lt_of_lt_of_le hzb hb7.size
        go_wp2_with fail
        refine (rnameB _ _).mono ?_
        rintro e w8 ⟨rfl, hb8⟩
        have q18 := (hb8.cell (p := ⟨b1, o1 + k * 2, none⟩) hz7).trans q17
        have q28 := (hb8.cell (p := ⟨b1, o1 + k * 2 + 1, none⟩) hz7).trans q27
        have hz8 : b1 < w8.heap.size := Nat.lt_of_lt_of_le hz7 hb8.size
        have hlo8 : Hid (Below w.heap.size w w8) := bTrans (bTrans hlo.out hb7) hb8
        go_wp2_with fail
        refine (roper_any _ _).mono ?_
        rintro e w9 ⟨rfl, rfl⟩
        go_wp2
        go_roundg (a.length - (k + 1))
        case measure => omega
        case rel => exact ⟨k + 1, rfl, by omega, by go_num, hlo8⟩
      · have e1 : (opd x.op == 0) = false := by simp [o0]
        have e2 := str_no l1
        have e3 := str_yes l0
        clear o0 l0 l1 hxl
        go_wp2_with fail
        refine (line_any _ x hxr.out.2 (HE.out.below hlo.out)).mono ?_
        rintro e w7 ⟨rfl, hb7⟩
        have q17 := (hb7.cell (p := ⟨b1, o1 + k * 2, none⟩) hzb).trans q1
        have q27 := (hb7.cell (p := ⟨b1, o1 + k * 2 + 1, none⟩) hzb).trans q2
        have hz7 : b1 < w7.heap.size := Nat.lt_of_lt_of_le hzb hb7.size
        go_wp2_with fail
        refine (rnameB _ _).mono ?_
        rintro e w8 ⟨rfl, hb8⟩
        have q18 := (hb8.cell (p := ⟨b1, o1 + k * 2, none⟩) hz7).trans q17
        have q28 := (hb8.cell (p := ⟨b1, o1 + k * 2 + 1, none⟩) hz7).trans q27
        have hz8 : b1 < w8.heap.size := Nat.lt_of_lt_of_le hz7 hb8.size
        go_wp2_with fail
        refine (decimal_any _ _ hxr.out.2).mono ?_
        rintro e w9 ⟨rfl, hb9⟩
        have q19 := (hb9.cell (p := ⟨b1, o1 + k * 2, none⟩) hz8).trans q18
        have hz9 : b1 < w9.heap.size := Nat.lt_of_lt_of_le hz8 hb9.size
        have hlo9 : Hid (Below w.heap.size w w9) := bTrans (bTrans (bTrans hlo.out hb7) hb8) hb9
        go_wp2_with fail
        refine (roper_any _ _).mono ?_
        rintro e w10 ⟨rfl, rfl⟩
        go_wp2
        go_roundg (a.length - (k + 1))
        case measure => omega
        case rel => exact ⟨k + 1, rfl, by omega, by go_num, hlo9⟩
    · have ee := str_yes (rfl : txt a ++ txt b = txt a ++ txt b)
      have hs1 : (bs (txt a)).size ≤ 1120 := by rw [bs_size]; have := txtO_le HR.out.1 HTa.out; have := HL.out; omega
      have hs2 : (bs (txt b)).size ≤ 1120 := by rw [bs_size]; have := txtO_le HR.out.2 HTb.out; have := HL.out; omega
      have hs3 : ¬ 9223372036854775807 < (bs (txt a)).size + (bs (txt b)).size := by omega
      go_wp2_with fail
      refine (awake_any _ (HE.out.below hlo.out)).mono ?_
      rintro e w7 ⟨rfl, hb7⟩
      go_wp2
      go_ret
      exact ⟨rfl, bTrans hlo.out hb7⟩

set_option maxHeartbeats 1000000 in
set_option maxRecDepth 100000 in
theorem lines_0n (ok ok2 : Nat → Prop) (w : World) (va vb : Value) (b : List PIns) (hra : ∀ i ∈ ([] : List PIns), RgI i) (hrb : ∀ i ∈ b, RgI i) (h1 : Code ok w va ([] : List PIns)) (h2 : Code ok2 w vb b) (he : Env w) (hla : ([] : List PIns).length ≤ 40) (hlb : b.length ≤ 40)
    (t2 : txt b ≠ []) :
    Calls Tryd.prog 5 #[va, vb] w fun e w' => e = .returned (.bool true) ∧ Below w.heap.size w w' := by
  obtain ⟨A1, c1, rfl, hl1⟩ := h1.form
  obtain ⟨A2, c2, rfl, hl2⟩ := h2.form
  have HE : Hid (Env w) := he
  have HR : Hid ((∀ i ∈ ([] : List PIns), RgI i) ∧ ∀ i ∈ b, RgI i) := ⟨hra, hrb⟩
  have HL : Hid (([] : List PIns).length ≤ 40 ∧ b.length ≤ 40) := ⟨hla, hlb⟩
  have HRab : Hid (∀ i ∈ ([] : List PIns) ++ b, RgI i) := fun i hi => (List.mem_append.1 hi).elim (hra i) (hrb i)
  have HTa : Hid (txtO ([] : List PIns) = some (txt ([] : List PIns))) := txtO_is (Or.inr rfl)
  have HTb : Hid (txtO b = some (txt b)) := txtO_is (Or.inl t2)
  have HZ : Hid (txt (([] : List PIns) ++ b) = txt ([] : List PIns) ++ txt b) := txt_app HTa.out HTb.out
  have ezz : bs (txt ([] : List PIns)) ++ bs (txt b) = bs (txt ([] : List PIns) ++ txt b) := bs_app _ _
  have h3 : (bs (txt [])).toList.isEmpty = true := emp_yes rfl
  have h4 := emp_no t2
  clear t2
  clear he hra hrb
  go_enter Tryd.func5, Tryd.ntmps5
  go_wp2_with fail
  refine (text_any ok _ _ ([] : List PIns) (by have := HL.out; omega) HR.out.1 h1 HE.out).mono ?_
  rintro e w1 ⟨rfl, hb1⟩
  go_wp2_with fail
  refine (text_any ok2 _ _ b (by have := HL.out; omega) HR.out.2 (h2.below hb1) (HE.out.below hb1)).mono ?_
  rintro e w2 ⟨rfl, hb2⟩
  have hlo2 : Below w.heap.size w w2 := bTrans hb1 hb2
  go_wp2_with (first
    | (at_builtin; refine appS rfl _ _ rfl ([] : List PIns) (CO.nil2 w2) rfl rfl (h1.below (bTrans hlo2 (bAlloc (bRefl _) _))) (by have := HL.out; show _ + _ ≤ 1000000; first | (simp; done) | (simp; omega) | omega) ?_; intro A3 cap3 w3 hco3; replace hco3 : CO w2 (.slice A3 ([] : List PIns).length cap3) ([] : List PIns) w3 := (by simpa using hco3))
    | (at_builtin; refine appS rfl _ _ rfl b hco3 rfl rfl (h2.below (bTrans hlo2 hco3.low)) (by have := HL.out; show _ + _ ≤ 1000000; first | (simp; done) | (simp; omega) | omega) ?_; intro A4 cap4 w4 hco4))
  have hlo4 : Below w.heap.size w w4 := bTrans hlo2 hco4.low
  have T := text_any anyB w4 _ (([] : List PIns) ++ b) (by have := HL.out; rw [List.length_append]; omega) HRab.out (by have := hco4.cd (by have := HL.out; first | (simp; done) | (simp; omega)); simpa using this) (HE.out.below hlo4)
  rw [HZ.out] at T
  refine T.mono ?_
  rintro e w5 ⟨rfl, hb5⟩
  have hlo5 : Below w.heap.size w w5 := bTrans hlo4 hb5
  clear T
  go_wp2_with fail
  go_loopg [9, 10, 11] 0 (fun g i9 i10 i11 wr => g = 0 ∧ i9 = .int .i64 0 ∧ Hid (Below w.heap.size w wr))
  case atStart => exact ⟨rfl, rfl, hlo5⟩
  case round =>
    obtain ⟨rfl, rfl, hlo⟩ := hrel
    have ee := str_yes (rfl : txt ([] : List PIns) ++ txt b = txt ([] : List PIns) ++ txt b)
    have hs1 : (bs (txt ([] : List PIns))).size ≤ 1120 := by rw [bs_size]; have := txtO_le HR.out.1 HTa.out; have := HL.out; omega
    have hs2 : (bs (txt b)).size ≤ 1120 := by rw [bs_size]; have := txtO_le HR.out.2 HTb.out; have := HL.out; omega
    have hs3 : ¬ 9223372036854775807 < (bs (txt ([] : List PIns))).size + (bs (txt b)).size := by omega
    go_wp2_with fail
    refine (awake_any _ (HE.out.below hlo.out)).mono ?_
    rintro e w7 ⟨rfl, hb7⟩
    go_wp2
    go_ret
    exact ⟨rfl, bTrans hlo.out hb7⟩

set_option maxHeartbeats 1000000 in
set_option maxRecDepth 100000 in
theorem lines_n0 (ok ok2 : Nat → Prop) (w : World) (va vb : Value) (a : List PIns) (hra : ∀ i ∈ a, RgI i) (hrb : ∀ i ∈ ([] : List PIns), RgI i) (h1 : Code ok w va a) (h2 : Code ok2 w vb ([] : List PIns)) (he : Env w) (hla : a.length ≤ 40) (hlb : ([] : List PIns).length ≤ 40)
    (t1 : txt a ≠ []) :
    Calls Tryd.prog 5 #[va, vb] w fun e w' => e = .returned (.bool true) ∧ Below w.heap.size w w' := by
  obtain ⟨A1, c1, rfl, hl1⟩ := h1.form
  obtain ⟨A2, c2, rfl, hl2⟩ := h2.form
  have HE : Hid (Env w) := he
  have HR : Hid ((∀ i ∈ a, RgI i) ∧ ∀ i ∈ ([] : List PIns), RgI i) := ⟨hra, hrb⟩
  have HL : Hid (a.length ≤ 40 ∧ ([] : List PIns).length ≤ 40) := ⟨hla, hlb⟩
  have HRab : Hid (∀ i ∈ a ++ ([] : List PIns), RgI i) := fun i hi => (List.mem_append.1 hi).elim (hra i) (hrb i)
  have HTa : Hid (txtO a = some (txt a)) := txtO_is (Or.inl t1)
  have HTb : Hid (txtO ([] : List PIns) = some (txt ([] : List PIns))) := txtO_is (Or.inr rfl)
  have HZ : Hid (txt (a ++ ([] : List PIns)) = txt a ++ txt ([] : List PIns)) := txt_app HTa.out HTb.out
  have ezz : bs (txt a) ++ bs (txt ([] : List PIns)) = bs (txt a ++ txt ([] : List PIns)) := bs_app _ _
  have h3 := emp_no t1
  have h4 : (bs (txt [])).toList.isEmpty = true := emp_yes rfl
  clear t1
  clear he hra hrb
  go_enter Tryd.func5, Tryd.ntmps5
  go_wp2_with fail
  refine (text_any ok _ _ a (by have := HL.out; omega) HR.out.1 h1 HE.out).mono ?_
  rintro e w1 ⟨rfl, hb1⟩
  go_wp2_with fail
  refine (text_any ok2 _ _ ([] : List PIns) (by have := HL.out; omega) HR.out.2 (h2.below hb1) (HE.out.below hb1)).mono ?_
  rintro e w2 ⟨rfl, hb2⟩
  have hlo2 : Below w.heap.size w w2 := bTrans hb1 hb2
  go_wp2_with (first
    | (at_builtin; refine appS rfl _ _ rfl a (CO.nil2 w2) rfl rfl (h1.below (bTrans hlo2 (bAlloc (bRefl _) _))) (by have := HL.out; show _ + _ ≤ 1000000; first | (simp; done) | (simp; omega) | omega) ?_; intro A3 cap3 w3 hco3; replace hco3 : CO w2 (.slice A3 a.length cap3) a w3 := (by simpa using hco3))
    | (at_builtin; refine appS rfl _ _ rfl ([] : List PIns) hco3 rfl rfl (h2.below (bTrans hlo2 hco3.low)) (by have := HL.out; show _ + _ ≤ 1000000; first | (simp; done) | (simp; omega) | omega) ?_; intro A4 cap4 w4 hco4))
  have hlo4 : Below w.heap.size w w4 := bTrans hlo2 hco4.low
  have T := text_any anyB w4 _ (a ++ ([] : List PIns)) (by have := HL.out; rw [List.length_append]; omega) HRab.out (by have := hco4.cd (by have := HL.out; first | (simp; done) | (simp; omega)); simpa using this) (HE.out.below hlo4)
  rw [HZ.out] at T
  refine T.mono ?_
  rintro e w5 ⟨rfl, hb5⟩
  have hlo5 : Below w.heap.size w w5 := bTrans hlo4 hb5
  clear T
  go_wp2_with fail
  go_loopg [9, 10, 11] a.length (fun g i9 i10 i11 wr => ∃ k : Nat, g = a.length - k ∧ k ≤ a.length ∧ i9 = .int .i64 k ∧ Hid (Below w.heap.size w wr))
  case atStart => exact ⟨0, rfl, by omega, rfl, hlo5⟩
  case round =>
    obtain ⟨k, rfl, hk, rfl, hlo⟩ := hrel
    by_cases hlt : k < a.length
    · obtain ⟨b1, o1, x, rfl, hx, q1, q2⟩ := h1.cell hlo.out hlt
      have hxr : Hid (RgI x) := HR.out.1 x (List.mem_of_getElem? hx)
      have hxl := line_of HTa.out hx
      clear hx
      have hzb : b1 < wr.heap.size := World.block_lt_of_cell? _ _ q1
      have n1 : (bs (nmO x.op)).size ≤ 5 := by rw [bs_size]; exact nmO_len _
      have n2 : (bs (Lib.itoa x.a)).size ≤ 21 := by rw [bs_size]; exact Lib.itoa_length_le _ hxr.out.2.1 hxr.out.2.2
      have y1 : ¬ 9223372036854775807 < (bs (nmO x.op)).size + 1 := by omega
      have y2 : ¬ 9223372036854775807 < (bs (nmO x.op)).size + 1 + (bs (Lib.itoa x.a)).size := by omega
      have hcat := line_b (a := nmO x.op) (b := Lib.itoa x.a) rfl
      rcases line_two hxl with ⟨o0, l0⟩ | ⟨o0, l0, l1⟩
      · have e1 : (opd x.op == 0) = true := by simp [o0]
        have e2 := str_yes l0
        clear o0 l0 hxl
        go_wp2_with fail
        refine (line_any _ x hxr.out.2 (HE.out.below hlo.out)).mono ?_
        rintro e w7 ⟨rfl, hb7⟩
        have q17 := (hb7.cell (p := ⟨b1, o1 + k * 2, none⟩) hzb).trans q1
        have q27 := (hb7.cell (p := ⟨b1, o1 + k * 2 + 1, none⟩) hzb).trans q2
        have hz7 : b1 < w7.heap.size := Nat.lt_of_lt_of_le hzb hb7.size
        go_wp2_with fail
        refine (rnameB _ _).mono ?_
        rintro e w8 ⟨rfl, hb8⟩
        have q18 := (hb8.cell (p := ⟨b1, o1 + k * 2, none⟩) hz7).trans q17
        have q28 := (hb8.cell (p := ⟨b1, o1 + k * 2 + 1, none⟩) hz7).trans q27
        have hz8 : b1 < w8.heap.size := Nat.lt_of_lt_of_le hz7 hb8.size
        have hlo8 : Hid (Below w.heap.size w w8) := bTrans (bTrans hlo.out hb7) hb8
        go_wp2_with fail
        refine (roper_any _ _).mono ?_
        rintro e w9 ⟨rfl, rfl⟩
        go_wp2
        go_roundg (a.length - (k + 1))
        case measure => omega
        case rel => exact ⟨k + 1, rfl, by omega, by go_num, hlo8⟩
      · have e1 : (opd x.op == 0) = false := by simp [o0]
        have e2 := str_no l1
        have e3 := str_yes l0
        clear o0 l0 l1 hxl
        go_wp2_with fail
        refine (line_any _ x hxr.out.2 (HE.out.below hlo.out)).mono ?_
        rintro e w7 ⟨rfl, hb7⟩
        have q17 := (hb7.cell (p := ⟨b1, o1 + k * 2, none⟩) hzb).trans q1
        have q27 := (hb7.cell (p := ⟨b1, o1 + k * 2 + 1, none⟩) hzb).trans q2
        have hz7 : b1 < w7.heap.size := Nat.lt_of_lt_of_le hzb hb7.size
        go_wp2_with fail
        refine (rnameB _ _).mono ?_
        rintro e w8 ⟨rfl, hb8⟩
        have q18 := (hb8.cell (p := ⟨b1, o1 + k * 2, none⟩) hz7).trans q17
        have q28 := (hb8.cell (p := ⟨b1, o1 + k * 2 + 1, none⟩) hz7).trans q27
        have hz8 : b1 < w8.heap.size := Nat.lt_of_lt_of_le hz7 hb8.size
        go_wp2_with fail
        refine (decimal_any _ _ hxr.out.2).mono ?_
        rintro e w9 ⟨rfl, hb9⟩
        have q19 := (hb9.cell (p := ⟨b1, o1 + k * 2, none⟩) hz8).trans q18
        have hz9 : b1 < w9.heap.size := Nat.lt_of_lt_of_le hz8 hb9.size
        have hlo9 : Hid (Below w.heap.size w w9) := bTrans (bTrans (bTrans hlo.out hb7) hb8) hb9
        go_wp2_with fail
        refine (roper_any _ _).mono ?_
        rintro e w10 ⟨rfl, rfl⟩
        go_wp2
        go_roundg (a.length - (k + 1))
        case measure => omega
        case rel => exact ⟨k + 1, rfl, by omega, by go_num, hlo9⟩
    · have ee := str_yes (rfl : txt a ++ txt ([] : List PIns) = txt a ++ txt ([] : List PIns))
      have hs1 : (bs (txt a)).size ≤ 1120 := by rw [bs_size]; have := txtO_le HR.out.1 HTa.out; have := HL.out; omega
      have hs2 : (bs (txt ([] : List PIns))).size ≤ 1120 := by rw [bs_size]; have := txtO_le HR.out.2 HTb.out; have := HL.out; omega
      have hs3 : ¬ 9223372036854775807 < (bs (txt a)).size + (bs (txt ([] : List PIns))).size := by omega
      go_wp2_with fail
      refine (awake_any _ (HE.out.below hlo.out)).mono ?_
      rintro e w7 ⟨rfl, hb7⟩
      go_wp2
      go_ret
      exact ⟨rfl, bTrans hlo.out hb7⟩

set_option maxHeartbeats 1000000 in
set_option maxRecDepth 100000 in
theorem lines_00 (ok ok2 : Nat → Prop) (w : World) (va vb : Value) (hra : ∀ i ∈ ([] : List PIns), RgI i) (hrb : ∀ i ∈ ([] : List PIns), RgI i) (h1 : Code ok w va ([] : List PIns)) (h2 : Code ok2 w vb ([] : List PIns)) (he : Env w) (hla : ([] : List PIns).length ≤ 40) (hlb : ([] : List PIns).length ≤ 40)
    :
    Calls Tryd.prog 5 #[va, vb] w fun e w' => e = .returned (.bool true) ∧ Below w.heap.size w w' := by
  obtain ⟨A1, c1, rfl, hl1⟩ := h1.form
  obtain ⟨A2, c2, rfl, hl2⟩ := h2.form
  have HE : Hid (Env w) := he
  have HR : Hid ((∀ i ∈ ([] : List PIns), RgI i) ∧ ∀ i ∈ ([] : List PIns), RgI i) := ⟨hra, hrb⟩
  have HL : Hid (([] : List PIns).length ≤ 40 ∧ ([] : List PIns).length ≤ 40) := ⟨hla, hlb⟩
  have HRab : Hid (∀ i ∈ ([] : List PIns) ++ ([] : List PIns), RgI i) := fun i hi => (List.mem_append.1 hi).elim (hra i) (hrb i)
  have HTa : Hid (txtO ([] : List PIns) = some (txt ([] : List PIns))) := txtO_is (Or.inr rfl)
  have HTb : Hid (txtO ([] : List PIns) = some (txt ([] : List PIns))) := txtO_is (Or.inr rfl)
  have HZ : Hid (txt (([] : List PIns) ++ ([] : List PIns)) = txt ([] : List PIns) ++ txt ([] : List PIns)) := txt_app HTa.out HTb.out
  have ezz : bs (txt ([] : List PIns)) ++ bs (txt ([] : List PIns)) = bs (txt ([] : List PIns) ++ txt ([] : List PIns)) := bs_app _ _
  have h3 : (bs (txt [])).toList.isEmpty = true := emp_yes rfl
  clear he hra hrb
  go_enter Tryd.func5, Tryd.ntmps5
  go_wp2_with fail
  refine (text_any ok _ _ ([] : List PIns) (by have := HL.out; omega) HR.out.1 h1 HE.out).mono ?_
  rintro e w1 ⟨rfl, hb1⟩
  go_wp2_with fail
  refine (text_any ok2 _ _ ([] : List PIns) (by have := HL.out; omega) HR.out.2 (h2.below hb1) (HE.out.below hb1)).mono ?_
  rintro e w2 ⟨rfl, hb2⟩
  have hlo2 : Below w.heap.size w w2 := bTrans hb1 hb2
  go_wp2_with (first
    | (at_builtin; refine appS rfl _ _ rfl ([] : List PIns) (CO.nil2 w2) rfl rfl (h1.below (bTrans hlo2 (bAlloc (bRefl _) _))) (by have := HL.out; show _ + _ ≤ 1000000; first | (simp; done) | (simp; omega) | omega) ?_; intro A3 cap3 w3 hco3; replace hco3 : CO w2 (.slice A3 ([] : List PIns).length cap3) ([] : List PIns) w3 := (by simpa using hco3))
    | (at_builtin; refine appS rfl _ _ rfl ([] : List PIns) hco3 rfl rfl (h2.below (bTrans hlo2 hco3.low)) (by have := HL.out; show _ + _ ≤ 1000000; first | (simp; done) | (simp; omega) | omega) ?_; intro A4 cap4 w4 hco4))
  have hlo4 : Below w.heap.size w w4 := bTrans hlo2 hco4.low
  have T := text_any anyB w4 _ (([] : List PIns) ++ ([] : List PIns)) (by have := HL.out; rw [List.length_append]; omega) HRab.out (by have := hco4.cd (by have := HL.out; first | (simp; done) | (simp; omega)); simpa using this) (HE.out.below hlo4)
  rw [HZ.out] at T
  refine T.mono ?_
  rintro e w5 ⟨rfl, hb5⟩
  have hlo5 : Below w.heap.size w w5 := bTrans hlo4 hb5
  clear T
  go_wp2_with fail
  go_loopg [9, 10, 11] 0 (fun g i9 i10 i11 wr => g = 0 ∧ i9 = .int .i64 0 ∧ Hid (Below w.heap.size w wr))
  case atStart => exact ⟨rfl, rfl, hlo5⟩
  case round =>
    obtain ⟨rfl, rfl, hlo⟩ := hrel
    have ee := str_yes (rfl : txt ([] : List PIns) ++ txt ([] : List PIns) = txt ([] : List PIns) ++ txt ([] : List PIns))
    have hs1 : (bs (txt ([] : List PIns))).size ≤ 1120 := by rw [bs_size]; have := txtO_le HR.out.1 HTa.out; have := HL.out; omega
    have hs2 : (bs (txt ([] : List PIns))).size ≤ 1120 := by rw [bs_size]; have := txtO_le HR.out.2 HTb.out; have := HL.out; omega
    have hs3 : ¬ 9223372036854775807 < (bs (txt ([] : List PIns))).size + (bs (txt ([] : List PIns))).size := by omega
    go_wp2_with fail
    refine (awake_any _ (HE.out.below hlo.out)).mono ?_
    rintro e w7 ⟨rfl, hb7⟩
    go_wp2
    go_ret
    exact ⟨rfl, bTrans hlo.out hb7⟩

set_option maxHeartbeats 400000 in
set_option maxRecDepth 100000 in
theorem lines_big (ok ok2 : Nat → Prop) (w : World) (va vb : Value) (a b : List PIns) (h1 : Code ok w va a) (h2 : Code ok2 w vb b) (he : Env w) (hl : ¬ (a.length ≤ 40 ∧ b.length ≤ 40)) :
    Calls Tryd.prog 5 #[va, vb] w fun e w' => e = .returned (.bool true) ∧ Below w.heap.size w w' := by
  obtain ⟨A1, c1, rfl, hl1⟩ := h1.form
  obtain ⟨A2, c2, rfl, hl2⟩ := h2.form
  have HE : Hid (Env w) := he
  clear he h1 h2
  by_cases g1 : a.length ≤ 40
  · have g2 : 40 < b.length := by omega
    clear hl
    go_enter Tryd.func5, Tryd.ntmps5
    go_wp2_with (go_at_call 7; refine (awake_any _ HE.out).mono ?_; rintro e w3 ⟨rfl, hb3⟩)
    go_ret
    exact ⟨rfl, hb3⟩
  · clear hl
    go_enter Tryd.func5, Tryd.ntmps5
    go_wp2_with (go_at_call 7; refine (awake_any _ HE.out).mono ?_; rintro e w3 ⟨rfl, hb3⟩)
    go_ret
    exact ⟨rfl, hb3⟩
theorem lines_any (ok ok2 : Nat → Prop) (w : World) (va vb : Value) (a b : List PIns) (hra : ∀ i ∈ a, RgI i) (hrb : ∀ i ∈ b, RgI i) (h1 : Code ok w va a) (h2 : Code ok2 w vb b) (he : Env w) :
    Calls Tryd.prog 5 #[va, vb] w fun e w' => e = .returned (.bool true) ∧ Below w.heap.size w w' := by
  by_cases hl : a.length ≤ 40 ∧ b.length ≤ 40
  · by_cases ta : txt a = []
    · by_cases na : 0 < a.length
      · exact lines_a ok ok2 w va vb a b hra hrb h1 h2 he hl.1 hl.2 ta na
      · obtain rfl : a = [] := List.eq_nil_of_length_eq_zero (by omega)
        by_cases tb : txt b = []
        · by_cases nb' : 0 < b.length
          · exact lines_c ok ok2 w va vb b hra hrb h1 h2 he hl.1 hl.2 tb nb'
          · obtain rfl : b = [] := List.eq_nil_of_length_eq_zero (by omega)
            exact lines_00 ok ok2 w va vb hra hrb h1 h2 he hl.1 hl.2
        · exact lines_0n ok ok2 w va vb b hra hrb h1 h2 he hl.1 hl.2 tb
    · by_cases tb : txt b = []
      · by_cases nb' : 0 < b.length
        · exact lines_b ok ok2 w va vb a b hra hrb h1 h2 he hl.1 hl.2 ta tb nb'
        · obtain rfl : b = [] := List.eq_nil_of_length_eq_zero (by omega)
          exact lines_n0 ok ok2 w va vb a hra hrb h1 h2 he hl.1 hl.2 ta
      · exact lines_nn ok ok2 w va vb a b hra hrb h1 h2 he hl.1 hl.2 ta tb
  · exact lines_big ok ok2 w va vb a b h1 h2 he hl
end Go.Proofs.YtkfndedphpehiaaDoor
