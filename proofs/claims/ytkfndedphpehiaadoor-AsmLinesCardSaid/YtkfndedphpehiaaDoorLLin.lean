/-
  The third law of chapter 5. Conditions: numbers of 64 bits; the variables are there.
-/
import Derived.Test.YtkfndedphpehiaaDoorMLin
namespace Go.Proofs.YtkfndedphpehiaaDoor
open Go.RowKit
attribute [local go_sem ↓] Go.wp_at_zero Go.wp_at_succ
theorem CO.nil2 (w : World) : CO w (.slice (some ⟨w.heap.size, 0, none⟩) 0 0) [] (w.alloc (.cells #[] 24)) := CO.lit w [] (by decide)

set_option maxHeartbeats 1000000 in
set_option maxRecDepth 100000 in
theorem lines_a (ok ok2 : Nat → Prop) (w : World) (va vb : Value) (a b : List PIns) (hra : ∀ i ∈ a, RgI i) (hrb : ∀ i ∈ b, RgI i) (h1 : Code ok w va a) (h2 : Code ok2 w vb b) (he : Env w) (hla : a.length ≤ 40) (hlb : b.length ≤ 40)
    (t1 : txt a = []) (t2 : 0 < a.length) :
    Calls Tryd.prog 5 #[va, vb] w fun e w' => e = .returned (.bool true) ∧ Below w.heap.size w w' := by
  obtain ⟨A1, c1, rfl, hl1⟩ := h1.form
  obtain ⟨A2, c2, rfl, hl2⟩ := h2.form
  have HE : Hid (Env w) := he
  have HR : Hid ((∀ i ∈ a, RgI i) ∧ ∀ i ∈ b, RgI i) := ⟨hra, hrb⟩
  have HL : Hid (a.length ≤ 40 ∧ b.length ≤ 40) := ⟨hla, hlb⟩
  have HRab : Hid (∀ i ∈ a ++ b, RgI i) := fun i hi => (List.mem_append.1 hi).elim (hra i) (hrb i)
  have HZ : Hid (txt (a ++ b) = []) := txt_bad (Or.inl (txtO_none t1 (by omega)))
  have ez : (bs ([] : List UInt8)).toList.isEmpty = true := emp_yes rfl
  have h3 := emp_yes t1
  have h0 : (0 : Int) < a.length := by omega
  have h0n : ¬ a = [] := by intro e; rw [e] at t2; simp at t2
  clear t1 t2
  clear he hra hrb
  go_enter Tryd.func5, Tryd.ntmps5
  go_wp2_with fail
  refine (text_any ok _ _ a (by have := HL.out; omega) HR.out.1 h1 HE.out).mono ?_
  rintro e w1 ⟨rfl, hb1⟩
  go_wp2_with fail
  refine (text_any ok2 _ _ b (by have := HL.out; omega) HR.out.2 (h2.below hb1) (HE.out.below hb1)).mono ?_
  rintro e w2 ⟨rfl, hb2⟩
  have hlo2 : Below w.heap.size w w2 := bTrans hb1 hb2
  go_wp2_with (first
    | (at_builtin; refine appS rfl _ _ rfl a (CO.nil2 w2) rfl rfl (h1.below (bTrans hlo2 (bAlloc (bRefl _) _))) (by have := HL.out; show _ + _ ≤ 1000000; first | (simp; done) | (simp; omega) | omega) ?_; intro A3 cap3 w3 hco3; replace hco3 : CO w2 (.slice A3 a.length cap3) a w3 := (by simpa using hco3))
    | (at_builtin; refine appS rfl _ _ rfl b hco3 rfl rfl (h2.below (bTrans hlo2 hco3.low)) (by have := HL.out; show _ + _ ≤ 1000000; first | (simp; done) | (simp; omega) | omega) ?_; intro A4 cap4 w4 hco4))
  have hlo4 : Below w.heap.size w w4 := bTrans hlo2 hco4.low
  have T := text_any anyB w4 _ (a ++ b) (by have := HL.out; rw [List.length_append]; omega) HRab.out (by have := hco4.cd (by have := HL.out; first | (simp; done) | (simp; omega)); simpa using this) (HE.out.below hlo4)
  rw [HZ.out] at T
  refine T.mono ?_
  rintro e w5 ⟨rfl, hb5⟩
  have hlo5 : Below w.heap.size w w5 := bTrans hlo4 hb5
  clear T
  go_wp2_with fail
  refine (awake_any _ (HE.out.below hlo5)).mono ?_
  rintro e w6 ⟨rfl, hb6⟩
  go_wp2
  go_ret
  exact ⟨rfl, bTrans hlo5 hb6⟩

set_option maxHeartbeats 1000000 in
set_option maxRecDepth 100000 in
theorem lines_b (ok ok2 : Nat → Prop) (w : World) (va vb : Value) (a b : List PIns) (hra : ∀ i ∈ a, RgI i) (hrb : ∀ i ∈ b, RgI i) (h1 : Code ok w va a) (h2 : Code ok2 w vb b) (he : Env w) (hla : a.length ≤ 40) (hlb : b.length ≤ 40)
    (t3 : txt a ≠ []) (t1 : txt b = []) (t2 : 0 < b.length) :
    Calls Tryd.prog 5 #[va, vb] w fun e w' => e = .returned (.bool true) ∧ Below w.heap.size w w' := by
  obtain ⟨A1, c1, rfl, hl1⟩ := h1.form
  obtain ⟨A2, c2, rfl, hl2⟩ := h2.form
  have HE : Hid (Env w) := he
  have HR : Hid ((∀ i ∈ a, RgI i) ∧ ∀ i ∈ b, RgI i) := ⟨hra, hrb⟩
  have HL : Hid (a.length ≤ 40 ∧ b.length ≤ 40) := ⟨hla, hlb⟩
  have HRab : Hid (∀ i ∈ a ++ b, RgI i) := fun i hi => (List.mem_append.1 hi).elim (hra i) (hrb i)
  have HZ : Hid (txt (a ++ b) = []) := txt_bad (Or.inr (txtO_none t1 (by omega)))
  have ez : (bs ([] : List UInt8)).toList.isEmpty = true := emp_yes rfl
  have h3 := emp_no t3
  have h4 := emp_yes t1
  have h0 : (0 : Int) < b.length := by omega
  have h0n : ¬ b = [] := by intro e; rw [e] at t2; simp at t2
  clear t1 t2 t3
  clear he hra hrb
  go_enter Tryd.func5, Tryd.ntmps5
  go_wp2_with fail
  refine (text_any ok _ _ a (by have := HL.out; omega) HR.out.1 h1 HE.out).mono ?_
  rintro e w1 ⟨rfl, hb1⟩
  go_wp2_with fail
  refine (text_any ok2 _ _ b (by have := HL.out; omega) HR.out.2 (h2.below hb1) (HE.out.below hb1)).mono ?_
  rintro e w2 ⟨rfl, hb2⟩
  have hlo2 : Below w.heap.size w w2 := bTrans hb1 hb2
  go_wp2_with (first
    | (at_builtin; refine appS rfl _ _ rfl a (CO.nil2 w2) rfl rfl (h1.below (bTrans hlo2 (bAlloc (bRefl _) _))) (by have := HL.out; show _ + _ ≤ 1000000; first | (simp; done) | (simp; omega) | omega) ?_; intro A3 cap3 w3 hco3; replace hco3 : CO w2 (.slice A3 a.length cap3) a w3 := (by simpa using hco3))
    | (at_builtin; refine appS rfl _ _ rfl b hco3 rfl rfl (h2.below (bTrans hlo2 hco3.low)) (by have := HL.out; show _ + _ ≤ 1000000; first | (simp; done) | (simp; omega) | omega) ?_; intro A4 cap4 w4 hco4))
  have hlo4 : Below w.heap.size w w4 := bTrans hlo2 hco4.low
  have T := text_any anyB w4 _ (a ++ b) (by have := HL.out; rw [List.length_append]; omega) HRab.out (by have := hco4.cd (by have := HL.out; first | (simp; done) | (simp; omega)); simpa using this) (HE.out.below hlo4)
  rw [HZ.out] at T
  refine T.mono ?_
  rintro e w5 ⟨rfl, hb5⟩
  have hlo5 : Below w.heap.size w w5 := bTrans hlo4 hb5
  clear T
  go_wp2_with fail
  refine (awake_any _ (HE.out.below hlo5)).mono ?_
  rintro e w6 ⟨rfl, hb6⟩
  go_wp2
  go_ret
  exact ⟨rfl, bTrans hlo5 hb6⟩

set_option maxHeartbeats 1000000 in
set_option maxRecDepth 100000 in
theorem lines_c (ok ok2 : Nat → Prop) (w : World) (va vb : Value) (b : List PIns) (hra : ∀ i ∈ ([] : List PIns), RgI i) (hrb : ∀ i ∈ b, RgI i) (h1 : Code ok w va ([] : List PIns)) (h2 : Code ok2 w vb b) (he : Env w) (hla : ([] : List PIns).length ≤ 40) (hlb : b.length ≤ 40)
    (t1 : txt b = []) (t2 : 0 < b.length) :
    Calls Tryd.prog 5 #[va, vb] w fun e w' => e = .returned (.bool true) ∧ Below w.heap.size w w' := by
  obtain ⟨A1, c1, rfl, hl1⟩ := h1.form
  obtain ⟨A2, c2, rfl, hl2⟩ := h2.form
  have HE : Hid (Env w) := he
  have HR : Hid ((∀ i ∈ ([] : List PIns), RgI i) ∧ ∀ i ∈ b, RgI i) := ⟨hra, hrb⟩
  have HL : Hid (([] : List PIns).length ≤ 40 ∧ b.length ≤ 40) := ⟨hla, hlb⟩
  have HRab : Hid (∀ i ∈ ([] : List PIns) ++ b, RgI i) := fun i hi => (List.mem_append.1 hi).elim (hra i) (hrb i)
  have HZ : Hid (txt (([] : List PIns) ++ b) = []) := txt_bad (Or.inr (txtO_none t1 (by omega)))
  have ez : (bs ([] : List UInt8)).toList.isEmpty = true := emp_yes rfl
  have h3 : (bs (txt [])).toList.isEmpty = true := emp_yes rfl
  have h4 := emp_yes t1
  have h0 : (0 : Int) < b.length := by omega
  have h0n : ¬ b = [] := by intro e; rw [e] at t2; simp at t2
  clear t1 t2
  clear he hra hrb
  go_enter Tryd.func5, Tryd.ntmps5
  go_wp2_with fail
  refine (text_any ok _ _ ([] : List PIns) (by have := HL.out; omega) HR.out.1 h1 HE.out).mono ?_
  rintro e w1 ⟨rfl, hb1⟩
  go_wp2_with fail
  refine (text_any ok2 _ _ b (by have := HL.out; omega) HR.out.2 (h2.below hb1) (HE.out.below hb1)).mono ?_
  rintro e w2 ⟨rfl, hb2⟩
  have hlo2 : Below w.heap.size w w2 := bTrans hb1 hb2
  go_wp2_with (first
    | (at_builtin; refine appS rfl _ _ rfl ([] : List PIns) (CO.nil2 w2) rfl rfl (h1.below (bTrans hlo2 (bAlloc (bRefl _) _))) (by have := HL.out; show _ + _ ≤ 1000000; first | (simp; done) | (simp; omega) | omega) ?_; intro A3 cap3 w3 hco3; replace hco3 : CO w2 (.slice A3 ([] : List PIns).length cap3) ([] : List PIns) w3 := (by simpa using hco3))
    | (at_builtin; refine appS rfl _ _ rfl b hco3 rfl rfl (h2.below (bTrans hlo2 hco3.low)) (by have := HL.out; show _ + _ ≤ 1000000; first | (simp; done) | (simp; omega) | omega) ?_; intro A4 cap4 w4 hco4))
  have hlo4 : Below w.heap.size w w4 := bTrans hlo2 hco4.low
  have T := text_any anyB w4 _ (([] : List PIns) ++ b) (by have := HL.out; rw [List.length_append]; omega) HRab.out (by have := hco4.cd (by have := HL.out; first | (simp; done) | (simp; omega)); simpa using this) (HE.out.below hlo4)
  rw [HZ.out] at T
  refine T.mono ?_
  rintro e w5 ⟨rfl, hb5⟩
  have hlo5 : Below w.heap.size w w5 := bTrans hlo4 hb5
  clear T
  go_wp2_with fail
  refine (awake_any _ (HE.out.below hlo5)).mono ?_
  rintro e w6 ⟨rfl, hb6⟩
  go_wp2
  go_ret
  exact ⟨rfl, bTrans hlo5 hb6⟩
end Go.Proofs.YtkfndedphpehiaaDoor
