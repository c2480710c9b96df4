/-
  The fourth law of chapter 5. Conditions: numbers of 64 bits; the variables are there.
-/
import Derived.Test.YtkfndedphpehiaaDoorMOps
namespace Go.Proofs.YtkfndedphpehiaaDoor
open Go.RowKit
attribute [local go_sem ↓] Go.wp_at_zero Go.wp_at_succ

theorem parseT {s t : List UInt8} (w : World) (hs : s = t) (hl : s.length ≤ 100000) (he : Env w) : Calls Tryd.prog 8 #[.string (bs s)] w fun e w' => ∃ v, e = .returned (.tuple #[v, .int .i64 (pe t)]) ∧ CO w v (pc t) w' := by subst hs; exact parse_any w s hl he
/-- The three texts that are read. -/
def tA (op : Int) : List UInt8 := nmO op ++ [10]
def tB (op n : Int) : List UInt8 := nmO op ++ 32 :: Lib.itoa n ++ [10]
def tC (op : Int) (s : List UInt8) : List UInt8 := nmO op ++ s ++ [10]
theorem cat_n (op : Int) : bs (nmO op) ++ ⟨#[10]⟩ = bs (tA op) := bs_app (nmO op) [10]
theorem cat_num (op n : Int) : bs (nmO op) ++ ⟨#[32]⟩ ++ bs (Lib.itoa n) ++ ⟨#[10]⟩ = bs (tB op n) := by
  rw [line_b rfl]; exact bs_app _ [10]
theorem cat_w (op : Int) (s : List UInt8) : bs (nmO op) ++ bs s ++ ⟨#[10]⟩ = bs (tC op s) := by rw [bs_app]; exact bs_app _ [10]

set_option maxHeartbeats 400000 in
set_option maxRecDepth 100000 in
theorem ops_any (w : World) (op n : Int) (s : List UInt8) (hn : Rg n) (hs : s.length ≤ 9223372036854775807) (he : Env w) :
    Calls Tryd.prog 6 #[.int .i64 op, .int .i64 n, .string (bs s)] w fun e w' => e = .returned (.bool true) ∧ Below w.heap.size w w' := by
  have hz : (bs s).size = s.length := bs_size s
  have HE : Hid (Env w) := he
  have HN : Hid (Rg n) := hn
  clear he hn
  by_cases hg : s.length ≤ 50
  · have z1 : (bs (nmO op)).size ≤ 5 := by rw [bs_size]; exact nmO_len _
    have z2 : (bs (Lib.itoa n)).size ≤ 21 := by rw [bs_size]; exact Lib.itoa_length_le _ HN.out.1 HN.out.2
    have y1 : ¬ 9223372036854775807 < (bs (nmO op)).size + 1 := by omega
    have y2 : ¬ 9223372036854775807 < (bs (nmO op)).size + 1 + (bs (Lib.itoa n)).size := by omega
    have y3 : ¬ 9223372036854775807 < (bs (nmO op)).size + 1 + (bs (Lib.itoa n)).size + 1 := by omega
    have y4 : ¬ 9223372036854775807 < (bs (nmO op)).size + s.length := by omega
    have y5 : ¬ 9223372036854775807 < (bs (nmO op)).size + s.length + 1 := by omega
    have e1 := cat_n op
    have e2 := cat_num op n
    have e3 := cat_w op s
    have l1 : (tA op).length ≤ 100000 := by unfold tA; have := nmO_len op; simp; omega
    have l2 : (tB op n).length ≤ 100000 := by unfold tB; have := nmO_len op; have := Lib.itoa_length_le _ HN.out.1 HN.out.2; simp; omega
    have l3 : (tC op s).length ≤ 100000 := by unfold tC; have := nmO_len op; simp; omega
    have L1 : Hid ((tA op).length ≤ 100000 ∧ (tB op n).length ≤ 100000 ∧ (tC op s).length ≤ 100000) := ⟨l1, l2, l3⟩
    clear l1 l2 l3
    cases hv : vl op with
    | false =>
      have f1 := pc_no (s := tA op) (ops_none (n := n) hv).1
      have f2 := pc_no (s := tB op n) (ops_none (n := n) hv).2
      have h3 : (bs (nmO op)).toList.isEmpty = true := emp_yes (nmO_no hv)
      go_enter Tryd.func6, Tryd.ntmps6
      go_wp2_with fail
      refine (rnameB _ _).mono ?_
      rintro e w1 ⟨rfl, hb1⟩
      go_wp2_with fail
      have P1 := parse_any w1 (tA op) L1.out.1 (HE.out.below hb1)
      rw [f1.1, f1.2] at P1
      refine P1.mono ?_
      rintro e w2 ⟨v2, rfl, q2⟩
      obtain ⟨A2, d2, rfl⟩ := q2.form
      have hl2 : Below w.heap.size w w2 := bTrans hb1 q2.low
      clear P1
      go_wp2_with fail
      refine (decimal_any _ n HN.out).mono ?_
      rintro e w3 ⟨rfl, hb3⟩
      go_wp2_with fail
      have P2 := parse_any w3 (tB op n) L1.out.2.1 (HE.out.below (bTrans hl2 hb3))
      rw [f2.1, f2.2] at P2
      refine P2.mono ?_
      rintro e w4 ⟨v4, rfl, q4⟩
      obtain ⟨A4, d4, rfl⟩ := q4.form
      have hl4 : Below w.heap.size w w4 := bTrans (bTrans hl2 hb3) q4.low
      clear P2
      go_wp2_with fail
      refine (awake_any _ (HE.out.below hl4)).mono ?_
      rintro e w8 ⟨rfl, hb8⟩
      go_wp2_with fail
      go_ret
      exact ⟨rfl, bTrans hl4 hb8⟩
    | true =>
      have h3 : (bs (nmO op)).toList.isEmpty = false := emp_no (nmO_ok hv).1
      by_cases ho : opd op = 0
      · have f1 := pc_of (s := tA op) (ops_bare (n := n) hv ho).1
        have f2 := pc_no (s := tB op n) (ops_bare (n := n) hv ho).2
        have ho' := eq_yes0 ho
        clear ho
        go_enter Tryd.func6, Tryd.ntmps6
        go_wp2_with fail
        refine (rnameB _ _).mono ?_
        rintro e w1 ⟨rfl, hb1⟩
        go_wp2_with fail
        have P1 := parse_any w1 (tA op) L1.out.1 (HE.out.below hb1)
        rw [f1.1, f1.2] at P1
        refine P1.mono ?_
        rintro e w2 ⟨v2, rfl, q2⟩
        obtain ⟨A2, d2, rfl⟩ := q2.form
        have hl2 : Below w.heap.size w w2 := bTrans hb1 q2.low
        clear P1
        go_wp2_with fail
        refine (decimal_any _ n HN.out).mono ?_
        rintro e w3 ⟨rfl, hb3⟩
        go_wp2_with fail
        have P2 := parse_any w3 (tB op n) L1.out.2.1 (HE.out.below (bTrans hl2 hb3))
        rw [f2.1, f2.2] at P2
        refine P2.mono ?_
        rintro e w4 ⟨v4, rfl, q4⟩
        obtain ⟨A4, d4, rfl⟩ := q4.form
        have hl4 : Below w.heap.size w w4 := bTrans (bTrans hl2 hb3) q4.low
        clear P2
        go_wp2_with fail
        refine (roper_any _ _).mono ?_
        rintro e w' ⟨rfl, rfl⟩
        go_wp2_with fail
        refine (refC anyB anyB _ _ _ [⟨op, 0⟩] [⟨op, 0⟩] (((q2.below hb3).below q4.low).below (bAlloc (bRefl _) _) |>.cd (by simp)) ((CO.lit _ [⟨op, 0⟩] (by simp)).cd (by simp))).mono ?_
        rw [eqC_self]
        rintro e w5 ⟨rfl, hq5⟩
        have hl5 : Below w.heap.size w w5 := bTrans (bAlloc hl4 _) (quiet_below hq5)
        clear hq5
        go_wp2_with fail
        refine (parse_any _ (tC op s) L1.out.2.2 (HE.out.below hl5)).mono ?_
        rintro e w6 ⟨v6, rfl, q6⟩
        obtain ⟨A6, d6, rfl⟩ := q6.form
        go_wp2_with fail
        refine (rparse_any _ (tC op s) L1.out.2.2).mono ?_
        rintro e w7 ⟨v7, rfl, q7⟩
        obtain ⟨A7, d7, rfl⟩ := q7.form
        have hl7 : Below w.heap.size w w7 := bTrans (bTrans hl5 q6.low) q7.low
        go_wp2_with fail
        refine (awake_any _ (HE.out.below hl7)).mono ?_
        rintro e w8 ⟨rfl, hb8⟩
        go_wp2_with fail
        go_ret
        exact ⟨rfl, bTrans hl7 hb8⟩
      · have f1 := pc_no (s := tA op) (ops_num hv ho HN.out).1
        have f2 := pc_of (s := tB op n) (ops_num hv ho HN.out).2
        have ho' := eq_no0 ho
        clear ho
        go_enter Tryd.func6, Tryd.ntmps6
        go_wp2_with fail
        refine (rnameB _ _).mono ?_
        rintro e w1 ⟨rfl, hb1⟩
        go_wp2_with fail
        have P1 := parse_any w1 (tA op) L1.out.1 (HE.out.below hb1)
        rw [f1.1, f1.2] at P1
        refine P1.mono ?_
        rintro e w2 ⟨v2, rfl, q2⟩
        obtain ⟨A2, d2, rfl⟩ := q2.form
        have hl2 : Below w.heap.size w w2 := bTrans hb1 q2.low
        clear P1
        go_wp2_with fail
        refine (decimal_any _ n HN.out).mono ?_
        rintro e w3 ⟨rfl, hb3⟩
        go_wp2_with fail
        have P2 := parse_any w3 (tB op n) L1.out.2.1 (HE.out.below (bTrans hl2 hb3))
        rw [f2.1, f2.2] at P2
        refine P2.mono ?_
        rintro e w4 ⟨v4, rfl, q4⟩
        obtain ⟨A4, d4, rfl⟩ := q4.form
        have hl4 : Below w.heap.size w w4 := bTrans (bTrans hl2 hb3) q4.low
        clear P2
        go_wp2_with fail
        refine (roper_any _ _).mono ?_
        rintro e w' ⟨rfl, rfl⟩
        go_wp2_with fail
        refine (refC anyB anyB _ _ _ [⟨op, n⟩] [⟨op, n⟩] ((q4.below (bAlloc (bRefl _) _)).cd (by simp)) ((CO.lit _ [⟨op, n⟩] (by simp)).cd (by simp))).mono ?_
        rw [eqC_self]
        rintro e w5 ⟨rfl, hq5⟩
        have hl5 : Below w.heap.size w w5 := bTrans (bAlloc hl4 _) (quiet_below hq5)
        clear hq5
        go_wp2_with fail
        refine (parse_any _ (tC op s) L1.out.2.2 (HE.out.below hl5)).mono ?_
        rintro e w6 ⟨v6, rfl, q6⟩
        obtain ⟨A6, d6, rfl⟩ := q6.form
        go_wp2_with fail
        refine (rparse_any _ (tC op s) L1.out.2.2).mono ?_
        rintro e w7 ⟨v7, rfl, q7⟩
        obtain ⟨A7, d7, rfl⟩ := q7.form
        have hl7 : Below w.heap.size w w7 := bTrans (bTrans hl5 q6.low) q7.low
        go_wp2_with fail
        refine (awake_any _ (HE.out.below hl7)).mono ?_
        rintro e w8 ⟨rfl, hb8⟩
        go_wp2_with fail
        go_ret
        exact ⟨rfl, bTrans hl7 hb8⟩
  · go_enter Tryd.func6, Tryd.ntmps6
    go_wp2_with (go_at_call 7; refine (awake_any _ HE.out).mono ?_; rintro e w3 ⟨rfl, hb3⟩)
    go_ret
    exact ⟨rfl, hb3⟩
end Go.Proofs.YtkfndedphpehiaaDoor
