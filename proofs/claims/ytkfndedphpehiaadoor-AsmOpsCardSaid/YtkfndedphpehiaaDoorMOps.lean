/-
  What is read of an instruction's name alone, and of it with a number: plain data, for the fourth law. No conditions.
-/
import Derived.Test.YtkfndedphpehiaaDoorTells
namespace Go.Proofs.YtkfndedphpehiaaDoor

/-- One line. -/
theorem prs_one {l : List UInt8} {i : PIns} (h : rd l = some i) (hn : ∀ c ∈ l, c ≠ 10) : prs (l ++ [10]) = some [i] := by
  rw [prs_step (cutc_app [] hn) h, prs_nil]; rfl
theorem prs_one_no {l : List UInt8} (h : rd l = none) (hn : ∀ c ∈ l, c ≠ 10) : prs (l ++ [10]) = none := prs_bad (cutc_app [] hn) h
theorem nmO_no {op : Int} (h : vl op = false) : nmO op = [] := by
  unfold nmO at_
  rw [if_neg (fun e => by rw [vl_iff.2 e] at h; cases h)]
  rfl
theorem nm10 {op : Int} : ∀ c ∈ nmO op, c ≠ 10 := by
  intro c hc
  cases h : vl op with
  | true => exact ((nmO_ok h).2.1 c hc).2
  | false => rw [nmO_no h] at hc; cases hc
theorem num10 {op n : Int} : ∀ c ∈ nmO op ++ 32 :: Lib.itoa n, c ≠ 10 := by
  intro c hc
  rcases List.mem_append.1 hc with hc | hc
  · exact nm10 c hc
  · rcases List.mem_cons.1 hc with rfl | hc
    · decide
    · exact itoa_no10 _ c hc
/-- Whose line a text is that begins so. -/
theorem rd_op {l : List UInt8} {j : PIns} (h : rd l = some j) : (opOf (wd l) : Int) = j.op := by
  obtain ⟨k1, k2⟩ := rd_some h
  have e : cand l = j := by rw [← k1]; exact cand_line (rd_rg h) (by rw [k1]; exact k2)
  rw [← e]; rfl
theorem rd_bare_yes {op : Int} (hv : vl op = true) (ho : opd op = 0) : rd (nmO op) = some ⟨op, 0⟩ := by
  have h := line_bare (i := ⟨op, 0⟩) hv ho rfl
  rw [← h]
  obtain ⟨h1, h2⟩ := vl_iff.1 hv
  exact rd_line ⟨⟨by show (-9223372036854775808 : Int) ≤ op; omega, by show op ≤ 9223372036854775807; omega⟩, rg0⟩ (by rw [h]; exact (nmO_ok hv).1)
theorem rd_bare_no {op : Int} (hv : vl op = true) (ho : opd op ≠ 0) : rd (nmO op) = none := by
  cases h : rd (nmO op) with
  | none => rfl
  | some j =>
    exfalso
    obtain ⟨g1, g2, g3⟩ := nmO_ok hv
    have e := rd_op h
    rw [(wd_all (fun c hc => (g2 c hc).1)).1, g3] at e
    obtain ⟨k1, _⟩ := rd_some h
    rw [line_num (by rw [← e]; exact hv) (by rw [← e]; exact ho), ← e] at k1
    have := congrArg List.length k1
    rw [List.length_append, List.length_cons] at this
    omega
theorem rd_num_yes {op n : Int} (hv : vl op = true) (ho : opd op ≠ 0) (hn : Rg n) : rd (nmO op ++ 32 :: Lib.itoa n) = some ⟨op, n⟩ := by
  have h := line_num (i := ⟨op, n⟩) hv ho
  rw [← h]
  obtain ⟨h1, h2⟩ := vl_iff.1 hv
  exact rd_line ⟨⟨by show (-9223372036854775808 : Int) ≤ op; omega, by show op ≤ 9223372036854775807; omega⟩, hn⟩ (by rw [h]; simp)
theorem rd_num_no {op n : Int} (hv : vl op = true) (ho : opd op = 0) : rd (nmO op ++ 32 :: Lib.itoa n) = none := by
  cases h : rd (nmO op ++ 32 :: Lib.itoa n) with
  | none => rfl
  | some j =>
    exfalso
    obtain ⟨g1, g2, g3⟩ := nmO_ok hv
    have e := rd_op h
    rw [(wd_app (fun c hc => (g2 c hc).1)).1, g3] at e
    obtain ⟨k1, k2⟩ := rd_some h
    by_cases ha : j.a = 0
    · rw [line_bare (by rw [← e]; exact hv) (by rw [← e]; exact ho) ha, ← e] at k1
      have := congrArg List.length k1
      rw [List.length_append, List.length_cons] at this
      omega
    · rw [line_odd (by rw [← e]; exact hv) (by rw [← e]; exact ho) ha] at k1
      exact k2 k1.symm
theorem rd_empty : rd [] = none := by unfold rd; rw [if_neg (fun e => e.1 rfl)]
theorem rd_blank (x : List UInt8) : rd (32 :: x) = none := find_no (by
  have : wd (32 :: x) = [] := (wd_app (a := []) (b := x) (fun c hc => by cases hc)).1
  rw [this]; decide +kernel)
/-- The fourth law's facts. -/
theorem ops_none {op n : Int} (hv : vl op = false) : prs (nmO op ++ [10]) = none ∧ prs (nmO op ++ 32 :: Lib.itoa n ++ [10]) = none :=
  ⟨prs_one_no (by rw [nmO_no hv]; exact rd_empty) nm10, prs_one_no (by rw [nmO_no hv]; exact rd_blank _) num10⟩
theorem ops_bare {op n : Int} (hv : vl op = true) (ho : opd op = 0) : prs (nmO op ++ [10]) = some [⟨op, 0⟩] ∧ prs (nmO op ++ 32 :: Lib.itoa n ++ [10]) = none :=
  ⟨prs_one (rd_bare_yes hv ho) nm10, prs_one_no (rd_num_no hv ho) num10⟩
theorem ops_num {op n : Int} (hv : vl op = true) (ho : opd op ≠ 0) (hn : Rg n) : prs (nmO op ++ [10]) = none ∧ prs (nmO op ++ 32 :: Lib.itoa n ++ [10]) = some [⟨op, n⟩] :=
  ⟨prs_one_no (rd_bare_no hv ho) nm10, prs_one (rd_num_yes hv ho hn) num10⟩
end Go.Proofs.YtkfndedphpehiaaDoor
