/-
  Code in words, as plain data: what a line is, what a text is, and what is read of it. No conditions.
-/
import Derived.Test.YtkfndedphpehiaaDoorOps
import Derived.Lib.AtoiAllCases
import Derived.Lib.ItoaNum
import Derived.Lib.ItoaLen
namespace Go.Proofs.YtkfndedphpehiaaDoor
open Go.Lib

/-! ### Decimal -/
def dgB (c : UInt8) : Bool := decide (48 ≤ c.toNat ∧ c.toNat ≤ 57)
theorem dg_ofNat {k : Nat} (h : k < 10) : (UInt8.ofNat (48 + k)).toNat = 48 + k := by
  rw [UInt8.toNat_ofNat']; omega
theorem dec_dg (u : Nat) : ∀ c ∈ decDigits u, 48 ≤ c.toNat ∧ c.toNat ≤ 57 := by
  induction u using Nat.strongRecOn with
  | _ u ih =>
    intro c hc
    rw [decDigits] at hc
    split at hc
    · rename_i h
      rw [List.mem_singleton] at hc; subst hc
      rw [dg_ofNat h]; omega
    · rename_i h
      rcases List.mem_append.1 hc with hc | hc
      · exact ih (u / 10) (by omega) c hc
      · rw [List.mem_singleton] at hc; subst hc
        rw [dg_ofNat (by omega)]; omega
theorem dec_ne (u : Nat) : decDigits u ≠ [] := by
  rw [decDigits]; split <;> simp
theorem parse_snoc (l : List UInt8) (c : UInt8) (acc : Nat) : parseUint10 acc (l ++ [c]) = match parseUint10 acc l with | .ok v => parseUint10 v [c] | .syntax => .syntax | .range => .range := by
  induction l generalizing acc with
  | nil => rfl
  | cons x r ih =>
    simp only [List.cons_append, parseUint10]
    split
    · split
      · rfl
      · split
        · rfl
        · exact ih _
    · rfl
theorem parse_dec (u : Nat) (h : u < 18446744073709551616) : parseUint10 0 (decDigits u) = .ok u := by
  induction u using Nat.strongRecOn with
  | _ u ih =>
    rw [decDigits]
    split
    · rename_i hs
      simp only [parseUint10, dg_ofNat hs]
      rw [if_pos (by omega), if_neg (by omega), if_neg (by omega)]
      congr 1; omega
    · rename_i hs
      rw [parse_snoc, ih (u / 10) (by omega) (by omega)]
      simp only [parseUint10, dg_ofNat (show u % 10 < 10 by omega)]
      rw [if_pos (by omega), if_neg (by omega), if_neg (by omega)]
      congr 1; omega
/-- A number of 64 bits. -/
def Rg (n : Int) : Prop := -9223372036854775808 ≤ n ∧ n ≤ 9223372036854775807
theorem mag_dec {u : Nat} (h : u < 18446744073709551616) : parseMag (decDigits u) = .ok u := by
  unfold parseMag; rw [if_neg (dec_ne u)]; exact parse_dec u h
theorem atoi_itoa {n : Int} (h : Rg n) : atoiAll (itoa n) = .ok n := by
  obtain ⟨h1, h2⟩ := h
  unfold itoa
  by_cases e : n < 0
  · rw [if_pos e]
    unfold atoiAll
    simp only [show (45 : UInt8).toNat = 45 from rfl, or_true, if_true]
    rw [mag_dec (by omega)]
    simp only [not_true, false_and, if_false, true_and]
    rw [if_neg (by omega)]
    congr 1; omega
  · rw [if_neg e]
    cases hl : decDigits n.toNat with
    | nil => exact absurd hl (dec_ne _)
    | cons c r =>
      have hc := dec_dg n.toNat c (by rw [hl]; simp)
      unfold atoiAll
      simp only
      rw [if_neg (by omega), ← hl, mag_dec (by omega)]
      simp only
      rw [if_neg (by omega), if_neg (by omega), if_neg (by omega)]
      congr 1; omega
theorem itoa_inj {n m : Int} (hn : Rg n) (hm : Rg m) (h : itoa n = itoa m) : n = m := by
  have := atoi_itoa hn
  rw [h, atoi_itoa hm] at this
  injection this with this
  exact this.symm
theorem itoa_ne (n : Int) : itoa n ≠ [] := by
  unfold itoa
  by_cases h : n < 0
  · rw [if_pos h]; simp
  · rw [if_neg h]; exact dec_ne _
/-- What Atoi answers beside its error. -/
def atoiV (l : List UInt8) : Int := match atoiAll l with | .ok v => v | .syntax => 0 | .range => atoiSat l

/-! ### Lines -/
/-- The op of a name; 0 of none. -/
def opOf (l : List UInt8) : Nat := fnd ⟨l.toArray⟩
def nmO (op : Int) : List UInt8 := nmL.getD (at_ op) []
/-- P5.1: Line. -/
def line (i : PIns) : List UInt8 :=
  if vl i.op = true then (if opd i.op = 0 then (if i.a = 0 then nmO i.op else []) else nmO i.op ++ 32 :: itoa i.a) else []
/-- Cut at the first x. -/
def cutc (x : UInt8) : List UInt8 → Option (List UInt8 × List UInt8)
  | [] => none
  | c :: r => if c = x then some ([], r) else (cutc x r).map (fun p => (c :: p.1, p.2))
theorem cutc_app {x : UInt8} {a : List UInt8} (b : List UInt8) (h : ∀ c ∈ a, c ≠ x) : cutc x (a ++ x :: b) = some (a, b) := by
  induction a with
  | nil => simp [cutc]
  | cons y r ih => rw [List.cons_append, cutc, if_neg (h y (by simp)), ih (fun c hc => h c (by simp [hc]))]; rfl
theorem cutc_none {x : UInt8} {a : List UInt8} (h : ∀ c ∈ a, c ≠ x) : cutc x a = none := by
  induction a with
  | nil => rfl
  | cons y r ih => rw [cutc, if_neg (h y (by simp)), ih (fun c hc => h c (by simp [hc]))]; rfl
theorem cutc_some {x : UInt8} : ∀ {l a b : List UInt8}, cutc x l = some (a, b) → l = a ++ x :: b ∧ ∀ c ∈ a, c ≠ x
  | [], a, b, h => by cases h
  | c :: r, a, b, h => by
    unfold cutc at h
    by_cases e : c = x
    · rw [if_pos e] at h
      simp only [Option.some.injEq, Prod.mk.injEq] at h
      obtain ⟨rfl, rfl⟩ := h
      exact ⟨by rw [e]; rfl, fun c hc => by cases hc⟩
    · rw [if_neg e] at h
      cases hr : cutc x r with
      | none => rw [hr] at h; cases h
      | some p =>
        rw [hr] at h
        simp only [Option.map_some, Option.some.injEq, Prod.mk.injEq] at h
        obtain ⟨rfl, rfl⟩ := h
        obtain ⟨h1, h2⟩ := cutc_some (a := p.1) (b := p.2) hr
        refine ⟨by rw [h1]; rfl, fun d hd => ?_⟩
        rcases List.mem_cons.1 hd with rfl | hd
        · exact e
        · exact h2 d hd
theorem cutc_no {x : UInt8} : ∀ {l : List UInt8}, cutc x l = none → ∀ c ∈ l, c ≠ x
  | [], _, c, hc => by cases hc
  | y :: r, h, c, hc => by
    unfold cutc at h
    by_cases e : y = x
    · rw [if_pos e] at h; cases h
    · rw [if_neg e] at h
      rcases List.mem_cons.1 hc with rfl | hc
      · exact e
      · exact cutc_no (Option.map_eq_none_iff.1 h) c hc
/-- The line's word, and what is behind its blank. -/
def wd (l : List UInt8) : List UInt8 := match cutc 32 l with | some p => p.1 | none => l
def nb (l : List UInt8) : List UInt8 := match cutc 32 l with | some p => p.2 | none => []
def cand (l : List UInt8) : PIns := ⟨opOf (wd l), atoiV (nb l)⟩
/-- What a line is read as. -/
def rd (l : List UInt8) : Option PIns := if l ≠ [] ∧ line (cand l) = l then some (cand l) else none
def RgI (i : PIns) : Prop := Rg i.op ∧ Rg i.a

theorem nm_ok : ∀ k : Nat, k < 25 → nmL.getD (k + 1) [] ≠ [] ∧ (∀ c ∈ nmL.getD (k + 1) [], c ≠ 32 ∧ c ≠ 10) ∧ opOf (nmL.getD (k + 1) []) = k + 1 := by decide +kernel
theorem nmO_ok {op : Int} (h : vl op = true) : nmO op ≠ [] ∧ (∀ c ∈ nmO op, c ≠ 32 ∧ c ≠ 10) ∧ (opOf (nmO op) : Int) = op := by
  obtain ⟨h1, h2⟩ := vl_iff.1 h
  unfold nmO
  rw [at_yes h1 h2]
  obtain ⟨k, hk⟩ : ∃ k : Nat, op = (k : Int) + 1 := ⟨(op - 1).toNat, by omega⟩
  have e : op.toNat = k + 1 := by omega
  rw [e]
  obtain ⟨g1, g2, g3⟩ := nm_ok k (by omega)
  exact ⟨g1, g2, by rw [g3]; omega⟩
theorem wd_app {a b : List UInt8} (h : ∀ c ∈ a, c ≠ 32) : wd (a ++ 32 :: b) = a ∧ nb (a ++ 32 :: b) = b := by
  unfold wd nb; rw [cutc_app b h]; exact ⟨rfl, rfl⟩
theorem wd_all {a : List UInt8} (h : ∀ c ∈ a, c ≠ 32) : wd a = a ∧ nb a = [] := by
  unfold wd nb; rw [cutc_none h]; exact ⟨rfl, rfl⟩
/-- A line that is one is read as what it is of. -/
theorem cand_line {i : PIns} (hr : RgI i) (h : line i ≠ []) : cand (line i) = i := by
  obtain ⟨op, a⟩ := i
  unfold line at h ⊢
  by_cases hv : vl op = true
  · obtain ⟨g1, g2, g3⟩ := nmO_ok hv
    simp only [if_pos hv] at h ⊢
    by_cases ho : opd op = 0
    · simp only [if_pos ho] at h ⊢
      by_cases ha : a = 0
      · rw [if_pos ha]
        obtain ⟨w1, w2⟩ := wd_all (fun c hc => (g2 c hc).1)
        unfold cand
        rw [w1, w2, g3, ha]; rfl
      · rw [if_neg ha] at h; exact absurd rfl h
    · rw [if_neg ho]
      obtain ⟨w1, w2⟩ := wd_app (b := itoa a) (fun c hc => (g2 c hc).1)
      unfold cand
      rw [w1, w2, g3]
      unfold atoiV
      rw [atoi_itoa hr.2]
  · rw [if_neg hv] at h; exact absurd rfl h
theorem rd_line {i : PIns} (hr : RgI i) (h : line i ≠ []) : rd (line i) = some i := by
  unfold rd
  rw [cand_line hr h, if_pos ⟨h, rfl⟩]
theorem rd_some {l : List UInt8} {i : PIns} (h : rd l = some i) : line i = l ∧ l ≠ [] := by
  unfold rd at h
  split at h
  · rename_i hc
    rw [← Option.some.inj h]; exact ⟨hc.2, hc.1⟩
  · cases h
theorem atoiV_rg (l : List UInt8) : Rg (atoiV l) := by
  unfold atoiV
  cases h : atoiAll l with
  | ok v => exact atoiAll_bounds h
  | «syntax» => exact ⟨by show (-9223372036854775808 : Int) ≤ 0; omega, by show (0 : Int) ≤ 9223372036854775807; omega⟩
  | range =>
    show Rg (atoiSat l)
    unfold atoiSat Rg
    split <;> omega
theorem fndG_le (s : ByteArray) : ∀ (f k : Nat), fndG s f k = 0 ∨ fndG s f k < k + f
  | 0, _ => Or.inl rfl
  | f + 1, k => by
    unfold fndG
    split
    · right; omega
    · rcases fndG_le s f (k + 1) with h | h
      · exact Or.inl h
      · right; omega
theorem opOf_lt (l : List UInt8) : opOf l ≤ 25 := by
  unfold opOf fnd
  rcases fndG_le ⟨l.toArray⟩ 25 1 with h | h <;> omega
theorem cand_rg (l : List UInt8) : RgI (cand l) :=
  ⟨⟨by have := opOf_lt (wd l); show (-9223372036854775808 : Int) ≤ (opOf (wd l) : Int); omega, by have := opOf_lt (wd l); show (opOf (wd l) : Int) ≤ 9223372036854775807; omega⟩, atoiV_rg _⟩
theorem rd_rg {l : List UInt8} {i : PIns} (h : rd l = some i) : RgI i := by
  unfold rd at h
  split at h
  · rw [← Option.some.inj h]; exact cand_rg l
  · cases h
/-- Another way to a candidate: it is read, if its line is the line. -/
theorem rd_of {l : List UInt8} {i : PIns} (hr : RgI i) (hl : l ≠ []) (h : line i = l) : rd l = some i := by subst h; exact rd_line hr hl

/-! ### Texts -/
/-- P5.1: Text. -/
def txtO : List PIns → Option (List UInt8)
  | [] => some []
  | i :: r => if line i = [] then none else (txtO r).map (fun t => line i ++ 10 :: t)
def txt (code : List PIns) : List UInt8 := (txtO code).getD []
/-- P5.1: Parse, line by line. -/
def prs (s : List UInt8) : Option (List PIns) :=
  if s = [] then some []
  else match _h : cutc 10 s with
    | none => none
    | some p => match rd p.1 with
      | none => none
      | some i => (prs p.2).map (i :: ·)
termination_by s.length
decreasing_by
  have := (cutc_some (a := p.1) (b := p.2) _h).1
  rw [this, List.length_append, List.length_cons]
  omega
theorem prs_nil : prs [] = some [] := by rw [prs]; rfl
theorem prs_none {s : List UInt8} (h0 : s ≠ []) (h : cutc 10 s = none) : prs s = none := by
  rw [prs, if_neg h0]
  split
  · rfl
  · rename_i e; rw [h] at e; cases e
theorem prs_bad {s a b : List UInt8} (h : cutc 10 s = some (a, b)) (hr : rd a = none) : prs s = none := by
  have h0 : s ≠ [] := by rintro rfl; cases h
  rw [prs, if_neg h0]
  split
  · rfl
  · rename_i p e
    rw [h] at e; cases e
    simp only
    rw [hr]
theorem prs_step {s a b : List UInt8} {i : PIns} (h : cutc 10 s = some (a, b)) (hr : rd a = some i) : prs s = (prs b).map (i :: ·) := by
  have h0 : s ≠ [] := by rintro rfl; cases h
  rw [prs, if_neg h0]
  split
  · rename_i e; rw [h] at e; cases e
  · rename_i p e
    rw [h] at e; cases e
    simp only
    rw [hr]
theorem dec_no10 (u : Nat) : ∀ c ∈ decDigits u, c ≠ 10 := by
  intro c hc e
  have := dec_dg u c hc
  subst e
  exact absurd this.1 (by decide)
theorem itoa_no10 (n : Int) : ∀ c ∈ itoa n, c ≠ 10 := by
  intro c hc
  unfold itoa at hc
  by_cases h : n < 0
  · rw [if_pos h] at hc
    rcases List.mem_cons.1 hc with rfl | hc
    · decide
    · exact dec_no10 _ c hc
  · rw [if_neg h] at hc; exact dec_no10 _ c hc
theorem line_no10 (i : PIns) : ∀ c ∈ line i, c ≠ 10 := by
  intro c hc
  unfold line at hc
  split at hc
  · rename_i hv
    obtain ⟨_, g2, _⟩ := nmO_ok hv
    split at hc
    · split at hc
      · exact (g2 c hc).2
      · cases hc
    · rcases List.mem_append.1 hc with hc | hc
      · exact (g2 c hc).2
      · rcases List.mem_cons.1 hc with rfl | hc
        · decide
        · exact itoa_no10 _ c hc
  · cases hc
/-- P5.2: what was written is read as it was. -/
theorem prs_txt : ∀ {code : List PIns} {t : List UInt8}, (∀ i ∈ code, RgI i) → txtO code = some t → prs t = some code
  | [], t, _, h => by cases h; exact prs_nil
  | i :: r, t, hr, h => by
    unfold txtO at h
    by_cases e : line i = []
    · rw [if_pos e] at h; cases h
    · rw [if_neg e] at h
      cases hx : txtO r with
      | none => rw [hx] at h; cases h
      | some u =>
        rw [hx] at h
        cases h
        rw [prs_step (cutc_app u (line_no10 i)) (rd_line (hr i (by simp)) e), prs_txt (fun j hj => hr j (by simp [hj])) hx]
        rfl
/-- .. and what is read is written so. -/
theorem txt_prs : ∀ (n : Nat) {s : List UInt8} {code : List PIns}, s.length ≤ n → prs s = some code → txtO code = some s ∧ ∀ i ∈ code, RgI i
  | n, s, code, hn, h => by
    by_cases h0 : s = []
    · subst h0
      rw [prs_nil] at h; cases h
      exact ⟨rfl, fun i hi => by cases hi⟩
    · cases hc : cutc 10 s with
      | none => rw [prs_none h0 hc] at h; cases h
      | some p =>
        obtain ⟨a, b⟩ := p
        obtain ⟨e1, e2⟩ := cutc_some hc
        cases hr : rd a with
        | none => rw [prs_bad hc hr] at h; cases h
        | some i =>
          rw [prs_step hc hr] at h
          cases hb : prs b with
          | none => rw [hb] at h; cases h
          | some c =>
            rw [hb] at h
            cases h
            have hl : s.length = a.length + 1 + b.length := by rw [e1]; simp; omega
            match n, hn with
            | n + 1, hn =>
              obtain ⟨g1, g2⟩ := txt_prs n (by omega) hb
              obtain ⟨k1, k2⟩ := rd_some hr
              refine ⟨?_, fun j hj => ?_⟩
              · show (if line i = [] then none else (txtO c).map (fun t => line i ++ 10 :: t)) = some s
                rw [if_neg (by rw [k1]; exact k2), g1, k1, e1]; rfl
              · rcases List.mem_cons.1 hj with rfl | hj
                · exact rd_rg hr
                · exact g2 j hj
            | 0, hn => omega
end Go.Proofs.YtkfndedphpehiaaDoor
