/-
  Names cut at every point, as plain data: what the reference's reading comes to. No conditions.
-/
import Derived.Test.YtdgialhigibnlaaDoorI7
import Derived.Test.YtdgialhigibnlaaDoorInt
namespace Go.Proofs.YtdgialhigibnlaaDoor
open Go.Lib
/-- Numbers, a point behind each. -/
def flat : List Int → List UInt8
  | [] => []
  | a :: l => itoa a ++ 46 :: flat l
theorem flat_snoc : ∀ (l : List Int) (a : Int), flat (l ++ [a]) = flat l ++ (itoa a ++ [46])
  | [], a => by simp [flat]
  | b :: l, a => by simp [flat, flat_snoc l a]
theorem tid_flat (a : PID) : tid a ++ [46] = flat [a.f, a.n, a.c] := by simp [tid, flat]
theorem cut_eq {x : UInt8} {a b c d : List UInt8} (ha : ∀ z ∈ a, z ≠ x) (hb : ∀ z ∈ b, z ≠ x) (h : a ++ x :: c = b ++ x :: d) : a = b ∧ c = d := by
  have h1 := cutc_app c ha
  rw [h, cutc_app d hb] at h1
  simp only [Option.some.injEq, Prod.mk.injEq] at h1
  exact ⟨h1.1.symm, h1.2.symm⟩
/-- What is read so far, and the next part: they are the numbers' own. -/
theorem flat_next : ∀ (l L : List Int) (q r : List UInt8), (∀ a ∈ l, Rg a) → (∀ a ∈ L, Rg a) → (∀ z ∈ q, z ≠ 46) → flat l ++ (q ++ 46 :: r) = flat L → ∃ x M, L = l ++ x :: M ∧ q = itoa x
  | [], [], q, r, _, _, _, h => by simp [flat] at h
  | [], x :: M, q, r, _, _, hq, h => by
    simp only [flat, List.nil_append] at h
    exact ⟨x, M, rfl, (cut_eq hq (itoa_no46 x) h).1⟩
  | a :: l, [], q, r, _, _, _, h => by simp [flat] at h
  | a :: l, b :: L, q, r, hl, hL, hq, h => by
    simp only [flat, List.append_assoc, List.cons_append] at h
    obtain ⟨h1, h2⟩ := cut_eq (itoa_no46 a) (itoa_no46 b) h
    have e := itoa_inj (hl a (by simp)) (hL b (by simp)) h1
    subst e
    obtain ⟨x, M, e1, e2⟩ := flat_next l L q r (fun z hz => hl z (by simp [hz])) (fun z hz => hL z (by simp [hz])) hq h2
    exact ⟨x, M, by rw [e1]; rfl, e2⟩
theorem flat_inj : ∀ (l L : List Int), (∀ a ∈ l, Rg a) → (∀ a ∈ L, Rg a) → flat l = flat L → l = L
  | [], [], _, _, _ => rfl
  | [], b :: L, _, _, h => by simp [flat] at h
  | a :: l, [], _, _, h => by simp [flat] at h
  | a :: l, b :: L, hl, hL, h => by
    simp only [flat] at h
    obtain ⟨h1, h2⟩ := cut_eq (itoa_no46 a) (itoa_no46 b) h
    rw [itoa_inj (hl a (by simp)) (hL b (by simp)) h1, flat_inj l L (fun z hz => hl z (by simp [hz])) (fun z hz => hL z (by simp [hz])) h2]
theorem flat_length : ∀ l : List Int, l.length ≤ (flat l).length
  | [] => by simp
  | a :: l => by have := flat_length l; simp [flat]; omega
/-- Where the reading stands: l is read, the next part begins at f, and has no point up to i. -/
structure PS (s : List UInt8) (l : List Int) (f i : Nat) : Prop where
  le : f ≤ i
  top : i ≤ s.length + 1
  fin : i = s.length + 1 → f = i
  rg : ∀ a ∈ l, Rg a
  hd : (s ++ [46]).take f = flat l
  no : ∀ j, f ≤ j → j < i → ∀ c, s[j]? = some c → c ≠ 46
theorem PS.start (s : List UInt8) : PS s [] 0 0 := ⟨by omega, by omega, (fun h => by omega), (fun a h => absurd h (by simp)), rfl, (fun j _ h => by omega)⟩
theorem PS.pass {s : List UInt8} {l : List Int} {f i : Nat} {c : UInt8} (h : PS s l f i) (hc : s[i]? = some c) (hn : c ≠ 46) : PS s l f (i + 1) := by
  have hi := (List.getElem?_eq_some_iff.1 hc).1
  refine ⟨by have := h.le; omega, by omega, fun e => by omega, h.rg, h.hd, fun j h1 h2 d hd => ?_⟩
  by_cases e : j = i
  · subst e; rw [hc] at hd; cases hd; exact hn
  · exact h.no j h1 (by omega) d hd
/-- The part that ends at i. -/
def part (s : List UInt8) (f i : Nat) : List UInt8 := (s.drop f).take (i - f)
theorem PS.part_no {s : List UInt8} {l : List Int} {f i : Nat} (h : PS s l f i) : ∀ z ∈ part s f i, z ≠ 46 := by
  intro z hz
  obtain ⟨j, hj, rfl⟩ := List.mem_iff_getElem.1 hz
  have e : (part s f i)[j]? = s[f + j]? := by
    unfold part
    have hlt : j < i - f := by unfold part at hj; simp at hj; omega
    rw [List.getElem?_take, if_pos hlt, List.getElem?_drop]
  rw [List.getElem?_eq_getElem hj] at e
  have hlt : j < i - f := by unfold part at hj; simp at hj; omega
  exact h.no (f + j) (by omega) (by omega) _ e.symm
theorem PS.cut {s : List UInt8} {l : List Int} {f i : Nat} (h : PS s l f i) (hi : (s ++ [46])[i]? = some 46) : ∃ r, s ++ [46] = flat l ++ (part s f i ++ 46 :: r) := by
  have hlt : i < s.length + 1 := by have := (List.getElem?_eq_some_iff.1 hi).1; simpa using this
  refine ⟨(s ++ [46]).drop (i + 1), ?_⟩
  have h1 : s ++ [46] = (s ++ [46]).take i ++ (s ++ [46]).drop i := (List.take_append_drop i _).symm
  have h2 : (s ++ [46]).drop i = 46 :: (s ++ [46]).drop (i + 1) := by
    obtain ⟨hk, e⟩ := List.getElem?_eq_some_iff.1 hi
    rw [List.drop_eq_getElem_cons hk, e]
  have h3 : (s ++ [46]).take i = (s ++ [46]).take f ++ part s f i := by
    have e : i = f + (i - f) := by have := h.le; omega
    unfold part
    conv => lhs; rw [e]
    rw [List.take_add, List.drop_append_of_le_length (by have := h.le; omega), List.take_append_of_le_length (l₁ := s.drop f) (by rw [List.length_drop]; omega)]
  rw [h2, h3, h.hd, List.append_assoc] at h1
  exact h1
theorem PS.next {s : List UInt8} {l : List Int} {f i : Nat} {a : Int} (h : PS s l f i) (hi : (s ++ [46])[i]? = some 46) (ha : Rg a) (hp : part s f i = itoa a) : PS s (l ++ [a]) (i + 1) (i + 1) := by
  have hlt : i < s.length + 1 := by have := (List.getElem?_eq_some_iff.1 hi).1; simpa using this
  obtain ⟨r, hr⟩ := h.cut hi
  refine ⟨by omega, by omega, fun _ => rfl, fun x hx => ?_, ?_, fun j h1 h2 => by omega⟩
  · rcases List.mem_append.1 hx with hx | hx
    · exact h.rg x hx
    · rw [List.mem_singleton] at hx; subst hx; exact ha
  · rw [flat_snoc, ← hp]
    have hl : (flat l ++ (part s f i ++ [46])).length = i + 1 := by
      have e1 : (flat l).length = f := by rw [← h.hd]; simp; have := h.le; omega
      have e2 : (part s f i).length = i - f := by unfold part; simp; omega
      have := h.le
      simp [e1, e2]; omega
    rw [hr, show flat l ++ (part s f i ++ 46 :: r) = (flat l ++ (part s f i ++ [46])) ++ r by simp, ← hl, List.take_left]
/-- A part that is no number: the whole is no name. -/
theorem PS.bad {s : List UInt8} {l : List Int} {f i : Nat} (h : PS s l f i) (hi : (s ++ [46])[i]? = some 46) (hb : intB (part s f i) = false) : prsD s = none := by
  cases hp : prsD s with
  | none => rfl
  | some a =>
    obtain ⟨e, hr⟩ := prsD_some hp
    obtain ⟨r, hc⟩ := h.cut hi
    have hc : flat [a.f, a.n, a.c] = flat l ++ (part s f i ++ 46 :: r) := by rw [← tid_flat, e]; exact hc
    obtain ⟨x, M, e1, e2⟩ := flat_next l [a.f, a.n, a.c] _ r h.rg (by intro z hz; simp at hz; rcases hz with rfl | rfl | rfl; exact hr.1; exact hr.2.1; exact hr.2.2) h.part_no hc.symm
    have hx : Rg x := by
      have : x ∈ [a.f, a.n, a.c] := by rw [e1]; simp
      simp at this
      rcases this with rfl | rfl | rfl
      · exact hr.1
      · exact hr.2.1
      · exact hr.2.2
    rw [e2, (intV_itoa hx).2] at hb
    cases hb
/-- All is read. -/
theorem PS.done {s : List UInt8} {l : List Int} {f : Nat} (h : PS s l f (s.length + 1)) : s ++ [46] = flat l := by
  have hf := h.fin rfl
  have := h.hd
  rw [hf, List.take_of_length_le (by simp)] at this
  exact this
theorem PS.no3 {s : List UInt8} {l : List Int} {f : Nat} (h : PS s l f (s.length + 1)) (h3 : l.length ≠ 3) : prsD s = none := by
  cases hp : prsD s with
  | none => rfl
  | some a =>
    obtain ⟨e, hr⟩ := prsD_some hp
    have hd : flat [a.f, a.n, a.c] = flat l := by rw [← tid_flat, e]; exact h.done
    have := flat_inj _ _ (by intro z hz; simp at hz; rcases hz with rfl | rfl | rfl; exact hr.1; exact hr.2.1; exact hr.2.2) h.rg hd
    rw [← this] at h3
    exact absurd rfl h3
theorem PS.yes {s : List UInt8} {a b c : Int} {f : Nat} (h : PS s [a, b, c] f (s.length + 1)) : prsD s = some ⟨a, b, c⟩ := by
  have hd := h.done
  have e : s ++ [46] = tid ⟨a, b, c⟩ ++ [46] := by rw [hd, tid_flat]
  have e' := List.append_cancel_right e
  rw [e']
  exact prsD_tid ⟨h.rg a (by simp), h.rg b (by simp), h.rg c (by simp)⟩
theorem intB_part {s : List UInt8} (h : intB s = true) : Rg (intV s) ∧ s = itoa (intV s) := by
  obtain ⟨a, ha, e⟩ := intB_iff.1 h
  rw [e, (intV_itoa ha).1]
  exact ⟨ha, rfl⟩
end Go.Proofs.YtdgialhigibnlaaDoor
