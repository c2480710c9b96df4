/-
  What the second law of chapter 5 rests on, as plain data. No conditions.
-/
import Derived.Test.YtkfndedphpehiaaDoorTells
import Derived.Test.YtkfndedphpehiaaDoorRnd
namespace Go.Proofs.YtkfndedphpehiaaDoor
open Go.RowKit

theorem txtO_le : ∀ {c : List PIns} {t : List UInt8}, (∀ i ∈ c, RgI i) → txtO c = some t → t.length ≤ 28 * c.length
  | [], t, _, h => by cases h; simp
  | i :: r, t, hr, h => by
    unfold txtO at h
    by_cases e : line i = []
    · rw [if_pos e] at h; cases h
    · rw [if_neg e] at h
      cases hx : txtO r with
      | none => rw [hx] at h; cases h
      | some u =>
        rw [hx] at h
        cases h
        have h1 := txtO_le (fun j hj => hr j (by simp [hj])) hx
        have h2 := line_len (hr i (by simp))
        simp; omega
theorem txtO_of {c : List PIns} (h : txt c ≠ []) : txtO c = some (txt c) := by
  unfold txt at h ⊢
  cases hx : txtO c with
  | none => rw [hx] at h; exact absurd rfl h
  | some u => rfl
/-- Every line of a text that is one. -/
theorem line_of : ∀ {c : List PIns} {t : List UInt8} {k : Nat} {x : PIns}, txtO c = some t → c[k]? = some x → line x ≠ [] := fun {c} {t} {k} {x} h hx e => by
  rw [txtO_bad c k x hx e] at h; cases h
/-- What is read is written so, or it is none. -/
theorem pe_two (t : List UInt8) : pe t = 2 ∨ (pe t = 0 ∧ txt (pc t) = t) := by
  cases hp : prs t with
  | none => exact Or.inl (pc_no hp).2
  | some c =>
    refine Or.inr ⟨(pc_of hp).2, ?_⟩
    rw [(pc_of hp).1]
    unfold txt
    rw [(txt_prs _ (Nat.le_refl _) hp).1]; rfl

/-- With a sign more. -/
def tM (t : List UInt8) (k : Nat) (c : UInt8) : List UInt8 := t.take k ++ [c] ++ t.drop k
theorem cat_m (t : List UInt8) (k : Nat) (c : UInt8) : bs (t.take k) ++ bs [c] ++ bs (t.drop k) = bs (tM t k c) := by rw [bs_app, bs_app]; rfl

end Go.Proofs.YtkfndedphpehiaaDoor
