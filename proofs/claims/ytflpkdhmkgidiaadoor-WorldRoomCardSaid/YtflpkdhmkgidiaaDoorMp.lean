/-
  Messages put in and taken out, as plain lists: they stay in order; what is there. No conditions.
-/
import Derived.Test.YtflpkdhmkgidiaaDoorM9
namespace Go.Proofs.YtflpkdhmkgidiaaDoor
theorem less_trans {a b c : PID} (h1 : lessD a b = true) (h2 : lessD b c = true) : lessD a c = true := by rw [lessD_iff] at *; omega
theorem less_irr (a : PID) : lessD a a = false := by
  cases h : lessD a a with
  | false => rfl
  | true => rw [lessD_iff] at h; omega
theorem less_ne {a b : PID} (h : lessD a b = true) : a ≠ b := by rintro rfl; rw [less_irr] at h; cases h
theorem less_total {a b : PID} (h : a ≠ b) (h1 : lessD a b = false) : lessD b a = true := by
  have h2 : ¬ lessD a b = true := by rw [h1]; decide
  rw [lessD_iff] at *
  have h3 : ¬ (a.f = b.f ∧ a.n = b.n ∧ a.c = b.c) := fun ⟨e1, e2, e3⟩ => h (by obtain ⟨f, n, c⟩ := a; obtain ⟨f', n', c'⟩ := b; dsimp only at e1 e2 e3; rw [e1, e2, e3])
  omega
theorem srt_pw : ∀ (l : List PMsg), srt l = true ↔ l.Pairwise (fun x y => lessD x.id y.id = true)
  | [] => by simp [srt]
  | [a] => by simp [srt]
  | a :: b :: r => by
    rw [srt, Bool.and_eq_true, srt_pw (b :: r)]
    rw [List.pairwise_cons (a := a)]
    constructor
    · rintro ⟨h1, h2⟩
      refine ⟨fun y hy => ?_, h2⟩
      rcases List.mem_cons.1 hy with rfl | hy
      · exact h1
      · exact less_trans h1 ((List.pairwise_cons.1 h2).1 y hy)
    · rintro ⟨h1, h2⟩
      exact ⟨h1 b (by simp), h2⟩
theorem fnd_iff {l : List PMsg} {d : PID} : fnd l d = -1 ↔ ∀ x ∈ l, x.id ≠ d := by
  rcases fnd_cases l d with ⟨h, h1⟩ | ⟨k, x, h, h1, h2, _⟩
  · refine ⟨fun _ x hx => ?_, fun _ => h⟩
    obtain ⟨j, hj⟩ := List.mem_iff_getElem?.1 hx
    exact h1 j x hj
  · refine ⟨fun e => by omega, fun hh => absurd h2 (hh x (List.mem_of_getElem? h1))⟩
theorem fnd_some {l : List PMsg} {d : PID} (h : fnd l d ≠ -1) : ∃ (k : Nat) (x : PMsg), fnd l d = k ∧ l[k]? = some x ∧ x.id = d := by
  rcases fnd_cases l d with ⟨e, _⟩ | ⟨k, x, h, h1, h2, _⟩
  · exact absurd e h
  · exact ⟨k, x, h, h1, h2⟩
theorem fnd_mem {l : List PMsg} {x : PMsg} (h : x ∈ l) : ∃ (k : Nat) (y : PMsg), fnd l x.id = k ∧ l[k]? = some y ∧ y.id = x.id :=
  fnd_some fun e => fnd_iff.1 e x h rfl
theorem put_perm (l : List PMsg) (m : PMsg) : (putP l m).Perm (m :: l) := by
  unfold putP
  exact (List.perm_middle).trans (by rw [List.take_append_drop])
theorem put_len (l : List PMsg) (m : PMsg) : (putP l m).length = l.length + 1 := (put_perm l m).length_eq
theorem put_mem {l : List PMsg} {m x : PMsg} : x ∈ putP l m ↔ x = m ∨ x ∈ l := by rw [(put_perm l m).mem_iff, List.mem_cons]
theorem put_srt {l : List PMsg} {m : PMsg} (h : srt l = true) (hf : fnd l m.id = -1) : srt (putP l m) = true := by
  rw [srt_pw] at *
  rw [fnd_iff] at hf
  have h1 : ∀ x ∈ l.take (plc l m.id), lessD x.id m.id = true := fun x hx => by
    obtain ⟨j, hj⟩ := List.mem_iff_getElem?.1 hx
    rw [List.getElem?_take] at hj
    split at hj
    · rename_i hlt
      obtain ⟨hjl, rfl⟩ := List.getElem?_eq_some_iff.1 hj
      have := List.not_of_lt_findIdx (p := fun m' : PMsg => !lessD m'.id m.id) hlt
      simpa using this
    · cases hj
  have h2 : ∀ y ∈ l.drop (plc l m.id), lessD m.id y.id = true := fun y hy => by
    by_cases hp : plc l m.id < l.length
    · have e0 : lessD (l[plc l m.id]).id m.id = false := by
        have := List.findIdx_getElem (p := fun m' : PMsg => !lessD m'.id m.id) (w := hp)
        unfold plc; simpa using this
      have e1 := less_total (hf _ (List.getElem_mem hp)) e0
      rw [List.drop_eq_getElem_cons hp] at hy
      rcases List.mem_cons.1 hy with rfl | hy
      · exact e1
      · have h3 : (l.drop (plc l m.id)).Pairwise (fun x y => lessD x.id y.id = true) := h.drop
        rw [List.drop_eq_getElem_cons hp, List.pairwise_cons] at h3
        exact less_trans e1 (h3.1 y hy)
    · rw [List.drop_eq_nil_of_le (by omega)] at hy; cases hy
  unfold putP
  rw [List.pairwise_append, List.pairwise_cons]
  refine ⟨h.take, ⟨h2, h.drop⟩, fun x hx y hy => ?_⟩
  rcases List.mem_cons.1 hy with rfl | hy
  · exact h1 x hx
  · exact less_trans (h1 x hx) (h2 y hy)
end Go.Proofs.YtflpkdhmkgidiaaDoor
