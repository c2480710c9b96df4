/-
  What the third law of chapter 5 rests on: the text of two codes, one behind the other; code appended to code. No conditions.
-/
import Derived.Test.YtkfndedphpehiaaDoorMBack
namespace Go.Proofs.YtkfndedphpehiaaDoor
open Go.RowKit

theorem txtO_app : ∀ (a b : List PIns), txtO (a ++ b) = (txtO a).bind fun x => (txtO b).map fun y => x ++ y
  | [], b => by simp [txtO]
  | i :: r, b => by
    show (if line i = [] then none else (txtO (r ++ b)).map (fun t => line i ++ 10 :: t)) = (if line i = [] then none else (txtO r).map (fun t => line i ++ 10 :: t)).bind fun x => (txtO b).map fun y => x ++ y
    by_cases e : line i = []
    · rw [if_pos e, if_pos e]; rfl
    · rw [if_neg e, if_neg e, txtO_app r b]
      cases txtO r with
      | none => rfl
      | some u =>
        cases txtO b with
        | none => rfl
        | some v => simp
theorem txt_nil : txt [] = [] := rfl
theorem txtO_none {a : List PIns} (h : txt a = []) (h0 : a.length ≠ 0) : txtO a = none := by
  cases hx : txtO a with
  | none => rfl
  | some u =>
    have h1 := txtO_len hx
    unfold txt at h
    rw [hx] at h
    have : u = [] := h
    subst this
    exact absurd (by simpa using h1) h0
theorem txt_none {a : List PIns} (h : txtO a = none) : txt a = [] := by unfold txt; rw [h]; rfl
theorem txt_bad {a b : List PIns} (h : txtO a = none ∨ txtO b = none) : txt (a ++ b) = [] := by
  unfold txt
  rw [txtO_app]
  rcases h with h | h
  · rw [h]; rfl
  · rw [h]; cases txtO a <;> rfl
theorem txtO_is {a : List PIns} (h : txt a ≠ [] ∨ a.length = 0) : txtO a = some (txt a) := by
  rcases h with h | h
  · exact txtO_of h
  · have : a = [] := by cases a with | nil => rfl | cons _ _ => simp at h
    subst this; rfl
theorem txt_app {a b : List PIns} (ha : txtO a = some (txt a)) (hb : txtO b = some (txt b)) : txt (a ++ b) = txt a ++ txt b := by
  have : txtO (a ++ b) = some (txt a ++ txt b) := by rw [txtO_app, ha, hb]; rfl
  unfold txt at this ⊢
  rw [this]; rfl

/-- A line's two forms. -/
theorem line_two {i : PIns} (h : line i ≠ []) : (opd i.op = 0 ∧ line i = nmO i.op) ∨ (opd i.op ≠ 0 ∧ line i = nmO i.op ++ 32 :: Lib.itoa i.a ∧ line i ≠ nmO i.op) := by
  cases hv : vl i.op with
  | false => exact absurd (by unfold line; rw [hv]; rfl) h
  | true =>
    by_cases ho : opd i.op = 0
    · by_cases ha : i.a = 0
      · exact Or.inl ⟨ho, line_bare hv ho ha⟩
      · exact absurd (line_odd hv ho ha) h
    · have e : line i = nmO i.op ++ 32 :: Lib.itoa i.a := by unfold line; rw [if_pos hv, if_neg ho]
      refine Or.inr ⟨ho, e, fun e2 => ?_⟩
      rw [e] at e2
      have := congrArg List.length e2
      simp at this

/-- Nothing is appended. -/
theorem run_append_empty {P : Program} {w : World} (t ty e : TypeId) (i : TypeInfo) (ht : P.underlying t = some (.slice e)) (hi : P.info? e = some i) (A : Option Addr) (c : Nat) :
    (Builtin.append_ #[t, t] ty #[.slice none 0 0, .slice A 0 c]).run P w = .ok (.slice none 0 0) w := by
  cases A with
  | none => simp [Builtin.append_, run_underlying ht, sizeOf, typeInfo, hi, Builtin.lenOf, Builtin.firstCells]
  | some a =>
    have hf := run_firstCells_some (P := P) w i.size 0 a 0 c [] (by simp) (by simp)
    simp [Builtin.append_, run_underlying ht, sizeOf, typeInfo, hi, Builtin.lenOf, hf]
theorem run_append_own0 {P : Program} {w : World} {base e size k : Nat} {v : Value} {xs : List Value} (t ty : TypeId) (i : TypeInfo) (ht : P.underlying t = some (.slice e)) (hi : P.info? e = some i) (h : w.ownsRow base e size v k xs) (A : Option Addr) (c : Nat) :
    (Builtin.append_ #[t, t] ty #[v, .slice A 0 c]).run P w = .ok v w := by
  obtain ⟨h1, h2⟩ := h
  rcases h2 with ⟨rfl, _⟩ | ⟨g, cap, cur, rfl, hb, hh, h3, h4, h5, h6⟩
  · exact run_append_empty t ty e i ht hi A c
  · cases A with
    | none =>
      have hst : ∀ a : Addr, (storeCells a []).run P w = .ok () w := fun a => by rw [storeCells]; rfl
      simp [Builtin.append_, run_underlying ht, sizeOf, typeInfo, hi, Builtin.lenOf, Builtin.firstCells, h3, hst, Result.andThen]
    | some a =>
      have := run_append_room_cells (P := P) w t ty e i ht hi g 0 k cap a 0 c [] (by simp) (by simp) (by simp) (by omega) (by simp) (by simp)
      rw [this]
      rfl
theorem wpList_append_run {P : Program} {w : World} {ops : Array Oper} {rest : List Oper} {o : Oper} {a : Act} {Q : Exit → Act → World → Prop} (hgd : o.guard = none) (s x : Operand) (t : TypeId)
    (ho : o.op = .call { callee := .builtin .append, args := #[s, x], argTypes := #[t, t] }) (v1 v2 v' : Value) (w' : World) (hs : a.eval s = v1) (hx : a.eval x = v2)
    (hrun : ∀ ty, (Builtin.append_ #[t, t] ty #[v1, v2]).run P w = .ok v' w') (h : wpList P ops Q rest (a.put o.dst v') w') : wpList P ops Q (o :: rest) a w := by
  refine wpList_plain hgd fun K hK => ?_
  unfold Oper.wp
  simp [execOp, ho, resolve, invoke, builtin, hs, hx, hrun, Result.andThen]
  exact hK _ _ h
/-- The cells of code that is read. -/
theorem Code.news {w : World} {b o : Nat} {cs : List PIns} (h : ∀ k x, cs[k]? = some x → rIns w b (o + k * 2) x) : ∀ j u, (cv cs)[j]? = some u → w.cell? ((⟨b, o, none⟩ : Addr).add j) = some u := by
  intro j u hu
  have hj : j < cs.length * 2 := by have := (List.getElem?_eq_some_iff.1 hu).1; rwa [cv_len] at this
  obtain ⟨x, hx⟩ := at_lt (l := cs) (k := j / 2) (by omega)
  obtain ⟨h1, h2⟩ := h _ x hx
  obtain ⟨c1, c2⟩ := cv_at hx
  have ea : (⟨b, o, none⟩ : Addr).add j = ⟨b, o + j, none⟩ := by
    unfold Addr.add
    by_cases h0 : j = 0
    · subst h0; rfl
    · rw [if_neg h0]
  rw [ea]
  obtain ⟨q, hq⟩ : ∃ q, j / 2 = q := ⟨_, rfl⟩
  rw [hq] at h1 h2 c1 c2
  rcases (by omega : j = q * 2 ∨ j = q * 2 + 1) with rfl | rfl
  · rw [c1] at hu
    rw [← hu]; exact h1
  · rw [c2] at hu
    rw [← hu, ← Nat.add_assoc]; exact h2
section
variable {w W : World} {v vx : Value} {code : List PIns} {ok : Nat → Prop} {ops : Array Oper} {rest : List Oper} {o : Oper} {a : Act} {Q : Exit → Act → World → Prop}
/-- Code is appended that lies wherever. -/
theorem appS (hgd : o.guard = none) (s x : Operand) (ho : o.op = .call { callee := .builtin .append, args := #[s, x], argTypes := #[22, 22] }) (cs : List PIns)
    (h : CO w v code W) (hs : a.eval s = v) (hx : a.eval x = vx) (hc : Code ok W vx cs) (hl : code.length + cs.length ≤ 1000000)
    (hK : ∀ A cap w', CO w (.slice A (code.length + cs.length) cap) (code ++ cs) w' → wpList Tryd.prog ops Q rest (a.put o.dst (.slice A (code.length + cs.length) cap)) w') : wpList Tryd.prog ops Q (o :: rest) a W := by
  obtain ⟨i0, hi0, hz0, hz1, hz2⟩ := info_parts info24
  obtain ⟨A, c, rfl, _, hr⟩ := hc
  by_cases h0 : cs = []
  · subst h0
    obtain ⟨A2, c2, rfl⟩ := h.form
    refine wpList_append_run hgd s x 22 ho _ _ _ _ hs hx (fun ty => run_append_own0 22 ty i0 Tryd.underlying22 hi0 h.oc A c) ?_
    have := hK A2 c2 W (by simpa using h)
    simpa using this
  · rcases hr with hr | ⟨b, o', rfl, _, hlt, hcell⟩
    · exact absurd hr h0
    · refine wpList_append_lies W hgd s x 22 ho w.heap.size 24 i0 _ 2 16 Tryd.underlying22 hi0 hz0 hz1 hz2 rfl (by decide) v code.length (cv code) hs h.oc ⟨b, o', none⟩ cs.length c (cv cs) hx (cv_len cs) (Code.news hcell) (cv_one cs) (List.length_pos_iff.2 h0) (by unfold maxLen; omega) (by omega) h.low.size W.heap.size rfl ?_
      intro g cap w' hown hgr _ _
      exact hK _ cap w' (h.push hown hgr)
end
end Go.Proofs.YtkfndedphpehiaaDoor
