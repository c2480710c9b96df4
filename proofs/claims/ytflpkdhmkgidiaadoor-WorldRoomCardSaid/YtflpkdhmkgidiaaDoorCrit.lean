/-
  When a list is the depths, asked of it place by place; when there are none, asked of a way. No conditions.
-/
import Derived.Test.YtflpkdhmkgidiaaDoorFPlain
namespace Go.Proofs.YtflpkdhmkgidiaaDoor

def closedAt (hs : List PHnd) (code : List PIns) (l : List Int) (k : Nat) : Bool :=
  match l[k]?, code[k]? with
  | some d, some i => if 0 ≤ d then decide (okI hs i d) && (nxt i k).all (fun j => l[j]? == some (lft hs i d)) else true
  | _, _ => true
/-- Place k (not the first) is not reached, or is from the place pr, ahead of it. -/
def soundAt (code : List PIns) (l : List Int) (k pr : Nat) : Bool :=
  l[k]? == some (-1) || (decide (pr < k) && (match l[pr]?, code[pr]? with
    | some d, some i => decide (0 ≤ d) && (nxt i pr).contains k
    | _, _ => false))
def goodB (hs : List PHnd) (code : List PIns) (l : List Int) (pr : Nat → Nat) : Bool :=
  l.length == code.length + 1 && l[0]? == some 0 && (List.range code.length).all (closedAt hs code l) && (List.range code.length).all (fun k => soundAt code l (k + 1) (pr (k + 1)))

section
variable {hs : List PHnd} {code : List PIns} {l : List Int}
theorem closedAt_dn {k : Nat} (h : closedAt hs code l k = true) : Dn hs code l k := by
  intro d i hd h0 hi
  unfold closedAt at h
  rw [hd, hi] at h
  simp only [if_pos h0, Bool.and_eq_true, decide_eq_true_eq, List.all_eq_true, beq_iff_eq] at h
  exact ⟨h.1, fun j hj => h.2 j hj⟩
theorem goodB_good {pr : Nat → Nat} (h : goodB hs code l pr = true) : Good hs code l := by
  unfold goodB at h
  simp only [Bool.and_eq_true, beq_iff_eq, List.all_eq_true, List.mem_range] at h
  obtain ⟨⟨⟨h1, h2⟩, h3⟩, h4⟩ := h
  have cl : ∀ k, Dn hs code l k := fun k => by
    by_cases hk : k < code.length
    · exact closedAt_dn (h3 k hk)
    · intro d i _ _ hi
      rw [List.getElem?_eq_none (by omega)] at hi; cases hi
  refine ⟨⟨h1, h2, fun k => ?_⟩, cl⟩
  induction k using Nat.strongRecOn with
  | _ k ih =>
    intro d hd
    match k, ih, hd with
    | 0, _, hd => rw [h2] at hd; cases hd; exact Or.inr .start
    | k + 1, ih, hd =>
      have hk : k < code.length := by have := (List.getElem?_eq_some_iff.1 hd).1; omega
      have hs := h4 k hk
      unfold soundAt at hs
      rw [Bool.or_eq_true, Bool.and_eq_true, beq_iff_eq, decide_eq_true_eq] at hs
      rcases hs with hs | ⟨hlt, hs⟩
      · rw [hd] at hs; exact Or.inl (Option.some.inj hs)
      · generalize hpr : pr (k + 1) = r at hlt hs
        cases hx : l[r]? with
        | none => rw [hx] at hs; simp at hs
        | some x =>
          cases hy : code[r]? with
          | none => rw [hx, hy] at hs; simp at hs
          | some i =>
            rw [hx, hy] at hs
            simp only [Bool.and_eq_true, decide_eq_true_eq, List.contains_iff_mem] at hs
            obtain ⟨h0, hm⟩ := hs
            obtain ⟨ho, hn⟩ := cl r x i hx h0 hy
            have hr : Rch _ code r x := (ih r hlt x hx).resolve_left (by omega)
            have e := hn _ hm
            rw [hd] at e
            rw [Option.some.inj e]
            exact Or.inr (.step hr hy ho hm)

/-- Along a way: where it ends, and with how many numbers. -/
def way (hs : List PHnd) (code : List PIns) : Nat → Int → List Nat → Option (Nat × Int)
  | k, d, [] => some (k, d)
  | k, d, j :: r =>
    match code[k]? with
    | some i => if okI hs i d ∧ j ∈ nxt i k then way hs code j (lft hs i d) r else none
    | none => none
theorem way_rch : ∀ {js : List Nat} {k : Nat} {d : Int} {e : Nat × Int}, Rch hs code k d → way hs code k d js = some e → Rch hs code e.1 e.2
  | [], k, d, e, hr, h => by simp only [way, Option.some.injEq] at h; subst h; exact hr
  | j :: r, k, d, e, hr, h => by
    unfold way at h
    cases hi : code[k]? with
    | none => rw [hi] at h; simp at h
    | some i =>
      rw [hi] at h
      simp only at h
      by_cases ho : okI hs i d ∧ j ∈ nxt i k
      · rw [if_pos ho] at h
        exact way_rch (.step hr hi ho.1 ho.2) h
      · rw [if_neg ho] at h; cases h
/-- A way to what may not be. -/
def badB (hs : List PHnd) (code : List PIns) (js : List Nat) : Bool :=
  match way hs code 0 0 js with
  | some (k, d) => (match code[k]? with | some i => !decide (okI hs i d) | none => false)
  | none => false
theorem badB_bad {js : List Nat} (h : badB hs code js = true) : Bad hs code := by
  unfold badB at h
  cases hw : way hs code 0 0 js with
  | none => rw [hw] at h; cases h
  | some e =>
    obtain ⟨k, d⟩ := e
    rw [hw] at h
    simp only at h
    cases hi : code[k]? with
    | none => rw [hi] at h; cases h
    | some i =>
      rw [hi] at h
      simp only [Bool.not_eq_true', decide_eq_false_iff_not] at h
      exact Or.inl ⟨k, d, i, way_rch .start hw, hi, h⟩
/-- Two ways to one place, with two depths. -/
def twoB (hs : List PHnd) (code : List PIns) (js js' : List Nat) : Bool :=
  match way hs code 0 0 js, way hs code 0 0 js' with
  | some (k, d), some (k', d') => decide (k = k') && !decide (d = d')
  | _, _ => false
theorem twoB_bad {js js' : List Nat} (h : twoB hs code js js' = true) : Bad hs code := by
  unfold twoB at h
  cases hw : way hs code 0 0 js with
  | none => rw [hw] at h; cases h
  | some e =>
    cases hw' : way hs code 0 0 js' with
    | none => rw [hw, hw'] at h; cases h
    | some e' =>
      obtain ⟨k, d⟩ := e
      obtain ⟨k', d'⟩ := e'
      rw [hw, hw'] at h
      simp only [Bool.and_eq_true, decide_eq_true_eq, Bool.not_eq_true', decide_eq_false_iff_not] at h
      obtain ⟨rfl, hne⟩ := h
      exact Or.inr ⟨k, d, d', way_rch .start hw, way_rch .start hw', hne⟩
end

/-- A program of one handler. -/
def hP (code : List PIns) : PPrg := ⟨[⟨0, code⟩], [⟨[0], 0, -1, false⟩], [], 100⟩
def exC : List PIns := [⟨1, 1⟩, ⟨21, 4⟩, ⟨1, 2⟩, ⟨20, 5⟩, ⟨1, 3⟩, ⟨2, 0⟩]
theorem ex_chk : chk (hP exC) = 0 := by decide +kernel
theorem ex_good : Good (hP exC).hs exC [0, 1, 0, 1, 0, 1, 0] := goodB_good (pr := fun k => if k = 4 then 1 else k - 1) (by decide +kernel)
theorem pop_chk : chk (hP [⟨2, 0⟩]) = 0 := by decide +kernel
theorem pop_bad : Bad (hP [⟨2, 0⟩]).hs [⟨2, 0⟩] := badB_bad (js := []) (by decide +kernel)
end Go.Proofs.YtflpkdhmkgidiaaDoor
