/-
  Depths as plain data: which instructions are reached with how many numbers, when a list of depths is the right one, and when there is none. No conditions.
-/
import Derived.Test.YtgdloonpemaijaaDoorPlain
import Derived.Test.YtgdloonpemaijaaDoorOps
namespace Go.Proofs.YtgdloonpemaijaaDoor

/-- What an instruction takes: its Pops; of a send the Args of its handler besides. -/
def tk (hs : List PHnd) (i : PIns) : Int := if i.op = 22 then po (at_ i.op) + argsOf hs i.a else po (at_ i.op)
def pt (i : PIns) : Int := pu (at_ i.op)
/-- What it leaves. -/
def lft (hs : List PHnd) (i : PIns) (d : Int) : Int := d - tk hs i + pt i
def okI (hs : List PHnd) (i : PIns) (d : Int) : Prop := tk hs i ≤ d ∧ lft hs i d ≤ 8
instance (hs : List PHnd) (i : PIns) (d : Int) : Decidable (okI hs i d) := by unfold okI; infer_instance
/-- Where it may go on. -/
def nxt (i : PIns) (k : Nat) : List Nat := if i.op = 25 then [] else if i.op = 20 then [i.a.toNat] else if i.op = 21 then [i.a.toNat, k + 1] else [k + 1]

inductive Rch (hs : List PHnd) (code : List PIns) : Nat → Int → Prop
  | start : Rch hs code 0 0
  | step {k : Nat} {d : Int} {i : PIns} {j : Nat} : Rch hs code k d → code[k]? = some i → okI hs i d → j ∈ nxt i k → Rch hs code j (lft hs i d)

def Bad (hs : List PHnd) (code : List PIns) : Prop :=
  (∃ k d i, Rch hs code k d ∧ code[k]? = some i ∧ ¬ okI hs i d) ∨ ∃ k d d', Rch hs code k d ∧ Rch hs code k d' ∧ d ≠ d'
/-- At place k all is done. -/
def Dn (hs : List PHnd) (code : List PIns) (l : List Int) (k : Nat) : Prop :=
  ∀ d i, l[k]? = some d → 0 ≤ d → code[k]? = some i → okI hs i d ∧ ∀ j ∈ nxt i k, l[j]? = some (lft hs i d)
/-- What holds of depths on the way. -/
structure Snd (hs : List PHnd) (code : List PIns) (l : List Int) : Prop where
  len : l.length = code.length + 1
  first : l[0]? = some 0
  sound : ∀ k d, l[k]? = some d → d = -1 ∨ Rch hs code k d
structure Good (hs : List PHnd) (code : List PIns) (l : List Int) : Prop extends Snd hs code l where
  closed : ∀ k, Dn hs code l k

theorem pu_nonneg : ∀ i : Nat, 0 ≤ pu i := by
  intro i
  by_cases h : i < 26
  · have : ∀ i : Nat, i < 26 → 0 ≤ pu i := by decide
    exact this i h
  · have : pu i = 0 := by
      unfold pu puL
      rw [List.getD_eq_getElem?_getD, List.getElem?_eq_none (by simp; omega)]; rfl
    omega
theorem pt_bd (i : PIns) : 0 ≤ pt i ∧ pt i ≤ 2 := by
  refine ⟨pu_nonneg _, ?_⟩
  unfold pt at_
  split
  · rename_i h
    have : ∀ i : Nat, i < 26 → pu i ≤ 2 := by decide
    exact this _ (by omega)
  · decide
theorem po_bd (op : Int) : 0 ≤ po (at_ op) ∧ po (at_ op) ≤ 2 := by
  unfold at_
  split
  · rename_i h
    have : ∀ i : Nat, i < 26 → 0 ≤ po i ∧ po i ≤ 2 := by decide
    exact this _ (by omega)
  · decide
section
variable {hs : List PHnd} {code : List PIns} {l l' : List Int} {k : Nat} {d d' : Int} {i : PIns}
theorem lft_nonneg (h : okI hs i d) : 0 ≤ lft hs i d := by
  have h1 := h.1
  have h2 := (pt_bd i).1
  unfold lft; omega
theorem Rch.nonneg (h : Rch hs code k d) : 0 ≤ d := by
  cases h with
  | start => exact Int.le_refl _
  | step _ _ ho _ => exact lft_nonneg ho
theorem Rch.le (h : Rch hs code k d) : d ≤ 8 := by
  cases h with
  | start => decide
  | step _ _ ho _ => exact ho.2
theorem Good.at (g : Good hs code l) (h : Rch hs code k d) : l[k]? = some d := by
  induction h with
  | start => exact g.first
  | step hr hi ho hj ih => exact (g.closed _ _ _ ih hr.nonneg hi).2 _ hj
theorem Good.not_bad (g : Good hs code l) : ¬ Bad hs code := by
  rintro (⟨k, d, i, hr, hi, hn⟩ | ⟨k, d, d', h1, h2, hn⟩)
  · exact hn (g.closed _ _ _ (g.at hr) hr.nonneg hi).1
  · have := (g.at h1).symm.trans (g.at h2)
    exact hn (Option.some.inj this)
theorem Good.unique (g : Good hs code l) (g' : Good hs code l') : l = l' := by
  refine List.ext_getElem? fun k => ?_
  by_cases hk : k < l.length
  · obtain ⟨x, hx⟩ := at_lt hk
    have hk' : k < l'.length := by rw [g'.len]; rw [g.len] at hk; exact hk
    obtain ⟨y, hy⟩ := at_lt hk'
    rcases g.sound k x hx with h | h
    · rcases g'.sound k y hy with h' | h'
      · rw [hx, hy, h, h']
      · have := g.at h'
        rw [hx] at this
        have e := Option.some.inj this
        have := h'.nonneg
        omega
    · rw [hx, g'.at h]
  · rw [List.getElem?_eq_none (by omega), List.getElem?_eq_none (by rw [g'.len]; rw [g.len] at hk; omega)]
open Classical in
/-- The depths, if there are any. -/
noncomputable def dp (hs : List PHnd) (code : List PIns) : Option (List Int) := if h : ∃ l, Good hs code l then some h.choose else none
theorem Good.dp (g : Good hs code l) : dp hs code = some l := by
  have h : ∃ l, Good hs code l := ⟨l, g⟩
  unfold YtgdloonpemaijaaDoor.dp
  rw [dif_pos h, h.choose_spec.unique g]
theorem Bad.dp (b : Bad hs code) : dp hs code = none := by
  unfold YtgdloonpemaijaaDoor.dp
  rw [dif_neg (fun ⟨l, g⟩ => g.not_bad b)]
theorem dp_good (h : dp hs code = some l) : Good hs code l := by
  unfold YtgdloonpemaijaaDoor.dp at h
  split at h
  · rename_i hx
    exact Option.some.inj h ▸ hx.choose_spec
  · cases h



/-! On the way. -/
theorem Snd.rch (s : Snd hs code l) (h : l[k]? = some d) (h0 : 0 ≤ d) : Rch hs code k d := by
  rcases s.sound k d h with h1 | h1
  · omega
  · exact h1
/-- A place that was not reached is reached now. -/
theorem Snd.set (s : Snd hs code l) (h : l[k]? = some (-1)) (hr : Rch hs code k d) : Snd hs code (l.set k d) := by
  refine ⟨by rw [List.length_set]; exact s.len, ?_, fun j x hx => ?_⟩
  · have hk : k ≠ 0 := by rintro rfl; rw [s.first] at h; cases h
    rw [List.getElem?_set_ne hk]; exact s.first
  · by_cases e : k = j
    · subst e
      rw [List.getElem?_set_self (by exact (List.getElem?_eq_some_iff.1 h).1)] at hx
      exact Or.inr (Option.some.inj hx ▸ hr)
    · rw [List.getElem?_set_ne e] at hx
      exact s.sound j x hx
theorem Dn.set {j : Nat} (s : Dn hs code l j) (h : l[k]? = some (-1)) (hj : k ≠ j) : Dn hs code (l.set k d) j := by
  intro x i hx h0 hi
  rw [List.getElem?_set_ne hj] at hx
  obtain ⟨h1, h2⟩ := s x i hx h0 hi
  refine ⟨h1, fun m hm => ?_⟩
  have h3 := h2 m hm
  have hne : k ≠ m := by
    rintro rfl
    rw [h] at h3
    have := lft_nonneg h1
    have e := Option.some.inj h3
    omega
  rw [List.getElem?_set_ne hne]; exact h3
theorem count_set_less (h : l[k]? = some (-1)) (h0 : 0 ≤ d) : (l.set k d).count (-1) + 1 = l.count (-1) := by
  obtain ⟨hk, he⟩ := List.getElem?_eq_some_iff.1 h
  rw [List.count_set hk, he]
  have h1 : 0 < l.count (-1) := List.count_pos_iff.2 (he ▸ List.getElem_mem hk)
  have h2 : (d == -1) = false := by simp; omega
  rw [h2]
  simp
  omega
end

/-- The walk: what is to be done (t), beside the place that is being done (m of whose ways are done). -/
structure Wk (hs : List PHnd) (code : List PIns) (l : List Int) (t : List Nat) : Prop extends Snd hs code l where
  todo : ∀ k ∈ t, ∃ d, l[k]? = some d ∧ 0 ≤ d
  done : ∀ k, k ∈ t ∨ Dn hs code l k
structure Wm (hs : List PHnd) (code : List PIns) (l : List Int) (t : List Nat) (k : Nat) (d : Int) (i : PIns) (m : Nat) : Prop extends Snd hs code l where
  todo : ∀ k ∈ t, ∃ d, l[k]? = some d ∧ 0 ≤ d
  done : ∀ j, j ∈ t ∨ j = k ∨ Dn hs code l j
  here : l[k]? = some d
  ways : ∀ j ∈ (nxt i k).take m, l[j]? = some (lft hs i d)
section
variable {hs : List PHnd} {code : List PIns} {l l' : List Int} {t : List Nat} {k m : Nat} {d d' : Int} {i : PIns}
theorem Wk.good (h : Wk hs code l []) : Good hs code l := ⟨h.toSnd, fun k => (h.done k).elim (fun h => absurd h (List.not_mem_nil)) id⟩
theorem Wk.begin {hs : List PHnd} {code : List PIns} : Wk hs code ((List.replicate (code.length + 1) (-1)).set 0 0) [0] := by
  have h0 : ((List.replicate (code.length + 1) (-1 : Int)).set 0 0)[0]? = some 0 := by rw [List.getElem?_set_self (by simp)]
  have h1 : ∀ j d, 0 ≠ j → ((List.replicate (code.length + 1) (-1 : Int)).set 0 0)[j]? = some d → d = -1 := fun j d hj h => by
    rw [List.getElem?_set_ne hj, List.getElem?_replicate] at h
    split at h
    · exact (Option.some.inj h).symm
    · cases h
  refine ⟨⟨by simp, h0, fun j d hd => ?_⟩, fun k hk => ?_, fun j => ?_⟩
  · by_cases e : 0 = j
    · subst e; rw [h0] at hd; cases hd; exact Or.inr .start
    · exact Or.inl (h1 j d e hd)
  · rw [List.mem_singleton] at hk; subst hk; exact ⟨0, h0, Int.le_refl _⟩
  · by_cases e : 0 = j
    · exact Or.inl (by simp [e])
    · refine Or.inr fun d i hd h0 _ => ?_
      have := h1 j d e hd
      omega
/-- The last of what is to be done is the end: done. -/
theorem Wk.pop (h : Wk hs code l (t ++ [k])) (hk : code[k]? = none) : Wk hs code l t :=
  ⟨h.toSnd, fun j hj => h.todo j (List.mem_append_left _ hj), fun j => by
    rcases h.done j with hj | hj
    · rcases List.mem_append.1 hj with hj | hj
      · exact Or.inl hj
      · rw [List.mem_singleton] at hj; subst hj
        exact Or.inr fun d i _ _ hi => by rw [hk] at hi; cases hi
    · exact Or.inr hj⟩
theorem Wk.here (h : Wk hs code l (t ++ [k])) : ∃ d, l[k]? = some d ∧ 0 ≤ d := h.todo k (by simp)
theorem Wk.into (h : Wk hs code l (t ++ [k])) (hd : l[k]? = some d) : Wm hs code l t k d i 0 :=
  ⟨h.toSnd, fun j hj => h.todo j (List.mem_append_left _ hj), fun j => by
    rcases h.done j with hj | hj
    · rcases List.mem_append.1 hj with hj | hj
      · exact Or.inl hj
      · exact Or.inr (Or.inl (List.mem_singleton.1 hj))
    · exact Or.inr (Or.inr hj), hd, fun j hj => by simp at hj⟩
theorem take_mem {α : Type} {l : List α} {m : Nat} {x j : α} (h : l[m]? = some x) (hj : j ∈ l.take (m + 1)) : j ∈ l.take m ∨ j = x := by
  rw [List.take_add_one, h] at hj
  simpa using hj
theorem Wm.new {j : Nat} (h : Wm hs code l t k d i m) (h0 : 0 ≤ d) (hi : code[k]? = some i) (ho : okI hs i d) (hj : (nxt i k)[m]? = some j) (hn : l[j]? = some (-1)) :
    Wm hs code (l.set j (lft hs i d)) (t ++ [j]) k d i (m + 1) := by
  have hr : Rch hs code j (lft hs i d) := .step (h.toSnd.rch h.here h0) hi ho (List.mem_of_getElem? hj)
  have hkj : j ≠ k := by rintro rfl; have := h.here; rw [hn] at this; have e := Option.some.inj this; omega
  have hself : (l.set j (lft hs i d))[j]? = some (lft hs i d) := List.getElem?_set_self (List.getElem?_eq_some_iff.1 hn).1
  have hold : ∀ (x : Nat) (y : Int), l[x]? = some y → 0 ≤ y → (l.set j (lft hs i d))[x]? = some y := fun x y hx hy => by
    rw [List.getElem?_set_ne (by rintro rfl; rw [hn] at hx; have e := Option.some.inj hx; omega)]; exact hx
  refine ⟨h.toSnd.set hn hr, fun x hx => ?_, fun x => ?_, hold _ _ h.here h0, fun x hx => ?_⟩
  · rcases List.mem_append.1 hx with hx | hx
    · obtain ⟨y, h1, h2⟩ := h.todo x hx
      exact ⟨y, hold _ _ h1 h2, h2⟩
    · rw [List.mem_singleton] at hx; subst hx; exact ⟨_, hself, lft_nonneg ho⟩
  · by_cases e : j = x
    · exact Or.inl (by simp [e])
    · rcases h.done x with hx | hx | hx
      · exact Or.inl (List.mem_append_left _ hx)
      · exact Or.inr (Or.inl hx)
      · exact Or.inr (Or.inr (hx.set hn e))
  · rcases take_mem hj hx with hx | rfl
    · exact hold _ _ (h.ways x hx) (lft_nonneg ho)
    · exact hself
theorem Wm.old {j : Nat} (h : Wm hs code l t k d i m) (hj : (nxt i k)[m]? = some j) (hn : l[j]? = some (lft hs i d)) : Wm hs code l t k d i (m + 1) :=
  ⟨h.toSnd, h.todo, h.done, h.here, fun x hx => (take_mem hj hx).elim (h.ways x) fun e => e ▸ hn⟩
theorem Wm.two {j : Nat} {x : Int} (h : Wm hs code l t k d i m) (h0 : 0 ≤ d) (hi : code[k]? = some i) (ho : okI hs i d) (hj : (nxt i k)[m]? = some j) (hn : l[j]? = some x) (hx : x ≠ -1) (hne : x ≠ lft hs i d) : Bad hs code :=
  Or.inr ⟨j, x, _, (h.sound j x hn).resolve_left hx, .step (h.toSnd.rch h.here h0) hi ho (List.mem_of_getElem? hj), hne⟩
theorem Wm.bad (h : Wm hs code l t k d i m) (h0 : 0 ≤ d) (hi : code[k]? = some i) (ho : ¬ okI hs i d) : Bad hs code :=
  Or.inl ⟨k, d, i, h.toSnd.rch h.here h0, hi, ho⟩
theorem Wm.out (h : Wm hs code l t k d i m) (hi : code[k]? = some i) (ho : okI hs i d) (hm : (nxt i k).length ≤ m) : Wk hs code l t :=
  ⟨h.toSnd, h.todo, fun j => by
    rcases h.done j with hj | rfl | hj
    · exact Or.inl hj
    · refine Or.inr fun x y hx _ hy => ?_
      rw [h.here] at hx; rw [hi] at hy
      cases hx; cases hy
      refine ⟨ho, fun z hz => h.ways z (by rwa [List.take_of_length_le hm])⟩
    · exact Or.inr hj⟩
end

/-! The reference's way: pass upon pass. -/
/-- In a pass, ahead of place k: `ag`, whether something came new in it. -/
structure Ps (hs : List PHnd) (code : List PIns) (l : List Int) (mo : Int) (ag : Bool) (k : Nat) : Prop extends Snd hs code l where
  done : ag = false → ∀ j, j < k → Dn hs code l j
  big : ag = false → ∀ j d i, j < k → l[j]? = some d → 0 ≤ d → code[j]? = some i → d ≤ mo ∧ lft hs i d ≤ mo
  nn : 0 ≤ mo
  le : mo ≤ 8
  is : mo = 0 ∨ ∃ j d i, Rch hs code j d ∧ code[j]? = some i ∧ okI hs i d ∧ (mo = d ∨ mo = lft hs i d)
/-- At place k, m of whose ways are done. -/
structure Pm (hs : List PHnd) (code : List PIns) (l : List Int) (mo : Int) (ag : Bool) (k : Nat) (d : Int) (i : PIns) (m : Nat) : Prop extends Ps hs code l mo ag k where
  here : l[k]? = some d
  ways : ∀ j ∈ (nxt i k).take m, l[j]? = some (lft hs i d)
  mb : d ≤ mo ∧ lft hs i d ≤ mo
def mx2 (a b : Int) : Int := if a ≤ b then b else a
section
variable {hs : List PHnd} {code : List PIns} {l l' : List Int} {mo : Int} {ag : Bool} {k m : Nat} {d d' : Int} {i : PIns}
theorem Ps.begin {hs : List PHnd} {code : List PIns} : Ps hs code ((List.replicate (code.length + 1) (-1)).set 0 0) 0 false 0 :=
  ⟨Wk.begin.toSnd, fun _ _ hj => absurd hj (Nat.not_lt_zero _), fun _ _ _ _ hj => absurd hj (Nat.not_lt_zero _), Int.le_refl _, by decide, Or.inl rfl⟩
theorem Ps.again (h : Ps hs code l mo ag k) : Ps hs code l mo false 0 :=
  ⟨h.toSnd, fun _ _ hj => absurd hj (Nat.not_lt_zero _), fun _ _ _ _ hj => absurd hj (Nat.not_lt_zero _), h.nn, h.le, h.is⟩
/-- A place that is not reached. -/
theorem Ps.skip (h : Ps hs code l mo ag k) (hd : l[k]? = some d) (h0 : d < 0) : Ps hs code l mo ag (k + 1) :=
  ⟨h.toSnd, fun ha j hj => by
    by_cases e : j = k
    · subst e; intro x i hx h1 _; rw [hd] at hx; cases hx; omega
    · exact h.done ha j (by omega), fun ha j x i hj hx h1 hi => by
    by_cases e : j = k
    · subst e; rw [hd] at hx; cases hx; omega
    · exact h.big ha j x i (by omega) hx h1 hi, h.nn, h.le, h.is⟩
theorem Ps.into {mo' : Int} (h : Ps hs code l mo ag k) (hd : l[k]? = some d) (h0 : 0 ≤ d) (hi : code[k]? = some i) (ho : okI hs i d) (hm1 : mo ≤ mo') (hm2 : d ≤ mo') (hm3 : lft hs i d ≤ mo') (hm : mo' = mo ∨ mo' = d ∨ mo' = lft hs i d) :
    Pm hs code l mo' ag k d i 0 := by
  have hr := h.toSnd.rch hd h0
  refine ⟨⟨h.toSnd, h.done, fun ha j x y hj hx h1 hy => ?_, by have := h.nn; omega, ?_, ?_⟩, hd, fun j hj => by simp at hj, hm2, hm3⟩
  · have := h.big ha j x y hj hx h1 hy
    omega
  · have h1 := h.le
    have h2 := hr.le
    have h3 := ho.2
    rcases hm with e | e | e <;> omega
  · rcases hm with e | e | e
    · rw [e]; exact h.is
    · exact Or.inr ⟨k, d, i, hr, hi, ho, Or.inl e⟩
    · exact Or.inr ⟨k, d, i, hr, hi, ho, Or.inr e⟩
theorem Pm.new {j : Nat} (h : Pm hs code l mo ag k d i m) (h0 : 0 ≤ d) (hi : code[k]? = some i) (ho : okI hs i d) (hj : (nxt i k)[m]? = some j) (hn : l[j]? = some (-1)) :
    Pm hs code (l.set j (lft hs i d)) mo true k d i (m + 1) := by
  have hr : Rch hs code j (lft hs i d) := .step (h.toSnd.rch h.here h0) hi ho (List.mem_of_getElem? hj)
  have hself : (l.set j (lft hs i d))[j]? = some (lft hs i d) := List.getElem?_set_self (List.getElem?_eq_some_iff.1 hn).1
  have hold : ∀ (x : Nat) (y : Int), l[x]? = some y → 0 ≤ y → (l.set j (lft hs i d))[x]? = some y := fun x y hx hy => by
    rw [List.getElem?_set_ne (by rintro rfl; rw [hn] at hx; have e := Option.some.inj hx; omega)]; exact hx
  refine ⟨⟨h.toSnd.set hn hr, (by intro ha; cases ha), (by intro ha; cases ha), h.nn, h.le, h.is⟩, hold _ _ h.here h0, fun x hx => ?_, h.mb⟩
  rcases take_mem hj hx with hx | rfl
  · exact hold _ _ (h.ways x hx) (lft_nonneg ho)
  · exact hself
theorem Pm.old {j : Nat} (h : Pm hs code l mo ag k d i m) (hj : (nxt i k)[m]? = some j) (hn : l[j]? = some (lft hs i d)) : Pm hs code l mo ag k d i (m + 1) :=
  ⟨h.toPs, h.here, fun x hx => (take_mem hj hx).elim (h.ways x) fun e => e ▸ hn, h.mb⟩
theorem Pm.two {j : Nat} {x : Int} (h : Pm hs code l mo ag k d i m) (h0 : 0 ≤ d) (hi : code[k]? = some i) (ho : okI hs i d) (hj : (nxt i k)[m]? = some j) (hn : l[j]? = some x) (hx : x ≠ -1) (hne : x ≠ lft hs i d) : Bad hs code :=
  Or.inr ⟨j, x, _, (h.sound j x hn).resolve_left hx, .step (h.toSnd.rch h.here h0) hi ho (List.mem_of_getElem? hj), hne⟩
theorem Ps.bad (h : Ps hs code l mo ag k) (hd : l[k]? = some d) (h0 : 0 ≤ d) (hi : code[k]? = some i) (ho : ¬ okI hs i d) : Bad hs code :=
  Or.inl ⟨k, d, i, h.toSnd.rch hd h0, hi, ho⟩
theorem Pm.out (h : Pm hs code l mo ag k d i m) (hi : code[k]? = some i) (ho : okI hs i d) (hm : (nxt i k).length ≤ m) : Ps hs code l mo ag (k + 1) :=
  ⟨h.toSnd, fun ha j hj => by
    by_cases e : j = k
    · subst e
      intro x y hx _ hy
      rw [h.here] at hx; rw [hi] at hy
      cases hx; cases hy
      exact ⟨ho, fun z hz => h.ways z (by rwa [List.take_of_length_le hm])⟩
    · exact h.done ha j (by omega), fun ha j x y hj hx h1 hy => by
    by_cases e : j = k
    · subst e
      rw [h.here] at hx; rw [hi] at hy
      cases hx; cases hy
      exact h.mb
    · exact h.big ha j x y (by omega) hx h1 hy, h.nn, h.le, h.is⟩
theorem Ps.good (h : Ps hs code l mo false code.length) : Good hs code l :=
  ⟨h.toSnd, fun k d i hd h0 hi => h.done rfl k (List.getElem?_eq_some_iff.1 hi).1 d i hd h0 hi⟩

/-- The greatest of a list; 0 of none below that. -/
def mxl : List Int → Int
  | [] => -1
  | x :: r => mx2 x (mxl r)
theorem mx2_ge (a b : Int) : a ≤ mx2 a b ∧ b ≤ mx2 a b ∧ (mx2 a b = a ∨ mx2 a b = b) := by unfold mx2; split <;> omega
theorem mxl_ge {l : List Int} {x : Int} (h : x ∈ l) : x ≤ mxl l := by
  induction l with
  | nil => cases h
  | cons y r ih =>
    have := mx2_ge y (mxl r)
    rcases List.mem_cons.1 h with rfl | h
    · exact this.1
    · have := ih h; unfold mxl; omega
theorem mxl_is (l : List Int) : mxl l = -1 ∨ mxl l ∈ l := by
  induction l with
  | nil => exact Or.inl rfl
  | cons y r ih =>
    have := mx2_ge y (mxl r)
    unfold mxl
    rcases this.2.2 with e | e
    · rw [e]; exact Or.inr (by simp)
    · rw [e]; exact ih.imp id (List.mem_cons_of_mem _)
/-- An instruction that goes on nowhere leaves what it found. -/
theorem lft_end (h : i.op = 25) : lft hs i d = d := by
  unfold lft tk pt
  rw [if_neg (by omega), h]
  have h1 : po (at_ 25) = 0 := by decide
  have h2 : pu (at_ 25) = 0 := by decide
  omega
theorem nxt_some (h : i.op ≠ 25) (k : Nat) : ∃ j, j ∈ nxt i k := by
  unfold nxt
  rw [if_neg h]
  split
  · exact ⟨_, List.mem_singleton.2 rfl⟩
  · split
    · exact ⟨_, List.mem_cons_self ..⟩
    · exact ⟨_, List.mem_singleton.2 rfl⟩
theorem Ps.most (h : Ps hs code l mo false code.length) : mo = mxl l := by
  have g := h.good
  have h1 : mo ≤ mxl l := by
    rcases h.is with e | ⟨j, d, i, hr, hi, ho, e⟩
    · rw [e]; exact mxl_ge (List.mem_of_getElem? g.first)
    · have hd := g.at hr
      have hx := mxl_ge (List.mem_of_getElem? hd)
      rcases e with e | e
      · omega
      · by_cases e25 : i.op = 25
        · rw [lft_end e25] at e; omega
        · obtain ⟨j', hj'⟩ := nxt_some e25 j
          have := (g.closed j d i hd hr.nonneg hi).2 j' hj'
          have := mxl_ge (List.mem_of_getElem? this)
          omega
  have h2 : mxl l ≤ mo := by
    have hn := h.nn
    rcases mxl_is l with e | e
    · omega
    · obtain ⟨k, hk⟩ := List.getElem?_of_mem e
      rcases g.sound k _ hk with e1 | hr
      · omega
      · generalize hx : mxl l = x at hk hr ⊢
        cases hr with
        | start => exact hn
        | step hr' hi ho hj =>
          have hd := g.at hr'
          exact (h.big rfl _ _ _ (List.getElem?_eq_some_iff.1 hi).1 hd hr'.nonneg hi).2
  omega
end
end Go.Proofs.YtgdloonpemaijaaDoor
