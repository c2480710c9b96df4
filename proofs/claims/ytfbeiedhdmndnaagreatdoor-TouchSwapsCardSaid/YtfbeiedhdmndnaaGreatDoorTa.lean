/-
 Whom an event touches (chapter 12), as plain data: it is whom Wh says (P12.1), and behind an event of others it is the same (P12.2). Conditions: the world may be; the event may happen.
-/
import Derived.Test.YtfbeiedhdmndnaaGreatDoorFd
import Derived.Lib.SlicesCompact
namespace Go.Proofs.YtfbeiedhdmndnaaGreatDoor
open Go.RowKit
/-- The numbers of a list, each once, the least first. -/
def risI (l : List Int) : List Int := Lib.compact (l.mergeSort fun x y => decide (x ≤ y))
theorem arr_at {l : List Int} {j : Nat} {x : Int} (h : l[j]? = some x) : l.toArray[j]! = x := by
 obtain ⟨hj, e⟩ := List.getElem?_eq_some_iff.1 h
 rw [getElem!_pos l.toArray j (by simpa using hj)]
 simpa using e
theorem comp_mem {l : List Int} {x : Int} : x ∈ Lib.compact l ↔ x ∈ l := by
 unfold Lib.compact Lib.compactUpTo
 rw [List.mem_map]
 constructor
 ·rintro ⟨j, hj, rfl⟩
  rw [List.mem_filter, List.mem_range] at hj
  have h : l[j]? = some l[j] := List.getElem?_eq_getElem hj.1
  rw [arr_at h]
  exact List.getElem_mem hj.1
 ·intro hx
  obtain ⟨j0, hj0⟩ := List.getElem?_of_mem hx
  have key : ∀ j : Nat, l[j]? = some x → ∃ i, i < l.length ∧ Lib.keeps l.toArray i = true ∧ l[i]? = some x := by
   intro j
   induction j with
   | zero => intro h; exact ⟨0, (List.getElem?_eq_some_iff.1 h).1, by simp [Lib.keeps], h⟩
   | succ j ih =>
    intro h
    have hj := (List.getElem?_eq_some_iff.1 h).1
    have h2 : l[j]? = some l[j] := List.getElem?_eq_getElem (by omega)
    by_cases e : l[j] = x
    ·exact ih (by rw [h2, e])
    ·refine ⟨j + 1, hj, ?_, h⟩
     unfold Lib.keeps
     refine decide_eq_true (Or.inr ?_)
     rw [arr_at h, Nat.add_sub_cancel, arr_at h2]
     exact fun e' => e e'.symm
  obtain ⟨i, hi, hk, hx'⟩ := key j0 hj0
  exact ⟨i, List.mem_filter.2 ⟨List.mem_range.2 hi, hk⟩, arr_at hx'⟩
theorem comp_lt {l : List Int} (h : l.Pairwise (fun a b => a ≤ b)) : (Lib.compact l).Pairwise (fun a b => a < b) := by
 unfold Lib.compact Lib.compactUpTo
 rw [List.pairwise_map]
 refine List.Pairwise.imp_of_mem ?_ (List.Pairwise.filter _ List.pairwise_lt_range)
 intro i j hi hj hij
 rw [List.mem_filter, List.mem_range] at hi hj
 have e1 : l[i]? = some l[i] := List.getElem?_eq_getElem hi.1
 have e2 : l[j]? = some l[j] := List.getElem?_eq_getElem hj.1
 have hj1 : j - 1 < l.length := by omega
 have e3 : l[j - 1]? = some l[j - 1] := List.getElem?_eq_getElem hj1
 rw [arr_at e1, arr_at e2]
 have hk := hj.2
 unfold Lib.keeps at hk
 have hk := of_decide_eq_true hk
 rw [arr_at e2, arr_at e3] at hk
 rw [List.pairwise_iff_getElem] at h
 have h1 : l[j - 1] ≤ l[j] := h _ _ hj1 hj.1 (by omega)
 have h2 : l[i] ≤ l[j - 1] := by
  by_cases e : i = j - 1
  ·subst e; exact Int.le_refl _
  ·exact h _ _ hi.1 hj1 (by omega)
 rcases hk with hk | hk
 ·omega
 ·have := fun e => hk e
  omega
theorem srtI (l : List Int) : (l.mergeSort fun x y => decide (x ≤ y)).Pairwise (fun a b => a ≤ b) := by
 have h := List.pairwise_mergeSort (le := fun x y : Int => decide (x ≤ y)) (fun a b c h1 h2 => by simp at *; omega) (fun a b => by simp; omega) l
 exact h.imp fun h => of_decide_eq_true h
theorem ris_mem {l : List Int} {x : Int} : x ∈ risI l ↔ x ∈ l := by
 unfold risI; rw [comp_mem]; exact (List.mergeSort_perm l _).mem_iff
theorem ris_lt (l : List Int) : (risI l).Pairwise (fun a b => a < b) := comp_lt (srtI l)
theorem ris_eq {l l' : List Int} (h : ∀ x, x ∈ l ↔ x ∈ l') : risI l = risI l' :=
 pw_ext (R := fun a b : Int => a < b) (fun a => Int.lt_irrefl a) (fun a b h1 h2 => by omega) _ _ (ris_lt l) (ris_lt l') fun x => by rw [ris_mem, ris_mem, h]
theorem ris_self {l : List Int} (h : l.Pairwise (fun a b => a < b)) : risI l = l :=
 pw_ext (R := fun a b : Int => a < b) (fun a => Int.lt_irrefl a) (fun a b h1 h2 => by omega) _ _ (ris_lt l) h fun x => ris_mem
/-- The actor that an event happens to. -/
def whoseP (x : PWld) (e : PEv) : Option Int :=
 if e.kind = 1 ∨ e.kind = 2 ∨ e.kind = 3 then (if 0 ≤ fnd x.mail e.id then some (msgOf x e.id).nt.to else none)
 else if e.kind = 4 ∨ e.kind = 5 then (if 0 ≤ e.who ∧ e.who < x.acts.length then some e.who else none) else none
/-- P12.1. -/
noncomputable def whoP (p : PPrg) (x : PWld) (e : PEv) : List Int :=
 if chkW p x = true then (match whoseP x e with | none => [] | some f => risI (f :: (notesP p x e).map (·.to))) else []
def fauB (e : PEv) : Bool := decide (2 ≤ e.kind ∧ e.kind ≤ 5)
def meetB (a b : List Int) : Bool := a.any fun x => b.contains x
noncomputable def freeP (p : PPrg) (x : PWld) (a b : PEv) : Bool := !(decide (a = b) || (fauB a && decide (a.kind = b.kind))) && (!(whoP p x a).isEmpty && (!(whoP p x b).isEmpty && !meetB (whoP p x a) (whoP p x b)))
theorem meet_iff {a b : List Int} : meetB a b = true ↔ ∃ x, x ∈ a ∧ x ∈ b := by
 unfold meetB
 rw [List.any_eq_true]
 simp
section
variable {p : PPrg} {b : PBud} {n : Int} {x y : PWld} {e : PEv} {j : Nat} {z : PLoc} {m : PMsg} {t : Nat}
theorem RgU.of (h : UK x.used) : RgU x.used := ⟨h.a.2, h.b.2, h.d.2⟩
theorem mn0_zero (h : UK x.used) : mn0 x.used.time = 0 := by
 have := h.c.1
 unfold mn0
 by_cases e : 0 < x.used.time
 ·rw [if_pos e]
 ·rw [if_neg e]; omega
theorem askW_wk (h : WK p n x) : WK p n (askW x) := by
 have hu := h.used
 exact h.setU (u := { x.used with time := mn0 x.used.time }) ⟨hu.a, hu.b, by show 0 ≤ mn0 x.used.time ∧ mn0 x.used.time ≤ _; rw [mn0_zero hu]; omega, hu.d⟩ (Int.le_refl _)
/-- What may happen, and runs a handler, runs it whatever the budget. -/
theorem ask_is (h : WK p n x) (hn : 16 ≤ n) (hn2 : n ≤ 2199023255551) (hi : isP p b x e = true) (hk : e.kind = 1 ∨ e.kind = 4) : rhP p x e = true := by
 obtain ⟨_, _, hl⟩ := isP_parts hi
 have hw := askW_wk h
 have ht : 0 < (leftB ⟨0, 0, 1, 0⟩ (askW x).used).time := by
  show 0 < restI 1 (mn0 x.used.time)
  rw [mn0_zero h.used]
  unfold restI
  rw [IntWalk.wrap64_in _ ⟨by omega, by omega⟩, if_pos (by omega)]; omega
 have hL : isL (leftB ⟨0, 0, 1, 0⟩ (askW x).used) (askW x) e = true := by
  refine (isL_mem hw.srt e).2 ?_
  have h1 := (isL_mem h.srt e).1 hl
  rw [mem_enQ, mem_enP] at h1 ⊢
  rcases h1 with ⟨k, k1, k2, h1⟩ | ⟨k, k1, k2, h1⟩
  ·left
   refine ⟨k, k1, k2, ?_⟩
   rw [mem_gM] at h1 ⊢
   obtain ⟨m0, h2, h3, h4⟩ := h1
   have hek : e.kind = (k : Int) := by rw [h4]
   refine ⟨m0, h2, ?_, h4⟩
   rw [← h3]
   unfold ofM
   have e1 : (k : Int) = 1 := by omega
   rw [if_pos e1, if_pos e1]; rfl
  ·right
   refine ⟨k, k1, k2, ?_⟩
   rw [mem_gA] at h1 ⊢
   obtain ⟨j0, h2, h3, h4⟩ := h1
   have hek : e.kind = (k : Int) := by rw [h4]
   refine ⟨j0, h2, ?_, h4⟩
   have e1 : (k : Int) = 4 := by omega
   unfold ofA at h3 ⊢
   rw [if_pos e1, Bool.and_eq_true, Bool.and_eq_true] at h3
   rw [if_pos e1, Bool.and_eq_true, Bool.and_eq_true]
   exact ⟨h3.1, decide_eq_true ht⟩
 unfold rhP isP fitsP
 rw [hw.chk hn hn2, hL]; rfl
/-- What it sends. -/
theorem notes_of (h : WK p n x) (hn : 16 ≤ n) (hn2 : n ≤ 2199023255551) (hi : isP p b x e = true) (ho : Of x e j z m) : notesP p x e = nD p e.kind j z m := by
 have no : e.kind ≠ 1 → e.kind ≠ 4 → notesP p x e = [] := fun h1 h4 => by
  unfold notesP
  rw [if_neg]
  intro hr
  rcases rh_kind (RgU.of h.used) hr with h' | h' <;> omega
 have yes : e.kind = 1 ∨ e.kind = 4 → notesP p x e = (hdlR (runP p) p x e).notes := fun hk => by
  unfold notesP
  rw [if_pos (ask_is h hn hn2 hi hk)]
 rcases isP_kind hi with hk | hk | hk | hk | hk
 ·rw [yes (Or.inl hk)]
  obtain ⟨k, y, j', z', hf, hy, hid, hj, hz, _⟩ := isP_msg hi (Or.inl hk)
  obtain ⟨a1, a2, a3⟩ := ho.msg (Or.inl hk)
  have ey : y = m := srt_inj h.srt (List.mem_of_getElem? hy) a1 (hid.trans a2.symm)
  subst ey
  have hmo : msgOf x e.id = y := msgOf_eq hf hy
  unfold hdlR nD
  rw [if_neg (by omega), if_pos hk, hmo, a3, Int.toNat_natCast]
  have hl : locAt (tookP x e.id) j = z := getD_at ho.at_
  rw [hl]
 ·rw [no (by omega) (by omega)]; unfold nD; rw [if_neg (by omega), if_neg (by omega)]
 ·rw [no (by omega) (by omega)]; unfold nD; rw [if_neg (by omega), if_neg (by omega)]
 ·rw [yes (Or.inr hk)]
  have hj := ho.who (Or.inl hk)
  unfold hdlR nD
  rw [if_pos hk, if_neg (by omega), if_pos hk, hj, Int.toNat_natCast]
  have hjl := (List.getElem?_eq_some_iff.1 ho.at_).1
  have hl : locAt (calmP x j) j = { z with armed := false } := by
   have e1 : locAt x j = z := getD_at ho.at_
   unfold calmP
   rw [e1]
   exact getD_at (List.getElem?_set_self hjl)
  rw [hl]
 ·rw [no (by omega) (by omega)]; unfold nD; rw [if_neg (by omega), if_neg (by omega)]
theorem whose_of (h : WK p n x) (hi : isP p b x e = true) (ho : Of x e j z m) : whoseP x e = some (j : Int) := by
 have hk := isP_kind hi
 unfold whoseP
 by_cases h3 : e.kind = 1 ∨ e.kind = 2 ∨ e.kind = 3
 ·rw [if_pos h3]
  obtain ⟨k, y, j', z', hf, hy, hid, hj, hz, _⟩ := isP_msg hi h3
  obtain ⟨a1, a2, a3⟩ := ho.msg h3
  have ey : y = m := srt_inj h.srt (List.mem_of_getElem? hy) a1 (hid.trans a2.symm)
  subst ey
  rw [msgOf_eq hf hy, if_pos (by rw [hf]; omega), a3]
 ·have h4 : e.kind = 4 ∨ e.kind = 5 := by omega
  have hj := ho.who h4
  have hjl := (List.getElem?_eq_some_iff.1 ho.at_).1
  rw [if_neg h3, if_pos h4, if_pos (by rw [hj]; omega), hj]
theorem who_of (h : WK p n x) (hn : 16 ≤ n) (hn2 : n ≤ 2199023255551) (hi : isP p b x e = true) (ho : Of x e j z m) : whoP p x e = risI ((j : Int) :: (nD p e.kind j z m).map (·.to)) := by
 unfold whoP
 rw [if_pos (h.chk hn hn2), whose_of h hi ho, notes_of h hn hn2 hi ho]
theorem who_mem (h : WK p n x) (hn : 16 ≤ n) (hn2 : n ≤ 1099511630000) (hi : isP p b x e = true) : (t : Int) ∈ whoP p x e ↔ Wh p x e t := by
 obtain ⟨j, z, m, ho, _⟩ := do_eff h hn hn2 hi
 rw [who_of h hn (by omega) hi ho, ris_mem, List.mem_cons, List.mem_map]
 constructor
 ·rintro (h1 | ⟨a, ha, h1⟩)
  ·exact ⟨j, z, m, ho, Or.inl (by omega)⟩
  ·exact ⟨j, z, m, ho, Or.inr ⟨a, ha, h1⟩⟩
 ·rintro ⟨j', z', m', ho', hw⟩
  obtain ⟨rfl, rfl, rfl⟩ := of_same (isP_kind hi) h.srt ho ho' (Ag.refl x j)
  rcases hw with rfl | ⟨a, ha, h1⟩
  ·exact Or.inl rfl
  ·exact Or.inr ⟨a, ha, h1⟩
theorem who_nn (h : WK p n x) (hn : 16 ≤ n) (hn2 : n ≤ 1099511630000) (hi : isP p b x e = true) {v : Int} (hv : v ∈ whoP p x e) : 0 ≤ v := by
 obtain ⟨j, z, m, ho, _, hc, _⟩ := do_eff h hn hn2 hi
 rw [who_of h hn (by omega) hi ho, ris_mem, List.mem_cons, List.mem_map] at hv
 rcases hv with rfl | ⟨a, ha, rfl⟩
 ·omega
 ·have h1 := hc a ha
  unfold chkNt at h1
  rw [Bool.and_eq_true] at h1
  exact (inB_iff.1 h1.1).1
theorem who_lt : (whoP p x e).Pairwise (fun a b => a < b) := by
 unfold whoP
 split
 ·split
  ·exact List.Pairwise.nil
  ·exact ris_lt _
 ·exact List.Pairwise.nil
theorem who_keep {n' : Int} (h : WK p n x) (h' : WK p n' y) (hn : 16 ≤ n) (hn2 : n ≤ 1099511630000) (hn' : 16 ≤ n') (hn2' : n' ≤ 1099511630000) (hi : isP p b x e = true) (hi' : isP p b y e = true) (hw : ∀ t, Wh p y e t ↔ Wh p x e t) : whoP p y e = whoP p x e :=
 pw_ext (R := fun a b : Int => a < b) (fun a => Int.lt_irrefl a) (fun a b h1 h2 => by omega) _ _ who_lt who_lt fun v => by
  constructor
  ·intro hv
   obtain ⟨t, rfl⟩ := Int.eq_ofNat_of_zero_le (who_nn h' hn' hn2' hi' hv)
   exact (who_mem h hn hn2 hi).2 ((hw t).1 ((who_mem h' hn' hn2' hi').1 hv))
  ·intro hv
   obtain ⟨t, rfl⟩ := Int.eq_ofNat_of_zero_le (who_nn h hn hn2 hi hv)
   exact (who_mem h' hn' hn2' hi').2 ((hw t).2 ((who_mem h hn hn2 hi).1 hv))
theorem free_parts {e1 e2 : PEv} (h : WK p n x) (hn : 16 ≤ n) (hn2 : n ≤ 1099511630000) (h1 : isP p b x e1 = true) (h2 : isP p b x e2 = true) (hf : freeP p x e1 e2 = true) : (∀ t, Wh p x e1 t → Wh p x e2 t → False) ∧ (e1.kind = e2.kind → e1.kind = 1) := by
 unfold freeP at hf
 simp only [Bool.and_eq_true, Bool.not_eq_true', Bool.or_eq_false_iff, Bool.and_eq_false_iff, decide_eq_false_iff_not] at hf
 obtain ⟨⟨_, f1⟩, _, _, f2⟩ := hf
 refine ⟨fun t a c => ?_, fun hk => ?_⟩
 ·have : meetB (whoP p x e1) (whoP p x e2) = true := meet_iff.2 ⟨t, (who_mem h hn hn2 h1).2 a, (who_mem h hn hn2 h2).2 c⟩
  rw [f2] at this; cases this
 ·rcases f1 with f1 | f1
  ·unfold fauB at f1
   have f1 := of_decide_eq_false f1
   have := isP_kind h1
   omega
  ·exact absurd hk f1
/-- P12.2, of two that are free. -/
structure Swp (p : PPrg) (b : PBud) (x : PWld) (e1 e2 : PEv) : Prop where
 is1 : isP p b (doP p x e2) e1 = true
 is2 : isP p b (doP p x e1) e2 = true
 who1 : whoP p (doP p x e2) e1 = whoP p x e1
 who2 : whoP p (doP p x e1) e2 = whoP p x e2
 same : doP p (doP p x e1) e2 = doP p (doP p x e2) e1
theorem swp_of {e1 e2 : PEv} (h : WK p n x) (hn : 16 ≤ n) (hn2 : n ≤ 1099511628000) (h1 : isP p b x e1 = true) (h2 : isP p b x e2 = true) (hf : freeP p x e1 e2 = true) : Swp p b x e1 e2 := by
 obtain ⟨hd, hk⟩ := free_parts h hn (by omega) h1 h2 hf
 obtain ⟨i2, w2, k1, _⟩ := half h hn hn2 h1 h2 hd hk
 obtain ⟨i1, w1, k2, _⟩ := half h hn hn2 h2 h1 (fun t a c => hd t c a) (fun e => by have := hk e.symm; omega)
 exact ⟨i1, i2, who_keep h k2 hn (by omega) (by omega) (by omega) h1 i1 w1, who_keep h k1 hn (by omega) (by omega) (by omega) h2 i2 w2, swap h hn hn2 h1 h2 hd hk⟩
end
end Go.Proofs.YtfbeiedhdmndnaaGreatDoor
