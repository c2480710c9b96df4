/-
 What may be stays so (P11.3), plainly: an event, all events of a walk; what is listed may happen. Condition: so many events.
-/
import Derived.Test.YtfbeiedhdmndnaaGreatDoorKb
namespace Go.Proofs.YtfbeiedhdmndnaaGreatDoor
open Go.RowKit
theorem mem_gM {l : PBud} {x : PWld} {k : Nat} {e : PEv} : e ∈ gM l x k x.mail.length ↔ ∃ m ∈ x.mail, ofM l x k m = true ∧ e = ⟨(k : Int), m.id, 0⟩ := by
 unfold gM
 rw [List.take_length]
 simp only [List.mem_map, List.mem_filter]
 constructor
 ·rintro ⟨m, ⟨h1, h2⟩, rfl⟩; exact ⟨m, h1, h2, rfl⟩
 ·rintro ⟨m, h1, h2, rfl⟩; exact ⟨m, ⟨h1, h2⟩, rfl⟩
theorem mem_gA {l : PBud} {x : PWld} {k : Nat} {e : PEv} : e ∈ gA l x k x.acts.length ↔ ∃ j, j < x.acts.length ∧ ofA l k (x.acts.getD j default) = true ∧ e = ⟨(k : Int), ⟨0, 0, 0⟩, (j : Int)⟩ := by
 unfold gA
 simp only [List.mem_map, List.mem_filter, List.mem_range]
 constructor
 ·rintro ⟨j, ⟨h1, h2⟩, rfl⟩; exact ⟨j, h1, h2, rfl⟩
 ·rintro ⟨j, h1, h2, rfl⟩; exact ⟨j, ⟨h1, h2⟩, rfl⟩
theorem mem_enP {l : PBud} {x : PWld} {e : PEv} : ∀ n, e ∈ enP l x n ↔ ∃ k, 1 ≤ k ∧ k ≤ n ∧ e ∈ gM l x k x.mail.length
 | 0 => by
  constructor
  ·intro h; cases h
  ·rintro ⟨k, h1, h2, _⟩; omega
 | n + 1 => by
  rw [enP, List.mem_append, mem_enP n]
  constructor
  ·rintro (⟨k, h1, h2, h3⟩ | h)
   ·exact ⟨k, h1, by omega, h3⟩
   ·exact ⟨n + 1, by omega, Nat.le_refl _, h⟩
  ·rintro ⟨k, h1, h2, h3⟩
   by_cases e : k = n + 1
   ·subst e; exact Or.inr h3
   ·exact Or.inl ⟨k, h1, by omega, h3⟩
theorem mem_enQ {l : PBud} {x : PWld} {e : PEv} : ∀ n, e ∈ enQ l x n ↔ e ∈ enP l x 3 ∨ ∃ k, 4 ≤ k ∧ k < n + 4 ∧ e ∈ gA l x k x.acts.length
 | 0 => by
  constructor
  ·intro h; exact Or.inl h
  ·rintro (h | ⟨k, h1, h2, _⟩)
   ·exact h
   ·omega
 | n + 1 => by
  rw [enQ, List.mem_append, mem_enQ n]
  constructor
  ·rintro ((h | ⟨k, h1, h2, h3⟩) | h)
   ·exact Or.inl h
   ·exact Or.inr ⟨k, h1, by omega, h3⟩
   ·exact Or.inr ⟨n + 4, by omega, by omega, h⟩
  ·rintro (h | ⟨k, h1, h2, h3⟩)
   ·exact Or.inl (Or.inl h)
   ·by_cases e : k = n + 4
    ·subst e; exact Or.inr h3
    ·exact Or.inl (Or.inr ⟨k, h1, by omega, h3⟩)
theorem srt_inj {l : List PMsg} (hs : srt l = true) {a b : PMsg} (ha : a ∈ l) (hb : b ∈ l) (h : a.id = b.id) : a = b := by
 have hp := (srt_pw l).1 hs
 rw [List.pairwise_iff_getElem] at hp
 obtain ⟨i, hi, rfl⟩ := List.getElem_of_mem ha
 obtain ⟨j, hj, rfl⟩ := List.getElem_of_mem hb
 rcases Nat.lt_trichotomy i j with e | e | e
 ·exact absurd h (less_ne (hp i j hi hj e))
 ·subst e; rfl
 ·exact absurd h.symm (less_ne (hp j i hj hi e))
theorem isL_mem {l : PBud} {x : PWld} (hs : srt x.mail = true) (e : PEv) : isL l x e = true ↔ e ∈ enQ l x 2 := by
 rw [mem_enQ, mem_enP]
 obtain ⟨κ, d, who⟩ := e
 unfold isL
 dsimp only
 constructor
 ·intro h
  by_cases h1 : κ = 1 ∨ κ = 2 ∨ κ = 3
  ·rw [if_pos h1] at h
   unfold isM at h
   dsimp only at h
   rw [Bool.and_eq_true, decide_eq_true_eq] at h
   obtain ⟨rfl, h⟩ := h
   left
   cases hf : x.mail.findIdx? (fun m => decide (m.id = d)) with
   | none => rw [hf] at h; cases h
   | some i =>
    rw [hf] at h
    dsimp only at h
    rw [List.findIdx?_eq_some_iff_getElem] at hf
    obtain ⟨hi, hd, _⟩ := hf
    have hd' := of_decide_eq_true hd
    rw [List.getD_eq_getElem?_getD, List.getElem?_eq_getElem hi, Option.getD_some] at h
    obtain ⟨k, hk⟩ : ∃ k : Nat, κ = k := ⟨κ.toNat, by omega⟩
    subst hk
    exact ⟨k, by omega, by omega, mem_gM.2 ⟨x.mail[i], List.getElem_mem hi, h, by rw [hd']⟩⟩
  ·rw [if_neg h1] at h
   by_cases h2 : κ = 4 ∨ κ = 5
   ·rw [if_pos h2] at h
    unfold isA at h
    dsimp only at h
    rw [Bool.and_eq_true, Bool.and_eq_true, decide_eq_true_eq, decide_eq_true_eq] at h
    obtain ⟨rfl, ⟨h3, h4⟩, h5⟩ := h
    right
    obtain ⟨k, hk⟩ : ∃ k : Nat, κ = k := ⟨κ.toNat, by omega⟩
    obtain ⟨j, hj⟩ : ∃ j : Nat, who = j := ⟨who.toNat, by omega⟩
    subst hk hj
    exact ⟨k, by omega, by omega, mem_gA.2 ⟨j, by omega, h5, rfl⟩⟩
   ·rw [if_neg h2] at h; cases h
 ·rintro (⟨k, h1, h2, h3⟩ | ⟨k, h1, h2, h3⟩)
  ·obtain ⟨m, hm, ho, he⟩ := mem_gM.1 h3
   simp only [PEv.mk.injEq] at he
   obtain ⟨rfl, rfl, rfl⟩ := he
   rw [if_pos (by omega)]
   unfold isM
   dsimp only
   rw [decide_eq_true rfl, Bool.true_and]
   cases hf : x.mail.findIdx? (fun m' => decide (m'.id = m.id)) with
   | none =>
    rw [List.findIdx?_eq_none_iff] at hf
    have := hf m hm
    simp at this
   | some i =>
    dsimp only
    rw [List.findIdx?_eq_some_iff_getElem] at hf
    obtain ⟨hi, hd, _⟩ := hf
    have hd' := of_decide_eq_true hd
    rw [List.getD_eq_getElem?_getD, List.getElem?_eq_getElem hi, Option.getD_some, srt_inj hs (List.getElem_mem hi) hm hd']
    exact ho
  ·obtain ⟨j, hj, ho, he⟩ := mem_gA.1 h3
   simp only [PEv.mk.injEq] at he
   obtain ⟨rfl, rfl, rfl⟩ := he
   rw [if_neg (by omega), if_pos (by omega)]
   unfold isA
   dsimp only
   rw [decide_eq_true rfl, Bool.true_and, decide_eq_true (by omega), Bool.true_and]
   exact ho
/-- Used, behind an event of that kind. -/
def incU (u : PBud) (k : Int) : PBud := if k = 2 then { u with drop := u.drop + 1 } else if k = 3 then { u with dup := u.dup + 1 } else if k = 4 then { u with time := u.time + 1 } else if k = 5 then { u with crash := u.crash + 1 } else u
theorem sendP_used {p : PPrg} {x : PWld} {f : Int} {ns : List PNte} : (sendP p x f ns).used = x.used := by
 unfold sendP
 split
 ·exact send_used _
 ·rfl
theorem chk_tm {p : PPrg} (h : chk p = 0) {a : PAct} (ha : a ∈ p.acs) (ht : a.timer ≠ -1) : (0 ≤ a.timer ∧ a.timer < p.hs.length) ∧ argsOf p.hs a.timer = 0 := by
 unfold chk at h
 by_cases h0 : chkC p = 0
 ·rw [if_pos h0] at h
  by_cases h1 : scan (chkH p.hs.length) p.hs = 0
  ·rw [if_pos h1] at h
   by_cases h2 : scan (chkA p.hs) p.acs = 0
   ·have := scan_all h2 a ha
    unfold chkA at this
    by_cases e : a.regs.length ≤ 8
    ·rw [if_pos e] at this
     by_cases e2 : 0 ≤ a.cap ∧ a.cap ≤ 16
     ·rw [if_pos e2, if_neg ht] at this
      by_cases e3 : (0 ≤ a.timer ∧ a.timer < p.hs.length) ∧ argsOf p.hs a.timer = 0
      ·exact e3
      ·rw [if_neg e3] at this; cases this
     ·rw [if_neg e2] at this; cases this
    ·rw [if_neg e] at this; cases this
   ·rw [if_neg h2] at h; exact absurd h h2
  ·rw [if_neg h1] at h; exact absurd h h1
 ·rw [if_neg h0] at h; exact absurd h h0
theorem left_pos {a b : Int} (h : 0 < restI a b) (ha : 0 ≤ a ∧ a ≤ 1000) (hb : 0 ≤ b ∧ b ≤ 9223372036854775807) : b < a := by
 unfold restI at h
 rw [show wrap64 (a - b) = a - b from IntWalk.wrap64_in _ ⟨by omega, by omega⟩] at h
 by_cases e : a - b > 0
 ·omega
 ·rw [if_neg e] at h; omega
theorem mayB_parts {b : PBud} (h : mayB b = true) : (0 ≤ b.drop ∧ b.drop ≤ 1000) ∧ (0 ≤ b.dup ∧ b.dup ≤ 1000) ∧ (0 ≤ b.time ∧ b.time ≤ 1000) ∧ (0 ≤ b.crash ∧ b.crash ≤ 1000) := by
 unfold mayB at h
 simp only [Bool.and_eq_true] at h
 exact ⟨inB_iff.1 h.1, inB_iff.1 h.2.1, inB_iff.1 h.2.2.1, inB_iff.1 h.2.2.2⟩
theorem UK.drop1 {u : PBud} (h : UK u) (hl : u.drop < 1000) : UK { u with drop := wrap64 (u.drop + 1) } := by
 rw [show wrap64 (u.drop + 1) = u.drop + 1 from IntWalk.wrap64_in _ ⟨by have := h.a.1; omega, by omega⟩]
 exact ⟨⟨(by have := h.a.1; omega : (0 : Int) ≤ u.drop + 1), (by omega : u.drop + 1 ≤ 9223372036854775807)⟩, h.b, h.c, h.d⟩
theorem UK.dup1 {u : PBud} (h : UK u) (hl : u.dup < 1000) : UK { u with dup := wrap64 (u.dup + 1) } := by
 rw [show wrap64 (u.dup + 1) = u.dup + 1 from IntWalk.wrap64_in _ ⟨by have := h.b.1; omega, by omega⟩]
 exact ⟨h.a, ⟨(by have := h.b.1; omega : (0 : Int) ≤ u.dup + 1), (by omega : u.dup + 1 ≤ 9223372036854775807)⟩, h.c, h.d⟩
theorem UK.time1 {u : PBud} (h : UK u) (hl : u.time < 1000) : UK { u with time := wrap64 (u.time + 1) } := by
 rw [show wrap64 (u.time + 1) = u.time + 1 from IntWalk.wrap64_in _ ⟨by have := h.c.1; omega, by omega⟩]
 exact ⟨h.a, h.b, ⟨(by have := h.c.1; omega : (0 : Int) ≤ u.time + 1), (by omega : u.time + 1 ≤ 9223372036854775807)⟩, h.d⟩
theorem UK.crash1 {u : PBud} (h : UK u) (hl : u.crash < 1000) : UK { u with crash := wrap64 (u.crash + 1) } := by
 rw [show wrap64 (u.crash + 1) = u.crash + 1 from IntWalk.wrap64_in _ ⟨by have := h.d.1; omega, by omega⟩]
 exact ⟨h.a, h.b, h.c, ⟨(by have := h.d.1; omega : (0 : Int) ≤ u.crash + 1), (by omega : u.crash + 1 ≤ 9223372036854775807)⟩⟩
/-- A fault may be: it was less than the budget lets. -/
theorem isP_left {p : PPrg} {b : PBud} {x : PWld} {e : PEv} (hu : UK x.used) (hi : isP p b x e = true) : (e.kind = 2 → x.used.drop < b.drop) ∧ (e.kind = 3 → x.used.dup < b.dup) ∧ (e.kind = 4 → x.used.time < b.time) ∧ (e.kind = 5 → x.used.crash < b.crash) := by
 have hm := mayB_parts (isP_parts hi).1
 refine ⟨fun hk => ?_, fun hk => ?_, fun hk => ?_, fun hk => ?_⟩
 ·obtain ⟨k, y, j, z, _, _, _, _, _, _, ho⟩ := isP_msg hi (Or.inr (Or.inl hk))
  unfold ofM at ho
  rw [hk] at ho
  exact left_pos (of_decide_eq_true ho) hm.1 hu.a
 ·obtain ⟨k, y, j, z, _, _, _, _, _, _, ho⟩ := isP_msg hi (Or.inr (Or.inr hk))
  unfold ofM at ho
  rw [hk] at ho
  exact left_pos (of_decide_eq_true ho) hm.2.1 hu.b
 ·obtain ⟨j, z, ac, _, _, _, _, _, ho⟩ := isP_act hi (Or.inl hk)
  unfold ofA at ho
  rw [hk] at ho
  have ho' : (decide (z.down = 0) && z.armed && decide (0 < (leftB b x.used).time)) = true := ho
  rw [Bool.and_eq_true] at ho'
  exact left_pos (of_decide_eq_true ho'.2) hm.2.2.1 hu.c
 ·obtain ⟨j, z, ac, _, _, _, _, _, ho⟩ := isP_act hi (Or.inr hk)
  unfold ofA at ho
  rw [hk] at ho
  have ho' : (decide (z.down = 0) && decide (0 < (leftB b x.used).crash)) = true := ho
  rw [Bool.and_eq_true] at ho'
  exact left_pos (of_decide_eq_true ho'.2) hm.2.2.2 hu.d
theorem do_keep {p : PPrg} {b : PBud} {n : Int} {x : PWld} {e : PEv} (h : WK p n x) (hn : 16 ≤ n) (hn2 : n ≤ 1099511630000) (hi : isP p b x e = true) : WK p (n + 700) (doP p x e) ∧ (doP p x e).used = incU x.used e.kind := by
 have hc := fc_chk h.fc
 have hp := chk_parts hc
 have hu := h.used
 have hw : ∀ i : Int, 0 ≤ i → i < 1000 → wrap64 (i + 1) = i + 1 := fun i h0 h1 => IntWalk.wrap64_in _ ⟨by omega, by omega⟩
 have hlf := isP_left hu hi
 have hmb := mayB_parts (isP_parts hi).1
 rcases isP_kind hi with hk | hk | hk | hk | hk
 ·obtain ⟨k, ⟨yd, ⟨t, hd, args⟩⟩, j, z, hf, hy, _, hj, hz, _, ho⟩ := isP_msg hi (Or.inl hk)
  dsimp only at hj
  subst hj
  rw [doP_1 hk hf hy rfl hz]
  obtain ⟨a, ha, hl⟩ := h.at hz
  have hc1 := (h.mail _ (List.mem_of_getElem? hy)).1
  unfold chkNt at hc1
  rw [Bool.and_eq_true, Bool.and_eq_true] at hc1
  obtain ⟨c1, c2, c3⟩ := hc1
  have c1 := inB_iff.1 c1
  have c2 := inB_iff.1 c2
  have c3 := eq_of_beq c3
  dsimp only at c1 c2 c3
  have hdn : z.down = 0 := by
   unfold ofM at ho
   rw [if_pos hk] at ho
   dsimp only at ho
   rw [Int.toNat_natCast, getD_at hz] at ho
   exact of_decide_eq_true ho
  have h8 := (hp.acs a (List.mem_of_getElem? ha)).1
  have hr := hl.regs
  have hm : mayP p (j : Int) z hd args := ⟨h.fc, by omega, by omega, c3, by omega, hdn⟩
  have hR := runP_k hm (IntWalk.wrap64_in _ ⟨by have := hl.sn; omega, by have := hl.sn; omega⟩)
  refine ⟨((h.cut k).ran hn (by omega) (x := { x with mail := cutP x.mail k }) hz ha hR).mono (by omega), ?_⟩
  rw [sendP_used, hk]; rfl
 ·have e1 : doP p x e = dropP x e.id := doG_2 hk
  rw [e1, hk]
  have h1 : WK p (n + 700) { x with used := { x.used with drop := wrap64 (x.used.drop + 1) } } := (h.mono (by omega)).setU (hu.drop1 (by have := hlf.1 hk; omega)) (Int.le_refl _)
  refine ⟨h1.cut _, ?_⟩
  show ({ x.used with drop := wrap64 (x.used.drop + 1) } : PBud) = _
  rw [hw _ hu.a.1 (by have := hlf.1 hk; omega)]; rfl
 ·have e1 : doP p x e = dupP p x e.id := doG_3 hk
  rw [e1, hk]
  obtain ⟨k, y, j, z, hf, hy, _⟩ := isP_msg hi (Or.inr (Or.inr hk))
  have hm := h.mail y (List.mem_of_getElem? hy)
  have h1 : WK p (n + 699) { x with used := { x.used with dup := wrap64 (x.used.dup + 1) } } := (h.mono (by omega)).setU (hu.dup1 (by have := hlf.2.1 hk; omega)) (by rw [hw _ hu.b.1 (by have := hlf.2.1 hk; omega)]; show x.used.dup ≤ x.used.dup + 1; omega)
  have hd : dupM x e.id = ⟨{ y.id with c := wrap64 (x.used.dup + 1) }, y.nt⟩ := by unfold dupM; rw [msgOf_eq hf hy]
  unfold dupP
  rw [hd]
  refine ⟨?_, ?_⟩
  ·have := h1.postG (by omega) (by omega) (m := ⟨{ y.id with c := wrap64 (x.used.dup + 1) }, y.nt⟩) hm.1 ⟨hm.2.1, hm.2.2.1, by show 0 ≤ wrap64 (x.used.dup + 1) ∧ wrap64 (x.used.dup + 1) ≤ wrap64 (x.used.dup + 1); rw [hw _ hu.b.1 (by have := hlf.2.1 hk; omega)]; have := hu.b; omega⟩
   rwa [show n + 699 + 1 = n + 700 by omega] at this
  ·have : ∀ (m : PMsg) (z : PWld), (postG p z m).used = z.used := fun m z => by unfold postG; split; exact post_used; rfl
   rw [this]
   show ({ x.used with dup := wrap64 (x.used.dup + 1) } : PBud) = _
   rw [hw _ hu.b.1 (by have := hlf.2.1 hk; omega)]; rfl
 ·obtain ⟨j, z, ac, hj, hz, hac, _, _, ho⟩ := isP_act hi (Or.inl hk)
  rw [doP_4 hk hj hz hac]
  have hl := h.loc j z ac hz hac
  have ho1 : z.down = 0 ∧ z.armed = true := by
   unfold ofA at ho
   rw [if_pos hk, Bool.and_eq_true, Bool.and_eq_true] at ho
   exact ⟨of_decide_eq_true ho.1.1, ho.1.2⟩
  have htm := chk_tm hc (List.mem_of_getElem? hac) (hl.am ho1.2)
  have h8 := (hp.acs ac (List.mem_of_getElem? hac)).1
  have hr := hl.regs
  have hjl := (List.getElem?_eq_some_iff.1 hac).1
  have hm : mayP p (j : Int) { z with armed := false } ac.timer [] := ⟨h.fc, by omega, htm.1, by rw [htm.2]; rfl, (by omega : z.regs.length ≤ 8), ho1.1⟩
  have hsn := hl.sn
  have hR := runP_k hm (show wrap64 z.sent = z.sent from IntWalk.wrap64_in _ ⟨by omega, by omega⟩)
  have hlz : locAt x j = z := getD_at hz
  have hz1 : (calmP x j).acts[j]? = some { z with armed := false } := by unfold calmP; rw [hlz]; exact List.getElem?_set_self (List.getElem?_eq_some_iff.1 hz).1
  have h1 : WK p (n + 1) { x with used := { x.used with time := wrap64 (x.used.time + 1) } } := (h.mono (by omega)).setU (hu.time1 (by have := hlf.2.2.1 hk; omega)) (Int.le_refl _)
  have h2 : WK p (n + 1) (calmP x j) := by
   unfold calmP
   rw [hlz]
   exact h1.set (x := { x with used := { x.used with time := wrap64 (x.used.time + 1) } }) hz hac ⟨hl.regs, hl.dn, ⟨hl.sn.1, (by omega : z.sent ≤ n + 1)⟩, ⟨hl.ov.1, (by have := hl.ov.2; omega : z.over ≤ n + 1)⟩, fun e => by cases e⟩ (Int.le_refl _)
  refine ⟨(h2.ran (by omega) (by omega) hz1 hac hR).mono (by omega), ?_⟩
  rw [sendP_used, hk]
  show (calmP x j).used = _
  unfold calmP
  show ({ x.used with time := wrap64 (x.used.time + 1) } : PBud) = _
  rw [hw _ hu.c.1 (by have := hlf.2.2.1 hk; omega)]; rfl
 ·obtain ⟨j, z, ac, hj, hz, hac, _⟩ := isP_act hi (Or.inr hk)
  have hl := h.loc j z ac hz hac
  have hlz : locAt x j = z := getD_at hz
  have e1 : doP p x e = crashP x j := by unfold doP; rw [doG_5 hk, hj, Int.toNat_natCast]
  rw [e1, hk]
  unfold crashP
  rw [hlz]
  have h1 : WK p (n + 700) { x with used := { x.used with crash := wrap64 (x.used.crash + 1) } } := (h.mono (by omega)).setU (hu.crash1 (by have := hlf.2.2.2 hk; omega)) (Int.le_refl _)
  refine ⟨h1.set (x := { x with used := { x.used with crash := wrap64 (x.used.crash + 1) } }) hz hac ⟨hl.regs, by show (0 : Int) ≤ 1 ∧ (1 : Int) ≤ 4; omega, ⟨hl.sn.1, by have := hl.sn.2; show z.sent ≤ _; omega⟩, ⟨hl.ov.1, by have := hl.ov.2; show z.over ≤ _; omega⟩, hl.am⟩ (Int.le_refl _), ?_⟩
  show ({ x.used with crash := wrap64 (x.used.crash + 1) } : PBud) = _
  rw [hw _ hu.d.1 (by have := hlf.2.2.2 hk; omega)]; rfl
/-- No more than the budget. -/
structure UB (B u : PBud) : Prop where
 a : u.drop ≤ B.drop
 b : u.dup ≤ B.dup
 c : u.time ≤ B.time
 d : u.crash ≤ B.crash
theorem do_ub {p : PPrg} {b : PBud} {n : Int} {x : PWld} {e : PEv} (h : WK p n x) (hi : isP p b x e = true) (hb : UB b x.used) : UB b (incU x.used e.kind) := by
 obtain ⟨h2, h3, h4, h5⟩ := isP_left h.used hi
 rcases isP_kind hi with hk | hk | hk | hk | hk
 ·rw [hk]; exact hb
 ·have := h2 hk
  rw [hk]
  exact ⟨(by omega : x.used.drop + 1 ≤ _), hb.b, hb.c, hb.d⟩
 ·have := h3 hk
  rw [hk]
  exact ⟨hb.a, (by omega : x.used.dup + 1 ≤ _), hb.c, hb.d⟩
 ·have := h4 hk
  rw [hk]
  exact ⟨hb.a, hb.b, (by omega : x.used.time + 1 ≤ _), hb.d⟩
 ·have := h5 hk
  rw [hk]
  exact ⟨hb.a, hb.b, hb.c, (by omega : x.used.crash + 1 ≤ _)⟩
/-- The start may be. -/
theorem start_wk {p : PPrg} (hf : fc p = 0) : WK p 16 (startP p) := by
 have hp := chk_parts (fc_chk hf)
 have h := start_inv hp
 have hnb := hp.nb
 refine ⟨hf, h.len, fun j y a hy ha => ?_, fun m hm => ?_, h.srt, fun t => ?_, ?_⟩
 ·obtain ⟨r1, r2, r3, r4, r5, r6⟩ := h.loc j y a hy ha
  refine ⟨by rw [r1], by omega, by omega, by omega, fun e => ?_⟩
  rw [r2] at e
  intro ht
  have := (hp.acs a (List.mem_of_getElem? ha)).2 ht
  rw [e] at this; cases this
 ·obtain ⟨m1, m2, m3, m4, m5⟩ := h.mail m hm
  have hs : sentP (startP p) m.id.f = 16 := by unfold sentP; rw [m2, if_pos rfl]
  have hn0 := hp.n0
  have hla := h.len
  refine ⟨hp.bs m.nt m1, ⟨by omega, by omega⟩, ⟨m3, by rw [hs]; omega⟩, ⟨by omega, by rw [h.used]; show m.id.c ≤ 0; omega⟩⟩
 ·have h1 := h.sum
  have h2 : 0 ≤ sumO (startP p).acts := by
   have key : ∀ l : List PLoc, (∀ y ∈ l, 0 ≤ y.over) → 0 ≤ sumO l := by
    intro l hl
    induction l with
    | nil => exact Int.le_refl _
    | cons y r ih =>
     have h1 := hl y (List.mem_cons_self ..)
     have h2 := ih fun z hz => hl z (List.mem_cons_of_mem _ hz)
     simp only [sumO, List.map_cons, List.sum_cons] at *
     omega
   refine key _ fun y hy => ?_
   obtain ⟨i, hi⟩ := List.getElem?_of_mem hy
   obtain ⟨a, ha⟩ := at_lt (l := p.acs) (k := i) (by rw [← h.len]; exact (List.getElem?_eq_some_iff.1 hi).1)
   exact (h.loc i y a hi ha).2.2.2.2.1
  have h3 := toN_le (startP p).mail t
  omega
 ·rw [h.used]
  exact ⟨by decide, by decide, by decide, by decide⟩
/-- How many of the events are faults. -/
def fau (l : List PEv) : Nat := l.countP fun e => decide (e.kind ≠ 1)
def sumU (u : PBud) : Int := u.drop + u.dup + u.time + u.crash
theorem incU_sum {p : PPrg} {b : PBud} {x : PWld} {e : PEv} (hi : isP p b x e = true) (u : PBud) : sumU (incU u e.kind) = sumU u + if e.kind ≠ 1 then 1 else 0 := by
 unfold sumU
 rcases isP_kind hi with hk | hk | hk | hk | hk <;> rw [hk] <;> simp [incU] <;> omega
/-- A walk: all of its events might happen. -/
structure WY (p : PPrg) (b : PBud) (l : List PEv) : Prop where
 wk : WK p (16 + 700 * l.length) (goP p (startP p) l l.length)
 ok : ∀ i, i < l.length → okAt p b (startP p) l i
 su : sumU (goP p (startP p) l l.length).used = fau l
 ub : mayB b = true → UB b (goP p (startP p) l l.length).used
theorem goP_app (p : PPrg) (x : PWld) (l : List PEv) (e : PEv) : ∀ k, k ≤ l.length → goP p x (l ++ [e]) k = goP p x l k
 | 0, _ => rfl
 | k + 1, h => by
  rw [goP, goP, goP_app p x l e k (by omega), List.getD_eq_getElem?_getD, List.getElem?_append_left (by omega), ← List.getD_eq_getElem?_getD]
theorem WY.nil {p : PPrg} (hf : fc p = 0) (b : PBud) : WY p b [] := by
 have h := start_inv (chk_parts (fc_chk hf))
 refine ⟨start_wk hf, fun i hi => absurd hi (Nat.not_lt_zero _), ?_, fun hm => ?_⟩
 ·show sumU (startP p).used = _
  rw [h.used]; rfl
 ·have := mayB_parts hm
  show UB b (startP p).used
  rw [h.used]
  exact ⟨this.1.1, this.2.1.1, this.2.2.1.1, this.2.2.2.1⟩
theorem WY.next {p : PPrg} {b : PBud} {l : List PEv} {e : PEv} (h : WY p b l) (hl : l.length < 100) (hi : isP p b (goP p (startP p) l l.length) e = true) :
  WY p b (l ++ [e]) ∧ goP p (startP p) (l ++ [e]) (l ++ [e]).length = doP p (goP p (startP p) l l.length) e := by
 have hg : goP p (startP p) (l ++ [e]) (l ++ [e]).length = doP p (goP p (startP p) l l.length) e := by
  rw [List.length_append, List.length_singleton, goP, goP_app p _ l e _ (Nat.le_refl _), List.getD_eq_getElem?_getD, List.getElem?_append_right (Nat.le_refl _), Nat.sub_self]; rfl
 have hk := do_keep h.wk (by omega) (by omega) hi
 refine ⟨⟨?_, fun i hi2 => ?_, ?_, fun hm => ?_⟩, hg⟩
 ·rw [hg]; refine hk.1.mono ?_
  rw [List.length_append, List.length_singleton]; omega
 ·rw [List.length_append, List.length_singleton] at hi2
  unfold okAt
  rw [goP_app p _ l e i (by omega), List.getD_eq_getElem?_getD]
  by_cases e2 : i < l.length
  ·rw [List.getElem?_append_left e2, ← List.getD_eq_getElem?_getD]
   exact h.ok i e2
  ·obtain rfl : i = l.length := by omega
   rw [List.getElem?_append_right (Nat.le_refl _), Nat.sub_self]
   exact hi
 ·rw [hg, hk.2, incU_sum hi, h.su]
  unfold fau
  rw [List.countP_append, List.countP_singleton]
  by_cases e1 : e.kind = 1
  ·simp [e1]
  ·simp [e1]
 ·rw [hg, hk.2]
  exact do_ub h.wk hi (h.ub hm)
end Go.Proofs.YtfbeiedhdmndnaaGreatDoor
