/-
 Events that touch nobody in common go in either order (P12.2), plainly. Condition: the world may be; no actor has sent, or counted over, so many.
-/
import Derived.Test.YtfbeiedhdmndnaaGreatDoorFb
namespace Go.Proofs.YtfbeiedhdmndnaaGreatDoor
open Go.RowKit
theorem numM_mem {f n0 : Int} {ns : List PNte} {k : Nat} {m : PMsg} (h : m ∈ numM f n0 ns k) (hk : k ≤ ns.length) : ∃ i : Nat, i < k ∧ m.id = ⟨f, n0 + (i : Int), 0⟩ ∧ m.nt ∈ ns := by
 unfold numM at h
 rw [List.mem_map] at h
 obtain ⟨i, hi, rfl⟩ := h
 rw [List.mem_range] at hi
 obtain ⟨a, ha⟩ := at_lt (l := ns) (k := i) (by omega)
 refine ⟨i, hi, rfl, ?_⟩
 show ns.getD i default ∈ ns
 rw [getD_at ha]
 exact List.mem_of_getElem? ha
theorem numM_one (f n0 : Int) (ns : List PNte) (k : Nat) : (numM f n0 ns k).Pairwise (fun a b => a.id ≠ b.id) := by
 unfold numM
 rw [List.pairwise_map]
 refine List.Pairwise.imp ?_ List.pairwise_lt_range
 intro a b hab e
 have : n0 + (a : Int) = n0 + (b : Int) := congrArg PID.n e
 omega
/-- Whom an event touches. -/
def Wh (p : PPrg) (x : PWld) (e : PEv) (t : Nat) : Prop := ∃ j z m, Of x e j z m ∧ (t = j ∨ ∃ a ∈ nD p e.kind j z m, a.to = (t : Int))
section
variable {p : PPrg} {b : PBud} {n : Int} {x y : PWld} {e : PEv} {j : Nat} {z : PLoc} {m : PMsg} {t : Nat}
theorem of_same {j' : Nat} {z' : PLoc} {m' : PMsg} (hk : e.kind = 1 ∨ e.kind = 2 ∨ e.kind = 3 ∨ e.kind = 4 ∨ e.kind = 5) (hy : srt y.mail = true) (h : Of x e j z m) (h' : Of y e j' z' m') (ha : Ag x y j) : j' = j ∧ z' = z ∧ m' = m := by
 have key : j' = j ∧ m' = m := by
  by_cases h3 : e.kind = 1 ∨ e.kind = 2 ∨ e.kind = 3
  ·obtain ⟨a1, a2, a3⟩ := h.msg h3
   obtain ⟨b1, b2, b3⟩ := h'.msg h3
   have hm : m ∈ prt y j := by rw [← ha.mail]; exact prt_mem.2 ⟨a1, a3⟩
   have e1 : m' = m := srt_inj hy b1 (prt_mem.1 hm).1 (b2.trans a2.symm)
   subst e1
   exact ⟨by omega, rfl⟩
  ·have h4 : e.kind = 4 ∨ e.kind = 5 := by omega
   have a1 := h.who h4
   have b1 := h'.who h4
   exact ⟨by omega, (h'.non h4).trans (h.non h4).symm⟩
 obtain ⟨rfl, rfl⟩ := key
 exact ⟨rfl, Option.some.inj (h'.at_.symm.trans (ha.act.symm.trans h.at_)), rfl⟩
theorem bD_srt (h : srt x.mail = true) : srt (bD p x e j z m).mail = true := by
 unfold bD lM
 dsimp only
 split
 ·exact cut_srt h
 ·exact h
theorem bD_mem (h : Of x e j z m) (hs : srt x.mail = true) (y : PMsg) : y ∈ (bD p x e j z m).mail ↔ y ∈ x.mail ∧ ((e.kind = 1 ∨ e.kind = 2) → y.id ≠ e.id) := by
 unfold bD lM
 dsimp only
 split
 ·rename_i hk
  obtain ⟨a1, a2, a3⟩ := h.msg (by omega)
  obtain ⟨k, hkk⟩ := List.getElem?_of_mem a1
  have hf : fnd x.mail e.id = k := by
   rw [← a2]
   refine fnd_at hkk rfl fun i w hi hw e' => ?_
   have hp := (srt_pw _).1 hs
   rw [List.pairwise_iff_getElem] at hp
   obtain ⟨hk1, hk2⟩ := List.getElem?_eq_some_iff.1 hkk
   obtain ⟨hi1, hi2⟩ := List.getElem?_eq_some_iff.1 hw
   have := hp i k hi1 hk1 hi
   rw [hi2, hk2] at this
   exact less_ne this e'
  rw [hf, Int.toNat_natCast, cut_iff hs hkk, a2]
  exact ⟨fun ⟨h1, h2⟩ => ⟨h1, fun _ => h2⟩, fun ⟨h1, h2⟩ => ⟨h1, h2 hk⟩⟩
 ·rename_i hk
  exact ⟨fun h1 => ⟨h1, fun h2 => absurd h2 hk⟩, fun h1 => h1.1⟩
/-- What is posted is new, and goes to those that are touched. -/
theorem mD_fre (h : WK p n x) (ho : Of x e j z m) (hn : ∀ a ∈ nD p e.kind j z m, chkNt p a = true) : Fre (bD p x e j z m) (mD p e.kind j z m x.used.dup) ∧ ∀ y ∈ mD p e.kind j z m x.used.dup, y.nt.to = (j : Int) ∨ ∃ a ∈ nD p e.kind j z m, y.nt.to = a.to := by
 have hmem : ∀ y ∈ (bD p x e j z m).mail, y ∈ x.mail := fun y hy => ((bD_mem ho h.srt y).1 hy).1
 unfold mD
 by_cases hk : e.kind = 3
 ·rw [if_pos hk]
  obtain ⟨a1, a2, a3⟩ := ho.msg (by omega)
  refine ⟨⟨fun a ha w hw => ?_, List.pairwise_singleton _ _, fun a ha => ?_⟩, fun a ha => ?_⟩
  ·rw [List.mem_singleton] at ha
   subst ha
   have := (h.mail w (hmem w hw)).2.2.2
   intro e'
   have e2 : w.id.c = x.used.dup + 1 := congrArg PID.c e'
   omega
  ·rw [List.mem_singleton] at ha
   subst ha
   show 0 ≤ m.nt.to
   omega
  ·rw [List.mem_singleton] at ha
   subst ha
   exact Or.inl a3
 ·rw [if_neg hk]
  refine ⟨⟨fun a ha w hw => ?_, numM_one _ _ _ _, fun a ha => ?_⟩, fun a ha => ?_⟩
  ·obtain ⟨i, _, hid, _⟩ := numM_mem ha (Nat.le_refl _)
   have hw2 := (h.mail w (hmem w hw)).2.2.1
   intro e'
   rw [hid] at e'
   have e1 : w.id.f = (j : Int) := congrArg PID.f e'
   have e2 : w.id.n = z.sent + (i : Int) := congrArg PID.n e'
   have hs : sentP x w.id.f = z.sent := by unfold sentP; rw [e1, if_neg (by omega), Int.toNat_natCast, ho.at_]; rfl
   rw [hs] at hw2
   omega
  ·obtain ⟨i, _, _, hin⟩ := numM_mem ha (Nat.le_refl _)
   have h1 := hn _ hin
   unfold chkNt at h1
   rw [Bool.and_eq_true] at h1
   have := inB_iff.1 h1.1
   omega
  ·obtain ⟨i, _, _, hin⟩ := numM_mem ha (Nat.le_refl _)
   exact Or.inr ⟨_, hin, rfl⟩
/-- Who is not touched stays. -/
theorem far (h : WK p n x) (hn : 16 ≤ n) (hn2 : n ≤ 1099511630000) (hi : isP p b x e = true) (ht : ¬ Wh p x e t) : Ag (doP p x e) x t := by
 obtain ⟨j, z, m, ho, hd, hc, _⟩ := do_eff h hn hn2 hi
 obtain ⟨hf, hto⟩ := mD_fre h ho hc
 have htj : t ≠ j := fun e' => ht ⟨j, z, m, ho, Or.inl e'⟩
 rw [hd]
 refine (all_far _ _ (bD_srt h.srt) hf fun a ha e' => ?_).trans ⟨List.getElem?_set_ne (fun e' => htj e'.symm), srt_ext (prt_srt (bD_srt h.srt) t) (prt_srt h.srt t) fun w => ?_⟩
 ·rcases hto a ha with h1 | ⟨c, hc1, hc2⟩
  ·omega
  ·exact ht ⟨j, z, m, ho, Or.inr ⟨c, hc1, hc2.symm.trans e'⟩⟩
 ·rw [prt_mem, prt_mem, bD_mem ho h.srt]
  constructor
  ·rintro ⟨⟨h1, _⟩, h2⟩
   exact ⟨h1, h2⟩
  ·rintro ⟨h1, h2⟩
   refine ⟨⟨h1, fun hk e' => ?_⟩, h2⟩
   obtain ⟨a1, a2, a3⟩ := ho.msg (by omega)
   have := srt_inj h.srt h1 a1 (e'.trans a2.symm)
   subst this
   omega
/-- In a world where the same stands for those that are touched, the same comes of it. -/
theorem near (h : WK p n x) (h' : WK p n y) (hn : 16 ≤ n) (hn2 : n ≤ 1099511630000) (hi : isP p b x e = true) (hi' : isP p b y e = true) (ho : Of x e j z m) (ha : Ag x y j) (hu : e.kind = 3 → x.used.dup = y.used.dup) (ht : Ag x y t) : Ag (doP p x e) (doP p y e) t := by
 obtain ⟨j1, z1, m1, ho1, hd1, hc1, _⟩ := do_eff h hn hn2 hi
 obtain ⟨j2, z2, m2, ho2, hd2, hc2, _⟩ := do_eff h' hn hn2 hi'
 have hk := isP_kind hi
 obtain ⟨rfl, rfl, rfl⟩ := of_same hk h.srt ho ho1 (Ag.refl x j)
 obtain ⟨rfl, rfl, rfl⟩ := of_same hk h'.srt ho1 ho2 ha
 obtain ⟨hf1, _⟩ := mD_fre h ho1 hc1
 obtain ⟨hf2, _⟩ := mD_fre h' ho2 hc2
 have hm : mD p e.kind j2 z2 m2 y.used.dup = mD p e.kind j2 z2 m2 x.used.dup := by
  unfold mD
  by_cases e3 : e.kind = 3
  ·rw [hu e3]
  ·rw [if_neg e3, if_neg e3]
 rw [hd1, hd2]
 rw [hm] at hf2 ⊢
 refine all_near _ _ _ (bD_srt h.srt) (bD_srt h'.srt) hf1 hf2 ⟨?_, srt_ext (prt_srt (bD_srt h.srt) t) (prt_srt (bD_srt h'.srt) t) fun w => ?_⟩
 ·show (x.acts.set j2 _)[t]? = (y.acts.set j2 _)[t]?
  by_cases e' : j2 = t
  ·subst e'
   rw [List.getElem?_set_self (List.getElem?_eq_some_iff.1 ho1.at_).1, List.getElem?_set_self (List.getElem?_eq_some_iff.1 ho2.at_).1]
  ·rw [List.getElem?_set_ne e', List.getElem?_set_ne e']
   exact ht.act
 ·rw [prt_mem, prt_mem, bD_mem ho1 h.srt, bD_mem ho2 h'.srt]
  have h1 : w ∈ prt x t ↔ w ∈ prt y t := by rw [ht.mail]
  rw [prt_mem, prt_mem] at h1
  constructor
  ·rintro ⟨⟨h2, h3⟩, h4⟩
   exact ⟨⟨(h1.1 ⟨h2, h4⟩).1, h3⟩, h4⟩
  ·rintro ⟨⟨h2, h3⟩, h4⟩
   exact ⟨⟨(h1.2 ⟨h2, h4⟩).1, h3⟩, h4⟩
end
theorem wh_same {p : PPrg} {x y : PWld} {e : PEv} {j : Nat} {z : PLoc} {m : PMsg} (hk : e.kind = 1 ∨ e.kind = 2 ∨ e.kind = 3 ∨ e.kind = 4 ∨ e.kind = 5) (hy : srt y.mail = true) (ho : Of x e j z m) (ha : Ag x y j) {t : Nat} (h : Wh p y e t) : Wh p x e t := by
 obtain ⟨j', z', m', ho', hw⟩ := h
 obtain ⟨rfl, rfl, rfl⟩ := of_same hk hy ho ho' ha
 exact ⟨_, _, _, ho, hw⟩
/-- What may happen may still, where the same stands for those that are touched, and as much is left of the budget. -/
theorem is_keep {p : PPrg} {b : PBud} {n n' : Int} {x y : PWld} {e : PEv} {j : Nat} {z : PLoc} {m : PMsg} (h : WK p n x) (h' : WK p n' y) (hn : 16 ≤ n') (hn2 : n' ≤ 2199023255551) (hi : isP p b x e = true) (ho : Of x e j z m) (ha : Ag x y j)
  (u2 : e.kind = 2 → y.used.drop = x.used.drop) (u3 : e.kind = 3 → y.used.dup = x.used.dup) (u4 : e.kind = 4 → y.used.time = x.used.time) (u5 : e.kind = 5 → y.used.crash = x.used.crash) : isP p b y e = true := by
 obtain ⟨hm, _, hl⟩ := isP_parts hi
 have hg : y.acts.getD j default = x.acts.getD j default := by rw [List.getD_eq_getElem?_getD, List.getD_eq_getElem?_getD, ha.act]
 have hL : isL (leftB b y.used) y e = true := by
  refine (isL_mem h'.srt e).2 ?_
  have h1 := (isL_mem h.srt e).1 hl
  rw [mem_enQ, mem_enP] at h1 ⊢
  rcases h1 with ⟨k, k1, k2, h1⟩ | ⟨k, k1, k2, h1⟩
  ·left
   refine ⟨k, k1, k2, ?_⟩
   rw [mem_gM] at h1 ⊢
   obtain ⟨m0, h2, h3, h4⟩ := h1
   have hek : e.kind = (k : Int) := by rw [h4]
   have hei : e.id = m0.id := by rw [h4]
   obtain ⟨a1, a2, a3⟩ := ho.msg (by omega)
   obtain rfl : m0 = m := srt_inj h.srt h2 a1 (hei.symm.trans a2.symm)
   have hmy : m0 ∈ prt y j := by rw [← ha.mail]; exact prt_mem.2 ⟨h2, a3⟩
   refine ⟨m0, (prt_mem.1 hmy).1, ?_, h4⟩
   rw [← h3]
   unfold ofM
   by_cases e1 : (k : Int) = 1
   ·rw [if_pos e1, if_pos e1, a3, Int.toNat_natCast, hg]
   ·rw [if_neg e1, if_neg e1]
    by_cases e2 : (k : Int) = 2
    ·rw [if_pos e2, if_pos e2]
     unfold leftB
     rw [u2 (by omega)]
    ·rw [if_neg e2, if_neg e2]
     by_cases e3 : (k : Int) = 3
     ·rw [if_pos e3, if_pos e3]
      unfold leftB
      rw [u3 (by omega)]
     ·rw [if_neg e3, if_neg e3]
  ·right
   refine ⟨k, k1, k2, ?_⟩
   rw [mem_gA] at h1 ⊢
   obtain ⟨j0, h2, h3, h4⟩ := h1
   have hek : e.kind = (k : Int) := by rw [h4]
   have hew : e.who = (j0 : Int) := by rw [h4]
   have h5 := ho.who (by omega)
   obtain rfl : j0 = j := by omega
   refine ⟨j0, by rw [h'.len, ← h.len]; exact h2, ?_, h4⟩
   rw [← h3, hg]
   unfold ofA
   by_cases e1 : (k : Int) = 4
   ·rw [if_pos e1, if_pos e1]
    unfold leftB
    rw [u4 (by omega)]
   ·rw [if_neg e1, if_neg e1]
    by_cases e2 : (k : Int) = 5
    ·rw [if_pos e2, if_pos e2]
     unfold leftB
     rw [u5 (by omega)]
    ·rw [if_neg e2, if_neg e2]
 unfold isP fitsP
 rw [hm, h'.chk hn hn2, hL]; rfl
theorem do_used {p : PPrg} {b : PBud} {n : Int} {x : PWld} {e : PEv} (h : WK p n x) (hn : 16 ≤ n) (hn2 : n ≤ 1099511630000) (hi : isP p b x e = true) : (doP p x e).used = incU x.used e.kind := (do_keep h hn hn2 hi).2
theorem incU_ne {u : PBud} {k : Int} : (k ≠ 2 → (incU u k).drop = u.drop) ∧ (k ≠ 3 → (incU u k).dup = u.dup) ∧ (k ≠ 4 → (incU u k).time = u.time) ∧ (k ≠ 5 → (incU u k).crash = u.crash) := by
 unfold incU
 refine ⟨fun h => ?_, fun h => ?_, fun h => ?_, fun h => ?_⟩ <;> (repeat' split) <;> first | rfl | (exfalso; omega)
/-- Behind another event that touches none of them. -/
theorem half {p : PPrg} {b : PBud} {n : Int} {x : PWld} {e1 e2 : PEv} (h : WK p n x) (hn : 16 ≤ n) (hn2 : n ≤ 1099511628000) (h1 : isP p b x e1 = true) (h2 : isP p b x e2 = true) (hd : ∀ t, Wh p x e1 t → Wh p x e2 t → False) (hk : e1.kind = e2.kind → e1.kind = 1) :
  isP p b (doP p x e1) e2 = true ∧ (∀ t, Wh p (doP p x e1) e2 t ↔ Wh p x e2 t) ∧ WK p (n + 700) (doP p x e1) ∧ (∀ t, ¬ Wh p x e1 t → Ag (doP p (doP p x e1) e2) (doP p x e2) t) ∧ (∀ t, ¬ Wh p x e2 t → Ag (doP p (doP p x e1) e2) (doP p x e1) t) := by
 obtain ⟨j, z, m, ho, _⟩ := do_eff h hn (by omega) h2
 have hk2 := isP_kind h2
 have hw := (do_keep h hn (by omega) h1).1
 have hu := (do_keep h hn (by omega) h1).2
 have hj : ¬ Wh p x e1 j := fun e => hd j e ⟨j, z, m, ho, Or.inl rfl⟩
 have ha : Ag (doP p x e1) x j := far h hn (by omega) h1 hj
 obtain ⟨n2, n3, n4, n5⟩ := @incU_ne x.used e1.kind
 have hi : isP p b (doP p x e1) e2 = true := by
  refine is_keep h hw (by omega) (by omega) h2 ho ha.symm ?_ ?_ ?_ ?_ <;> intro hkk <;> rw [hu]
  ·exact n2 fun e => by have := hk (by omega); omega
  ·exact n3 fun e => by have := hk (by omega); omega
  ·exact n4 fun e => by have := hk (by omega); omega
  ·exact n5 fun e => by have := hk (by omega); omega
 obtain ⟨j', z', m', ho', _⟩ := do_eff hw (by omega) (by omega) hi
 obtain ⟨rfl, rfl, rfl⟩ := of_same hk2 hw.srt ho ho' ha.symm
 have hwh : ∀ t, Wh p (doP p x e1) e2 t ↔ Wh p x e2 t := fun t => ⟨wh_same hk2 hw.srt ho ha.symm, wh_same hk2 h.srt ho' ha⟩
 refine ⟨hi, hwh, hw, fun t ht => ?_, fun t ht => ?_⟩
 ·exact near hw (h.mono (by omega : n ≤ n + 700)) (by omega) (by omega) hi h2 ho' ha (fun e3 => by rw [hu]; exact n3 fun e => by have := hk (by omega); omega) (far h hn (by omega) h1 ht)
 ·exact far hw (by omega) (by omega) hi fun e => ht ((hwh t).1 e)
/-- P12.2. -/
theorem swap {p : PPrg} {b : PBud} {n : Int} {x : PWld} {e1 e2 : PEv} (h : WK p n x) (hn : 16 ≤ n) (hn2 : n ≤ 1099511628000) (h1 : isP p b x e1 = true) (h2 : isP p b x e2 = true) (hd : ∀ t, Wh p x e1 t → Wh p x e2 t → False) (hk : e1.kind = e2.kind → e1.kind = 1) :
  doP p (doP p x e1) e2 = doP p (doP p x e2) e1 := by
 obtain ⟨i2, w2, k1, f1, g1⟩ := half h hn hn2 h1 h2 hd hk
 obtain ⟨i1, w1, k2, f2, g2⟩ := half h hn hn2 h2 h1 (fun t a c => hd t c a) (fun e => by have := hk e.symm; omega)
 have a12 := (do_keep k1 (by omega) (by omega) i2).1
 have a21 := (do_keep k2 (by omega) (by omega) i1).1
 refine world_ext (a12.len.trans a21.len.symm) a12.srt a21.srt (fun m hm => by have := a12.to hm; rw [a12.len]; exact this) (fun m hm => by have := a21.to hm; rw [a21.len]; exact this) ?_ fun t _ => ?_
 ·rw [do_used k1 (by omega) (by omega) i2, do_used k2 (by omega) (by omega) i1, do_used h hn (by omega) h1, do_used h hn (by omega) h2]
  unfold incU
  rcases isP_kind h1 with c1 | c1 | c1 | c1 | c1 <;> rcases isP_kind h2 with c2 | c2 | c2 | c2 | c2 <;> rw [c1, c2] <;> rfl
 ·by_cases ht : Wh p x e1 t
  ·exact (g1 t fun c => hd t ht c).trans (f2 t fun c => hd t ht c).symm
  ·exact (f1 t ht).trans (g2 t ht).symm
end Go.Proofs.YtfbeiedhdmndnaaGreatDoor
