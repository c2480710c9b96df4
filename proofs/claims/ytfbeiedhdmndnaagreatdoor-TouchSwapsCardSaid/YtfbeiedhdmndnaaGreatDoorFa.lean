/-
 A world is made of its parts (P12.2), plainly: sorted lists of messages of the same members are one; what putting, taking and posting do to the part of an actor. No conditions.
-/
import Derived.Test.YtfbeiedhdmndnaaGreatDoorKc
namespace Go.Proofs.YtfbeiedhdmndnaaGreatDoor
open Go.RowKit
theorem pw_ext {α : Type} {R : α → α → Prop} (hi : ∀ a, ¬ R a a) (ha : ∀ a b, R a b → ¬ R b a) : ∀ (l l' : List α), l.Pairwise R → l'.Pairwise R → (∀ m, m ∈ l ↔ m ∈ l') → l = l'
 | [], [], _, _, _ => rfl
 | [], b :: r', _, _, h => absurd ((h b).2 (List.mem_cons_self ..)) (List.not_mem_nil)
 | a :: r, [], _, _, h => absurd ((h a).1 (List.mem_cons_self ..)) (List.not_mem_nil)
 | a :: r, b :: r', h1, h2, h => by
  rw [List.pairwise_cons] at h1 h2
  have e : a = b := by
   rcases List.mem_cons.1 ((h a).1 (List.mem_cons_self ..)) with e | e
   ·exact e
   ·rcases List.mem_cons.1 ((h b).2 (List.mem_cons_self ..)) with e' | e'
    ·exact e'.symm
    ·exact absurd (h1.1 b e') (ha _ _ (h2.1 a e))
  subst e
  refine congrArg _ (pw_ext hi ha r r' h1.2 h2.2 fun m => ⟨fun hm => ?_, fun hm => ?_⟩)
  ·rcases List.mem_cons.1 ((h m).1 (List.mem_cons_of_mem _ hm)) with e | e
   ·subst e; exact absurd (h1.1 _ hm) (hi _)
   ·exact e
  ·rcases List.mem_cons.1 ((h m).2 (List.mem_cons_of_mem _ hm)) with e | e
   ·subst e; exact absurd (h2.1 _ hm) (hi _)
   ·exact e
theorem srt_ext {l l' : List PMsg} (h1 : srt l = true) (h2 : srt l' = true) (h : ∀ m, m ∈ l ↔ m ∈ l') : l = l' :=
 pw_ext (R := fun x y : PMsg => lessD x.id y.id = true) (fun _ e => less_ne e rfl) (fun _ _ e1 e2 => less_ne (less_trans e1 e2) rfl) l l' ((srt_pw l).1 h1) ((srt_pw l').1 h2) h
theorem srt_sub {l l' : List PMsg} (h : srt l = true) (hs : l'.Sublist l) : srt l' = true := (srt_pw l').2 (((srt_pw l).1 h).sublist hs)
theorem put_in {l : List PMsg} {m y : PMsg} : y ∈ putP l m ↔ y = m ∨ y ∈ l := by
 refine ⟨putP_mem, fun h => ?_⟩
 unfold putP
 rcases h with rfl | h
 ·exact List.mem_append_right _ (List.mem_cons_self ..)
 ·rw [← List.take_append_drop (plc l m.id) l] at h
  rcases List.mem_append.1 h with h | h
  ·exact List.mem_append_left _ h
  ·exact List.mem_append_right _ (List.mem_cons_of_mem _ h)
theorem cut_iff {l : List PMsg} {k : Nat} {z y : PMsg} (hs : srt l = true) (hz : l[k]? = some z) : y ∈ cutP l k ↔ y ∈ l ∧ y.id ≠ z.id := by
 obtain ⟨hk, hz'⟩ := List.getElem?_eq_some_iff.1 hz
 have hl : l = l.take k ++ z :: l.drop (k + 1) := by rw [← hz', ← List.drop_eq_getElem_cons hk, List.take_append_drop]
 have hp := (srt_pw l).1 hs
 rw [hl] at hp
 rw [List.pairwise_append, List.pairwise_cons] at hp
 obtain ⟨_, ⟨h1, _⟩, h2⟩ := hp
 unfold cutP
 constructor
 ·intro h
  rcases List.mem_append.1 h with h | h
  ·exact ⟨List.mem_of_mem_take h, less_ne (h2 y h z (List.mem_cons_self ..))⟩
  ·exact ⟨List.mem_of_mem_drop h, fun e => less_ne (h1 y h) e.symm⟩
 ·rintro ⟨h, hne⟩
  rw [hl] at h
  rcases List.mem_append.1 h with h | h
  ·exact List.mem_append_left _ h
  ·rcases List.mem_cons.1 h with rfl | h
   ·exact absurd rfl hne
   ·exact List.mem_append_right _ h
/-- The part of an actor. -/
def prt (x : PWld) (t : Nat) : List PMsg := x.mail.filter (fun m => decide (m.nt.to = (t : Int)))
structure Ag (x y : PWld) (t : Nat) : Prop where
 act : x.acts[t]? = y.acts[t]?
 mail : prt x t = prt y t
theorem prt_mem {x : PWld} {t : Nat} {m : PMsg} : m ∈ prt x t ↔ m ∈ x.mail ∧ m.nt.to = (t : Int) := by unfold prt; rw [List.mem_filter, decide_eq_true_eq]
theorem prt_srt {x : PWld} (h : srt x.mail = true) (t : Nat) : srt (prt x t) = true := srt_sub h List.filter_sublist
theorem prt_toN (x : PWld) (t : Nat) : toN x.mail (t : Int) = (prt x t).length := by unfold toN prt; rw [List.countP_eq_length_filter]
section
variable {x y z : PWld} {t : Nat}
theorem Ag.refl (x : PWld) (t : Nat) : Ag x x t := ⟨rfl, rfl⟩
theorem Ag.symm (h : Ag x y t) : Ag y x t := ⟨h.act.symm, h.mail.symm⟩
theorem Ag.trans (h : Ag x y t) (k : Ag y z t) : Ag x z t := ⟨h.act.trans k.act, h.mail.trans k.mail⟩
end
/-- Worlds of the same parts, and counts, are one. -/
theorem world_ext {x y : PWld} (hl : x.acts.length = y.acts.length) (hx : srt x.mail = true) (hy : srt y.mail = true) (tx : ∀ m ∈ x.mail, 0 ≤ m.nt.to ∧ m.nt.to < x.acts.length) (ty : ∀ m ∈ y.mail, 0 ≤ m.nt.to ∧ m.nt.to < y.acts.length)
  (hu : x.used = y.used) (h : ∀ t, t < x.acts.length → Ag x y t) : x = y := by
 have ha : x.acts = y.acts := by
  apply List.ext_getElem?
  intro i
  by_cases hi : i < x.acts.length
  ·exact (h i hi).act
  ·rw [List.getElem?_eq_none (by omega), List.getElem?_eq_none (by omega)]
 have hm : x.mail = y.mail := by
  refine srt_ext hx hy fun m => ⟨fun hm => ?_, fun hm => ?_⟩
  ·have ht := tx m hm
   have h1 : m ∈ prt x m.nt.to.toNat := prt_mem.2 ⟨hm, by omega⟩
   rw [(h m.nt.to.toNat (by omega)).mail] at h1
   exact (prt_mem.1 h1).1
  ·have ht := ty m hm
   have h1 : m ∈ prt y m.nt.to.toNat := prt_mem.2 ⟨hm, by omega⟩
   rw [← (h m.nt.to.toNat (by omega)).mail] at h1
   exact (prt_mem.1 h1).1
 cases x; cases y
 simp only at ha hm hu
 subst ha hm hu
 rfl
/-! ### A message posted -/
section
variable {p : PPrg} {x y : PWld} {m : PMsg} {k t : Nat}
theorem post_srt (h : srt x.mail = true) : srt (postP p x m k).mail = true := by
 unfold postP
 split
 ·rename_i hr
  unfold roomB at hr
  simp only [Bool.and_eq_true, decide_eq_true_eq] at hr
  exact put_srt h hr.2
 ·exact h
/-- Another's part stays. -/
theorem post_far (hk : m.nt.to = (k : Int)) (ht : t ≠ k) (h : srt x.mail = true) : Ag (postP p x m k) x t := by
 have hs := post_srt (p := p) (m := m) (k := k) h
 unfold postP at *
 split
 ·rename_i hr
  rw [if_pos hr] at hs
  refine ⟨rfl, srt_ext (prt_srt hs t) (prt_srt h t) fun z => ?_⟩
  rw [prt_mem, prt_mem]
  show z ∈ putP x.mail m ∧ _ ↔ _
  rw [put_in]
  constructor
  ·rintro ⟨rfl | h1, h2⟩
   ·omega
   ·exact ⟨h1, h2⟩
  ·rintro ⟨h1, h2⟩
   exact ⟨Or.inr h1, h2⟩
 ·exact ⟨List.getElem?_set_ne (fun e => ht e.symm), rfl⟩
/-- The part that it goes to. -/
theorem post_near (hk : m.nt.to = (k : Int)) (hx : srt x.mail = true) (hy : srt y.mail = true) (fx : ∀ z ∈ x.mail, z.id ≠ m.id) (fy : ∀ z ∈ y.mail, z.id ≠ m.id) (h : Ag x y k) : Ag (postP p x m k) (postP p y m k) k := by
 have hsx := post_srt (p := p) (m := m) (k := k) hx
 have hsy := post_srt (p := p) (m := m) (k := k) hy
 have hr : roomB p x m k = roomB p y m k := by
  unfold roomB
  rw [fnd_iff.2 fx, fnd_iff.2 fy, hk, prt_toN, prt_toN, h.mail]
 unfold postP at *
 rw [hr] at hsx ⊢
 by_cases e : roomB p y m k = true
 ·rw [if_pos e] at hsx hsy
  rw [if_pos e, if_pos e]
  refine ⟨h.act, srt_ext (prt_srt hsx k) (prt_srt hsy k) fun z => ?_⟩
  rw [prt_mem, prt_mem]
  show z ∈ putP x.mail m ∧ _ ↔ z ∈ putP y.mail m ∧ _
  rw [put_in, put_in]
  have h1 : z ∈ prt x k ↔ z ∈ prt y k := by rw [h.mail]
  rw [prt_mem, prt_mem] at h1
  constructor
  ·rintro ⟨rfl | h2, h3⟩
   ·exact ⟨Or.inl rfl, h3⟩
   ·exact ⟨Or.inr (h1.1 ⟨h2, h3⟩).1, h3⟩
  ·rintro ⟨rfl | h2, h3⟩
   ·exact ⟨Or.inl rfl, h3⟩
   ·exact ⟨Or.inr (h1.2 ⟨h2, h3⟩).1, h3⟩
 ·rw [if_neg e, if_neg e]
  have ha := h.act
  refine ⟨?_, h.mail⟩
  show (x.acts.set k _)[k]? = (y.acts.set k _)[k]?
  rw [List.getElem?_set, List.getElem?_set, if_pos rfl, if_pos rfl]
  have hd : x.acts.getD k default = y.acts.getD k default := by rw [List.getD_eq_getElem?_getD, List.getD_eq_getElem?_getD, ha]
  by_cases hlx : k < x.acts.length
  ·have hly : k < y.acts.length := by
    rw [List.getElem?_eq_getElem hlx] at ha
    exact (List.getElem?_eq_some_iff.1 ha.symm).1
   rw [if_pos hlx, if_pos hly, hd]
  ·have hly : ¬ k < y.acts.length := fun hly => by
    rw [List.getElem?_eq_getElem hly] at ha
    exact hlx (List.getElem?_eq_some_iff.1 ha).1
   rw [if_neg hlx, if_neg hly]
end
/-! ### Messages posted, one behind the other -/
def pst (p : PPrg) (x : PWld) (m : PMsg) : PWld := postP p x m m.nt.to.toNat
def pstAll (p : PPrg) (x : PWld) (ms : List PMsg) : PWld := ms.foldl (pst p) x
/-- Names that are not there, each once; whom they go to. -/
structure Fre (x : PWld) (ms : List PMsg) : Prop where
 new : ∀ m ∈ ms, ∀ z ∈ x.mail, z.id ≠ m.id
 one : ms.Pairwise (fun a b => a.id ≠ b.id)
 nn : ∀ m ∈ ms, 0 ≤ m.nt.to
section
variable {p : PPrg} {x y : PWld} {m : PMsg} {ms : List PMsg} {t : Nat}
theorem Fre.tail (h : Fre x (m :: ms)) : Fre (pst p x m) ms := by
 have h1 := List.pairwise_cons.1 h.one
 refine ⟨fun a ha z hz => ?_, h1.2, fun a ha => h.nn a (List.mem_cons_of_mem _ ha)⟩
 rcases post_mail.2 z hz with e | hz
 ·subst e; exact h1.1 a ha
 ·exact h.new a (List.mem_cons_of_mem _ ha) z hz
theorem all_far : ∀ (ms : List PMsg) (x : PWld), srt x.mail = true → Fre x ms → (∀ m ∈ ms, m.nt.to ≠ (t : Int)) → Ag (pstAll p x ms) x t
 | [], x, _, _, _ => Ag.refl x t
 | m :: ms, x, h, hf, ht => by
  have h0 := hf.nn m (List.mem_cons_self ..)
  have h1 := ht m (List.mem_cons_self ..)
  exact (all_far ms (pst p x m) (post_srt h) hf.tail fun a ha => ht a (List.mem_cons_of_mem _ ha)).trans (post_far (by omega) (by omega) h)
theorem all_near : ∀ (ms : List PMsg) (x y : PWld), srt x.mail = true → srt y.mail = true → Fre x ms → Fre y ms → Ag x y t → Ag (pstAll p x ms) (pstAll p y ms) t
 | [], _, _, _, _, _, _, h => h
 | m :: ms, x, y, hx, hy, fx, fy, h => by
  have h0 := fx.nn m (List.mem_cons_self ..)
  refine all_near ms (pst p x m) (pst p y m) (post_srt hx) (post_srt hy) fx.tail fy.tail ?_
  by_cases e : m.nt.to = (t : Int)
  ·have e' : m.nt.to.toNat = t := by omega
   unfold pst
   rw [e']
   exact post_near e hx hy (fun z hz => fx.new m (List.mem_cons_self ..) z hz) (fun z hz => fy.new m (List.mem_cons_self ..) z hz) h
  ·exact ((post_far (by omega) (by omega) hx).trans h).trans (post_far (by omega) (by omega) hy).symm
end
end Go.Proofs.YtfbeiedhdmndnaaGreatDoor
