/-
 What may be stays so (P11.3), plainly: what a handler's run sends, and the actor behind it. Condition: the program may be.
-/
import Derived.Test.YtfbeiedhdmndnaaGreatDoorPk14
namespace Go.Proofs.YtfbeiedhdmndnaaGreatDoor
open Go.RowKit
theorem dn0 : (0 : Int) ≤ 0 ∧ (0 : Int) ≤ 4 := by decide
theorem dn2 : (0 : Int) ≤ 2 ∧ (2 : Int) ≤ 4 := by decide
theorem dn4 : (0 : Int) ≤ 4 ∧ (4 : Int) ≤ 4 := by decide
theorem dnD (o x : Int) : 0 ≤ dn o x ∧ dn o x ≤ 4 := by unfold dn; split <;> decide
/-- The state behind an instruction, against the one ahead of it. -/
structure SG (p : PPrg) (who : Int) (s : MS) (r : Int × MS) : Prop where
 nt : ∀ n ∈ r.2.notes, n ∈ s.notes ∨ chkNt p n = true
 dn : 0 ≤ r.1 ∧ r.1 ≤ 4
 am : r.2.armed = true → s.armed = true ∨ tmr p who ≠ -1
theorem stp_sg {p : PPrg} {args : List Int} {code : List PIns} {s : MS} {i : PIns} (who : Int) (len : Nat) (ok : OkS p args code s i) : SG p who s (stp p who args len i s) := by
 by_cases e : i.op = 22
 ·obtain ⟨op, a⟩ := i
  have e' : op = 22 := e
  subst e'
  have k1 : 1 + argsOf p.hs a ≤ s.st.length := ok.ok.1
  obtain ⟨s1, s2⟩ := ok.snd rfl
  have s1' : 0 ≤ a ∧ a < p.hs.length := s1
  have s2' : 0 ≤ argsOf p.hs a ∧ argsOf p.hs a ≤ 4 := s2
  by_cases hz : 0 ≤ hd0 s.st ∧ hd0 s.st < p.acs.length
  ·have e : stp p who args len ⟨22, a⟩ s = (0, { s with st := s.st.tail.drop (argsOf p.hs a).toNat, notes := s.notes ++ [⟨hd0 s.st, a, (s.st.tail.take (argsOf p.hs a).toNat).reverse⟩] }) := if_pos hz
   rw [e]
   refine ⟨fun n hn => ?_, dn0, fun h => Or.inl h⟩
   rcases List.mem_append.1 hn with hn | hn
   ·exact Or.inl hn
   ·rw [List.mem_singleton] at hn
    subst hn
    right
    unfold chkNt
    have hl : (((s.st.tail.take (argsOf p.hs a).toNat).reverse.length : Nat) : Int) = argsOf p.hs a := by
     rw [List.length_reverse, List.length_take, List.length_tail]; omega
    dsimp only
    rw [in_yes (by omega), in_yes (by omega), hl]
    simp
  ·have e : stp p who args len ⟨22, a⟩ s = (4, { s with st := s.st.tail }) := if_neg hz
   rw [e]
   exact ⟨fun n hn => Or.inl hn, dn4, fun h => Or.inl h⟩
 ·unfold stp
  split <;> first
   | exact ⟨fun n hn => Or.inl hn, dn0, fun h => Or.inl h⟩
   | (exfalso; omega)
   | (refine ⟨fun n hn => Or.inl hn, dn0, fun h => ?_⟩; simp only [Bool.or_eq_true, bne_iff_ne] at h; exact h)
   | exact ⟨fun n hn => Or.inl hn, dn0, fun h => by cases h⟩
   | exact ⟨fun n hn => Or.inl hn, dnD _ _, fun h => Or.inl h⟩
/-- All of them. -/
theorem rn_keep {p : PPrg} {y : PHnd} {l : List Int} {args : List Int} (who : Int) (hx : chkH p.hs.length y = 0) (hO : OkH p.hs) (ha : (args.length : Int) = y.args) (hg : Good p.hs y.code l) {A : Prop} (hA : tmr p who ≠ -1 → A) :
  ∀ (f : Nat) (s : MS), (s.pc < y.code.length → Rch p.hs y.code s.pc s.st.length) → (∀ n ∈ s.notes, chkNt p n = true) → (s.armed = true → A) →
   (∀ n ∈ (rn p who args y.code f s).2.notes, chkNt p n = true) ∧ (0 ≤ (rn p who args y.code f s).1 ∧ (rn p who args y.code f s).1 ≤ 4) ∧ ((rn p who args y.code f s).2.armed = true → A)
 | 0, s, hr, hn, hm => by
  unfold rn
  split
  ·exact ⟨hn, dn2, hm⟩
  ·exact ⟨hn, dn0, hm⟩
 | f + 1, s, hr, hn, hm => by
  by_cases hk : s.pc < y.code.length
  ·obtain ⟨i, hi⟩ := at_lt hk
   have ok0 := oks_of hx hO ha hg (hr hk) hi
   have ok : OkS p args y.code { s with pc := s.pc + 1, steps := s.steps + 1 } i := ⟨ok0.ok, ok0.vl, ok0.reg, ok0.arg, ok0.tgt, ok0.snd⟩
   have sg := stp_sg who y.code.length ok
   have hN : ∀ n ∈ (stp p who args y.code.length i { s with pc := s.pc + 1, steps := s.steps + 1 }).2.notes, chkNt p n = true := fun n h => (sg.nt n h).elim (hn n) id
   have hM : (stp p who args y.code.length i { s with pc := s.pc + 1, steps := s.steps + 1 }).2.armed = true → A := fun h => (sg.am h).elim hm hA
   by_cases hd : (stp p who args y.code.length i { s with pc := s.pc + 1, steps := s.steps + 1 }).1 = 0
   ·rw [rn_on hk hi hd]
    obtain ⟨h1, h2, h3, h4, h5⟩ := stp_good who ok rfl hk hd
    refine rn_keep who hx hO ha hg hA f _ (fun hlt => ?_) hN hM
    rcases h3 with h3 | h3
    ·omega
    ·rw [h2]; exact Rch.step (hr hk) hi ok.ok h3
   ·rw [rn_down hk hi hd]
    exact ⟨hN, sg.dn, hM⟩
  ·rw [rn_end hk]
   exact ⟨hn, dn0, hm⟩
/-- What is known of a handler's run. -/
structure RK (p : PPrg) (who : Int) (l : PLoc) (r : PRes) : Prop where
 nt : ∀ n ∈ r.notes, chkNt p n = true
 nl : r.notes.length ≤ 256
 regs : r.loc.regs.length = l.regs.length
 dn : 0 ≤ r.loc.down ∧ r.loc.down ≤ 4
 am : r.loc.armed = true → l.armed = true ∨ tmr p who ≠ -1
 sn : r.loc.sent = wrap64 (l.sent + r.notes.length)
 ov : r.loc.over = l.over
theorem runP_k {p : PPrg} {who : Int} {l : PLoc} {h : Int} {args : List Int} (hm : mayP p who l h args) (hs : wrap64 l.sent = l.sent) : RK p who l (runP p who l h args) := by
 have e : runP p who l h args = fin l (rnR p who l h args) := by unfold runP; exact @if_pos _ (Classical.propDecidable _) hm _ _ _
 have hb : RB l (runP p who l h args) := runP_b p who l h args
 rw [e] at hb ⊢
 obtain ⟨m0, m1, m2, m3, m4, m5⟩ := hm
 obtain ⟨k, rfl⟩ := Int.eq_ofNat_of_zero_le m2.1
 obtain ⟨y, hy⟩ := at_lt (l := p.hs) (k := k) (by omega)
 obtain ⟨f1, f2⟩ := fc_parts m0
 have hmem := List.mem_of_getElem? hy
 have hK := rn_keep (p := p) (y := y) (args := args) who (chk_hs f1 y hmem) (chk_ok f1).1 (by rw [m3, argsOf_at hy]) (dp_some (f2 y hmem)) (A := l.armed = true ∨ tmr p who ≠ -1) Or.inr p.fuel.toNat (ms0 l) (fun _ => Rch.start) (fun n hn => by cases hn) Or.inl
 have hR : rnR p who l (k : Int) args = rn p who args y.code p.fuel.toNat (ms0 l) := by unfold rnR; rw [fcode_at hy]
 obtain ⟨h1, _, _⟩ := rn_b p who args y.code p.fuel.toNat (ms0 l) ⟨Nat.le_refl _, Nat.zero_le _, fun n hn => by cases hn⟩
 rw [hR] at hb ⊢
 obtain ⟨k1, k2, k3⟩ := hK
 have hnl := hb.nl
 generalize rn p who args y.code p.fuel.toNat (ms0 l) = R at *
 unfold fin at *
 by_cases hd : R.1 = 0
 ·rw [if_pos hd] at *
  exact ⟨k1, hnl, h1, by rw [m5]; decide, k3, rfl, rfl⟩
 ·rw [if_neg hd] at *
  refine ⟨fun n hn => (by cases hn), by show 0 ≤ 256; decide, rfl, k2, fun h => Or.inl h, ?_, rfl⟩
  show l.sent = wrap64 (l.sent + ((([] : List PNte).length : Nat) : Int))
  rw [List.length_nil]
  rw [show l.sent + ((0 : Nat) : Int) = l.sent by omega, hs]
end Go.Proofs.YtfbeiedhdmndnaaGreatDoor
