/-
 What an event makes of a world, part by part (P12.2), plainly. Condition: the world may be.
-/
import Derived.Test.YtfbeiedhdmndnaaGreatDoorFa
namespace Go.Proofs.YtfbeiedhdmndnaaGreatDoor
open Go.RowKit
theorem set_at {α : Type} {l : List α} {k : Nat} {z : α} (h : l[k]? = some z) : l.set k z = l := by
 apply List.ext_getElem?
 intro i
 by_cases e : k = i
 ·subst e; rw [List.getElem?_set_self (List.getElem?_eq_some_iff.1 h).1, h]
 ·rw [List.getElem?_set_ne e]
/-- The actor behind an event of a kind, ahead of what it sends; what it sends; what is posted. -/
noncomputable def lD (p : PPrg) (κ : Int) (j : Nat) (z : PLoc) (m : PMsg) : PLoc :=
 if κ = 1 then (runP p j z m.nt.hd m.nt.args).loc else if κ = 4 then (runP p j { z with armed := false } (tmOf p j) []).loc else if κ = 5 then { z with down := 1 } else z
noncomputable def nD (p : PPrg) (κ : Int) (j : Nat) (z : PLoc) (m : PMsg) : List PNte :=
 if κ = 1 then (runP p j z m.nt.hd m.nt.args).notes else if κ = 4 then (runP p j { z with armed := false } (tmOf p j) []).notes else []
def numM (f n0 : Int) (ns : List PNte) (k : Nat) : List PMsg := (List.range k).map fun i => ⟨⟨f, n0 + ((i : Nat) : Int), 0⟩, ns.getD i default⟩
noncomputable def mD (p : PPrg) (κ : Int) (j : Nat) (z : PLoc) (m : PMsg) (dup : Int) : List PMsg :=
 if κ = 3 then [⟨{ m.id with c := dup + 1 }, m.nt⟩] else numM (j : Int) z.sent (nD p κ j z m) (nD p κ j z m).length
def lM (κ : Int) (l : List PMsg) (d : PID) : List PMsg := if κ = 1 ∨ κ = 2 then cutP l (fnd l d).toNat else l
noncomputable def bD (p : PPrg) (x : PWld) (e : PEv) (j : Nat) (z : PLoc) (m : PMsg) : PWld := ⟨x.acts.set j (lD p e.kind j z m), lM e.kind x.mail e.id, incU x.used e.kind⟩
/-- Whom an event is of. -/
structure Of (x : PWld) (e : PEv) (j : Nat) (z : PLoc) (m : PMsg) : Prop where
 at_ : x.acts[j]? = some z
 msg : e.kind = 1 ∨ e.kind = 2 ∨ e.kind = 3 → m ∈ x.mail ∧ m.id = e.id ∧ m.nt.to = (j : Int)
 who : e.kind = 4 ∨ e.kind = 5 → e.who = (j : Int)
 non : e.kind = 4 ∨ e.kind = 5 → m = ⟨⟨0, 0, 0⟩, ⟨0, 0, []⟩⟩
theorem send_all {p : PPrg} {f n0 : Int} {x : PWld} {ns : List PNte} (h0 : 0 ≤ n0) (hn : n0 + ns.length ≤ 4000000000000) (hto : ∀ m ∈ ns, 0 ≤ m.to ∧ m.to < (p.acs.length : Int)) (hl : x.acts.length = p.acs.length) :
  ∀ k, k ≤ ns.length → sendT p n0 f x.acts.length x ns k = pstAll p x (numM f n0 ns k)
 | 0, _ => rfl
 | k + 1, hk => by
  obtain ⟨m, hm⟩ := at_lt (l := ns) (k := k) (by omega)
  have ht := hto m (List.mem_of_getElem? hm)
  have hw : wrap64 (n0 + (k : Int)) = n0 + k := IntWalk.wrap64_in _ ⟨by omega, by omega⟩
  have hg : ns.getD k default = m := getD_at hm
  rw [step_at hm, step_yes (in_yes (by omega)) (by rw [hl]; omega), hw, send_all h0 hn hto hl k (by omega)]
  unfold numM pstAll
  rw [List.range_succ, List.map_append, List.foldl_append]
  show _ = pst p _ ⟨⟨f, n0 + (k : Int), 0⟩, ns.getD k default⟩
  rw [hg]; rfl
/-- P11.1, part by part. -/
theorem do_eff {p : PPrg} {b : PBud} {n : Int} {x : PWld} {e : PEv} (h : WK p n x) (hn : 16 ≤ n) (hn2 : n ≤ 1099511630000) (hi : isP p b x e = true) :
  ∃ j z m, Of x e j z m ∧ doP p x e = pstAll p (bD p x e j z m) (mD p e.kind j z m x.used.dup) ∧ (∀ a ∈ nD p e.kind j z m, chkNt p a = true) ∧ (nD p e.kind j z m).length ≤ 256 ∧ ((e.kind = 1 ∨ e.kind = 4) → (lD p e.kind j z m).sent = z.sent + (nD p e.kind j z m).length) := by
 have hc := fc_chk h.fc
 have hp := chk_parts hc
 have hu := h.used
 have hlf := isP_left hu hi
 have hmb := mayB_parts (isP_parts hi).1
 have hw : ∀ i : Int, 0 ≤ i → i < 1000 → wrap64 (i + 1) = i + 1 := fun i h0 h1 => IntWalk.wrap64_in _ ⟨by omega, by omega⟩
 have key : ∀ (x1 : PWld) (j : Nat) (z : PLoc) (R : PRes), x1.acts.length = p.acs.length → x1.acts[j]? = some z → 0 ≤ z.sent → z.sent ≤ n → RK p (j : Int) z R →
   sendP p (setL x1 j R.loc) (j : Int) R.notes = pstAll p (setL x1 j R.loc) (numM (j : Int) z.sent R.notes R.notes.length) ∧ R.loc.sent = z.sent + R.notes.length := by
  intro x1 j z R hl1 hz h0 h1 hR
  have hnl := hR.nl
  have hj := (List.getElem?_eq_some_iff.1 hz).1
  have hs : R.loc.sent = z.sent + R.notes.length := by rw [hR.sn]; exact IntWalk.wrap64_in _ ⟨by omega, by omega⟩
  have hl2 : (setL x1 j R.loc).acts.length = p.acs.length := by show (x1.acts.set j _).length = _; rw [List.length_set, hl1]
  have hs1 : sentP (setL x1 j R.loc) (j : Int) = z.sent + R.notes.length := by
   unfold sentP setL
   rw [if_neg (by omega), Int.toNat_natCast]
   dsimp only
   rw [List.getElem?_set_self hj]
   exact hs
  refine ⟨?_, hs⟩
  rw [send_yes (in_yes (by rw [hl2, ← hl1]; omega))]
  have hfp : firstP (setL x1 j R.loc) (j : Int) R.notes.length = z.sent := by
   unfold firstP
   rw [if_neg (by omega), hs1, show z.sent + (R.notes.length : Int) - (R.notes.length : Int) = z.sent by omega]
   exact IntWalk.wrap64_in _ ⟨by omega, by omega⟩
  rw [hfp]
  exact send_all h0 (by omega) (fun m hm => by
   have h1 := hR.nt m hm
   unfold chkNt at h1
   rw [Bool.and_eq_true] at h1
   have := inB_iff.1 h1.1
   omega) hl2 _ (Nat.le_refl _)
 rcases isP_kind hi with hk | hk | hk | hk | hk
 ·obtain ⟨k, ⟨yd, ⟨t, hd, args⟩⟩, j, z, hf, hy, hid, hj, hz, _, ho⟩ := isP_msg hi (Or.inl hk)
  dsimp only at hj hid
  subst hj
  obtain ⟨a, ha, hl⟩ := h.at hz
  have hc1 := (h.mail _ (List.mem_of_getElem? hy)).1
  unfold chkNt at hc1
  rw [Bool.and_eq_true, Bool.and_eq_true] at hc1
  obtain ⟨c1, c2, c3⟩ := hc1
  have c1 := inB_iff.1 c1
  have c2 := inB_iff.1 c2
  have c3 := eq_of_beq c3
  dsimp only at c1 c2 c3
  have hdn : z.down = 0 := by
   unfold ofM at ho
   rw [if_pos hk] at ho
   dsimp only at ho
   rw [Int.toNat_natCast, getD_at hz] at ho
   exact of_decide_eq_true ho
  have h8 := (hp.acs a (List.mem_of_getElem? ha)).1
  have hr := hl.regs
  have hm : mayP p (j : Int) z hd args := ⟨h.fc, by omega, by omega, c3, by omega, hdn⟩
  have hsn := hl.sn
  have hR := runP_k hm (IntWalk.wrap64_in _ ⟨by omega, by omega⟩)
  obtain ⟨k1, k2⟩ := key { x with mail := cutP x.mail k } j z _ h.len hz hsn.1 hsn.2 hR
  refine ⟨j, z, ⟨yd, ⟨(j : Int), hd, args⟩⟩, ⟨hz, fun _ => ⟨List.mem_of_getElem? hy, hid, rfl⟩, fun h4 => by omega, fun h4 => by omega⟩, ?_, ?_, ?_, fun _ => ?_⟩
  ·rw [doP_1 hk hf hy rfl hz, k1]
   unfold bD mD lD nD lM
   rw [hk, hf]
   simp only [↓reduceIte, Int.reduceEq, true_or, Int.toNat_natCast]
   rfl
  ·unfold nD; rw [hk]; exact hR.nt
  ·unfold nD; rw [hk]; exact hR.nl
  ·unfold nD lD; rw [hk]; exact k2
 ·obtain ⟨k, y, j, z, hf, hy, hid, hj, hz, _⟩ := isP_msg hi (Or.inr (Or.inl hk))
  have e1 : doP p x e = dropP x e.id := doG_2 hk
  refine ⟨j, z, y, ⟨hz, fun _ => ⟨List.mem_of_getElem? hy, hid, hj⟩, fun h4 => by omega, fun h4 => by omega⟩, ?_, ?_, ?_, fun h4 => by omega⟩
  ·rw [e1]
   have e2 : lD p 2 j z y = z := rfl
   unfold bD dropP tookP
   rw [hk, hw _ hu.a.1 (by have := hlf.1 hk; omega), e2, set_at hz]
   rfl
  ·unfold nD; rw [hk]; intro a ha; cases ha
  ·unfold nD; rw [hk]; exact Nat.zero_le _
 ·obtain ⟨k, y, j, z, hf, hy, hid, hj, hz, _⟩ := isP_msg hi (Or.inr (Or.inr hk))
  have e1 : doP p x e = dupP p x e.id := doG_3 hk
  have hm := h.to (List.mem_of_getElem? hy)
  refine ⟨j, z, y, ⟨hz, fun _ => ⟨List.mem_of_getElem? hy, hid, hj⟩, fun h4 => by omega, fun h4 => by omega⟩, ?_, ?_, ?_, fun h4 => by omega⟩
  ·rw [e1]
   have hd : dupM x e.id = ⟨{ y.id with c := x.used.dup + 1 }, y.nt⟩ := by unfold dupM; rw [msgOf_eq hf hy, hw _ hu.b.1 (by have := hlf.2.1 hk; omega)]
   unfold dupP
   rw [hd, hw _ hu.b.1 (by have := hlf.2.1 hk; omega)]
   unfold postG
   rw [if_pos ⟨in_yes (by dsimp only; omega), by dsimp only; rw [h.len]; omega⟩]
   have e2 : lD p 3 j z y = z := rfl
   unfold bD
   rw [hk, e2, set_at hz]
   rfl
  ·unfold nD; rw [hk]; intro a ha; cases ha
  ·unfold nD; rw [hk]; exact Nat.zero_le _
 ·obtain ⟨j, z, ac, hj, hz, hac, _, _, ho⟩ := isP_act hi (Or.inl hk)
  have hl := h.loc j z ac hz hac
  have ho1 : z.down = 0 ∧ z.armed = true := by
   unfold ofA at ho
   rw [if_pos hk, Bool.and_eq_true, Bool.and_eq_true] at ho
   exact ⟨of_decide_eq_true ho.1.1, ho.1.2⟩
  have htm := chk_tm hc (List.mem_of_getElem? hac) (hl.am ho1.2)
  have h8 := (hp.acs ac (List.mem_of_getElem? hac)).1
  have hr := hl.regs
  have hjl := (List.getElem?_eq_some_iff.1 hac).1
  have hm : mayP p (j : Int) { z with armed := false } ac.timer [] := ⟨h.fc, by omega, htm.1, by rw [htm.2]; rfl, (by omega : z.regs.length ≤ 8), ho1.1⟩
  have hsn := hl.sn
  have hR := runP_k hm (show wrap64 z.sent = z.sent from IntWalk.wrap64_in _ ⟨by omega, by omega⟩)
  have hlz : locAt x j = z := getD_at hz
  have htj : tmOf p j = ac.timer := by unfold tmOf; rw [getD_at hac]
  have hz1 : (calmP x j).acts[j]? = some { z with armed := false } := by unfold calmP; rw [hlz]; exact List.getElem?_set_self (List.getElem?_eq_some_iff.1 hz).1
  have hl1 : (calmP x j).acts.length = p.acs.length := by unfold calmP; show (x.acts.set j _).length = _; rw [List.length_set, h.len]
  obtain ⟨k1, k2⟩ := key (calmP x j) j { z with armed := false } _ hl1 hz1 hsn.1 hsn.2 hR
  refine ⟨j, z, ⟨⟨0, 0, 0⟩, ⟨0, 0, []⟩⟩, ⟨hz, fun h4 => by omega, fun _ => hj, fun _ => rfl⟩, ?_, ?_, ?_, fun _ => ?_⟩
  ·rw [doP_4 hk hj hz hac, k1]
   unfold bD mD lD nD lM
   rw [hk, htj]
   simp only [↓reduceIte, Int.reduceEq, or_self]
   unfold calmP setL
   dsimp only
   rw [List.set_set, hw _ hu.c.1 (by have := hlf.2.2.1 hk; omega)]
   rfl
  ·unfold nD; rw [hk, htj]; exact hR.nt
  ·unfold nD; rw [hk, htj]; exact hR.nl
  ·unfold nD lD; rw [hk, htj]; exact k2
 ·obtain ⟨j, z, ac, hj, hz, hac, _⟩ := isP_act hi (Or.inr hk)
  have hlz : locAt x j = z := getD_at hz
  have e1 : doP p x e = crashP x j := by unfold doP; rw [doG_5 hk, hj, Int.toNat_natCast]
  refine ⟨j, z, ⟨⟨0, 0, 0⟩, ⟨0, 0, []⟩⟩, ⟨hz, fun h4 => by omega, fun _ => hj, fun _ => rfl⟩, ?_, ?_, ?_, fun h4 => by omega⟩
  ·rw [e1]
   unfold crashP
   rw [hlz, hw _ hu.d.1 (by have := hlf.2.2.2 hk; omega)]
   unfold bD mD lD nD lM
   rw [hk]
   rfl
  ·unfold nD; rw [hk]; intro a ha; cases ha
  ·unfold nD; rw [hk]; exact Nat.zero_le _
end Go.Proofs.YtfbeiedhdmndnaaGreatDoor
