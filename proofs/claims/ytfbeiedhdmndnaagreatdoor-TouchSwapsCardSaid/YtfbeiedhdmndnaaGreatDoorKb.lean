/-
 What may be stays so (P11.3), plainly: a world behind an event. Condition: so many events.
-/
import Derived.Test.YtfbeiedhdmndnaaGreatDoorKa
namespace Go.Proofs.YtfbeiedhdmndnaaGreatDoor
open Go.RowKit
theorem mail_len (c : Nat) : ∀ (n : Nat) (l : List PMsg), (∀ m ∈ l, 0 ≤ m.nt.to ∧ m.nt.to < (n : Int)) → (∀ t, toN l t ≤ c) → l.length ≤ c * n
 | 0, l, h, _ => by
  cases l with
  | nil => simp
  | cons m r => have := h m (List.mem_cons_self ..); omega
 | n + 1, l, h, ht => by
  have h1 := mail_len c n (l.filter fun m => decide ¬ m.nt.to = (n : Int)) (fun m hm => by
   rw [List.mem_filter] at hm
   have := h m hm.1
   have h2 := of_decide_eq_true hm.2
   omega) (fun t => Nat.le_trans (List.Sublist.countP_le List.filter_sublist) (ht t))
  have h2 : l.length = toN l (n : Int) + (l.filter fun m => decide ¬ m.nt.to = (n : Int)).length := by
   rw [← List.countP_eq_length_filter]
   have := List.length_eq_countP_add_countP (fun m : PMsg => decide (m.nt.to = (n : Int))) (l := l)
   simpa [toN] using this
  have h3 := ht (n : Int)
  rw [h2, Nat.mul_succ]; omega
theorem cut_sub (l : List PMsg) (k : Nat) : (cutP l k).Sublist l := by
 unfold cutP
 conv => rhs; rw [← List.take_append_drop k l]
 exact List.Sublist.append (List.Sublist.refl _) (by rw [← List.drop_drop]; exact List.drop_sublist _ _)
theorem toN_cut (l : List PMsg) (k : Nat) (t : Int) : toN (cutP l k) t ≤ toN l t := (cut_sub l k).countP_le
theorem toN_put (l : List PMsg) (m : PMsg) (t : Int) : toN (putP l m) t = toN l t + if m.nt.to = t then 1 else 0 := by
 unfold toN putP
 have h : l.countP (fun y => decide (y.nt.to = t)) = (l.take (plc l m.id)).countP (fun y => decide (y.nt.to = t)) + (l.drop (plc l m.id)).countP (fun y => decide (y.nt.to = t)) := by
  rw [← List.countP_append, List.take_append_drop]
 rw [List.countP_append, List.countP_cons, h]
 by_cases e : m.nt.to = t
 ·rw [if_pos e, if_pos (decide_eq_true e)]; omega
 ·rw [if_neg e, if_neg (by simpa using e)]; omega
theorem chk_cap {p : PPrg} (h : chk p = 0) {a : PAct} (ha : a ∈ p.acs) : 0 ≤ a.cap ∧ a.cap ≤ 16 := by
 unfold chk at h
 by_cases h0 : chkC p = 0
 ·rw [if_pos h0] at h
  by_cases h1 : scan (chkH p.hs.length) p.hs = 0
  ·rw [if_pos h1] at h
   by_cases h2 : scan (chkA p.hs) p.acs = 0
   ·have := scan_all h2 a ha
    unfold chkA at this
    by_cases e : a.regs.length ≤ 8
    ·rw [if_pos e] at this
     by_cases e2 : 0 ≤ a.cap ∧ a.cap ≤ 16
     ·exact e2
     ·rw [if_neg e2] at this; cases this
    ·rw [if_neg e] at this; cases this
   ·rw [if_neg h2] at h; exact absurd h h2
  ·rw [if_neg h1] at h; exact absurd h h1
 ·rw [if_neg h0] at h; exact absurd h h0
/-- An actor, none of its numbers above n; a name; the budget's numbers. -/
structure LK (n : Int) (a : PAct) (y : PLoc) : Prop where
 regs : y.regs.length = a.regs.length
 dn : 0 ≤ y.down ∧ y.down ≤ 4
 sn : 0 ≤ y.sent ∧ y.sent ≤ n
 ov : 0 ≤ y.over ∧ y.over ≤ n
 am : y.armed = true → a.timer ≠ -1
def NK (x : PWld) (d : PID) : Prop := (-1 ≤ d.f ∧ d.f < x.acts.length) ∧ (0 ≤ d.n ∧ d.n < sentP x d.f) ∧ (0 ≤ d.c ∧ d.c ≤ x.used.dup)
structure UK (u : PBud) : Prop where
 a : 0 ≤ u.drop ∧ u.drop ≤ 9223372036854775807
 b : 0 ≤ u.dup ∧ u.dup ≤ 9223372036854775807
 c : 0 ≤ u.time ∧ u.time ≤ 9223372036854775807
 d : 0 ≤ u.crash ∧ u.crash ≤ 9223372036854775807
/-- A world that may be, no number of its actors above n. -/
structure WK (p : PPrg) (n : Int) (x : PWld) : Prop where
 fc : fc p = 0
 len : x.acts.length = p.acs.length
 loc : ∀ (j : Nat) (y : PLoc) (a : PAct), x.acts[j]? = some y → p.acs[j]? = some a → LK n a y
 mail : ∀ m ∈ x.mail, chkNt p m.nt = true ∧ NK x m.id
 srt : srt x.mail = true
 room : ∀ t : Int, toN x.mail t ≤ 60
 used : UK x.used
theorem LK.mono {n n' : Int} {a : PAct} {y : PLoc} (h : LK n a y) (hn : n ≤ n') : LK n' a y := ⟨h.regs, h.dn, ⟨h.sn.1, by have := h.sn.2; omega⟩, ⟨h.ov.1, by have := h.ov.2; omega⟩, h.am⟩
section
variable {p : PPrg} {n n' : Int} {x : PWld}
theorem WK.mono (h : WK p n x) (hn : n ≤ n') : WK p n' x := ⟨h.fc, h.len, fun j y a h1 h2 => (h.loc j y a h1 h2).mono hn, h.mail, h.srt, h.room, h.used⟩
theorem WK.at (h : WK p n x) {j : Nat} {y : PLoc} (hy : x.acts[j]? = some y) : ∃ a, p.acs[j]? = some a ∧ LK n a y := by
 obtain ⟨a, ha⟩ := at_lt (l := p.acs) (k := j) (by rw [← h.len]; exact (List.getElem?_eq_some_iff.1 hy).1)
 exact ⟨a, ha, h.loc j y a hy ha⟩
theorem WK.to (h : WK p n x) {m : PMsg} (hm : m ∈ x.mail) : 0 ≤ m.nt.to ∧ m.nt.to < (p.acs.length : Int) := by
 have h1 := (h.mail m hm).1
 unfold chkNt at h1
 rw [Bool.and_eq_true] at h1
 have := inB_iff.1 h1.1
 omega
theorem sentP_le (h : WK p n x) (hn : 16 ≤ n) (f : Int) : 0 ≤ sentP x f ∧ sentP x f ≤ n := by
 unfold sentP
 by_cases e : f = -1
 ·rw [if_pos e]; omega
 ·rw [if_neg e]
  cases hy : x.acts[f.toNat]? with
  | none => show (0 : Int) ≤ 0 ∧ (0 : Int) ≤ n; omega
  | some y => obtain ⟨a, ha, hl⟩ := h.at hy; exact hl.sn
theorem args_le (h : chk p = 0) {m : PNte} (hm : chkNt p m = true) : m.args.length ≤ 4 := by
 unfold chkNt at hm
 rw [Bool.and_eq_true, Bool.and_eq_true] at hm
 obtain ⟨_, h2, h3⟩ := hm
 have h2 := inB_iff.1 h2
 have h3 := eq_of_beq h3
 obtain ⟨k, hk⟩ := Int.eq_ofNat_of_zero_le h2.1
 obtain ⟨y, hy⟩ := at_lt (l := p.hs) (k := k) (by omega)
 rw [hk, argsOf_at hy] at h3
 have := (chk_ok h).1 y (List.mem_of_getElem? hy)
 omega
theorem WK.chk (h : WK p n x) (hn : 16 ≤ n) (hn2 : n ≤ 2199023255551) : chkW p x = true := by
 have h1 : chkAs p x.acts = true := by
  unfold chkAs
  refine decide_eq_true ⟨h.len, fun i hi => ?_⟩
  obtain ⟨y, hy⟩ := at_lt hi
  obtain ⟨a, ha, hl⟩ := h.at hy
  rw [getD_at hy, getD_at ha]
  unfold chkLoc
  rw [hl.regs, in_yes hl.dn, in_yes ⟨hl.sn.1, by have := hl.sn.2; omega⟩, in_yes ⟨hl.ov.1, by have := hl.ov.2; omega⟩]
  cases e : y.armed with
  | false => simp
  | true => simp [hl.am e]
 have h2 : chkM p x = true := by
  unfold chkM
  rw [h.srt, Bool.and_true, List.all_eq_true]
  intro m hm
  obtain ⟨m1, m2, m3, m4⟩ := h.mail m hm
  rw [m1, Bool.true_and]
  unfold chkD
  have hs := sentP_le h hn m.id.f
  rw [show wrap64 (sentP x m.id.f - 1) = sentP x m.id.f - 1 from IntWalk.wrap64_in _ ⟨by omega, by omega⟩, in_yes (by omega), in_yes (by omega), in_yes m4]
  rfl
 have h3 : chkUsed x.used = true := by
  unfold chkUsed
  simp [h.used.a.1, h.used.b.1, h.used.c.1, h.used.d.1]
 unfold chkW
 rw [h1, h2, h3, decide_eq_true h.fc]
 rfl
theorem WK.sm (h : WK p n x) : SmW x := by
 have hc := fc_chk h.fc
 have hp := chk_parts hc
 have hna := hp.na
 have hml := mail_len 60 p.acs.length x.mail (fun m hm => h.to hm) h.room
 refine ⟨by rw [h.len]; omega, fun y hy => ?_, by omega, fun m hm => ?_⟩
 ·obtain ⟨i, hi⟩ := List.getElem?_of_mem hy
  obtain ⟨a, ha, hl⟩ := h.at hi
  have := (hp.acs a (List.mem_of_getElem? ha)).1
  have := hl.regs
  omega
 ·have := args_le hc (h.mail m hm).1; omega
theorem WK.cut (h : WK p n x) (k : Nat) : WK p n { x with mail := cutP x.mail k } :=
 ⟨h.fc, h.len, h.loc, fun m hm => h.mail m ((cut_sub _ _).mem hm), cut_srt h.srt, fun t => Nat.le_trans (toN_cut _ _ _) (h.room t), h.used⟩
theorem WK.setU (h : WK p n x) {u : PBud} (hu : UK u) (hd : x.used.dup ≤ u.dup) : WK p n { x with used := u } :=
 ⟨h.fc, h.len, h.loc, fun m hm => let ⟨h1, h2, h3, h4⟩ := h.mail m hm; ⟨h1, h2, h3, h4.1, by show _ ≤ u.dup; have := h4.2; omega⟩, h.srt, h.room, hu⟩
theorem sent_set {j : Nat} {y y' : PLoc} (hy : x.acts[j]? = some y) (hs : y.sent ≤ y'.sent) (f : Int) : sentP x f ≤ sentP (setL x j y') f := by
 unfold sentP setL
 by_cases e : f = -1
 ·rw [if_pos e, if_pos e]; omega
 ·rw [if_neg e, if_neg e]
  dsimp only
  by_cases ej : j = f.toNat
  ·rw [← ej, hy, List.getElem?_set_self (List.getElem?_eq_some_iff.1 hy).1]
   exact hs
  ·rw [List.getElem?_set_ne ej]
   exact Int.le_refl _
theorem WK.set (h : WK p n x) {j : Nat} {y y' : PLoc} {a : PAct} (hy : x.acts[j]? = some y) (ha : p.acs[j]? = some a) (hl : LK n a y') (hs : y.sent ≤ y'.sent) : WK p n (setL x j y') := by
 refine ⟨h.fc, by show (x.acts.set j y').length = _; rw [List.length_set]; exact h.len, fun i z b hz hb => ?_, fun m hm => ?_, h.srt, h.room, h.used⟩
 ·have hz' : (x.acts.set j y')[i]? = some z := hz
  by_cases e : j = i
  ·subst e
   rw [List.getElem?_set_self (List.getElem?_eq_some_iff.1 hy).1] at hz'
   cases hz'
   obtain rfl := Option.some.inj (ha.symm.trans hb)
   exact hl
  ·rw [List.getElem?_set_ne e] at hz'
   exact h.loc i z b hz' hb
 ·obtain ⟨h1, h2, h3, h4⟩ := h.mail m hm
  have h5 := sent_set hy hs m.id.f
  exact ⟨h1, ⟨h2.1, by show _ < ((x.acts.set j y').length : Int); rw [List.length_set]; exact h2.2⟩, ⟨h3.1, by have := h3.2; omega⟩, h4⟩
theorem sent_post (m : PMsg) (k : Nat) (f : Int) : sentP (postP p x m k) f = sentP x f := by
 unfold postP
 split
 ·rfl
 ·unfold sentP
  by_cases e : f = -1
  ·rw [if_pos e, if_pos e]
  ·rw [if_neg e, if_neg e]
   dsimp only
   by_cases ej : k = f.toNat
   ·subst ej
    rw [List.getElem?_set]
    by_cases hk : f.toNat < x.acts.length
    ·rw [if_pos rfl, if_pos hk, List.getD_eq_getElem?_getD, List.getElem?_eq_getElem hk]; rfl
    ·rw [if_pos rfl, if_neg hk, List.getElem?_eq_none (by omega)]
   ·rw [List.getElem?_set_ne ej]
theorem WK.post (h : WK p n x) (hn0 : 0 ≤ n) (hn2 : n ≤ 2199023255551) {m : PMsg} (hm : chkNt p m.nt = true) (hd : NK x m.id) : WK p (n + 1) (postP p x m m.nt.to.toNat) := by
 have ht : 0 ≤ m.nt.to ∧ m.nt.to < (p.acs.length : Int) := by
  have h1 := hm
  unfold chkNt at h1
  rw [Bool.and_eq_true] at h1
  have := inB_iff.1 h1.1
  omega
 obtain ⟨k, hk⟩ := Int.eq_ofNat_of_zero_le ht.1
 have hto : m.nt.to.toNat = k := by omega
 rw [hto]
 obtain ⟨a, ha⟩ := at_lt (l := p.acs) (k := k) (by omega)
 obtain ⟨y, hy⟩ := at_lt (l := x.acts) (k := k) (by rw [h.len]; omega)
 have hl := h.loc k y a hy ha
 unfold postP
 by_cases hr : roomB p x m k = true
 ·rw [if_pos hr]
  unfold roomB at hr
  simp only [Bool.and_eq_true, decide_eq_true_eq] at hr
  have hc := chk_cap (fc_chk h.fc) (List.mem_of_getElem? ha)
  rw [cap_at ha] at hr
  refine ⟨h.fc, h.len, fun j y a h1 h2 => (h.loc j y a h1 h2).mono (by omega), fun z hz => ?_, put_srt h.srt hr.2, fun t => ?_, h.used⟩
  ·rcases putP_mem hz with rfl | hz
   ·exact ⟨hm, hd⟩
   ·exact h.mail z hz
  ·show toN (putP x.mail m) t ≤ 60
   rw [toN_put]
   have h1 := h.room t
   by_cases e : m.nt.to = t
   ·rw [if_pos e]; rw [e] at hr; omega
   ·rw [if_neg e]; omega
 ·rw [if_neg hr, getD_at hy]
  have hov := hl.ov
  have hw : wrap64 (y.over + 1) = y.over + 1 := IntWalk.wrap64_in _ ⟨by omega, by omega⟩
  rw [hw]
  exact (h.mono (by omega : n ≤ n + 1)).set hy ha (y' := { y with over := y.over + 1 }) ⟨hl.regs, hl.dn, ⟨hl.sn.1, by have := hl.sn.2; show y.sent ≤ _; omega⟩, ⟨by show 0 ≤ y.over + 1; omega, by show y.over + 1 ≤ _; omega⟩, hl.am⟩ (Int.le_refl _)
theorem WK.postG (h : WK p n x) (hn0 : 0 ≤ n) (hn2 : n ≤ 2199023255551) {m : PMsg} (hm : chkNt p m.nt = true) (hd : NK x m.id) : WK p (n + 1) (postG p x m) := by
 unfold YtfbeiedhdmndnaaGreatDoor.postG
 split
 ·exact h.post hn0 hn2 hm hd
 ·exact h.mono (by omega)
/-- All that a run sends. -/
theorem WK.send (h : WK p n x) (hn0 : 0 ≤ n) {f n0 : Int} {na : Nat} {ns : List PNte} (hn2 : n + ns.length ≤ 2199023255551) (hna : na = x.acts.length) (hf : -1 ≤ f ∧ f < x.acts.length) (h0 : 0 ≤ n0) (hs : n0 + ns.length ≤ sentP x f) (hs2 : sentP x f ≤ 2199023255551) (hns : ∀ m ∈ ns, chkNt p m = true) :
  ∀ k, k ≤ ns.length → WK p (n + k) (sendT p n0 f na x ns k) ∧ ∀ g, sentP (sendT p n0 f na x ns k) g = sentP x g
 | 0, _ => ⟨by rw [show n + ((0 : Nat) : Int) = n by omega]; exact h, fun _ => rfl⟩
 | k + 1, hk => by
  obtain ⟨h1, h2⟩ := WK.send h hn0 hn2 hna hf h0 hs hs2 hns k (by omega)
  obtain ⟨m, hm⟩ := at_lt (l := ns) (k := k) (by omega)
  have hc := hns m (List.mem_of_getElem? hm)
  have hto := inB_iff.1 (by have h1 := hc; unfold chkNt at h1; rw [Bool.and_eq_true] at h1; exact h1.1)
  have hl1 : (sendT p n0 f na x ns k).acts.length = x.acts.length := send_acts k
  have hlp := h.len
  have hu1 : (sendT p n0 f na x ns k).used = x.used := send_used k
  rw [step_at hm, step_yes (in_yes hto) (by rw [hna, hlp]; omega)]
  have hw : wrap64 (n0 + (k : Int)) = n0 + k := IntWalk.wrap64_in _ ⟨by omega, by omega⟩
  rw [hw]
  refine ⟨?_, fun g => (sent_post _ _ _).trans (h2 g)⟩
  have hp := h1.post (by omega) (by omega) (m := ⟨⟨f, n0 + k, 0⟩, m⟩) hc ⟨by show -1 ≤ f ∧ f < ((sendT p n0 f na x ns k).acts.length : Int); rw [hl1]; exact hf, by show 0 ≤ n0 + (k : Int) ∧ n0 + (k : Int) < sentP (sendT p n0 f na x ns k) f; rw [h2]; omega, by show (0 : Int) ≤ 0 ∧ 0 ≤ (sendT p n0 f na x ns k).used.dup; rw [hu1]; exact ⟨Int.le_refl _, h.used.b.1⟩⟩
  rw [show n + ((k + 1 : Nat) : Int) = n + (k : Int) + 1 by omega]
  exact hp
/-- What a handler's run makes of the world. -/
theorem WK.ran (h : WK p n x) (hn : 16 ≤ n) (hn2 : n ≤ 1099511640000) {j : Nat} {y : PLoc} {a : PAct} {R : PRes} (hy : x.acts[j]? = some y) (ha : p.acs[j]? = some a) (hR : RK p (j : Int) y R) : WK p (n + 600) (sendP p (setL x j R.loc) (j : Int) R.notes) := by
 have hl := h.loc j y a hy ha
 have hsn := hl.sn
 have hnl := hR.nl
 have hj := (List.getElem?_eq_some_iff.1 hy).1
 have hw : R.loc.sent = y.sent + R.notes.length := by rw [hR.sn]; exact IntWalk.wrap64_in _ ⟨by omega, by omega⟩
 have ht : tmr p (j : Int) = a.timer := by unfold tmr; rw [Int.toNat_natCast, ha]; rfl
 have h1 : WK p (n + 256) (setL x j R.loc) := (h.mono (by omega : n ≤ n + 256)).set hy ha ⟨hR.regs.trans hl.regs, hR.dn, by omega, by rw [hR.ov]; have := hl.ov; omega, fun e => by
  rcases hR.am e with e | e
  ·exact hl.am e
  ·rw [ht] at e; exact e⟩ (by omega)
 have hl1 : (setL x j R.loc).acts.length = x.acts.length := by show (x.acts.set j _).length = _; rw [List.length_set]
 have hs1 : sentP (setL x j R.loc) (j : Int) = y.sent + R.notes.length := by
  unfold sentP setL
  rw [if_neg (by omega), Int.toNat_natCast]
  dsimp only
  rw [List.getElem?_set_self hj]
  exact hw
 rw [send_yes (in_yes (by rw [hl1]; omega))]
 have hfp : firstP (setL x j R.loc) (j : Int) R.notes.length = y.sent := by
  unfold firstP
  rw [if_neg (by omega), hs1, show y.sent + (R.notes.length : Int) - (R.notes.length : Int) = y.sent by omega]
  exact IntWalk.wrap64_in _ ⟨by omega, by omega⟩
 rw [hfp]
 have := (h1.send (f := (j : Int)) (n0 := y.sent) (by omega) (ns := R.notes) (by omega) rfl (by rw [hl1]; omega) hsn.1 (by rw [hs1]; omega) (by rw [hs1]; omega) hR.nt R.notes.length (Nat.le_refl _)).1
 exact this.mono (by omega)
end
end Go.Proofs.YtfbeiedhdmndnaaGreatDoor
