/-
  A program's start, plainly: it may be, each note is on its way or counted, and one more counted makes another text. Condition: the program may be.
-/
import Derived.Test.YtflpkdhmkgidiaaDoorWi
import Derived.Test.YtflpkdhmkgidiaaDoorMp
namespace Go.Proofs.YtflpkdhmkgidiaaDoor
open Go.RowKit
theorem scan_all {α : Type} {f : α → Int} {l : List α} (h : scan f l = 0) : ∀ x ∈ l, f x = 0 := scan_zero h
structure ChkP (p : PPrg) : Prop where
  na : p.acs.length ≤ 8
  n0 : 0 < p.acs.length
  nb : p.bs.length ≤ 16
  acs : ∀ a ∈ p.acs, a.regs.length ≤ 8 ∧ (a.timer = -1 → a.armed = false)
  bs : ∀ n ∈ p.bs, chkNt p n = true
theorem chk_parts {p : PPrg} (h : chk p = 0) : ChkP p := by
  unfold chk at h
  by_cases h0 : chkC p = 0
  · rw [if_pos h0] at h
    by_cases h1 : scan (chkH p.hs.length) p.hs = 0
    · rw [if_pos h1] at h
      by_cases h2 : scan (chkA p.hs) p.acs = 0
      · rw [if_pos h2] at h
        have hc : (p.hs.length ≤ 16 ∧ p.acs.length ≤ 8 ∧ p.bs.length ≤ 16) ∧ (p.acs.length ≠ 0 ∧ (1 ≤ p.fuel ∧ p.fuel ≤ 256)) := by
          unfold chkC at h0
          by_cases e : p.hs.length ≤ 16 ∧ p.acs.length ≤ 8 ∧ p.bs.length ≤ 16
          · rw [if_pos e] at h0
            by_cases e2 : p.acs.length ≠ 0 ∧ (1 ≤ p.fuel ∧ p.fuel ≤ 256)
            · exact ⟨e, e2⟩
            · rw [if_neg e2] at h0; cases h0
          · rw [if_neg e] at h0; cases h0
        refine ⟨hc.1.2.1, by omega, hc.1.2.2, fun a ha => ?_, fun n hn => ?_⟩
        · have := scan_all h2 a ha
          unfold chkA at this
          by_cases e : a.regs.length ≤ 8
          · refine ⟨e, fun et => ?_⟩
            rw [if_pos e] at this
            by_cases e2 : 0 ≤ a.cap ∧ a.cap ≤ 16
            · rw [if_pos e2, if_pos et] at this
              cases ha : a.armed with
              | false => rfl
              | true => rw [ha] at this; cases this
            · rw [if_neg e2] at this; cases this
          · rw [if_neg e] at this; cases this
        · have := scan_all h n hn
          unfold chkN at this
          by_cases e : (0 ≤ n.to ∧ n.to < (p.acs.length : Int)) ∧ (0 ≤ n.hd ∧ n.hd < (p.hs.length : Int))
          · rw [if_pos e] at this
            by_cases e2 : (n.args.length : Int) = argsOf p.hs n.hd
            · unfold chkNt
              rw [in_yes (by omega), in_yes (by omega)]
              simp [e2]
            · rw [if_neg e2] at this; cases this
          · rw [if_neg e] at this; cases this
      · rw [if_neg h2] at h; exact absurd h h2
    · rw [if_neg h1] at h; exact absurd h h1
  · rw [if_neg h0] at h; exact absurd h h0
theorem fc_chk {p : PPrg} (h : fc p = 0) : chk p = 0 := by
  apply Classical.byContradiction
  intro e
  unfold fc at h
  rw [if_neg e] at h
  exact e h
def sumO (l : List PLoc) : Int := (l.map (·.over)).sum
theorem sumO_set {l : List PLoc} {k : Nat} {y : PLoc} (h : l[k]? = some y) (n : Int) : sumO (l.set k { y with over := n }) = sumO l - y.over + n := by
  induction l generalizing k with
  | nil => cases h
  | cons x r ih =>
    cases k with
    | zero => simp at h; subst h; simp [sumO]; omega
    | succ k =>
      simp at h
      have := ih h
      simp only [sumO, List.set_cons_succ, List.map_cons, List.sum_cons] at *
      omega
theorem sumO_take {l : List PLoc} {k : Nat} {y : PLoc} (h : l[k]? = some y) : sumO (l.take (k + 1)) = sumO (l.take k) + y.over := by
  unfold sumO; rw [List.take_add_one, h]; simp
/-- Behind k notes of Boot. -/
structure INV (p : PPrg) (k : Nat) (x : PWld) : Prop where
  len : x.acts.length = p.acs.length
  loc : ∀ (j : Nat) (y : PLoc) (a : PAct), x.acts[j]? = some y → p.acs[j]? = some a → y.regs = a.regs ∧ y.armed = a.armed ∧ y.down = 0 ∧ y.sent = 0 ∧ 0 ≤ y.over ∧ y.over ≤ k
  mail : ∀ m ∈ x.mail, m.nt ∈ p.bs ∧ m.id.f = -1 ∧ 0 ≤ m.id.n ∧ m.id.n < k ∧ m.id.c = 0
  srt : srt x.mail = true
  sum : (x.mail.length : Int) + sumO x.acts = k
  used : x.used = ⟨0, 0, 0, 0⟩
theorem sum_zero (l : List PAct) : sumO (l.map loc0) = 0 := by
  induction l with
  | nil => rfl
  | cons a r ih => simp only [sumO, List.map_cons, List.sum_cons] at *; rw [ih]; rfl
theorem inv0 (p : PPrg) : INV p 0 (startW p) := by
  refine ⟨startL_len p, fun j y a hy ha => ?_, fun m hm => (by cases hm), rfl, by show (0 : Int) + sumO (startL p) = 0; rw [startL, sum_zero]; rfl, rfl⟩
  have : (startL p)[j]? = some (loc0 a) := by unfold startL; rw [List.getElem?_map, ha]; rfl
  have e : y = loc0 a := Option.some.inj (hy.symm.trans this)
  subst e
  exact ⟨rfl, rfl, rfl, rfl, by show (0 : Int) ≤ 0; omega, by show (0 : Int) ≤ _; omega⟩
theorem wrapS {n : Int} (h0 : 0 ≤ n) (h : n ≤ 1000) : wrap64 n = n := IntWalk.wrap64_in _ ⟨by omega, by omega⟩
theorem inv_step {p : PPrg} (hp : ChkP p) {k : Nat} {x : PWld} (h : INV p k x) {n : PNte} (hn : p.bs[k]? = some n) : INV p (k + 1) (stepN p 0 (-1) p.acs.length x k n) := by
  have hk : k < p.bs.length := (List.getElem?_eq_some_iff.1 hn).1
  have hnb := hp.nb
  have hmem := List.mem_of_getElem? hn
  have hc := hp.bs n hmem
  unfold chkNt at hc
  simp only [Bool.and_eq_true] at hc
  have ht := inB_iff.1 hc.1
  obtain ⟨j, hj⟩ : ∃ j : Nat, n.to = (j : Int) := Int.eq_ofNat_of_zero_le ht.1
  have hjl : j < p.acs.length := by omega
  rw [step_yes hc.1 (by omega), hj, Int.toNat_natCast]
  obtain ⟨y, hy⟩ := at_lt (l := x.acts) (k := j) (by rw [h.len]; exact hjl)
  obtain ⟨a, ha⟩ := at_lt hjl
  have hw : wrap64 (0 + (k : Int)) = k := by rw [Int.zero_add]; exact wrapS (by omega) (by omega)
  unfold postP
  by_cases hr : roomB p x ⟨⟨-1, wrap64 (0 + (k : Int)), 0⟩, n⟩ j = true
  · rw [if_pos hr]
    unfold roomB at hr
    simp only [Bool.and_eq_true, decide_eq_true_eq] at hr
    refine ⟨h.len, fun i y a hy ha => let ⟨h1, h2, h3, h4, h5, h6⟩ := h.loc i y a hy ha; ⟨h1, h2, h3, h4, h5, by omega⟩, fun m hm => ?_, put_srt h.srt hr.2, ?_, h.used⟩
    · rcases putP_mem hm with rfl | hm
      · exact ⟨hmem, rfl, by show 0 ≤ wrap64 _; rw [hw]; omega, by show wrap64 _ < _; rw [hw]; omega, rfl⟩
      · obtain ⟨h1, h2, h3, h4, h5⟩ := h.mail m hm
        exact ⟨h1, h2, h3, by omega, h5⟩
    · show ((putP x.mail _).length : Int) + sumO x.acts = _
      rw [putP_len]; have := h.sum; push_cast; omega
  · rw [if_neg hr, getD_at hy]
    obtain ⟨r1, r2, r3, r4, r5, r6⟩ := h.loc j y a hy ha
    have hw2 : wrap64 (y.over + 1) = y.over + 1 := wrapS (by omega) (by omega)
    rw [hw2]
    refine ⟨by show (x.acts.set _ _).length = _; rw [List.length_set]; exact h.len, fun i z b hz hb => ?_, fun m hm => let ⟨h1, h2, h3, h4, h5⟩ := h.mail m hm; ⟨h1, h2, h3, by omega, h5⟩, h.srt, ?_, h.used⟩
    · have hz' : (x.acts.set j { y with over := y.over + 1 })[i]? = some z := hz
      by_cases e : j = i
      · subst e
        rw [List.getElem?_set_self (by rw [h.len]; exact hjl)] at hz'
        cases hz'
        obtain rfl := Option.some.inj (ha.symm.trans hb)
        exact ⟨r1, r2, r3, r4, by show 0 ≤ y.over + 1; omega, by show y.over + 1 ≤ _; omega⟩
      · rw [List.getElem?_set_ne e] at hz'
        obtain ⟨h1, h2, h3, h4, h5, h6⟩ := h.loc i z b hz' hb
        exact ⟨h1, h2, h3, h4, h5, by omega⟩
    · show (x.mail.length : Int) + sumO (x.acts.set j { y with over := y.over + 1 }) = _
      rw [sumO_set hy]; have := h.sum; push_cast; omega
theorem start_inv {p : PPrg} (hp : ChkP p) : INV p p.bs.length (startP p) := by
  have e : inB (-1) (-1) (((startW p).acts.length : Int) - 1) = true := in_yes ⟨by omega, by show (-1 : Int) ≤ ((startL p).length : Int) - 1; omega⟩
  unfold startP
  rw [send_yes e]
  have hf : firstP (startW p) (-1) p.bs.length = 0 := rfl
  have hl : (startW p).acts.length = p.acs.length := startL_len p
  rw [hf, hl]
  have key : ∀ k, k ≤ p.bs.length → INV p k (sendT p 0 (-1) p.acs.length (startW p) p.bs k) := by
    intro k
    induction k with
    | zero => exact fun _ => inv0 p
    | succ k ih =>
      intro hk
      obtain ⟨n, hn⟩ := at_lt (l := p.bs) (k := k) (by omega)
      rw [step_at hn]
      exact inv_step hp (ih (by omega)) hn
  exact key _ (Nat.le_refl _)
theorem start_chk {p : PPrg} (hf : fc p = 0) : chkW p (startP p) = true := by
  have hp := chk_parts (fc_chk hf)
  have h := start_inv hp
  have hnb := hp.nb
  have h1 : chkAs p (startP p).acts = true := by
    unfold chkAs
    refine decide_eq_true ⟨h.len, fun i hi => ?_⟩
    obtain ⟨y, hy⟩ := at_lt hi
    obtain ⟨a, ha⟩ := at_lt (l := p.acs) (k := i) (by rw [← h.len]; exact hi)
    rw [getD_at hy, getD_at ha]
    obtain ⟨r1, r2, r3, r4, r5, r6⟩ := h.loc i y a hy ha
    have ht := (hp.acs a (List.mem_of_getElem? ha)).2
    unfold chkLoc
    rw [r1, r2, r3, r4, in_yes (by omega), in_yes (by omega), in_yes ⟨r5, by omega⟩]
    simp
    by_cases e : a.timer = -1
    · exact Or.inl (ht e)
    · exact Or.inr e
  have h2 : chkM p (startP p) = true := by
    unfold chkM
    rw [h.srt, Bool.and_true, List.all_eq_true]
    intro m hm
    obtain ⟨m1, m2, m3, m4, m5⟩ := h.mail m hm
    rw [hp.bs m.nt m1, Bool.true_and]
    unfold chkD
    have hs : sentP (startP p) m.id.f = 16 := by unfold sentP; rw [m2, if_pos rfl]
    rw [hs, m2, m5, h.used, show wrap64 (16 - 1) = 15 from wrapS (by omega) (by omega), in_yes (by omega), in_yes (by omega), in_yes (by show (0 : Int) ≤ 0 ∧ (0 : Int) ≤ 0; omega)]
    rfl
  unfold chkW
  rw [h1, h2, h.used, hf]
  decide
/-- Numbers of 64 bits. -/
structure RgP (p : PPrg) : Prop where
  regs : ∀ a ∈ p.acs, ∀ n ∈ a.regs, Rg n
  args : ∀ n ∈ p.bs, ∀ k ∈ n.args, Rg k
theorem start_ok {p : PPrg} (hf : fc p = 0) (hr : RgP p) (hs : Small p) : OkT (startP p) ∧ SmW (startP p) := by
  have hp := chk_parts (fc_chk hf)
  have h := start_inv hp
  have hnb := hp.nb
  have hna := hp.na
  have hml : (startP p).mail.length ≤ 16 := by
    have h1 := h.sum
    have : 0 ≤ sumO (startP p).acts := by
      have key : ∀ l : List PLoc, (∀ y ∈ l, 0 ≤ y.over) → 0 ≤ sumO l := by
        intro l hl
        induction l with
        | nil => exact Int.le_refl _
        | cons y r ih =>
          have h1 := hl y (List.mem_cons_self ..)
          have h2 := ih fun z hz => hl z (List.mem_cons_of_mem _ hz)
          simp only [sumO, List.map_cons, List.sum_cons] at *
          omega
      refine key _ fun y hy => ?_
      obtain ⟨i, hi⟩ := List.getElem?_of_mem hy
      obtain ⟨a, ha⟩ := at_lt (l := p.acs) (k := i) (by rw [← h.len]; exact (List.getElem?_eq_some_iff.1 hi).1)
      exact (h.loc i y a hi ha).2.2.2.2.1
    omega
  have hl : ∀ y ∈ (startP p).acts, ∃ a ∈ p.acs, y.regs = a.regs ∧ y.down = 0 ∧ y.sent = 0 ∧ 0 ≤ y.over ∧ y.over ≤ 16 := fun y hy => by
    obtain ⟨i, hi⟩ := List.getElem?_of_mem hy
    obtain ⟨a, ha⟩ := at_lt (l := p.acs) (k := i) (by rw [← h.len]; exact (List.getElem?_eq_some_iff.1 hi).1)
    obtain ⟨r1, r2, r3, r4, r5, r6⟩ := h.loc i y a hi ha
    exact ⟨a, List.mem_of_getElem? ha, r1, r3, r4, r5, by omega⟩
  have hm : ∀ m ∈ (startP p).mail, OkM m := fun m hm => by
    obtain ⟨m1, m2, m3, m4, m5⟩ := h.mail m hm
    have h6 := hs.2.2.2.2.2 m.nt m1
    have hc := hp.bs m.nt m1
    unfold chkNt at hc
    simp only [Bool.and_eq_true] at hc
    have t1 := inB_iff.1 hc.1
    have t2 := inB_iff.1 hc.2.1
    have hhs := hs.1
    refine ⟨by omega, ⟨by rw [m2]; decide, ⟨by omega, by omega⟩, by rw [m5]; decide⟩, fun n hn => ?_⟩
    rcases List.mem_cons.1 hn with rfl | hn
    · exact ⟨by omega, by omega⟩
    · rcases List.mem_cons.1 hn with rfl | hn
      · exact ⟨by omega, by omega⟩
      · exact hr.args m.nt m1 n hn
  refine ⟨⟨by rw [h.len]; omega, by omega, fun y hy => ?_, hm, ?_⟩, ⟨by rw [h.len]; omega, fun y hy => ?_, by omega, fun m hmm => by have := (hm m hmm).1; omega⟩⟩
  · obtain ⟨a, ha, r1, r3, r4, r5, r6⟩ := hl y hy
    have hal := (hp.acs a ha).1
    refine ⟨by rw [r1]; omega, by rw [r1]; exact hr.regs a ha, fun n hn => ?_⟩
    unfold four at hn
    rw [r3, r4] at hn
    simp at hn
    rcases hn with rfl | rfl | rfl
    · unfold dg; split <;> decide
    · decide
    · exact ⟨by omega, by omega⟩
  · rw [h.used]; decide
  · obtain ⟨a, ha, r1, _⟩ := hl y hy
    have hal := (hp.acs a ha).1
    rw [r1]; omega
theorem itoa_more {a b c o o' : Int} {R : List UInt8} (ho : Rg o) (ho' : Rg o') (hne : o ≠ o') : spc [a, b, c, o] ++ R ≠ spc [a, b, c, o'] ++ R := by
  intro e
  have e1 := List.append_cancel_right e
  have key : ∀ z : Int, spc [a, b, c, z] = (Lib.itoa a ++ [32] ++ Lib.itoa b ++ [32] ++ Lib.itoa c ++ [32]) ++ Lib.itoa z := fun z => by
    unfold spc Lib.join
    simp [List.intercalate]
  rw [key, key] at e1
  exact hne (itoa_inj ho ho' (List.append_cancel_left e1))
theorem txt_more {x : PWld} {y : PLoc} {r : List PLoc} (hx : x.acts = y :: r) (h0 : 0 ≤ y.over) (h1 : y.over ≤ 1000) : txtW { x with acts := x.acts.set 0 { y with over := y.over + 1 } } ≠ txtW x := by
  unfold txtW
  dsimp only
  rw [hx]
  intro e
  unfold txtLs at e
  simp only [List.set_cons_zero, List.map_cons, List.flatten_cons, txtL, four, List.append_assoc, List.cons_append] at e
  have e1 := List.append_cancel_left e
  simp only [List.cons.injEq, true_and] at e1
  exact itoa_more (o := y.over + 1) (o' := y.over) ⟨by omega, by omega⟩ ⟨by omega, by omega⟩ (by omega) e1
end Go.Proofs.YtflpkdhmkgidiaaDoor
