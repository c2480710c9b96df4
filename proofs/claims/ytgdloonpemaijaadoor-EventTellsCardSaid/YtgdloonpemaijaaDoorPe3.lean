/-
  A program's start, plainly: it may be, each note is on its way or counted, and one more counted makes another text. Condition: the program may be. All that may happen (event.Enabled), in a row of its own. Conditions: the table of the instructions is in the world; messages and actors are at most a thousand. All that may happen, for every program, budget and world. Conditions: the table of the instructions is in the world; messages and actors are at most a thousand. The program of two actors that chapter 10's laws make, with notes besides; what it starts with; '==' of events. Conditions: notes are few. Of the reference of chapter 10: less, Left, MayBudget; two lists of events alike. No conditions beyond those that each names.
-/
import Derived.Test.YtgdloonpemaijaaDoorPe2
import Derived.Test.YtgdloonpemaijaaDoorE5
import Derived.Laws.StructEq
namespace Go.Proofs.YtgdloonpemaijaaDoor
open Go.RowKit
theorem scan_all {α : Type} {f : α → Int} {l : List α} (h : scan f l = 0) : ∀ x ∈ l, f x = 0 := scan_zero h
structure ChkP (p : PPrg) : Prop where
  na : p.acs.length ≤ 8
  n0 : 0 < p.acs.length
  nb : p.bs.length ≤ 16
  acs : ∀ a ∈ p.acs, a.regs.length ≤ 8 ∧ (a.timer = -1 → a.armed = false)
  bs : ∀ n ∈ p.bs, chkNt p n = true
theorem chk_parts {p : PPrg} (h : chk p = 0) : ChkP p := by
  unfold chk at h
  by_cases h0 : chkC p = 0
  · rw [if_pos h0] at h
    by_cases h1 : scan (chkH p.hs.length) p.hs = 0
    · rw [if_pos h1] at h
      by_cases h2 : scan (chkA p.hs) p.acs = 0
      · rw [if_pos h2] at h
        have hc : (p.hs.length ≤ 16 ∧ p.acs.length ≤ 8 ∧ p.bs.length ≤ 16) ∧ (p.acs.length ≠ 0 ∧ (1 ≤ p.fuel ∧ p.fuel ≤ 256)) := by
          unfold chkC at h0
          by_cases e : p.hs.length ≤ 16 ∧ p.acs.length ≤ 8 ∧ p.bs.length ≤ 16
          · rw [if_pos e] at h0
            by_cases e2 : p.acs.length ≠ 0 ∧ (1 ≤ p.fuel ∧ p.fuel ≤ 256)
            · exact ⟨e, e2⟩
            · rw [if_neg e2] at h0; cases h0
          · rw [if_neg e] at h0; cases h0
        refine ⟨hc.1.2.1, by omega, hc.1.2.2, fun a ha => ?_, fun n hn => ?_⟩
        · have := scan_all h2 a ha
          unfold chkA at this
          by_cases e : a.regs.length ≤ 8
          · refine ⟨e, fun et => ?_⟩
            rw [if_pos e] at this
            by_cases e2 : 0 ≤ a.cap ∧ a.cap ≤ 16
            · rw [if_pos e2, if_pos et] at this
              cases ha : a.armed with
              | false => rfl
              | true => rw [ha] at this; cases this
            · rw [if_neg e2] at this; cases this
          · rw [if_neg e] at this; cases this
        · have := scan_all h n hn
          unfold chkN at this
          by_cases e : (0 ≤ n.to ∧ n.to < (p.acs.length : Int)) ∧ (0 ≤ n.hd ∧ n.hd < (p.hs.length : Int))
          · rw [if_pos e] at this
            by_cases e2 : (n.args.length : Int) = argsOf p.hs n.hd
            · unfold chkNt
              rw [in_yes (by omega), in_yes (by omega)]
              simp [e2]
            · rw [if_neg e2] at this; cases this
          · rw [if_neg e] at this; cases this
      · rw [if_neg h2] at h; exact absurd h h2
    · rw [if_neg h1] at h; exact absurd h h1
  · rw [if_neg h0] at h; exact absurd h h0
theorem fc_chk {p : PPrg} (h : fc p = 0) : chk p = 0 := by
  apply Classical.byContradiction
  intro e
  unfold fc at h
  rw [if_neg e] at h
  exact e h
def sumO (l : List PLoc) : Int := (l.map (·.over)).sum
theorem sumO_set {l : List PLoc} {k : Nat} {y : PLoc} (h : l[k]? = some y) (n : Int) : sumO (l.set k { y with over := n }) = sumO l - y.over + n := by
  induction l generalizing k with
  | nil => cases h
  | cons x r ih =>
    cases k with
    | zero => simp at h; subst h; simp [sumO]; omega
    | succ k =>
      simp at h
      have := ih h
      simp only [sumO, List.set_cons_succ, List.map_cons, List.sum_cons] at *
      omega
/-- Behind k notes of Boot. -/
structure INV (p : PPrg) (k : Nat) (x : PWld) : Prop where
  len : x.acts.length = p.acs.length
  loc : ∀ (j : Nat) (y : PLoc) (a : PAct), x.acts[j]? = some y → p.acs[j]? = some a → y.regs = a.regs ∧ y.armed = a.armed ∧ y.down = 0 ∧ y.sent = 0 ∧ 0 ≤ y.over ∧ y.over ≤ k
  mail : ∀ m ∈ x.mail, m.nt ∈ p.bs ∧ m.id.f = -1 ∧ 0 ≤ m.id.n ∧ m.id.n < k ∧ m.id.c = 0
  srt : srt x.mail = true
  sum : (x.mail.length : Int) + sumO x.acts = k
  used : x.used = ⟨0, 0, 0, 0⟩
theorem sum_zero (l : List PAct) : sumO (l.map loc0) = 0 := by
  induction l with
  | nil => rfl
  | cons a r ih => simp only [sumO, List.map_cons, List.sum_cons] at *; rw [ih]; rfl
theorem inv0 (p : PPrg) : INV p 0 (startW p) := by
  refine ⟨startL_len p, fun j y a hy ha => ?_, fun m hm => (by cases hm), rfl, by show (0 : Int) + sumO (startL p) = 0; rw [startL, sum_zero]; rfl, rfl⟩
  have : (startL p)[j]? = some (loc0 a) := by unfold startL; rw [List.getElem?_map, ha]; rfl
  have e : y = loc0 a := Option.some.inj (hy.symm.trans this)
  subst e
  exact ⟨rfl, rfl, rfl, rfl, by show (0 : Int) ≤ 0; omega, by show (0 : Int) ≤ _; omega⟩
theorem wrapS {n : Int} (h0 : 0 ≤ n) (h : n ≤ 1000) : wrap64 n = n := IntWalk.wrap64_in _ ⟨by omega, by omega⟩
theorem inv_step {p : PPrg} (hp : ChkP p) {k : Nat} {x : PWld} (h : INV p k x) {n : PNte} (hn : p.bs[k]? = some n) : INV p (k + 1) (stepN p 0 (-1) p.acs.length x k n) := by
  have hk : k < p.bs.length := (List.getElem?_eq_some_iff.1 hn).1
  have hnb := hp.nb
  have hmem := List.mem_of_getElem? hn
  have hc := hp.bs n hmem
  unfold chkNt at hc
  simp only [Bool.and_eq_true] at hc
  have ht := inB_iff.1 hc.1
  obtain ⟨j, hj⟩ : ∃ j : Nat, n.to = (j : Int) := Int.eq_ofNat_of_zero_le ht.1
  have hjl : j < p.acs.length := by omega
  rw [step_yes hc.1 (by omega), hj, Int.toNat_natCast]
  obtain ⟨y, hy⟩ := at_lt (l := x.acts) (k := j) (by rw [h.len]; exact hjl)
  obtain ⟨a, ha⟩ := at_lt hjl
  have hw : wrap64 (0 + (k : Int)) = k := by rw [Int.zero_add]; exact wrapS (by omega) (by omega)
  unfold postP
  by_cases hr : roomB p x ⟨⟨-1, wrap64 (0 + (k : Int)), 0⟩, n⟩ j = true
  · rw [if_pos hr]
    unfold roomB at hr
    simp only [Bool.and_eq_true, decide_eq_true_eq] at hr
    refine ⟨h.len, fun i y a hy ha => let ⟨h1, h2, h3, h4, h5, h6⟩ := h.loc i y a hy ha; ⟨h1, h2, h3, h4, h5, by omega⟩, fun m hm => ?_, put_srt h.srt hr.2, ?_, h.used⟩
    · rcases putP_mem hm with rfl | hm
      · exact ⟨hmem, rfl, by show 0 ≤ wrap64 _; rw [hw]; omega, by show wrap64 _ < _; rw [hw]; omega, rfl⟩
      · obtain ⟨h1, h2, h3, h4, h5⟩ := h.mail m hm
        exact ⟨h1, h2, h3, by omega, h5⟩
    · show ((putP x.mail _).length : Int) + sumO x.acts = _
      rw [putP_len]; have := h.sum; push_cast; omega
  · rw [if_neg hr, getD_at hy]
    obtain ⟨r1, r2, r3, r4, r5, r6⟩ := h.loc j y a hy ha
    have hw2 : wrap64 (y.over + 1) = y.over + 1 := wrapS (by omega) (by omega)
    rw [hw2]
    refine ⟨by show (x.acts.set _ _).length = _; rw [List.length_set]; exact h.len, fun i z b hz hb => ?_, fun m hm => let ⟨h1, h2, h3, h4, h5⟩ := h.mail m hm; ⟨h1, h2, h3, by omega, h5⟩, h.srt, ?_, h.used⟩
    · have hz' : (x.acts.set j { y with over := y.over + 1 })[i]? = some z := hz
      by_cases e : j = i
      · subst e
        rw [List.getElem?_set_self (by rw [h.len]; exact hjl)] at hz'
        cases hz'
        obtain rfl := Option.some.inj (ha.symm.trans hb)
        exact ⟨r1, r2, r3, r4, by show 0 ≤ y.over + 1; omega, by show y.over + 1 ≤ _; omega⟩
      · rw [List.getElem?_set_ne e] at hz'
        obtain ⟨h1, h2, h3, h4, h5, h6⟩ := h.loc i z b hz' hb
        exact ⟨h1, h2, h3, h4, h5, by omega⟩
    · show (x.mail.length : Int) + sumO (x.acts.set j { y with over := y.over + 1 }) = _
      rw [sumO_set hy]; have := h.sum; push_cast; omega
theorem start_inv {p : PPrg} (hp : ChkP p) : INV p p.bs.length (startP p) := by
  have e : inB (-1) (-1) (((startW p).acts.length : Int) - 1) = true := in_yes ⟨by omega, by show (-1 : Int) ≤ ((startL p).length : Int) - 1; omega⟩
  unfold startP
  rw [send_yes e]
  have hf : firstP (startW p) (-1) p.bs.length = 0 := rfl
  have hl : (startW p).acts.length = p.acs.length := startL_len p
  rw [hf, hl]
  have key : ∀ k, k ≤ p.bs.length → INV p k (sendT p 0 (-1) p.acs.length (startW p) p.bs k) := by
    intro k
    induction k with
    | zero => exact fun _ => inv0 p
    | succ k ih =>
      intro hk
      obtain ⟨n, hn⟩ := at_lt (l := p.bs) (k := k) (by omega)
      rw [step_at hn]
      exact inv_step hp (ih (by omega)) hn
  exact key _ (Nat.le_refl _)
theorem start_chk {p : PPrg} (hf : fc p = 0) : chkW p (startP p) = true := by
  have hp := chk_parts (fc_chk hf)
  have h := start_inv hp
  have hnb := hp.nb
  have h1 : chkAs p (startP p).acts = true := by
    unfold chkAs
    refine decide_eq_true ⟨h.len, fun i hi => ?_⟩
    obtain ⟨y, hy⟩ := at_lt hi
    obtain ⟨a, ha⟩ := at_lt (l := p.acs) (k := i) (by rw [← h.len]; exact hi)
    rw [getD_at hy, getD_at ha]
    obtain ⟨r1, r2, r3, r4, r5, r6⟩ := h.loc i y a hy ha
    have ht := (hp.acs a (List.mem_of_getElem? ha)).2
    unfold chkLoc
    rw [r1, r2, r3, r4, in_yes (by omega), in_yes (by omega), in_yes ⟨r5, by omega⟩]
    simp
    by_cases e : a.timer = -1
    · exact Or.inl (ht e)
    · exact Or.inr e
  have h2 : chkM p (startP p) = true := by
    unfold chkM
    rw [h.srt, Bool.and_true, List.all_eq_true]
    intro m hm
    obtain ⟨m1, m2, m3, m4, m5⟩ := h.mail m hm
    rw [hp.bs m.nt m1, Bool.true_and]
    unfold chkD
    have hs : sentP (startP p) m.id.f = 16 := by unfold sentP; rw [m2, if_pos rfl]
    rw [hs, m2, m5, h.used, show wrap64 (16 - 1) = 15 from wrapS (by omega) (by omega), in_yes (by omega), in_yes (by omega), in_yes (by show (0 : Int) ≤ 0 ∧ (0 : Int) ≤ 0; omega)]
    rfl
  unfold chkW
  rw [h1, h2, h.used, hf]
  decide
end Go.Proofs.YtgdloonpemaijaaDoor
namespace Go.Proofs.YtgdloonpemaijaaDoor
open Go.RowKit
def erow (e : PEv) : List Value := [.int .i64 e.kind, .int .i64 e.id.f, .int .i64 e.id.n, .int .i64 e.id.c, .int .i64 e.who]
/-- Events in a row of the call's own. -/
structure EN (W wr : World) (v : Value) (l : List PEv) : Prop where
  own : wr.ownsRow W.heap.size 62 5 v l.length ((l.map erow).flatten)
  low : Below W.heap.size W wr
def rEv (w : World) (b o : Nat) (e : PEv) : Prop := w.cell? ⟨b, o, none⟩ = some (.int .i64 e.kind) ∧ w.cell? ⟨b, o + 1, none⟩ = some (.int .i64 e.id.f) ∧ w.cell? ⟨b, o + 2, none⟩ = some (.int .i64 e.id.n) ∧ w.cell? ⟨b, o + 3, none⟩ = some (.int .i64 e.id.c) ∧ w.cell? ⟨b, o + 4, none⟩ = some (.int .i64 e.who)
abbrev Evs (ok : Nat → Prop) := Sl 5 rEv ok
section
variable {W wr w' : World} {v : Value} {l : List PEv}
theorem Evs.same {ok : Nat → Prop} (h : Evs ok wr v l) (s : Same ok wr w') : Evs ok w' v l :=
  h.imp (fun _ h => h) s.size fun _ _ _ hk hb ⟨h1, h2, h3, h4, h5⟩ => ⟨(s.cell hk hb).trans h1, (s.cell hk hb).trans h2, (s.cell hk hb).trans h3, (s.cell hk hb).trans h4, (s.cell hk hb).trans h5⟩
theorem Evs.below {ok : Nat → Prop} (h : Evs ok wr v l) (hb : Below wr.heap.size wr w') : Evs ok w' v l := h.same (Same.all hb)
theorem EN.below (h : EN W wr v l) (hb : Below wr.heap.size wr w') : EN W w' v l := ⟨own_block h.own fun g _ hlt => hb.block g hlt, bTrans h.low hb⟩
theorem EN.form (h : EN W wr v l) : ∃ A c, v = .slice A l.length c := by
  obtain ⟨h1, h2⟩ := h.own
  rcases h2 with ⟨rfl, h2⟩ | ⟨g, cap, cur, rfl, _⟩
  · exact ⟨none, 0, by rw [h2]⟩
  · exact ⟨_, cap, rfl⟩
theorem EN.nil (W : World) : EN W W (.slice none 0 0) [] := ⟨⟨rfl, Or.inl ⟨rfl, rfl⟩⟩, bRefl _⟩
theorem EN.push {g cap : Nat} {e : PEv} {w2 : World} (h : EN W wr v l) (hb : Below wr.heap.size wr w2) (ho : w'.ownsRow W.heap.size 62 5 (.slice (some ⟨g, 0, none⟩) (l.length + 1) cap) (l.length + 1) ((l.map erow).flatten ++ erow e)) (hg : w2.grownBy w' v.ownBlock) : EN W w' (.slice (some ⟨g, 0, none⟩) (l.length + 1) cap) (l ++ [e]) := by
  refine ⟨?_, (bTrans h.low hb).grown hg (by have := h.low.size; have := hb.size; omega) fun j hj => (own_lt h.own hj).1⟩
  rw [List.length_append, List.map_append, List.flatten_append]
  simpa using ho
theorem erow_len (l : List PEv) : ∀ e ∈ l.map erow, e.length = 5 := by
  intro e he
  rw [List.mem_map] at he
  obtain ⟨x, _, rfl⟩ := he
  rfl
theorem EN.evs (h : EN W wr v l) (hl : l.length ≤ 1000000) : Evs (fun b => W.heap.size ≤ b) wr v l := by
  obtain ⟨h1, h2⟩ := h.own
  rcases h2 with ⟨rfl, h2⟩ | ⟨g, cap, cur, rfl, hb, hh, h3, h4, h5, h6⟩
  · have : l = [] := by cases l with | nil => rfl | cons _ _ => simp at h2
    subst this; exact ⟨_, _, rfl, by simp, by simp, Or.inl rfl⟩
  · refine ⟨_, cap, rfl, by omega, h3, Or.inr ⟨g, 0, rfl, hb, (Array.getElem?_eq_some_iff.1 hh).1, fun k n hn => ?_⟩⟩
    have hk := (List.getElem?_eq_some_iff.1 hn).1
    have hz : (l.map erow)[k]? = some (erow n) := by rw [List.getElem?_map, hn]; rfl
    have hcell : ∀ j, j < l.length * 5 → wr.cell? ⟨g, j, none⟩ = ((l.map erow).flatten)[j]? := fun j hj => by
      rw [cell_of_row _ _ _ _ _ _ hh, ← h6, List.getElem?_take, if_pos hj]; simp
    have hc : ∀ j, j < 5 → wr.cell? ⟨g, 0 + k * 5 + j, none⟩ = (erow n)[j]? := fun j hj => by
      rw [Nat.zero_add, hcell _ (by omega), flat_at _ (erow_len l) k j hj, hz]; rfl
    exact ⟨hc 0 (by omega), hc 1 (by omega), hc 2 (by omega), hc 3 (by omega), hc 4 (by omega)⟩
end
def gM (l : PBud) (x : PWld) (k i : Nat) : List PEv := ((x.mail.take i).filter (fun m => ofM l x k m)).map (fun m => (⟨(k : Int), m.id, 0⟩ : PEv))
def gA (l : PBud) (x : PWld) (k i : Nat) : List PEv := ((List.range i).filter (fun j => ofA l k (x.acts.getD j default))).map (fun j : Nat => (⟨(k : Int), ⟨0, 0, 0⟩, (j : Int)⟩ : PEv))
def enP (l : PBud) (x : PWld) : Nat → List PEv
  | 0 => []
  | k + 1 => enP l x k ++ gM l x (k + 1) x.mail.length
def enQ (l : PBud) (x : PWld) : Nat → List PEv
  | 0 => enP l x 3
  | k + 1 => enQ l x k ++ gA l x (k + 4) x.acts.length
noncomputable def enabP (p : PPrg) (b : PBud) (x : PWld) : List PEv := if fitsP p b x then enQ (leftB b x.used) x 2 else []
theorem gM_len (l : PBud) (x : PWld) (k i : Nat) : (gM l x k i).length ≤ x.mail.length := by
  unfold gM; rw [List.length_map]; exact Nat.le_trans (List.length_filter_le _ _) (by rw [List.length_take]; omega)
theorem gA_len (l : PBud) (x : PWld) (k i : Nat) : (gA l x k i).length ≤ i := by
  unfold gA; rw [List.length_map]; exact Nat.le_trans (List.length_filter_le _ _) (by rw [List.length_range]; exact Nat.le_refl _)
theorem enP_len (l : PBud) (x : PWld) : ∀ k, (enP l x k).length ≤ k * x.mail.length
  | 0 => by simp [enP]
  | k + 1 => by rw [enP, List.length_append, Nat.succ_mul]; have := enP_len l x k; have := gM_len l x (k + 1) x.mail.length; omega
theorem enQ_len (l : PBud) (x : PWld) : ∀ k, (enQ l x k).length ≤ 3 * x.mail.length + k * x.acts.length
  | 0 => by rw [enQ]; have := enP_len l x 3; omega
  | k + 1 => by rw [enQ, List.length_append, Nat.succ_mul k]; have := enQ_len l x k; have := gA_len l x (k + 4) x.acts.length; omega
theorem gM_0 (l : PBud) (x : PWld) (k : Nat) : gM l x k 0 = [] := by simp [gM]
theorem gA_0 (l : PBud) (x : PWld) (k : Nat) : gA l x k 0 = [] := by simp [gA]
theorem gM_yes {l : PBud} {x : PWld} {k i : Nat} {m : PMsg} (hm : x.mail[i]? = some m) (h : ofM l x k m = true) : gM l x k (i + 1) = gM l x k i ++ [⟨k, m.id, 0⟩] := by
  unfold gM; rw [List.take_add_one, hm]; simp [h]
theorem gM_no {l : PBud} {x : PWld} {k i : Nat} {m : PMsg} (hm : x.mail[i]? = some m) (h : ofM l x k m = false) : gM l x k (i + 1) = gM l x k i := by
  unfold gM; rw [List.take_add_one, hm]; simp [h]
theorem gA_yes {l : PBud} {x : PWld} {k i : Nat} {a : PLoc} (hm : x.acts[i]? = some a) (h : ofA l k a = true) : gA l x k (i + 1) = gA l x k i ++ [⟨k, ⟨0, 0, 0⟩, i⟩] := by
  unfold gA; rw [List.range_succ, List.filter_append]; simp [List.getD_eq_getElem?_getD, hm, h]
theorem gA_no {l : PBud} {x : PWld} {k i : Nat} {a : PLoc} (hm : x.acts[i]? = some a) (h : ofA l k a = false) : gA l x k (i + 1) = gA l x k i := by
  unfold gA; rw [List.range_succ, List.filter_append]; simp [List.getD_eq_getElem?_getD, hm, h]
theorem enabP_no {p : PPrg} {b : PBud} {x : PWld} (h : fitsP p b x = false) : enabP p b x = [] := by unfold enabP; rw [h]; rfl
theorem enabP_yes {p : PPrg} {b : PBud} {x : PWld} (h : fitsP p b x = true) : enabP p b x = enQ (leftB b x.used) x 2 := by unfold enabP; rw [h]; rfl
theorem infoE : (Tryd.prog.info? 62).map (fun i => (i.zero, i.size, i.bytes)) = some (some (.agg #[.int .i64 0, .int .i64 0, .int .i64 0, .int .i64 0, .int .i64 0]), 5, 40) := by kernel_rfl
theorem EN.mono {W0 W wr : World} {v : Value} {l : List PEv} (h : EN W wr v l) (hb : Below W0.heap.size W0 W) : EN W0 wr v l := by
  obtain ⟨⟨h1, h2⟩, h3⟩ := h
  exact ⟨⟨h1, h2.imp id fun ⟨g, cap, cur, e, hg, r⟩ => ⟨g, cap, cur, e, Nat.le_trans hb.size hg, r⟩⟩, bTrans hb h3⟩
theorem appE {ops : Array Oper} {rest : List Oper} {o : Oper} {a : Act} {Q : Exit → Act → World → Prop} {W w : World} {A : Option Addr} {c b : Nat} {l : List PEv} {e : PEv} (hgd : o.guard = none) (s x : Operand)
    (ho : o.op = .call { callee := .builtin .append, args := #[s, x], argTypes := #[66, 66] }) (hs : a.eval s = .slice A l.length c) (hx : a.eval x = .slice (some ⟨b, 0, none⟩) 1 1)
    (hen : EN W w (.slice A l.length c) l) (hb : w.heap[b]? = some (.cells #[.int .i64 e.kind, .int .i64 e.id.f, .int .i64 e.id.n, .int .i64 e.id.c, .int .i64 e.who] 62)) (hl : l.length ≤ 100000)
    (h : ∀ g cap w', EN W w' (.slice (some ⟨g, 0, none⟩) (l.length + 1) cap) (l ++ [e]) → wpList Tryd.prog ops Q rest (a.put o.dst (.slice (some ⟨g, 0, none⟩) (l.length + 1) cap)) w') :
    wpList Tryd.prog ops Q (o :: rest) a w := by
  obtain ⟨i0, hi0, hz0, hz1, hz2⟩ := info_parts infoE
  refine wpList_append_lies w hgd s x 66 ho W.heap.size 62 i0 _ 5 40 Tryd.underlying66 hi0 hz0 hz1 hz2 rfl (by decide) (.slice A l.length c) l.length _ hs hen.own ⟨b, 0, none⟩ 1 1 (erow e) hx rfl (World.news_of_block hb) (fun u hu => by simp [erow] at hu; rcases hu with rfl | rfl | rfl | rfl | rfl <;> rfl) (by decide) (by unfold maxLen; omega) (by omega) hen.low.size _ rfl ?_
  intro g cap w' ho' hg' _ _
  exact h g cap w' (hen.push (bRefl _) ho' hg')
theorem enP_step (l : PBud) (x : PWld) {k : Nat} (hk : 1 ≤ k) : enP l x (k + 1 - 1) = enP l x (k - 1) ++ gM l x k x.mail.length := by
  obtain ⟨j, rfl⟩ : ∃ j, k = j + 1 := ⟨k - 1, by omega⟩
  rfl
theorem enQ_step (l : PBud) (x : PWld) {k : Nat} (hk : 4 ≤ k) : enQ l x (k + 1 - 4) = enQ l x (k - 4) ++ gA l x k x.acts.length := by
  obtain ⟨j, rfl⟩ : ∃ j, k = j + 4 := ⟨k - 4, by omega⟩
  show enQ l x (j + 4 + 1 - 4) = enQ l x (j + 4 - 4) ++ _
  rw [show j + 4 + 1 - 4 = j + 1 by omega, show j + 4 - 4 = j by omega, enQ]
theorem enP_le (l : PBud) (x : PWld) {k : Nat} (hk : k ≤ 3) (hm : x.mail.length ≤ 1000) (i : Nat) : (enP l x (k - 1) ++ gM l x k i).length ≤ 4000 := by
  have h1 := enP_len l x (k - 1)
  have h2 := gM_len l x k i
  have h3 : (k - 1) * x.mail.length ≤ 2 * 1000 := Nat.mul_le_mul (by omega) hm
  rw [List.length_append]; omega
theorem enQ_le (l : PBud) (x : PWld) {k : Nat} (hk : k ≤ 5) (hm : x.mail.length ≤ 1000) (ha : x.acts.length ≤ 1000) {i : Nat} (hi : i ≤ 1000) : (enQ l x (k - 4) ++ gA l x k i).length ≤ 6000 := by
  have h1 := enQ_len l x (k - 4)
  have h2 := gA_len l x k i
  have h3 : (k - 4) * x.acts.length ≤ 1 * 1000 := Nat.mul_le_mul (by omega) ha
  rw [List.length_append]; omega
section
set_option maxHeartbeats 2000000 in
theorem enab_no (w : World) (vp vw : Value) (p : PPrg) (b : PBud) (x : PWld) (ht : Tab w) (hp : PrgV w vp p) (hx : WldV w vw x) (hf : fitsP p b x = false) :
    Calls Tryd.prog 33 #[vp, uVal b, vw] w fun e w' => ∃ v, e = .returned v ∧ EN w w' v (enabP p b x) := by
  have HP := hid_mk hp
  have HX := hid_mk hx
  have HT := hid_mk ht
  have HR := hid_mk (enabP_no hf)
  obtain ⟨vh, vb, vc, rfl, h1, h2, h3⟩ := hp
  obtain ⟨A1, c1, rfl, _⟩ := h1.form
  obtain ⟨A2, c2, rfl, _⟩ := h2.form
  obtain ⟨A3, c3, rfl, _⟩ := h3.form
  obtain ⟨va, vm, rfl, g1, g2⟩ := hx
  obtain ⟨B1, d1, rfl, _⟩ := g1.form
  obtain ⟨B2, d2, rfl, _⟩ := g2.form
  clear h1 h2 h3 g1 g2 ht
  have HB3 : Hid (∀ X Y Z : Obj, Below w.heap.size w (((w.alloc X).alloc Y).alloc Z)) := fun X Y Z => bAlloc (bAlloc (bAlloc (bRefl _) _) _) _
  go_enter Tryd.func33, Tryd.ntmps33
  go_wp2_with (first
    | (go_at_call 71; refine (fits_any _ _ _ p b x (HT.out.below (by exact HB3.out _ _ _)) (HP.out.below (by exact HB3.out _ _ _)) (HX.out.below (by exact HB3.out _ _ _))).mono ?_; rintro e w2 ⟨rfl, hb2⟩; have HB2 := hid_mk (bTrans (HB3.out _ _ _) hb2); clear hb2))
  go_ret
  exact ⟨_, rfl, by rw [HR.out]; exact (EN.nil w).below HB2.out⟩
set_option maxHeartbeats 16000000 in
set_option maxRecDepth 100000 in
theorem enab_yes (w : World) (vp vw : Value) (p : PPrg) (b : PBud) (x : PWld) (ht : Tab w) (hp : PrgV w vp p) (hx : WldV w vw x) (hf : fitsP p b x = true) (hm : x.mail.length ≤ 1000) (ha : x.acts.length ≤ 1000) :
    Calls Tryd.prog 33 #[vp, uVal b, vw] w fun e w' => ∃ v, e = .returned v ∧ EN w w' v (enabP p b x) := by
  have HP := hid_mk hp
  have HX := hid_mk hx
  have HT := hid_mk ht
  have HR := hid_mk (enabP_yes hf)
  have HTO : Hid (∀ m ∈ x.mail, 0 ≤ m.nt.to ∧ m.nt.to < x.acts.length) := fun m hmm => chkW_to (by unfold fitsP at hf; rw [Bool.and_eq_true] at hf; exact hf.2) hmm
  obtain ⟨vh, vb, vc, rfl, h1, h2, h3⟩ := hp
  obtain ⟨A1, c1, rfl, _⟩ := h1.form
  obtain ⟨A2, c2, rfl, _⟩ := h2.form
  obtain ⟨A3, c3, rfl, _⟩ := h3.form
  obtain ⟨va, vm, rfl, g1, g2⟩ := hx
  obtain ⟨B1, d1, rfl, _⟩ := g1.form
  obtain ⟨B2, d2, rfl, _⟩ := g2.form
  have HG1 := hid_mk g1
  have HG2 := hid_mk g2
  clear h1 h2 h3 g1 g2 ht
  go_enter Tryd.func33, Tryd.ntmps33
  go_wp2_with fail
  obtain ⟨k0, k1, k2, k3⟩ := three_nw w (.cells #[.slice A1 p.hs.length c1, .slice A2 p.acs.length c2, .slice A3 p.bs.length c3, .int .i64 p.fuel] 26) (.cells #[.int .i64 b.drop, .int .i64 b.dup, .int .i64 b.time, .int .i64 b.crash] 42) (.cells #[.slice B1 x.acts.length d1, .slice B2 x.mail.length d2, .int .i64 x.used.drop, .int .i64 x.used.dup, .int .i64 x.used.time, .int .i64 x.used.crash] 44)
  have HL : Hid (Below w.heap.size w (((w.alloc (.cells #[.slice A1 p.hs.length c1, .slice A2 p.acs.length c2, .slice A3 p.bs.length c3, .int .i64 p.fuel] 26)).alloc (.cells #[.int .i64 b.drop, .int .i64 b.dup, .int .i64 b.time, .int .i64 b.crash] 42)).alloc (.cells #[.slice B1 x.acts.length d1, .slice B2 x.mail.length d2, .int .i64 x.used.drop, .int .i64 x.used.dup, .int .i64 x.used.time, .int .i64 x.used.crash] 44))) := bAlloc (bAlloc (bAlloc (bRefl _) _) _) _
  generalize (((w.alloc (.cells #[.slice A1 p.hs.length c1, .slice A2 p.acs.length c2, .slice A3 p.bs.length c3, .int .i64 p.fuel] 26)).alloc (.cells #[.int .i64 b.drop, .int .i64 b.dup, .int .i64 b.time, .int .i64 b.crash] 42)).alloc (.cells #[.slice B1 x.acts.length d1, .slice B2 x.mail.length d2, .int .i64 x.used.drop, .int .i64 x.used.dup, .int .i64 x.used.time, .int .i64 x.used.crash] 44)) = w1 at k0 k1 k2 k3 HL ⊢
  refine (fits_any _ _ _ p b x (HT.out.below HL.out) (HP.out.below HL.out) (HX.out.below HL.out)).mono ?_
  rintro e w2 ⟨rfl, hb2⟩
  replace k1 := boxAt k1 hb2
  replace k2 := boxAt k2 hb2
  have HL2 := hid_mk (bTrans HL.out hb2)
  obtain ⟨b0, b1, b2, b3⟩ := blk4 k1
  obtain ⟨x0, x1, x2, x3, x4, x5⟩ := blk6 k2
  clear k0 k3 HL hb2
  go_wp2_with fail
  refine (left_any _ b x.used _ _ _ _ _ _).mono ?_
  rintro e w3 ⟨rfl, hb3⟩
  have hbx : Below w2.heap.size w2 (w3.alloc (.cells #[.int .i64 (leftB b x.used).drop, .int .i64 (leftB b x.used).dup, .int .i64 (leftB b x.used).time, .int .i64 (leftB b x.used).crash] 42)) := bAlloc hb3 _
  have hK := heap_new w3 (.cells #[.int .i64 (leftB b x.used).drop, .int .i64 (leftB b x.used).dup, .int .i64 (leftB b x.used).time, .int .i64 (leftB b x.used).crash] 42)
  replace k2 := boxAt k2 hbx
  have HL4 := hid_mk (bTrans HL2.out hbx)
  clear k1 b0 b1 b2 b3 x0 x1 x2 x3 x4 x5 HL2 hb3 hbx hf
  go_wp2_with fail
  generalize w3.alloc (.cells #[.int .i64 (leftB b x.used).drop, .int .i64 (leftB b x.used).dup, .int .i64 (leftB b x.used).time, .int .i64 (leftB b x.used).crash] 42) = w4 at k2 hK HL4 ⊢
  go_loopg [8, 9] 3 (fun g i8 i9 wr => ∃ k : Nat, g = 4 - k ∧ 1 ≤ k ∧ k ≤ 4 ∧ i9 = .int .i64 (k : Int) ∧ Hid (EN w4 wr i8 (enP (leftB b x.used) x (k - 1))))
  case atStart => exact ⟨1, rfl, by omega, by omega, rfl, EN.nil w4⟩
  case round =>
    obtain ⟨k, rfl, hk1, hk4, rfl, hen⟩ := hrel
    obtain ⟨wo, hwo⟩ : ∃ wo, wo = wr := ⟨wr, rfl⟩
    subst hwo
    have y2 := boxAt k2 hen.out.low
    obtain ⟨x0, x1, x2, x3, x4, x5⟩ := blk6 y2
    by_cases hlt : k ≤ 3
    · have hkI : (k : Int) ≤ 3 := by omega
      go_wp2
      go_loopg [8, 30] x.mail.length (fun g i8 i30 wr => ∃ i : Nat, g = x.mail.length - i ∧ i ≤ x.mail.length ∧ i30 = .int .i64 (i : Int) ∧ Hid (EN w4 wr i8 (enP (leftB b x.used) x (k - 1) ++ gM (leftB b x.used) x k i)))
      case atStart => exact ⟨0, rfl, by omega, rfl, by rw [gM_0, List.append_nil]; exact hen⟩
      case round =>
        obtain ⟨i, rfl, hi, rfl, hen2⟩ := hrel
        clear x0 x1 x2 x3 x4 x5 y2 hen
        by_cases hlt2 : i < x.mail.length
        · obtain ⟨bm, om, m, vm, rfl, hm0, hz, c0, c1, c2, c3, c4, c5, hvi⟩ := HG2.out.cell (bTrans HL4.out hen2.out.low) hlt2
          obtain ⟨A6, c6, rfl, _⟩ := hvi.form
          have y2 := boxAt k2 hen2.out.low
          have yK := boxAt hK hen2.out.low
          have HLr := hid_mk (bTrans HL4.out hen2.out.low)
          obtain ⟨x0, x1, x2, x3, x4, x5⟩ := blk6 y2
          obtain ⟨l0, l1, l2, l3⟩ := blk4 yK
          have z2 := (Array.getElem?_eq_some_iff.1 y2).1
          have zK := (Array.getElem?_eq_some_iff.1 yK).1
          have hlt2I : (i : Int) < x.mail.length := by omega
          have HTM := hid_mk (HTO.out m (List.mem_of_getElem? hm0))
          have HLEN := hid_mk (enP_le (leftB b x.used) x hlt hm i)
          cases hof : ofM (leftB b x.used) x k m with
          | true =>
            have HGN := hid_mk (gM_yes hm0 hof)
            generalize gM (leftB b x.used) x k i = G at hen2 HGN HLEN
            generalize hLL : enP (leftB b x.used) x (k - 1) ++ G = LL at hen2 HLEN
            have HLL := hid_mk hLL
            obtain ⟨A9, c9, rfl⟩ := hen2.out.form
            clear hvi hm0 hi y2 yK hLL
            go_wp2_with (first
              | (go_at_call 73; refine (ofMsg_any _ (leftB b x.used) x k m _ _ _ B1 d1 _ _ _ (HG1.out.below (by exact bAlloc HLr.out _)) HTM.out.1 HTM.out.2).mono ?_; rintro e w7 ⟨rfl, hb7⟩; obtain ⟨m0, m1, m2, m3, m4, m5⟩ := blk6 (boxAt (heap_new wr _) hb7); have HEN7 := hid_mk (hen2.out.below (bTrans (bAlloc (bRefl wr) _) hb7)); clear hb7)
              | (at_builtin; refine appE (e := ⟨(k : Int), m.id, 0⟩) rfl _ _ rfl rfl rfl (HEN7.out.below (by exact bAlloc (bRefl _) _)) (heap_new _ _) (by have := HLEN.out; omega) ?_; intro g6 cap6 w8 hen8; have HEN8 := hid_mk hen8; clear hen8))
            go_roundg (x.mail.length - (i + 1))
            case measure => omega
            case rel => exact ⟨i + 1, rfl, by omega, by go_num, by rw [HGN.out, ← List.append_assoc, HLL.out]; exact HEN8⟩
          | false =>
            have HGN := hid_mk (gM_no hm0 hof)
            clear hvi hm0 hi y2 yK
            go_wp2_with (first
              | (go_at_call 73; refine (ofMsg_any _ (leftB b x.used) x k m _ _ _ B1 d1 _ _ _ (HG1.out.below (by exact bAlloc HLr.out _)) HTM.out.1 HTM.out.2).mono ?_; rintro e w7 ⟨rfl, hb7⟩; have HEN7 := hid_mk (hen2.out.below (bTrans (bAlloc (bRefl wr) _) hb7)); clear hb7))
            go_roundg (x.mail.length - (i + 1))
            case measure => omega
            case rel => exact ⟨i + 1, rfl, by omega, by go_num, by rw [HGN.out]; exact HEN7⟩
        · obtain rfl : i = x.mail.length := by omega
          go_wp2
          go_roundg (4 - (k + 1))
          case measure => omega
          case rel => exact ⟨k + 1, rfl, by omega, by omega, by go_num, by rw [enP_step _ _ hk1]; exact hen2⟩
    · obtain rfl : k = 4 := by omega
      have hen' : Hid (EN w4 wo _ (enQ (leftB b x.used) x (4 - 4))) := hen
      clear hen x0 x1 x2 x3 x4 x5 y2
      go_wp2
      go_loopg [8, 12] 2 (fun g i8 i12 wr => ∃ k : Nat, g = 6 - k ∧ 4 ≤ k ∧ k ≤ 6 ∧ i12 = .int .i64 (k : Int) ∧ Hid (EN w4 wr i8 (enQ (leftB b x.used) x (k - 4))))
      case atStart => exact ⟨4, rfl, by omega, by omega, rfl, hen'⟩
      case round =>
        clear hen'
        obtain ⟨k, rfl, hk1, hk4, rfl, hen⟩ := hrel
        obtain ⟨wp, hwp⟩ : ∃ wp, wp = wr := ⟨wr, rfl⟩
        subst hwp
        have y2 := boxAt k2 hen.out.low
        obtain ⟨x0, x1, x2, x3, x4, x5⟩ := blk6 y2
        by_cases hlt : k ≤ 5
        · have hkI : (k : Int) ≤ 5 := by omega
          go_wp2
          go_loopg [8, 54] x.acts.length (fun g i8 i54 wr => ∃ i : Nat, g = x.acts.length - i ∧ i ≤ x.acts.length ∧ i54 = .int .i64 (i : Int) ∧ Hid (EN w4 wr i8 (enQ (leftB b x.used) x (k - 4) ++ gA (leftB b x.used) x k i)))
          case atStart => exact ⟨0, rfl, by omega, rfl, by rw [gA_0, List.append_nil]; exact hen⟩
          case round =>
            obtain ⟨i, rfl, hi, rfl, hen2⟩ := hrel
            clear x0 x1 x2 x3 x4 x5 y2 hen
            by_cases hlt2 : i < x.acts.length
            · obtain ⟨ba, oa, a, va, rfl, ha0, hz, c0, c1, c2, c3, c4, hvi⟩ := HG1.out.cell (bTrans HL4.out hen2.out.low) hlt2
              obtain ⟨A6, c6, rfl, _⟩ := hvi.form
              have y2 := boxAt k2 hen2.out.low
              have yK := boxAt hK hen2.out.low
              obtain ⟨x0, x1, x2, x3, x4, x5⟩ := blk6 y2
              obtain ⟨l0, l1, l2, l3⟩ := blk4 yK
              have z2 := (Array.getElem?_eq_some_iff.1 y2).1
              have zK := (Array.getElem?_eq_some_iff.1 yK).1
              have hlt2I : (i : Int) < x.acts.length := by omega
              have HLEN := hid_mk (enQ_le (leftB b x.used) x hlt hm ha (i := i) (by omega))
              cases hof : ofA (leftB b x.used) k a with
              | true =>
                have HGN := hid_mk (gA_yes ha0 hof)
                generalize gA (leftB b x.used) x k i = G at hen2 HGN HLEN
                generalize hLL : enQ (leftB b x.used) x (k - 4) ++ G = LL at hen2 HLEN
                have HLL := hid_mk hLL
                obtain ⟨A9, c9, rfl⟩ := hen2.out.form
                clear hvi ha0 hi y2 yK hLL
                go_wp2_with (first
                  | (go_at_call 74; refine (ofAct_any _ (leftB b x.used) k a _ _ _).mono ?_; rintro e w7 ⟨rfl, hb7⟩; have HEN7 := hid_mk (hen2.out.below (bTrans (bAlloc (bRefl wr) _) hb7)); clear hb7)
                  | (at_builtin; refine appE (e := ⟨(k : Int), ⟨0, 0, 0⟩, (i : Int)⟩) rfl _ _ rfl rfl rfl (HEN7.out.below (by exact bAlloc (bRefl _) _)) (heap_new _ _) (by have := HLEN.out; omega) ?_; intro g6 cap6 w8 hen8; have HEN8 := hid_mk hen8; clear hen8))
                go_roundg (x.acts.length - (i + 1))
                case measure => omega
                case rel => exact ⟨i + 1, rfl, by omega, by go_num, by rw [HGN.out, ← List.append_assoc, HLL.out]; exact HEN8⟩
              | false =>
                have HGN := hid_mk (gA_no ha0 hof)
                clear hvi ha0 hi y2 yK
                go_wp2_with (first
                  | (go_at_call 74; refine (ofAct_any _ (leftB b x.used) k a _ _ _).mono ?_; rintro e w7 ⟨rfl, hb7⟩; have HEN7 := hid_mk (hen2.out.below (bTrans (bAlloc (bRefl wr) _) hb7)); clear hb7))
                go_roundg (x.acts.length - (i + 1))
                case measure => omega
                case rel => exact ⟨i + 1, rfl, by omega, by go_num, by rw [HGN.out]; exact HEN7⟩
            · obtain rfl : i = x.acts.length := by omega
              go_wp2
              go_roundg (6 - (k + 1))
              case measure => omega
              case rel => exact ⟨k + 1, rfl, by omega, by omega, by go_num, by rw [enQ_step _ _ hk1]; exact hen2⟩
        · obtain rfl : k = 6 := by omega
          clear x0 x1 x2 x3 x4 x5 y2
          go_wp2
          go_ret
          exact ⟨_, rfl, by rw [HR.out]; exact hen.out.mono HL4.out⟩
end
theorem enab_any (w : World) (vp vw : Value) (p : PPrg) (b : PBud) (x : PWld) (ht : Tab w) (hp : PrgV w vp p) (hx : WldV w vw x) (hm : x.mail.length ≤ 1000) (ha : x.acts.length ≤ 1000) :
    Calls Tryd.prog 33 #[vp, uVal b, vw] w fun e w' => ∃ v, e = .returned v ∧ EN w w' v (enabP p b x) := by
  cases hf : fitsP p b x with
  | false => exact enab_no w vp vw p b x ht hp hx hf
  | true => exact enab_yes w vp vw p b x ht hp hx hf hm ha
def sameE (x y : PEv) : Bool := decide (x = y)
theorem gE : Tryd.prog.eqGuardType Tryd.prog.depth 62 = false := by kernel_rfl
theorem eqD9 (a b : PID) (w : World) (d : Nat) : (Op.equalIn (d + 1 + 1) 56 (.agg #[.int .i64 a.f, .int .i64 a.n, .int .i64 a.c]) (.agg #[.int .i64 b.f, .int .i64 b.n, .int .i64 b.c])).run Tryd.prog w = .ok (sameD a b) w := by
  have u3 := Tryd.underlying3
  have a3 := Tryd.isAgg3
  have z3 := Tryd.sizeOf3
  have hS : Tryd.prog.underlying 56 = some (.struct (Tryd.prog.fieldsOf 56)) := by kernel_rfl
  have hp : Tryd.prog.stoodInHeld 56 = false := by kernel_rfl
  obtain ⟨f, n, c⟩ := a
  obtain ⟨f', n', c'⟩ := b
  unfold sameD
  rw [run_equalIn_agg w (d + 1) 56 _ _ hS hp]
  simp only [Program.fieldsOf, Tryd.underlying56]
  go_simp
  by_cases h1 : f = f' <;> by_cases h2 : n = n' <;> by_cases h3 : c = c' <;> simp [h1, h2, h3]
theorem eqE (x y : PEv) (w : World) : (Op.equalIn 10000 62 (eVal x) (eVal y)).run Tryd.prog w = .ok (sameE x y) w := by
  have u3 := Tryd.underlying3
  have a3 := Tryd.isAgg3
  have z3 := Tryd.sizeOf3
  have aD := Tryd.isAgg56
  have zD := Tryd.sizeOf56
  have hS : Tryd.prog.underlying 62 = some (.struct (Tryd.prog.fieldsOf 62)) := by kernel_rfl
  have hp : Tryd.prog.stoodInHeld 62 = false := by kernel_rfl
  obtain ⟨k, ⟨f, n, c⟩, who⟩ := x
  obtain ⟨k', ⟨f', n', c'⟩, who'⟩ := y
  have hd := fun w => eqD9 ⟨f, n, c⟩ ⟨f', n', c'⟩ w 9997
  unfold sameE
  rw [show (10000 : Nat) = 9999 + 1 from rfl, run_equalIn_agg w 9999 62 _ _ hS hp]
  simp only [Program.fieldsOf, Tryd.underlying62]
  go_simp
  by_cases h1 : k = k' <;> by_cases h2 : (⟨f, n, c⟩ : PID) = ⟨f', n', c'⟩ <;> by_cases h3 : who = who' <;> simp_all [sameD]
theorem eq10 (k f n c u k' f' n' c' u' : Int) (w : World) : (Op.equalIn 10000 62 (.agg #[.int .i64 k, .int .i64 f, .int .i64 n, .int .i64 c, .int .i64 u]) (.agg #[.int .i64 k', .int .i64 f', .int .i64 n', .int .i64 c', .int .i64 u'])).run Tryd.prog w = .ok (sameE ⟨k, ⟨f, n, c⟩, u⟩ ⟨k', ⟨f', n', c'⟩, u'⟩) w := eqE ⟨k, ⟨f, n, c⟩, u⟩ ⟨k', ⟨f', n', c'⟩, u'⟩ w
theorem sameE_yes {a b : PEv} (h : a = b) : sameE a b = true := decide_eq_true h
theorem sameE_no {a b : PEv} (h : a ≠ b) : sameE a b = false := decide_eq_false h
/-! ### The program -/
def note0 (i : Nat) : PNte := ⟨((i % 2 : Nat) : Int), 0, []⟩
def moreN (n : Nat) : List PNte := (List.range n).map note0
def bootN (n : Nat) : List PNte := [⟨0, 0, []⟩, ⟨1, 0, []⟩] ++ moreN n
def oneP (n : Nat) : PPrg := ⟨[⟨0, []⟩], [⟨[], 4, 0, true⟩, ⟨[], 4, -1, false⟩], bootN n, 5⟩
abbrev oneV (N : Nat) : Value := .agg #[.slice (some ⟨N + 1, 0, none⟩) 1 1, .slice (some ⟨N + 1 + 1, 0, none⟩) 2 2, .slice (some ⟨N + 1 + 1 + 1, 0, none⟩) 2 2, .int .i64 5]
/-- What one makes: the handlers' row, the actors', the notes'. -/
structure OneB (N : Nat) (w : World) : Prop where
  b1 : w.heap[N + 1]? = some (.cells #[.int .i64 0, .slice none 0 0] 81)
  b2 : w.heap[N + 1 + 1]? = some (.cells #[.slice none 0 0, .int .i64 4, .int .i64 0, .bool true, .slice none 0 0, .int .i64 4, .int .i64 (-1), .bool false] 83)
  b3 : w.heap[N + 1 + 1 + 1]? = some (.cells #[.int .i64 0, .int .i64 0, .slice none 0 0, .int .i64 1, .int .i64 0, .slice none 0 0] 54)
section
variable {N : Nat} {w w' : World}
theorem OneB.below (h : OneB N w) (hb : Below w.heap.size w w') : OneB N w' := ⟨boxAt h.b1 hb, boxAt h.b2 hb, boxAt h.b3 hb⟩
theorem OneB.top (h : OneB N w) : N + 1 + 1 + 1 < w.heap.size := (Array.getElem?_eq_some_iff.1 h.b3).1
theorem OneB.hs (h : OneB N w) : Hnds anyB anyB w (.slice (some ⟨N + 1, 0, none⟩) 1 1) [⟨0, []⟩] := by
  have t := h.top
  obtain ⟨c0, c1⟩ : w.cell? ⟨N + 1, 0, none⟩ = some (.int .i64 0) ∧ w.cell? ⟨N + 1, 1, none⟩ = some (.slice none 0 0) := ⟨by rw [cell_of_row _ _ _ _ _ _ h.b1]; rfl, by rw [cell_of_row _ _ _ _ _ _ h.b1]; rfl⟩
  refine ⟨_, 1, rfl, by simp, by simp, Or.inr ⟨N + 1, 0, rfl, trivial, by omega, fun j y hy => ?_⟩⟩
  match j, hy with
  | 0, hy => cases hy; exact ⟨c0, _, c1, ⟨_, _, rfl, by simp, by simp, Or.inl rfl⟩⟩
theorem OneB.acs (h : OneB N w) : Acts anyB anyB w (.slice (some ⟨N + 1 + 1, 0, none⟩) 2 2) [⟨[], 4, 0, true⟩, ⟨[], 4, -1, false⟩] := by
  have t := h.top
  obtain ⟨c0, c1, c2, c3, c4, c5, c6, c7⟩ := blk8 h.b2
  refine ⟨_, 2, rfl, by simp, by simp, Or.inr ⟨N + 1 + 1, 0, rfl, trivial, by omega, fun j y hy => ?_⟩⟩
  match j, hy with
  | 0, hy => cases hy; exact ⟨⟨_, c0, ⟨_, _, rfl, by simp, by simp, Or.inl rfl⟩⟩, c1, c2, c3⟩
  | 1, hy => cases hy; exact ⟨⟨_, c4, ⟨_, _, rfl, by simp, by simp, Or.inl rfl⟩⟩, c5, c6, c7⟩
theorem OneB.bs (h : OneB N w) : Ntes anyB anyB w (.slice (some ⟨N + 1 + 1 + 1, 0, none⟩) 2 2) (bootN 0) := by
  have t := h.top
  obtain ⟨c0, c1, c2, c3, c4, c5⟩ := blk6 h.b3
  refine ⟨_, 2, rfl, by simp [bootN, moreN], by simp [bootN, moreN], Or.inr ⟨N + 1 + 1 + 1, 0, rfl, trivial, by omega, fun j y hy => ?_⟩⟩
  match j, hy with
  | 0, hy => cases hy; exact ⟨c0, c1, _, c2, ⟨_, _, rfl, by simp, by simp, Or.inl rfl⟩⟩
  | 1, hy => cases hy; exact ⟨c3, c4, _, c5, ⟨_, _, rfl, by simp, by simp, Or.inl rfl⟩⟩
theorem OneB.prg (h : OneB N w) : PrgV w (oneV N) (oneP 0) := ⟨_, _, _, rfl, h.hs, h.acs, h.bs⟩
end
theorem one_four (W : World) (X1 X2 X3 X4 : Obj) : ((((W.alloc X1).alloc X2).alloc X3).alloc X4).heap[W.heap.size]? = some X1 ∧ ((((W.alloc X1).alloc X2).alloc X3).alloc X4).heap[W.heap.size + 1]? = some X2 ∧ ((((W.alloc X1).alloc X2).alloc X3).alloc X4).heap[W.heap.size + 1 + 1]? = some X3 ∧ ((((W.alloc X1).alloc X2).alloc X3).alloc X4).heap[W.heap.size + 1 + 1 + 1]? = some X4 :=
  let ⟨h1, h2, h3, h4, _⟩ := four_new W X1 X2 X3 X4
  ⟨h1, h2, h3, h4⟩
theorem one_mem (W : World) (X : Obj) : OneB W.heap.size ((((W.alloc X).alloc (.cells #[.int .i64 0, .slice none 0 0] 81)).alloc (.cells #[.slice none 0 0, .int .i64 4, .int .i64 0, .bool true, .slice none 0 0, .int .i64 4, .int .i64 (-1), .bool false] 83)).alloc (.cells #[.int .i64 0, .int .i64 0, .slice none 0 0, .int .i64 1, .int .i64 0, .slice none 0 0] 54)) := by
  obtain ⟨h0, h1, h2, h3⟩ := one_four W X (.cells #[.int .i64 0, .slice none 0 0] 81) (.cells #[.slice none 0 0, .int .i64 4, .int .i64 0, .bool true, .slice none 0 0, .int .i64 4, .int .i64 (-1), .bool false] 83) (.cells #[.int .i64 0, .int .i64 0, .slice none 0 0, .int .i64 1, .int .i64 0, .slice none 0 0] 54)
  exact ⟨h1, h2, h3⟩
set_option maxHeartbeats 2000000 in
theorem oneL_any (W : World) : Calls Tryd.prog 70 #[] W fun e w' => e = .returned (oneV W.heap.size) ∧ OneB W.heap.size w' ∧ Below W.heap.size W w' := by
  go_enter Tryd.func70, Tryd.ntmps70
  go_wp2
  have hM := one_mem W (.cells #[.slice (some ⟨W.heap.size + 1, 0, none⟩) 1 1, .slice (some ⟨W.heap.size + 1 + 1, 0, none⟩) 2 2, .slice (some ⟨W.heap.size + 1 + 1 + 1, 0, none⟩) 2 2, .int .i64 5] 26)
  obtain ⟨r0, r1, r2, r3⟩ := blk4 (one_four W (.cells #[.slice (some ⟨W.heap.size + 1, 0, none⟩) 1 1, .slice (some ⟨W.heap.size + 1 + 1, 0, none⟩) 2 2, .slice (some ⟨W.heap.size + 1 + 1 + 1, 0, none⟩) 2 2, .int .i64 5] 26) (.cells #[.int .i64 0, .slice none 0 0] 81) (.cells #[.slice none 0 0, .int .i64 4, .int .i64 0, .bool true, .slice none 0 0, .int .i64 4, .int .i64 (-1), .bool false] 83) (.cells #[.int .i64 0, .int .i64 0, .slice none 0 0, .int .i64 1, .int .i64 0, .slice none 0 0] 54)).1
  exact bodyPost_ret (v := oneV W.heap.size) (by simp [results, Tryd.results70, go_sem, r0, r1, r2, r3]) rfl ⟨rfl, hM, bAlloc (bAlloc (bAlloc (bAlloc (bRefl _) _) _) _) _⟩
/-! ### Plainly -/
theorem fc_one {n : Nat} (h : chk (oneP n) = 0) : fc (oneP n) = 0 := fc_of h fun x hx => by
  have : x ∈ [(⟨0, []⟩ : PHnd)] := hx
  simp at this; subst this; rfl
theorem le4 {P : Nat → Prop} {n : Nat} (hn : n ≤ 4) (h0 : P 0) (h1 : P 1) (h2 : P 2) (h3 : P 3) (h4 : P 4) : P n := by
  match n, hn with
  | 0, _ => exact h0
  | 1, _ => exact h1
  | 2, _ => exact h2
  | 3, _ => exact h3
  | 4, _ => exact h4
theorem one_chk {n : Nat} (hn : n ≤ 4) : chk (oneP n) = 0 := le4 (P := fun n => chk (oneP n) = 0) hn (by decide +kernel) (by decide +kernel) (by decide +kernel) (by decide +kernel) (by decide +kernel)
theorem one_fc {n : Nat} (hn : n ≤ 4) : fc (oneP n) = 0 := fc_one (one_chk hn)
theorem one_small {n : Nat} (hn : n ≤ 4) : Small (oneP n) := le4 (P := fun n => Small (oneP n)) hn (by decide +kernel) (by decide +kernel) (by decide +kernel) (by decide +kernel) (by decide +kernel)
def xn (n : Nat) : PWld := startP (oneP n)
theorem xn_acts {n : Nat} (hn : n ≤ 4) : (xn n).acts = [⟨[], true, 0, 0, 0⟩, ⟨[], false, 0, 0, 0⟩] := le4 (P := fun n => (xn n).acts = _) hn (by decide +kernel) (by decide +kernel) (by decide +kernel) (by decide +kernel) (by decide +kernel)
theorem xn_mail {n : Nat} (hn : n ≤ 4) : (xn n).mail.length = n + 2 := le4 (P := fun n => (xn n).mail.length = n + 2) hn (by decide +kernel) (by decide +kernel) (by decide +kernel) (by decide +kernel) (by decide +kernel)
theorem xn_used {n : Nat} (hn : n ≤ 4) : (xn n).used = ⟨0, 0, 0, 0⟩ := le4 (P := fun n => (xn n).used = ⟨0, 0, 0, 0⟩) hn (by decide +kernel) (by decide +kernel) (by decide +kernel) (by decide +kernel) (by decide +kernel)
theorem xn_sm {n : Nat} (hn : n ≤ 4) : SmW (xn n) := le4 (P := fun n => SmW (xn n)) hn ⟨by decide +kernel, by decide +kernel, by decide +kernel, by decide +kernel⟩ ⟨by decide +kernel, by decide +kernel, by decide +kernel, by decide +kernel⟩ ⟨by decide +kernel, by decide +kernel, by decide +kernel, by decide +kernel⟩ ⟨by decide +kernel, by decide +kernel, by decide +kernel, by decide +kernel⟩ ⟨by decide +kernel, by decide +kernel, by decide +kernel, by decide +kernel⟩
theorem xn_chk {n : Nat} (hn : n ≤ 4) : chkW (oneP n) (xn n) = true := start_chk (one_fc hn)
theorem xn_fits {n : Nat} (hn : n ≤ 4) {b : PBud} (hb : mayB b = true) : fitsP (oneP n) b (xn n) = true := by unfold fitsP; rw [hb, xn_chk hn]; rfl
def e0 : PEv := ⟨1, ⟨-1, 0, 0⟩, 0⟩
def e1 : PEv := ⟨1, ⟨-1, 1, 0⟩, 0⟩
def e2 : PEv := ⟨4, ⟨0, 0, 0⟩, 0⟩
def e3 : PEv := ⟨5, ⟨0, 0, 0⟩, 0⟩
def e4 : PEv := ⟨5, ⟨0, 0, 0⟩, 1⟩
theorem aw_l : enabP (oneP 0) ⟨0, 0, 1, 1⟩ (xn 0) = [e0, e1, e2, e3, e4] := by rw [enabP_yes (xn_fits (by decide) (by decide))]; decide +kernel
theorem aw_0 : (enabP (oneP 0) ⟨0, 0, 0, 0⟩ (xn 0)).length = 2 := by rw [enabP_yes (xn_fits (by decide) (by decide))]; decide +kernel
theorem isP_eq {p : PPrg} {b : PBud} {x : PWld} {e : PEv} (hf : fitsP p b x = true) : isP p b x e = isL (leftB b x.used) x e := by unfold isP; rw [hf]; rfl
theorem aw_1 : isP (oneP 0) ⟨0, 0, 0, 0⟩ (xn 0) ⟨1, ⟨-1, 0, 0⟩, 0⟩ = true := by rw [isP_eq (xn_fits (by decide) (by decide))]; decide +kernel
theorem aw_2 : isP (oneP 0) ⟨0, 0, 0, 0⟩ (xn 0) ⟨4, ⟨0, 0, 0⟩, 0⟩ = false := by rw [isP_eq (xn_fits (by decide) (by decide))]; decide +kernel
theorem aw_3 : leftB ⟨3, 1, 0, 0⟩ ⟨1, 2, 0, 0⟩ = ⟨2, 0, 0, 0⟩ := by decide +kernel
theorem aw_4 : mayB ⟨0, 0, 0, 0⟩ = true := by decide
theorem aw_5 : mayB ⟨0, 1001, 0, 0⟩ = false := by decide
end Go.Proofs.YtgdloonpemaijaaDoor
namespace Go.Proofs.YtgdloonpemaijaaDoor
open Go.RowKit
theorem run_max1 (P : Program) (w : World) (ts : Array TypeId) (t : TypeId) (a b : Int) : (Builtin.max_ ts t #[.int .i64 (wrap64 (a - b)), .int .i64 0]).run P w = .ok (.int .i64 (restI a b)) w := by
  rw [run_max_int2]
  unfold restI
  by_cases h : wrap64 (a - b) > 0
  · rw [if_pos h, if_neg (by omega)]
  · rw [if_neg h]
    by_cases h2 : 0 > wrap64 (a - b)
    · rw [if_pos h2]
    · rw [if_neg h2, show wrap64 (a - b) = 0 by omega]
section
attribute [local go_sem ↓] run_max1
theorem rlss_any (a b : Int) (w : World) : Calls Tryd.prog 80 #[.int .i64 a, .int .i64 b] w fun e w' => e = .returned (.int .i64 (restI a b)) ∧ w' = w := by
  go_enter Tryd.func80, Tryd.ntmps80
  go_wp2
  go_ret
  exact ⟨rfl, rfl⟩
end
set_option maxHeartbeats 8000000 in
set_option maxRecDepth 100000 in
theorem rLeft_any (w : World) (b u : PBud) (A1 : Option Addr) (n1 c1 : Nat) (A2 : Option Addr) (n2 c2 : Nat) : Calls Tryd.prog 36 #[uVal b, wVal u (.slice A1 n1 c1) (.slice A2 n2 c2)] w fun e w' => e = .returned (uVal (leftB b u)) ∧ Below w.heap.size w w' := by
  go_enter Tryd.func36, Tryd.ntmps36
  go_wp2_with fail
  obtain ⟨h0, h1, h2, h3, h4⟩ := four_new w (.cells #[.int .i64 b.drop, .int .i64 b.dup, .int .i64 b.time, .int .i64 b.crash] 42) (.cells #[.slice A1 n1 c1, .slice A2 n2 c2, .int .i64 u.drop, .int .i64 u.dup, .int .i64 u.time, .int .i64 u.crash] 44) (.cells #[.int .i64 0, .int .i64 0, .int .i64 0, .int .i64 0] 42) (.cells #[.int .i64 u.drop, .int .i64 u.dup, .int .i64 u.time, .int .i64 u.crash] 42)
  have HL : Hid (Below w.heap.size w ((((w.alloc (.cells #[.int .i64 b.drop, .int .i64 b.dup, .int .i64 b.time, .int .i64 b.crash] 42)).alloc (.cells #[.slice A1 n1 c1, .slice A2 n2 c2, .int .i64 u.drop, .int .i64 u.dup, .int .i64 u.time, .int .i64 u.crash] 44)).alloc (.cells #[.int .i64 0, .int .i64 0, .int .i64 0, .int .i64 0] 42)).alloc (.cells #[.int .i64 u.drop, .int .i64 u.dup, .int .i64 u.time, .int .i64 u.crash] 42))) := bAlloc (bAlloc (bAlloc (bAlloc (bRefl _) _) _) _) _
  generalize ((((w.alloc (.cells #[.int .i64 b.drop, .int .i64 b.dup, .int .i64 b.time, .int .i64 b.crash] 42)).alloc (.cells #[.slice A1 n1 c1, .slice A2 n2 c2, .int .i64 u.drop, .int .i64 u.dup, .int .i64 u.time, .int .i64 u.crash] 44)).alloc (.cells #[.int .i64 0, .int .i64 0, .int .i64 0, .int .i64 0] 42)).alloc (.cells #[.int .i64 u.drop, .int .i64 u.dup, .int .i64 u.time, .int .i64 u.crash] 42)) = w1 at h0 h1 h2 h3 h4 HL ⊢
  obtain ⟨p0, p1, p2, p3⟩ := blk4 h0
  obtain ⟨q0, q1, q2, q3⟩ := blk4 h3
  obtain ⟨r0, r1, r2, r3⟩ := blk4 h2
  have ff : ∀ o, w1.frozen? ⟨w.heap.size + 1 + 1, o, none⟩ = false := fun o => heap_frozen h2
  have fd : ∀ o, w1.drew.frozen? ⟨w.heap.size + 1 + 1, o, none⟩ = false := ff
  have z3 : w.heap.size + 1 + 1 + 1 < w1.heap.size := by omega
  have z2 : w.heap.size + 1 + 1 < w1.heap.size := by omega
  have z0 : w.heap.size < w1.heap.size := by omega
  have n1 : ¬ (w.heap.size + 1 + 1 = w.heap.size) := by omega
  have n2 : ¬ (w.heap.size = w.heap.size + 1 + 1) := by omega
  clear h0 h1 h2 h3 h4
  go_region_held3 (fun w' => w'.cell? ⟨w.heap.size, 0, none⟩ = some (.int .i64 b.drop) ∧ w'.cell? ⟨w.heap.size, 1, none⟩ = some (.int .i64 b.dup) ∧ w'.cell? ⟨w.heap.size, 2, none⟩ = some (.int .i64 b.time) ∧ w'.cell? ⟨w.heap.size, 3, none⟩ = some (.int .i64 b.crash) ∧ w'.cell? ⟨w.heap.size + 1 + 1 + 1, 0, none⟩ = some (.int .i64 u.drop) ∧ w'.cell? ⟨w.heap.size + 1 + 1 + 1, 1, none⟩ = some (.int .i64 u.dup) ∧ w'.cell? ⟨w.heap.size + 1 + 1 + 1, 2, none⟩ = some (.int .i64 u.time) ∧ w'.cell? ⟨w.heap.size + 1 + 1 + 1, 3, none⟩ = some (.int .i64 u.crash)) (go_keep)
    (first
      | (go_at_call 80; refine (rlss_any _ _ _).mono ?_; rintro e w2 ⟨rfl, rfl⟩))
  all_goals
    go_wp2_with fail
    exact bodyPost_ret (v := uVal (leftB b u)) (by simp [results, Tryd.results36, go_sem, r0, r1, r2, r3, leftB]) rfl ⟨rfl, left_below HL.out.drew⟩
def fourB (b : PBud) : List Int := [b.drop, b.dup, b.time, b.crash]
theorem mayB_all (b : PBud) : mayB b = (fourB b).all (fun n => inB n 0 1000) := by unfold mayB fourB; simp
set_option maxHeartbeats 2000000 in
theorem rMay_any (w : World) (b : PBud) : Calls Tryd.prog 38 #[uVal b] w fun e w' => e = .returned (.bool (mayB b)) ∧ Below w.heap.size w w' := by
  have HMB := hid_mk (mayB_all b)
  go_enter Tryd.func38, Tryd.ntmps38
  go_wp2
  have hk := heap_new2 (w := w.alloc (.cells #[.int .i64 b.drop, .int .i64 b.dup, .int .i64 b.time, .int .i64 b.crash] 42)) (o := .cells #[.int .i64 b.drop, .int .i64 b.dup, .int .i64 b.time, .int .i64 b.crash] 3) (n := w.heap.size + 1) (by simp)
  have HL : Hid (Below w.heap.size w ((w.alloc (.cells #[.int .i64 b.drop, .int .i64 b.dup, .int .i64 b.time, .int .i64 b.crash] 42)).alloc (.cells #[.int .i64 b.drop, .int .i64 b.dup, .int .i64 b.time, .int .i64 b.crash] 3))) := bAlloc (bAlloc (bRefl _) _) _
  generalize ((w.alloc (.cells #[.int .i64 b.drop, .int .i64 b.dup, .int .i64 b.time, .int .i64 b.crash] 42)).alloc (.cells #[.int .i64 b.drop, .int .i64 b.dup, .int .i64 b.time, .int .i64 b.crash] 3)) = w1 at hk HL ⊢
  have HC : Hid (∀ k x, (fourB b)[k]? = some x → w1.cell? ⟨w.heap.size + 1, k, none⟩ = some (.int .i64 x)) := fun k x hx => by
    rw [cell_of_row _ _ _ _ _ _ hk]
    match k, hx with
    | 0, hx => cases hx; rfl
    | 1, hx => cases hx; rfl
    | 2, hx => cases hx; rfl
    | 3, hx => cases hx; rfl
  clear hk
  go_loopg [4] 4 (fun g i4 wr => ∃ k : Nat, g = 4 - k ∧ k ≤ 4 ∧ i4 = .int .i64 (k : Int) ∧ wr = w1 ∧ Hid (∀ j x, j < k → (fourB b)[j]? = some x → inB x 0 1000 = true))
  case atStart => exact ⟨0, rfl, by omega, rfl, rfl, fun j x hj => by omega⟩
  case round =>
    obtain ⟨k, rfl, hk, rfl, rfl, ht⟩ := hrel
    by_cases hlt : k < 4
    · obtain ⟨x, hx⟩ := at_lt (l := fourB b) (k := k) hlt
      have hc := HC.out k x hx
      have hltI : (k : Int) < 4 := by omega
      have HX := hid_mk hx
      clear hx
      by_cases h0 : x < 0
      · have h0d : decide (x < 0) = true := decide_eq_true h0
        have HR : Hid (false = mayB b) := by
          show _ = _
          rw [HMB.out]
          symm
          rw [Bool.eq_false_iff]
          intro h
          have := List.all_eq_true.1 h x (List.mem_of_getElem? HX.out)
          have := inB_iff.1 this
          omega
        clear h0
        go_wp2
        go_ret
        exact ⟨ret_b HR.out, HL.out⟩
      · have h0d : decide (x < 0) = false := decide_eq_false h0
        by_cases h1 : 1000 < x
        · have h1d : decide (1000 < x) = true := decide_eq_true h1
          have HR : Hid (false = mayB b) := by
            show _ = _
            rw [HMB.out]
            symm
            rw [Bool.eq_false_iff]
            intro h
            have := List.all_eq_true.1 h x (List.mem_of_getElem? HX.out)
            have := inB_iff.1 this
            omega
          clear h0 h1
          go_wp2
          go_ret
          exact ⟨ret_b HR.out, HL.out⟩
        · have h1d : decide (1000 < x) = false := decide_eq_false h1
          have HIN : Hid (inB x 0 1000 = true) := in_yes ⟨by omega, by omega⟩
          clear h0 h1
          go_wp2
          go_roundg (4 - (k + 1))
          case measure => omega
          case rel => exact ⟨k + 1, rfl, by omega, by first | rfl | go_num, rfl, fun j y hj hy => by
              by_cases ej : j = k
              · subst ej; have := HX.out; rw [hy] at this; cases this; exact HIN.out
              · exact ht.out j y (by omega) hy⟩
    · obtain rfl : k = 4 := by omega
      have HR : Hid (true = mayB b) := by
        show _ = _
        rw [HMB.out]
        symm
        refine List.all_eq_true.2 fun x hx => ?_
        obtain ⟨j, hj⟩ := List.getElem?_of_mem hx
        exact ht.out j x (List.getElem?_eq_some_iff.1 hj).1 hj
      go_wp2
      go_ret
      exact ⟨ret_b HR.out, HL.out⟩
theorem Evs.cell {ok : Nat → Prop} {w wr : World} {A : Option Addr} {n c : Nat} {l : List PEv} (h : Evs ok w (.slice A n c) l) (hb : Below w.heap.size w wr) {k : Nat} (hk : k < l.length) :
    ∃ b o x, A = some ⟨b, o, none⟩ ∧ l[k]? = some x ∧ b < wr.heap.size ∧ wr.cell? ⟨b, o + k * 5, none⟩ = some (.int .i64 x.kind) ∧ wr.cell? ⟨b, o + k * 5 + 1, none⟩ = some (.int .i64 x.id.f) ∧ wr.cell? ⟨b, o + k * 5 + 2, none⟩ = some (.int .i64 x.id.n) ∧ wr.cell? ⟨b, o + k * 5 + 3, none⟩ = some (.int .i64 x.id.c) ∧ wr.cell? ⟨b, o + k * 5 + 4, none⟩ = some (.int .i64 x.who) := by
  obtain ⟨x, hx⟩ := at_lt hk
  obtain ⟨b, o, rfl, _, hlt, hc⟩ := h.at (by omega)
  obtain ⟨h1, h2, h3, h4, h5⟩ := hc k x hx
  exact ⟨b, o, x, rfl, hx, Nat.lt_of_lt_of_le hlt hb.size, (hb.cell (p := ⟨b, _, none⟩) hlt).trans h1, (hb.cell (p := ⟨b, _, none⟩) hlt).trans h2, (hb.cell (p := ⟨b, _, none⟩) hlt).trans h3, (hb.cell (p := ⟨b, _, none⟩) hlt).trans h4, (hb.cell (p := ⟨b, _, none⟩) hlt).trans h5⟩
section
attribute [local go_sem ↓] Go.wp_at_zero Go.wp_at_succ eq10
set_option maxHeartbeats 2000000 in
theorem aev_any (w : World) (v1 v2 : Value) (l1 l2 : List PEv) (h1 : Evs anyB w v1 l1) (h2 : Evs anyB w v2 l2) :
    Calls Tryd.prog 77 #[v1, v2] w fun e w' => e = .returned (.bool (decide (l1 = l2))) ∧ ∃ n, w' = w.drewN n := by
  obtain ⟨A1, c1, rfl, _⟩ := h1.form
  obtain ⟨A2, c2, rfl, _⟩ := h2.form
  have hgE := gE
  by_cases hl : l1.length = l2.length
  · have hln := lt_eq hl
    have HLN := hid_mk hl
    clear hl
    go_enter Tryd.func77, Tryd.ntmps77
    go_wp2
    go_loopg [5] l1.length (fun n i5 wr => ∃ k : Nat, n = l1.length - k ∧ k ≤ l1.length ∧ i5 = .int .i64 k ∧ Hid (∀ (j : Nat), j < k → l1[j]? = l2[j]?) ∧ Hid (∃ q, wr = w.drewN q))
    case atStart => exact ⟨0, rfl, by omega, rfl, fun j hj => by omega, quiet_refl _⟩
    case round =>
      obtain ⟨k, rfl, hk, rfl, ht, hq⟩ := hrel
      have hb := quiet_below hq.out
      by_cases hlt : k < l1.length
      · obtain ⟨b1, o1, x, rfl, hx, hz1, e0, e1, e2, e3, e4⟩ := h1.cell hb hlt
        obtain ⟨b2, o2, y, rfl, hy, hz2, f0, f1, f2, f3, f4⟩ := h2.cell hb (k := k) (by have := HLN.out; omega)
        have hltI : (k : Int) < l1.length := by omega
        have hlt2 : k < l2.length := by have := HLN.out; omega
        have hltI2 : (k : Int) < l2.length := by omega
        have HX := hid_mk hx
        have HY := hid_mk hy
        clear hx hy hb
        by_cases e : x = y
        · have e5 : sameE ⟨x.kind, ⟨x.id.f, x.id.n, x.id.c⟩, x.who⟩ ⟨y.kind, ⟨y.id.f, y.id.n, y.id.c⟩, y.who⟩ = true := sameE_yes e
          have HE := hid_mk e
          clear e
          go_wp2
          go_quiet (fail)
          go_wp2
          go_roundg (l1.length - (k + 1))
          case measure => omega
          case rel => exact ⟨k + 1, rfl, by omega, by first | rfl | go_num, fun j hj => by
              by_cases ej : j = k
              · subst ej; rw [HX.out, HY.out, HE.out]
              · exact ht.out j (by omega), quiet_next hq.out _⟩
        · have e5 : sameE ⟨x.kind, ⟨x.id.f, x.id.n, x.id.c⟩, x.who⟩ ⟨y.kind, ⟨y.id.f, y.id.n, y.id.c⟩, y.who⟩ = false := sameE_no e
          have HE : Hid (¬ l1 = l2) := fun h => e (by have := HX.out; rw [h, HY.out] at this; exact (Option.some.inj this).symm)
          clear e
          go_wp2
          go_quiet (fail)
          go_wp2
          go_ret
          exact ⟨ret_b (decide_eq_false HE.out).symm, quiet_next hq.out _⟩
      · go_wp2
        go_ret
        refine ⟨ret_b (decide_eq_true (List.ext_getElem? fun j => ?_)).symm, hq.out⟩
        by_cases hj : j < l1.length
        · exact ht.out j (by omega)
        · rw [List.getElem?_eq_none (by omega), List.getElem?_eq_none (by have := HLN.out; omega)]
  · have hln := lt_ne hl
    have HNE : Hid (¬ l1 = l2) := fun h => hl (by rw [h])
    clear hl
    go_enter Tryd.func77, Tryd.ntmps77
    go_wp2
    go_ret
    exact ⟨ret_b (decide_eq_false HNE.out).symm, quiet_refl _⟩
end
theorem lsame_any (w : World) (v1 v2 : Value) (l1 l2 : List PEv) (h1 : Evs anyB w v1 l1) (h2 : Evs anyB w v2 l2) :
    Calls Tryd.prog 32 #[v1, v2] w fun e w' => e = .returned (.bool (decide (l1 = l2))) ∧ ∃ n, w' = w.drewN n := by
  obtain ⟨A1, c1, rfl, _⟩ := h1.form
  obtain ⟨A2, c2, rfl, _⟩ := h2.form
  go_enter Tryd.func32, Tryd.ntmps32
  go_wp2_with (first | (go_at_call 77; refine (aev_any _ _ _ l1 l2 h1 h2).mono ?_; rintro e w2 ⟨rfl, hq⟩))
  go_ret
  exact ⟨rfl, hq⟩
end Go.Proofs.YtgdloonpemaijaaDoor
