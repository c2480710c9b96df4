/-
  Notes that an actor of the laws' program sends later: those that find room stand behind the start's, in order. Conditions: few notes.
-/
import Derived.Test.YtflpkdhmkgidiaaDoorWo
namespace Go.Proofs.YtflpkdhmkgidiaaDoor
open Go.RowKit
def noteL (i : Nat) : PNte := ⟨1, 0, [(i : Int)]⟩
def later (m : Nat) : List PNte := (List.range m).map noteL
def msgL (i : Nat) : PMsg := ⟨⟨0, (i : Int), 0⟩, noteL i⟩
def msgsL (m : Nat) : List PMsg := (List.range m).map msgL
theorem later_len (m : Nat) : (later m).length = m := by simp [later]
theorem later_at {m k : Nat} (h : k < m) : (later m)[k]? = some (noteL k) := by unfold later; rw [List.getElem?_map, List.getElem?_range h]; rfl
theorem msgsL_succ (m : Nat) : msgsL (m + 1) = msgsL m ++ [msgL m] := by unfold msgsL; rw [List.range_succ, List.map_append]; rfl
theorem msgsL_len (m : Nat) : (msgsL m).length = m := by simp [msgsL]
theorem msgsL_mem {m : Nat} {y : PMsg} (h : y ∈ msgsL m) : ∃ i, i < m ∧ y = msgL i := by
  obtain ⟨i, hi, rfl⟩ := List.mem_map.1 h
  exact ⟨i, List.mem_range.1 hi, rfl⟩
theorem putP_end {l : List PMsg} {m : PMsg} (h : ∀ y ∈ l, lessD y.id m.id = true) : putP l m = l ++ [m] := by
  have e : plc l m.id = l.length := plc_end fun j y hy => h y (List.mem_of_getElem? hy)
  unfold putP
  rw [e, List.take_of_length_le (Nat.le_refl _), List.drop_of_length_le (Nat.le_refl _)]
theorem toN_app (a b : List PMsg) (who : Int) : toN (a ++ b) who = toN a who + toN b who := by unfold toN; exact List.countP_append
theorem toN_L (m : Nat) : toN (msgsL m) 1 = m := by
  induction m with
  | zero => rfl
  | succ m ih => rw [msgsL_succ, toN_app, ih]; rfl
/-- Behind k later notes. -/
structure SI (most b more : Nat) (M0 : List PMsg) (o0 o1 : Nat) (k : Nat) (x : PWld) : Prop where
  acts : x.acts = [⟨[4], false, 0, (more : Int), (o0 : Int)⟩, ⟨[], false, 0, 0, ((o1 + (k - (min (b + k) most - b)) : Nat) : Int)⟩]
  mail : x.mail = M0 ++ msgsL (min (b + k) most - b)
  used : x.used = ⟨0, 0, 0, 0⟩
theorem si_step {N most b more o0 o1 k : Nat} {M0 : List PMsg} {x : PWld} (h : SI most b more M0 o0 o1 k x) (hb : b ≤ most) (h1 : toN M0 1 = b) (hids : ∀ m ∈ M0, m.id.f = -1) (hk : k < 20) (ho : o1 ≤ 16) (hm : most ≤ 16) :
    SI most b more M0 o0 o1 (k + 1) (stepN (twoP N most) 0 0 2 x k (noteL k)) := by
  have hw : wrap64 (0 + (k : Int)) = k := by rw [Int.zero_add]; exact wrapS (by omega) (by omega)
  have hst : stepN (twoP N most) 0 0 2 x k (noteL k) = postP (twoP N most) x (msgL k) 1 := by
    rw [step_yes (in_yes (by show (0 : Int) ≤ 1 ∧ (1 : Int) ≤ ((2 : Nat) : Int) - 1; omega)) (by show (1 : Int) < ((2 : Nat) : Int); omega), hw]
    rfl
  rw [hst]
  have ht : toN x.mail 1 = b + (min (b + k) most - b) := by rw [h.mail, toN_app, toN_L, h1]
  unfold postP roomB
  rw [cap1, show (msgL k).nt.to = 1 from rfl, ht]
  by_cases hr : min (b + k) most < most
  · have ec : min (b + k) most - b = k := by omega
    have hless : ∀ y ∈ x.mail, lessD y.id (msgL k).id = true := fun y hy => by
      rw [h.mail, ec] at hy
      rw [lessD_iff]
      rcases List.mem_append.1 hy with hy | hy
      · left; rw [hids y hy]; show (-1 : Int) < 0; omega
      · obtain ⟨i, hi, rfl⟩ := msgsL_mem hy
        right; exact ⟨rfl, Or.inl (by show (i : Int) < k; omega)⟩
    have hf : fnd x.mail (msgL k).id = -1 := fnd_iff.2 fun y hy => less_ne (hless y hy)
    rw [if_pos (by simp [hf]; omega)]
    refine ⟨?_, ?_, h.used⟩
    · show x.acts = _
      rw [h.acts]
      have e : o1 + (k - (min (b + k) most - b)) = o1 + (k + 1 - (min (b + (k + 1)) most - b)) := by omega
      rw [e]
    · show putP x.mail (msgL k) = _
      rw [putP_end hless, h.mail, ec, show min (b + (k + 1)) most - b = k + 1 by omega, msgsL_succ, List.append_assoc]
  · rw [if_neg (by simp; omega)]
    refine ⟨?_, ?_, h.used⟩
    · show x.acts.set 1 _ = _
      rw [h.acts]
      show [_, _] = [_, _]
      rw [show (([⟨[4], false, 0, (more : Int), (o0 : Int)⟩, ⟨[], false, 0, 0, ((o1 + (k - (min (b + k) most - b)) : Nat) : Int)⟩] : List PLoc).getD 1 default) = ⟨[], false, 0, 0, ((o1 + (k - (min (b + k) most - b)) : Nat) : Int)⟩ from rfl]
      dsimp only
      rw [wrapS (by omega) (by omega)]
      have e : ((o1 + (k - (min (b + k) most - b)) : Nat) : Int) + 1 = ((o1 + (k + 1 - (min (b + (k + 1)) most - b)) : Nat) : Int) := by omega
      rw [e]
    · show x.mail = _
      rw [h.mail, show min (b + k) most - b = min (b + (k + 1)) most - b by omega]
/-- All of the later notes. -/
theorem later_send {N most b more o0 o1 : Nat} {x : PWld} (hx : x.acts = [⟨[4], false, 0, (more : Int), (o0 : Int)⟩, ⟨[], false, 0, 0, (o1 : Int)⟩]) (hu : x.used = ⟨0, 0, 0, 0⟩) (hb : b ≤ most) (h1 : toN x.mail 1 = b) (hids : ∀ m ∈ x.mail, m.id.f = -1) (hmo : more ≤ 20) (ho : o1 ≤ 16) (hm : most ≤ 16) :
    SI most b more x.mail o0 o1 more (sendP (twoP N most) x 0 (later more)) := by
  have hl : x.acts.length = 2 := by rw [hx]; rfl
  have e : inB 0 (-1) ((x.acts.length : Int) - 1) = true := in_yes ⟨by omega, by rw [hl]; show (0 : Int) ≤ ((2 : Nat) : Int) - 1; omega⟩
  rw [send_yes e]
  have hs : sentP x 0 = (more : Int) := by unfold sentP; rw [hx]; rfl
  have hf : firstP x 0 (later more).length = 0 := by
    unfold firstP
    rw [if_neg (by omega), hs, later_len, Int.sub_self]; exact wrapS (by omega) (by omega)
  rw [hf, hl, later_len]
  have key : ∀ k, k ≤ more → SI most b more x.mail o0 o1 k (sendT (twoP N most) 0 0 2 x (later more) k) := by
    intro k
    induction k with
    | zero =>
      intro _
      refine ⟨?_, ?_, hu⟩
      · show x.acts = _; rw [hx, show o1 + (0 - (min (b + 0) most - b)) = o1 by omega]
      · show x.mail = _; rw [show min (b + 0) most - b = 0 by omega]; simp [msgsL]
    | succ k ih =>
      intro hk
      rw [step_at (later_at (by omega))]
      exact si_step (ih (by omega)) hb h1 hids (by omega) ho hm
  exact key more (Nat.le_refl _)
theorem lessL {a b : Nat} (h : a < b) : lessD (msgL a).id (msgL b).id = true := lessD_iff.2 (Or.inr ⟨rfl, Or.inl (by show (a : Int) < (b : Int); omega)⟩)
theorem srt_L (m : Nat) : (msgsL m).Pairwise (fun x y => lessD x.id y.id = true) := by
  unfold msgsL
  rw [List.pairwise_map]
  exact List.Pairwise.imp (R := (· < ·)) (fun h => lessL h) List.pairwise_lt_range
/-- The world behind the later notes may be. -/
theorem room_chk {N most b more o0 o1 : Nat} {x : PWld} (hN : N ≤ 16) (hm : most ≤ 16) (hmo : more ≤ 20) (ho0 : o0 ≤ 16) (ho1 : o1 ≤ 16) (h : SI most b more (startP (twoP N most)).mail o0 o1 more x) : chkW (twoP N most) x = true := by
  have hf := fc_two (two_chk (N := N) (most := most) hN hm)
  have hp := chk_parts (fc_chk hf)
  have hi := start_inv hp
  have hbl : (twoP N most).bs.length ≤ 16 := by show (boots N).length ≤ 16; rw [boots_len]; exact hN
  have hl : x.acts.length = 2 := by rw [h.acts]; rfl
  have h1 : chkAs (twoP N most) x.acts = true := by
    unfold chkAs
    refine decide_eq_true ⟨hl, fun i hi => ?_⟩
    rw [hl] at hi
    rcases (by omega : i = 0 ∨ i = 1) with rfl | rfl
    · rw [h.acts]
      show chkLoc ⟨[4], most, -1, false⟩ ⟨[4], false, 0, (more : Int), (o0 : Int)⟩ = true
      unfold chkLoc
      dsimp only
      rw [in_yes (by omega), in_yes (by omega), in_yes (by omega)]
      rfl
    · rw [h.acts]
      show chkLoc ⟨[], most, -1, false⟩ ⟨[], false, 0, 0, ((o1 + (more - (min (b + more) most - b)) : Nat) : Int)⟩ = true
      unfold chkLoc
      dsimp only
      rw [in_yes (by omega), in_yes (by omega), in_yes (by omega)]
      rfl
  have h2 : chkM (twoP N most) x = true := by
    have hsr : srt x.mail = true := by
      rw [srt_pw, h.mail, List.pairwise_append]
      refine ⟨(srt_pw _).1 hi.srt, srt_L _, fun u hu v hv => ?_⟩
      obtain ⟨j, _, rfl⟩ := msgsL_mem hv
      exact lessD_iff.2 (Or.inl (by rw [(hi.mail u hu).2.1]; show (-1 : Int) < 0; omega))
    unfold chkM
    rw [hsr, Bool.and_true, List.all_eq_true]
    intro m hmm
    rw [h.mail] at hmm
    rcases List.mem_append.1 hmm with hmm | hmm
    · obtain ⟨m1, m2, m3, m4, m5⟩ := hi.mail m hmm
      rw [hp.bs m.nt m1, Bool.true_and]
      unfold chkD
      have hs : sentP x m.id.f = 16 := by unfold sentP; rw [m2, if_pos rfl]
      rw [hs, m2, m5, h.used, hl, show wrap64 (16 - 1) = 15 from wrapS (by omega) (by omega), in_yes (by show (-1 : Int) ≤ -1 ∧ (-1 : Int) ≤ ((2 : Nat) : Int) - 1; omega), in_yes (by omega), in_yes (by show (0 : Int) ≤ 0 ∧ (0 : Int) ≤ 0; omega)]
      rfl
    · obtain ⟨j, hj, rfl⟩ := msgsL_mem hmm
      have hn : chkNt (twoP N most) (msgL j).nt = true := rfl
      rw [hn, Bool.true_and]
      unfold chkD
      have hs : sentP x (msgL j).id.f = (more : Int) := by unfold sentP; rw [h.acts]; rfl
      rw [hs, h.used, hl, show (msgL j).id = ⟨0, (j : Int), 0⟩ from rfl]
      dsimp only
      rw [wrapS (n := (more : Int) - 1) (by omega) (by omega), in_yes (by show (-1 : Int) ≤ 0 ∧ (0 : Int) ≤ ((2 : Nat) : Int) - 1; omega), in_yes (by omega), in_yes (by omega)]
      rfl
  unfold chkW
  rw [h1, h2, h.used, hf]
  decide
end Go.Proofs.YtflpkdhmkgidiaaDoor
