/-
  What is listed is just what may happen, each once, in order, plainly; the reference's Before. No conditions.
-/
import Derived.Test.YtflpkdhmkgidiaaDoorE9
namespace Go.Proofs.YtflpkdhmkgidiaaDoor
open Go.RowKit
def befE (x y : PEv) : Bool := decide (x.kind < y.kind ∨ (x.kind = y.kind ∧ (lessD x.id y.id = true ∨ (x.id = y.id ∧ x.who < y.who))))
theorem befE_iff {x y : PEv} : befE x y = true ↔ x.kind < y.kind ∨ (x.kind = y.kind ∧ (lessD x.id y.id = true ∨ (x.id = y.id ∧ x.who < y.who))) := by unfold befE; rw [decide_eq_true_eq]
section
attribute [local go_sem ↓] Go.wp_at_zero Go.wp_at_succ eq6
set_option maxHeartbeats 1000000 in
theorem rbefore_any (x y : PEv) (w : World) : Calls Tryd.prog 32 #[eVal x, eVal y] w fun e w' => e = .returned (.bool (befE x y)) ∧ Below w.heap.size w w' := by
  have HF : Hid (∀ (z : Bool), (z = true ↔ x.kind < y.kind ∨ (x.kind = y.kind ∧ (lessD x.id y.id = true ∨ (x.id = y.id ∧ x.who < y.who)))) → z = befE x y) := fun z hz => Bool.eq_iff_iff.2 (hz.trans befE_iff.symm)
  have hgD := gD
  by_cases h1 : x.kind = y.kind
  · have e1 := ne_no h1
    have H1 : Hid (x.kind = y.kind) := h1
    clear h1
    by_cases h2 : x.id = y.id
    · have e2 : sameD ⟨x.id.f, x.id.n, x.id.c⟩ ⟨y.id.f, y.id.n, y.id.c⟩ = true := sameD_yes h2
      have H2 : Hid (x.id = y.id) := h2
      clear h2
      go_enter Tryd.func32, Tryd.ntmps32
      go_wp2_with (go_at_call 65; refine (rless_any x.id y.id _).mono ?_; rintro e w2 ⟨rfl, hb2⟩)
      go_ret
      exact ⟨ret_b (HF.out _ (by
        have a1 := H1.out
        have a2 := H2.out
        have a3 : ¬ lessD x.id y.id = true := by rw [a2, lessD_iff]; omega
        rw [decide_eq_true_eq]
        constructor
        · intro h; exact Or.inr ⟨a1, Or.inr ⟨a2, h⟩⟩
        · rintro (h | ⟨_, h | ⟨_, h⟩⟩)
          · omega
          · exact absurd h a3
          · exact h)), bAlloc (bAlloc (bRefl _) _) _⟩
    · have e2 : sameD ⟨x.id.f, x.id.n, x.id.c⟩ ⟨y.id.f, y.id.n, y.id.c⟩ = false := sameD_no h2
      have H2 : Hid (x.id ≠ y.id) := h2
      clear h2
      go_enter Tryd.func32, Tryd.ntmps32
      go_wp2_with (go_at_call 65; refine (rless_any x.id y.id _).mono ?_; rintro e w2 ⟨rfl, hb2⟩)
      go_ret
      exact ⟨ret_b (HF.out _ (by
        have a1 := H1.out
        have a2 := H2.out
        constructor
        · intro h; exact Or.inr ⟨a1, Or.inl h⟩
        · rintro (h | ⟨_, h | ⟨h, _⟩⟩)
          · omega
          · exact h
          · exact absurd h a2)), bTrans (bAlloc (bAlloc (bRefl _) _) _) hb2⟩
  · have e1 := ne_yes h1
    have H1 : Hid (x.kind ≠ y.kind) := h1
    clear h1
    go_enter Tryd.func32, Tryd.ntmps32
    go_wp2_with (go_at_call 65; refine (rless_any x.id y.id _).mono ?_; rintro e w2 ⟨rfl, hb2⟩)
    go_ret
    exact ⟨ret_b (HF.out _ (by have := H1.out; rw [decide_eq_true_eq]; constructor; (· intro h; exact Or.inl h); (· rintro (h | ⟨h, _⟩); exact h; exact absurd h this))), bAlloc (bAlloc (bRefl _) _) _⟩
end
/-! ### Plainly -/
theorem mem_gM {l : PBud} {x : PWld} {k : Nat} {e : PEv} : e ∈ gM l x k x.mail.length ↔ ∃ m ∈ x.mail, ofM l x k m = true ∧ e = ⟨(k : Int), m.id, 0⟩ := by
  unfold gM
  rw [List.take_length]
  simp only [List.mem_map, List.mem_filter]
  constructor
  · rintro ⟨m, ⟨h1, h2⟩, rfl⟩; exact ⟨m, h1, h2, rfl⟩
  · rintro ⟨m, h1, h2, rfl⟩; exact ⟨m, ⟨h1, h2⟩, rfl⟩
theorem mem_gA {l : PBud} {x : PWld} {k : Nat} {e : PEv} : e ∈ gA l x k x.acts.length ↔ ∃ j, j < x.acts.length ∧ ofA l k (x.acts.getD j default) = true ∧ e = ⟨(k : Int), ⟨0, 0, 0⟩, (j : Int)⟩ := by
  unfold gA
  simp only [List.mem_map, List.mem_filter, List.mem_range]
  constructor
  · rintro ⟨j, ⟨h1, h2⟩, rfl⟩; exact ⟨j, h1, h2, rfl⟩
  · rintro ⟨j, h1, h2, rfl⟩; exact ⟨j, ⟨h1, h2⟩, rfl⟩
theorem mem_enP {l : PBud} {x : PWld} {e : PEv} : ∀ n, e ∈ enP l x n ↔ ∃ k, 1 ≤ k ∧ k ≤ n ∧ e ∈ gM l x k x.mail.length
  | 0 => by
    constructor
    · intro h; cases h
    · rintro ⟨k, h1, h2, _⟩; omega
  | n + 1 => by
    rw [enP, List.mem_append, mem_enP n]
    constructor
    · rintro (⟨k, h1, h2, h3⟩ | h)
      · exact ⟨k, h1, by omega, h3⟩
      · exact ⟨n + 1, by omega, Nat.le_refl _, h⟩
    · rintro ⟨k, h1, h2, h3⟩
      by_cases e : k = n + 1
      · subst e; exact Or.inr h3
      · exact Or.inl ⟨k, h1, by omega, h3⟩
theorem mem_enQ {l : PBud} {x : PWld} {e : PEv} : ∀ n, e ∈ enQ l x n ↔ e ∈ enP l x 3 ∨ ∃ k, 4 ≤ k ∧ k < n + 4 ∧ e ∈ gA l x k x.acts.length
  | 0 => by
    constructor
    · intro h; exact Or.inl h
    · rintro (h | ⟨k, h1, h2, _⟩)
      · exact h
      · omega
  | n + 1 => by
    rw [enQ, List.mem_append, mem_enQ n]
    constructor
    · rintro ((h | ⟨k, h1, h2, h3⟩) | h)
      · exact Or.inl h
      · exact Or.inr ⟨k, h1, by omega, h3⟩
      · exact Or.inr ⟨n + 4, by omega, by omega, h⟩
    · rintro (h | ⟨k, h1, h2, h3⟩)
      · exact Or.inl (Or.inl h)
      · by_cases e : k = n + 4
        · subst e; exact Or.inr h3
        · exact Or.inl (Or.inr ⟨k, h1, by omega, h3⟩)
theorem srt_inj {l : List PMsg} (hs : srt l = true) {a b : PMsg} (ha : a ∈ l) (hb : b ∈ l) (h : a.id = b.id) : a = b := by
  have hp := (srt_pw l).1 hs
  rw [List.pairwise_iff_getElem] at hp
  obtain ⟨i, hi, rfl⟩ := List.getElem_of_mem ha
  obtain ⟨j, hj, rfl⟩ := List.getElem_of_mem hb
  rcases Nat.lt_trichotomy i j with e | e | e
  · exact absurd h (less_ne (hp i j hi hj e))
  · subst e; rfl
  · exact absurd h.symm (less_ne (hp j i hj hi e))
theorem isL_mem {l : PBud} {x : PWld} (hs : srt x.mail = true) (e : PEv) : isL l x e = true ↔ e ∈ enQ l x 2 := by
  rw [mem_enQ, mem_enP]
  obtain ⟨κ, d, who⟩ := e
  unfold isL
  dsimp only
  constructor
  · intro h
    by_cases h1 : κ = 1 ∨ κ = 2 ∨ κ = 3
    · rw [if_pos h1] at h
      unfold isM at h
      dsimp only at h
      rw [Bool.and_eq_true, decide_eq_true_eq] at h
      obtain ⟨rfl, h⟩ := h
      left
      cases hf : x.mail.findIdx? (fun m => decide (m.id = d)) with
      | none => rw [hf] at h; cases h
      | some i =>
        rw [hf] at h
        dsimp only at h
        rw [List.findIdx?_eq_some_iff_getElem] at hf
        obtain ⟨hi, hd, _⟩ := hf
        have hd' := of_decide_eq_true hd
        rw [List.getD_eq_getElem?_getD, List.getElem?_eq_getElem hi, Option.getD_some] at h
        obtain ⟨k, hk⟩ : ∃ k : Nat, κ = k := ⟨κ.toNat, by omega⟩
        subst hk
        exact ⟨k, by omega, by omega, mem_gM.2 ⟨x.mail[i], List.getElem_mem hi, h, by rw [hd']⟩⟩
    · rw [if_neg h1] at h
      by_cases h2 : κ = 4 ∨ κ = 5
      · rw [if_pos h2] at h
        unfold isA at h
        dsimp only at h
        rw [Bool.and_eq_true, Bool.and_eq_true, decide_eq_true_eq, decide_eq_true_eq] at h
        obtain ⟨rfl, ⟨h3, h4⟩, h5⟩ := h
        right
        obtain ⟨k, hk⟩ : ∃ k : Nat, κ = k := ⟨κ.toNat, by omega⟩
        obtain ⟨j, hj⟩ : ∃ j : Nat, who = j := ⟨who.toNat, by omega⟩
        subst hk hj
        exact ⟨k, by omega, by omega, mem_gA.2 ⟨j, by omega, h5, rfl⟩⟩
      · rw [if_neg h2] at h; cases h
  · rintro (⟨k, h1, h2, h3⟩ | ⟨k, h1, h2, h3⟩)
    · obtain ⟨m, hm, ho, he⟩ := mem_gM.1 h3
      simp only [PEv.mk.injEq] at he
      obtain ⟨rfl, rfl, rfl⟩ := he
      rw [if_pos (by omega)]
      unfold isM
      dsimp only
      rw [decide_eq_true rfl, Bool.true_and]
      cases hf : x.mail.findIdx? (fun m' => decide (m'.id = m.id)) with
      | none =>
        rw [List.findIdx?_eq_none_iff] at hf
        have := hf m hm
        simp at this
      | some i =>
        dsimp only
        rw [List.findIdx?_eq_some_iff_getElem] at hf
        obtain ⟨hi, hd, _⟩ := hf
        have hd' := of_decide_eq_true hd
        rw [List.getD_eq_getElem?_getD, List.getElem?_eq_getElem hi, Option.getD_some, srt_inj hs (List.getElem_mem hi) hm hd']
        exact ho
    · obtain ⟨j, hj, ho, he⟩ := mem_gA.1 h3
      simp only [PEv.mk.injEq] at he
      obtain ⟨rfl, rfl, rfl⟩ := he
      rw [if_neg (by omega), if_pos (by omega)]
      unfold isA
      dsimp only
      rw [decide_eq_true rfl, Bool.true_and, decide_eq_true (by omega), Bool.true_and]
      exact ho
theorem bef_ids {k w w' : Int} {a b : PID} (h : lessD a b = true) : befE ⟨k, a, w⟩ ⟨k, b, w'⟩ = true := by
  unfold befE
  dsimp only
  rw [h]
  simp
theorem gM_pw {l : PBud} {x : PWld} (hs : srt x.mail = true) (k : Nat) : (gM l x k x.mail.length).Pairwise (fun a b => befE a b = true) := by
  have hp := (srt_pw x.mail).1 hs
  have hq := hp.filter (fun m => ofM l x k m)
  unfold gM
  rw [List.take_length, List.pairwise_map]
  refine hq.imp ?_
  intro a b h
  exact bef_ids h
theorem gA_pw {l : PBud} {x : PWld} (k i : Nat) : (gA l x k i).Pairwise (fun a b => befE a b = true) := by
  unfold gA
  rw [List.pairwise_map]
  refine List.Pairwise.imp (R := (· < ·)) ?_ (List.Pairwise.filter _ List.pairwise_lt_range)
  intro a b h
  exact befE_iff.2 (Or.inr ⟨rfl, Or.inr ⟨rfl, by show (a : Int) < (b : Int); omega⟩⟩)
theorem enP_pw {l : PBud} {x : PWld} (hs : srt x.mail = true) : ∀ n, (enP l x n).Pairwise (fun a b => befE a b = true)
  | 0 => List.Pairwise.nil
  | n + 1 => by
    rw [enP, List.pairwise_append]
    refine ⟨enP_pw hs n, gM_pw hs _, fun a ha b hb => ?_⟩
    obtain ⟨k, _, h2, h3⟩ := (mem_enP n).1 ha
    obtain ⟨_, _, _, rfl⟩ := mem_gM.1 h3
    obtain ⟨_, _, _, rfl⟩ := mem_gM.1 hb
    exact befE_iff.2 (Or.inl (by show ((k : Nat) : Int) < ((n + 1 : Nat) : Int); omega))
theorem enQ_pw {l : PBud} {x : PWld} (hs : srt x.mail = true) : ∀ n, (enQ l x n).Pairwise (fun a b => befE a b = true)
  | 0 => enP_pw hs 3
  | n + 1 => by
    rw [enQ, List.pairwise_append]
    refine ⟨enQ_pw hs n, gA_pw _ _, fun a ha b hb => ?_⟩
    obtain ⟨_, _, _, rfl⟩ := mem_gA.1 hb
    rcases (mem_enQ n).1 ha with ha | ⟨k, _, h2, h3⟩
    · obtain ⟨k, _, h2, h3⟩ := (mem_enP 3).1 ha
      obtain ⟨_, _, _, rfl⟩ := mem_gM.1 h3
      exact befE_iff.2 (Or.inl (by show ((k : Nat) : Int) < ((n + 4 : Nat) : Int); omega))
    · obtain ⟨_, _, _, rfl⟩ := mem_gA.1 h3
      exact befE_iff.2 (Or.inl (by show ((k : Nat) : Int) < ((n + 4 : Nat) : Int); omega))
theorem fits_srt {p : PPrg} {b : PBud} {x : PWld} (h : fitsP p b x = true) : srt x.mail = true := by
  unfold fitsP at h
  rw [Bool.and_eq_true] at h
  have h2 := h.2
  unfold chkW at h2
  simp only [Bool.and_eq_true] at h2
  have h3 := h2.2.2.1
  unfold chkM at h3
  rw [Bool.and_eq_true] at h3
  exact h3.2
theorem isP_dec (p : PPrg) (b : PBud) (x : PWld) (e : PEv) : isP p b x e = decide (e ∈ enabP p b x) := by
  cases hf : fitsP p b x with
  | false => rw [enabP_no hf, ← isP_no (e := e) hf]; simp
  | true =>
    rw [enabP_yes hf, isP_eq hf]
    exact Bool.eq_iff_iff.2 (by rw [decide_eq_true_eq]; exact isL_mem (fits_srt hf) e)
theorem enab_pw (p : PPrg) (b : PBud) (x : PWld) : (enabP p b x).Pairwise (fun a b => befE a b = true) := by
  cases hf : fitsP p b x with
  | false => rw [enabP_no hf]; exact List.Pairwise.nil
  | true => rw [enabP_yes hf]; exact enQ_pw (fits_srt hf) 2
theorem pw_at {L : List PEv} (h : L.Pairwise (fun a b => befE a b = true)) {i : Nat} {x y : PEv} (hx : L[i]? = some x) (hy : L[i + 1]? = some y) : befE x y = true := by
  rw [List.pairwise_iff_getElem] at h
  obtain ⟨hi, rfl⟩ := List.getElem?_eq_some_iff.1 hx
  obtain ⟨hj, rfl⟩ := List.getElem?_eq_some_iff.1 hy
  exact h i (i + 1) hi hj (by omega)
theorem enab_may {p : PPrg} {b : PBud} {x : PWld} (h : mayB b = false) : enabP p b x = [] := enabP_no (by unfold fitsP; rw [h]; rfl)
def inK (L : List PEv) (y : PEv) (k : Nat) : Bool := decide (y ∈ L.take k)
theorem inK_0 (L : List PEv) (y : PEv) : inK L y 0 = false := by simp [inK]
theorem inK_all (L : List PEv) (y : PEv) : inK L y L.length = decide (y ∈ L) := by unfold inK; rw [List.take_length]
theorem inK_step {L : List PEv} {y e : PEv} {k : Nat} (h : L[k]? = some e) : inK L y (k + 1) = (inK L y k || sameE e y) := by
  unfold inK sameE
  rw [List.take_add_one, h]
  by_cases h1 : y ∈ L.take k
  · simp [h1]
  · by_cases h2 : e = y
    · subst h2; simp
    · have h3 : ¬ y = e := fun e' => h2 e'.symm
      simp [h1, h2, h3]
end Go.Proofs.YtflpkdhmkgidiaaDoor
