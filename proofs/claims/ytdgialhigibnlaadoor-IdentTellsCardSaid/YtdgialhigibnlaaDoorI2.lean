/-
  Names of messages and of events, as plain data: their order, how they are written, and read. No conditions.
-/
import Derived.Test.YtdgialhigibnlaaDoorI1
namespace Go.Proofs.YtdgialhigibnlaaDoor
open Go.Lib

structure PID where
  f : Int
  n : Int
  c : Int
  deriving DecidableEq, Inhabited
structure PEv where
  k : Int
  id : PID
  who : Int
  deriving DecidableEq, Inhabited
def RgD (a : PID) : Prop := Rg a.f ∧ Rg a.n ∧ Rg a.c
def RgE (x : PEv) : Prop := Rg x.k ∧ RgD x.id ∧ Rg x.who
theorem rg0 : Rg 0 := ⟨by omega, by omega⟩
def id0 : PID := ⟨0, 0, 0⟩
theorem rgd0 : RgD id0 := ⟨rg0, rg0, rg0⟩

/-! ### Order -/
def cmpI (a b : Int) : Int := if a < b then -1 else if b < a then 1 else 0
def or3 (a b c : Int) : Int := if a ≠ 0 then a else if b ≠ 0 then b else c
def cmpD (a b : PID) : Int := or3 (cmpI a.f b.f) (cmpI a.n b.n) (cmpI a.c b.c)
def lessD (a b : PID) : Bool := decide (cmpD a b < 0)
def cmpE (x y : PEv) : Int := or3 (cmpI x.k y.k) (cmpD x.id y.id) (cmpI x.who y.who)
def befE (x y : PEv) : Bool := decide (cmpE x y < 0)
theorem cmpI_lt {a b : Int} : cmpI a b < 0 ↔ a < b := by unfold cmpI; split <;> (try split) <;> omega
theorem cmpI_eq {a b : Int} : cmpI a b = 0 ↔ a = b := by unfold cmpI; split <;> (try split) <;> omega
theorem cmpI_gt {a b : Int} : 0 < cmpI a b ↔ b < a := by unfold cmpI; split <;> (try split) <;> omega
theorem cmpD_lt {a b : PID} : cmpD a b < 0 ↔ a.f < b.f ∨ (a.f = b.f ∧ (a.n < b.n ∨ (a.n = b.n ∧ a.c < b.c))) := by
  have h1 := @cmpI_lt a.f b.f; have h2 := @cmpI_eq a.f b.f; have h3 := @cmpI_lt a.n b.n; have h4 := @cmpI_eq a.n b.n; have h5 := @cmpI_lt a.c b.c
  unfold cmpD or3
  generalize cmpI a.f b.f = p at *
  generalize cmpI a.n b.n = q at *
  generalize cmpI a.c b.c = r at *
  split
  · omega
  · split <;> omega
theorem cmpD_eq {a b : PID} : cmpD a b = 0 ↔ a = b := by
  have h2 := @cmpI_eq a.f b.f; have h4 := @cmpI_eq a.n b.n; have h5 := @cmpI_eq a.c b.c
  have e : a = b ↔ a.f = b.f ∧ a.n = b.n ∧ a.c = b.c := by
    obtain ⟨f, n, c⟩ := a; obtain ⟨f', n', c'⟩ := b; simp
  rw [e]
  unfold cmpD or3
  generalize cmpI a.f b.f = p at *
  generalize cmpI a.n b.n = q at *
  generalize cmpI a.c b.c = r at *
  split
  · omega
  · split <;> omega
theorem cmpE_lt {x y : PEv} : cmpE x y < 0 ↔ x.k < y.k ∨ (x.k = y.k ∧ (cmpD x.id y.id < 0 ∨ (x.id = y.id ∧ x.who < y.who))) := by
  have h1 := @cmpI_lt x.k y.k; have h2 := @cmpI_eq x.k y.k; have h4 := @cmpD_eq x.id y.id; have h5 := @cmpI_lt x.who y.who
  unfold cmpE or3
  generalize cmpI x.k y.k = p at *
  generalize cmpD x.id y.id = q at *
  generalize cmpI x.who y.who = r at *
  split
  · omega
  · split
    · constructor
      · intro h; exact Or.inr ⟨by omega, Or.inl h⟩
      · rintro (h | ⟨_, h | ⟨h, _⟩⟩)
        · omega
        · exact h
        · have := h4.2 h; omega
    · constructor
      · intro h; exact Or.inr ⟨by omega, Or.inr ⟨h4.1 (by omega), h5.1 h⟩⟩
      · rintro (h | ⟨_, h | ⟨_, h⟩⟩)
        · omega
        · omega
        · exact h5.2 h
theorem lessD_iff {a b : PID} : lessD a b = true ↔ a.f < b.f ∨ (a.f = b.f ∧ (a.n < b.n ∨ (a.n = b.n ∧ a.c < b.c))) := by unfold lessD; rw [decide_eq_true_eq]; exact cmpD_lt
theorem befE_iff {x y : PEv} : befE x y = true ↔ x.k < y.k ∨ (x.k = y.k ∧ (lessD x.id y.id = true ∨ (x.id = y.id ∧ x.who < y.who))) := by unfold befE lessD; rw [decide_eq_true_eq, decide_eq_true_eq]; exact cmpE_lt

/-! ### Texts -/
def tid (a : PID) : List UInt8 := itoa a.f ++ 46 :: (itoa a.n ++ 46 :: itoa a.c)
def c1 (x : UInt8) (l : List UInt8) : List UInt8 := match cutc x l with | some p => p.1 | none => l
def c2 (x : UInt8) (l : List UInt8) : List UInt8 := match cutc x l with | some p => p.2 | none => []
theorem c1_app {x : UInt8} {a b : List UInt8} (h : ∀ c ∈ a, c ≠ x) : c1 x (a ++ x :: b) = a ∧ c2 x (a ++ x :: b) = b := by
  unfold c1 c2; rw [cutc_app b h]; exact ⟨rfl, rfl⟩
theorem c2_len (x : UInt8) (l : List UInt8) : (c2 x l).length ≤ l.length := by
  unfold c2
  cases h : cutc x l with
  | none => simp
  | some p => have := (cutc_some (a := p.1) (b := p.2) h).1; rw [this]; simp; omega
theorem c1_len (x : UInt8) (l : List UInt8) : (c1 x l).length ≤ l.length := by
  unfold c1
  cases h : cutc x l with
  | none => simp
  | some p => have := (cutc_some (a := p.1) (b := p.2) h).1; rw [this]; simp
/-- What a text is taken for. -/
def candD (s : List UInt8) : PID := ⟨atoiV (c1 46 s), atoiV (c1 46 (c2 46 s)), atoiV (c2 46 (c2 46 s))⟩
theorem candD_rg (s : List UInt8) : RgD (candD s) := ⟨atoiV_rg _, atoiV_rg _, atoiV_rg _⟩
def prsD (s : List UInt8) : Option PID := if tid (candD s) = s then some (candD s) else none
theorem dec_no {x : UInt8} (hx : ¬ (48 ≤ x.toNat ∧ x.toNat ≤ 57)) (h45 : x ≠ 45) (n : Int) : ∀ c ∈ itoa n, c ≠ x := by
  intro c hc e
  subst e
  unfold itoa at hc
  by_cases h : n < 0
  · rw [if_pos h] at hc
    rcases List.mem_cons.1 hc with rfl | hc
    · exact h45 rfl
    · exact hx (dec_dg _ _ hc)
  · rw [if_neg h] at hc; exact hx (dec_dg _ _ hc)
theorem itoa_no46 (n : Int) : ∀ c ∈ itoa n, c ≠ 46 := dec_no (by decide) (by decide) n
theorem itoa_no32 (n : Int) : ∀ c ∈ itoa n, c ≠ 32 := dec_no (by decide) (by decide) n
theorem atoiV_itoa {n : Int} (h : Rg n) : atoiV (itoa n) = n := by unfold atoiV; rw [atoi_itoa h]
theorem candD_tid {a : PID} (h : RgD a) : candD (tid a) = a := by
  obtain ⟨h1, h2⟩ := c1_app (x := 46) (b := itoa a.n ++ 46 :: itoa a.c) (itoa_no46 a.f)
  obtain ⟨h3, h4⟩ := c1_app (x := 46) (b := itoa a.c) (itoa_no46 a.n)
  unfold candD tid
  rw [h1, h2, h3, h4, atoiV_itoa h.1, atoiV_itoa h.2.1, atoiV_itoa h.2.2]
theorem prsD_tid {a : PID} (h : RgD a) : prsD (tid a) = some a := by unfold prsD; rw [candD_tid h, if_pos rfl]
theorem prsD_some {s : List UInt8} {a : PID} (h : prsD s = some a) : tid a = s ∧ RgD a := by
  unfold prsD at h
  split at h
  · rename_i e
    rw [← Option.some.inj h]; exact ⟨e, candD_rg s⟩
  · cases h
theorem tid_inj {a b : PID} (ha : RgD a) (hb : RgD b) (h : tid a = tid b) : a = b := by
  have := prsD_tid ha
  rw [h, prsD_tid hb] at this
  exact (Option.some.inj this).symm
theorem tid_len {a : PID} (h : RgD a) : (tid a).length ≤ 65 := by
  have h1 := itoa_length_le a.f h.1.1 h.1.2
  have h2 := itoa_length_le a.n h.2.1.1 h.2.1.2
  have h3 := itoa_length_le a.c h.2.2.1 h.2.2.2
  unfold tid
  simp
  omega
theorem tid_ne (a : PID) : tid a ≠ [] := by unfold tid; simp
/-- The kinds' words. -/
def wdL : List (List UInt8) := [[], [100, 101, 108, 105, 118, 101, 114], [100, 114, 111, 112], [100, 117, 112], [116, 105, 109, 101], [99, 114, 97, 115, 104]]
def wdK (k : Nat) : List UInt8 := wdL.getD k []
def msgK (k : Int) : Bool := decide (1 ≤ k ∧ k ≤ 3)
def actK (k : Int) : Bool := decide (k = 4 ∨ k = 5)
def nameE (x : PEv) : List UInt8 :=
  if msgK x.k = true ∧ x.who = 0 then wdK x.k.toNat ++ 32 :: tid x.id
  else if actK x.k = true ∧ x.id = id0 then wdK x.k.toNat ++ 32 :: itoa x.who else []
def kinG (s : List UInt8) : Nat → Nat → Nat
  | 0, _ => 0
  | f + 1, k => if wdK k = s then k else kinG s f (k + 1)
/-- The kind of a word; 0 of none. -/
def kin (s : List UInt8) : Nat := kinG s 5 1
def readE (k : Int) (s : List UInt8) : PEv := if msgK k = true then ⟨k, (prsD s).getD id0, 0⟩ else ⟨k, id0, atoiV s⟩
def candE (s : List UInt8) : PEv := readE (kin (c1 32 s)) (c2 32 s)
def prsE (s : List UInt8) : Option PEv := if s ≠ [] ∧ nameE (candE s) = s then some (candE s) else none
theorem kin_le (s : List UInt8) : kin s ≤ 5 := by
  unfold kin kinG kinG kinG kinG kinG kinG
  split <;> (try split) <;> (try split) <;> (try split) <;> (try split) <;> omega
theorem candE_rg (s : List UInt8) : RgE (candE s) := by
  have hk := kin_le (c1 32 s)
  have hr : Rg ((kin (c1 32 s) : Nat) : Int) := ⟨by omega, by omega⟩
  unfold candE readE
  split
  · refine ⟨hr, ?_, rg0⟩
    cases h : prsD (c2 32 s) with
    | none => exact rgd0
    | some a => exact (prsD_some h).2
  · exact ⟨hr, rgd0, atoiV_rg _⟩
theorem wd_ok : ∀ k : Nat, k < 5 → (∀ c ∈ wdK (k + 1), c ≠ 32) ∧ kin (wdK (k + 1)) = k + 1 ∧ (wdK (k + 1)).length ≤ 7 := by decide +kernel
theorem nameE_msg {x : PEv} (h : msgK x.k = true) (hw : x.who = 0) : nameE x = wdK x.k.toNat ++ 32 :: tid x.id := by unfold nameE; rw [if_pos ⟨h, hw⟩]
theorem nameE_act {x : PEv} (h : actK x.k = true) (hi : x.id = id0) : nameE x = wdK x.k.toNat ++ 32 :: itoa x.who := by
  unfold nameE
  rw [if_neg, if_pos ⟨h, hi⟩]
  rintro ⟨h1, _⟩
  unfold msgK at h1; unfold actK at h
  rw [decide_eq_true_eq] at h1 h
  omega
theorem nameE_no {x : PEv} (h1 : ¬ (msgK x.k = true ∧ x.who = 0)) (h2 : ¬ (actK x.k = true ∧ x.id = id0)) : nameE x = [] := by unfold nameE; rw [if_neg h1, if_neg h2]
theorem candE_name {x : PEv} (h : RgE x) (hn : nameE x ≠ []) : candE (nameE x) = x := by
  obtain ⟨k, id, who⟩ := x
  by_cases h1 : msgK k = true ∧ who = 0
  · obtain ⟨hm, rfl⟩ := h1
    rw [nameE_msg hm rfl]
    have hb := of_decide_eq_true hm
    obtain ⟨m, hm2⟩ : ∃ m : Nat, k = (m : Int) + 1 := ⟨(k - 1).toNat, by omega⟩
    have e : k.toNat = m + 1 := by omega
    obtain ⟨g1, g2, _⟩ := wd_ok m (by omega)
    show candE (wdK k.toNat ++ 32 :: tid id) = _
    unfold candE
    rw [e]
    obtain ⟨e1, e2⟩ := c1_app (x := 32) (b := tid id) g1
    rw [e1, e2, g2, show ((m + 1 : Nat) : Int) = k by omega]
    unfold readE
    rw [if_pos hm, prsD_tid h.2.1]; rfl
  · by_cases h2 : actK k = true ∧ id = id0
    · obtain ⟨hm, rfl⟩ := h2
      rw [nameE_act hm rfl]
      have hb := of_decide_eq_true hm
      obtain ⟨m, hm2⟩ : ∃ m : Nat, k = (m : Int) + 1 := ⟨(k - 1).toNat, by omega⟩
      have e : k.toNat = m + 1 := by omega
      obtain ⟨g1, g2, _⟩ := wd_ok m (by omega)
      show candE (wdK k.toNat ++ 32 :: itoa who) = _
      unfold candE
      rw [e]
      obtain ⟨e1, e2⟩ := c1_app (x := 32) (b := itoa who) g1
      rw [e1, e2, g2, show ((m + 1 : Nat) : Int) = k by omega]
      unfold readE
      rw [if_neg, atoiV_itoa h.2.2]
      intro h3
      have := of_decide_eq_true h3
      omega
    · exact absurd (nameE_no h1 h2) hn
theorem prsE_name {x : PEv} (h : RgE x) (hn : nameE x ≠ []) : prsE (nameE x) = some x := by unfold prsE; rw [candE_name h hn, if_pos ⟨hn, rfl⟩]
theorem prsE_some {s : List UInt8} {x : PEv} (h : prsE s = some x) : nameE x = s ∧ s ≠ [] ∧ RgE x := by
  unfold prsE at h
  split at h
  · rename_i e
    rw [← Option.some.inj h]; exact ⟨e.2, e.1, candE_rg s⟩
  · cases h
theorem nameE_inj {x y : PEv} (hx : RgE x) (hy : RgE y) (hn : nameE x ≠ []) (h : nameE x = nameE y) : x = y := by
  have := prsE_name hx hn
  rw [h, prsE_name hy (h ▸ hn)] at this
  exact (Option.some.inj this).symm
theorem nameE_ne {x : PEv} : nameE x ≠ [] ↔ (msgK x.k = true ∧ x.who = 0) ∨ (actK x.k = true ∧ x.id = id0) := by
  constructor
  · intro h
    by_cases h1 : msgK x.k = true ∧ x.who = 0
    · exact Or.inl h1
    · by_cases h2 : actK x.k = true ∧ x.id = id0
      · exact Or.inr h2
      · exact absurd (nameE_no h1 h2) h
  · rintro (⟨h1, h2⟩ | ⟨h1, h2⟩)
    · rw [nameE_msg h1 h2]; simp
    · rw [nameE_act h1 h2]; simp
theorem wdK_len (k : Nat) : (wdK k).length ≤ 7 := by
  by_cases h : k < 6
  · have : ∀ k : Nat, k < 6 → (wdK k).length ≤ 7 := by decide
    exact this k h
  · unfold wdK; rw [List.getD_eq_getElem?_getD, List.getElem?_eq_none (by show 6 ≤ k; omega)]; simp
theorem nameE_len {x : PEv} (h : RgE x) : (nameE x).length ≤ 80 := by
  have h1 := wdK_len x.k.toNat
  have h2 := tid_len h.2.1
  have h3 := itoa_length_le x.who h.2.2.1 h.2.2.2
  unfold nameE
  split
  · simp; omega
  · split
    · simp; omega
    · simp
def faultE (x : PEv) : Bool := decide (2 ≤ x.k ∧ x.k ≤ 5)
end Go.Proofs.YtdgialhigibnlaaDoor
