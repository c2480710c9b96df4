/-
  The reference's reading of an event: ParseEvent, as plain data and walked. Condition: the text is short.
-/
import Derived.Test.YtdgialhigibnlaaDoorRm
namespace Go.Proofs.YtdgialhigibnlaaDoor
open Go.RowKit
attribute [local go_sem ↓] Go.wp_at_zero Go.wp_at_succ
def evB (s : List UInt8) : Bool := (prsE s).isSome
theorem evn_none {s : List UInt8} (h : prsE s = none) : evV s = ev0 ∧ evB s = false := ⟨(ev_none h).1, by unfold evB; rw [h]; rfl⟩
theorem evn_some {s : List UInt8} {x : PEv} (h : prsE s = some x) : evV s = x ∧ evB s = true := ⟨(ev_some h).1, by unfold evB; rw [h]; rfl⟩
theorem wd_hit {k : Nat} (h1 : 1 ≤ k) (h5 : k ≤ 5) (t : List UInt8) : c1 32 (wdK k ++ 32 :: t) = wdK k ∧ c2 32 (wdK k ++ 32 :: t) = t ∧ kin (wdK k) = k := by
  obtain ⟨m, rfl⟩ : ∃ m, k = m + 1 := ⟨k - 1, by omega⟩
  obtain ⟨g1, g2, _⟩ := wd_ok m (by omega)
  exact ⟨(c1_app g1).1, (c1_app g1).2, g2⟩
theorem app_tail {a b c : List UInt8} (h : a ++ 32 :: b = a ++ 32 :: c) : b = c := (List.cons.inj (List.append_cancel_left h)).2
theorem cand_of {s : List UInt8} {x : PEv} (h : prsE s = some x) : candE s = x ∧ nameE x = s := by
  obtain ⟨e, hn, hr⟩ := prsE_some h
  have h2 := candE_name hr (by rw [e]; exact hn)
  rw [e] at h2
  exact ⟨h2, e⟩
theorem prsE_msg {k : Nat} (h1 : 1 ≤ k) (h3 : k ≤ 3) (t : List UInt8) : prsE (wdK k ++ 32 :: t) = (prsD t).map fun a => ⟨k, a, 0⟩ := by
  have hm : msgK (k : Int) = true := decide_eq_true (by omega)
  cases h : prsD t with
  | some a =>
    obtain ⟨e, hr⟩ := prsD_some h
    have hn : nameE ⟨(k : Int), a, 0⟩ = wdK k ++ 32 :: t := by rw [nameE_msg hm rfl, ← e]; rfl
    rw [← hn]
    exact prsE_name ⟨⟨by show (_ : Int) ≤ (k : Int); omega, by show (k : Int) ≤ _; omega⟩, hr, rg0⟩ (by rw [hn]; simp)
  | none =>
    cases h2 : prsE (wdK k ++ 32 :: t) with
    | none => rfl
    | some x =>
      exfalso
      obtain ⟨hc, e⟩ := cand_of h2
      obtain ⟨e1, e2, e3⟩ := wd_hit h1 (by omega) t
      unfold candE at hc
      rw [e1, e2, e3, readE_msg hm] at hc
      rw [← hc, nameE_msg hm rfl] at e
      have e5 : tid (pdV t) = t := app_tail (a := wdK k) e
      have := prsD_tid (pdV_rg t)
      rw [e5, h] at this
      cases this
theorem prsE_act {k : Nat} (h4 : 4 ≤ k) (h5 : k ≤ 5) (t : List UInt8) : prsE (wdK k ++ 32 :: t) = if intB t = true then some ⟨k, id0, intV t⟩ else none := by
  have ha : actK (k : Int) = true := decide_eq_true (by omega)
  have hm : msgK (k : Int) = false := decide_eq_false (by omega)
  by_cases h : intB t = true
  · rw [if_pos h]
    obtain ⟨a, hr, rfl⟩ := intB_iff.1 h
    rw [(intV_itoa hr).1]
    have hn : nameE ⟨(k : Int), id0, a⟩ = wdK k ++ 32 :: Lib.itoa a := by rw [nameE_act ha rfl]; rfl
    rw [← hn]
    exact prsE_name ⟨⟨by show (_ : Int) ≤ (k : Int); omega, by show (k : Int) ≤ _; omega⟩, rgd0, hr⟩ (by rw [hn]; simp)
  · rw [if_neg h]
    cases h2 : prsE (wdK k ++ 32 :: t) with
    | none => rfl
    | some x =>
      exfalso
      obtain ⟨hc, e⟩ := cand_of h2
      obtain ⟨e1, e2, e3⟩ := wd_hit (by omega) h5 t
      unfold candE at hc
      rw [e1, e2, e3, readE_no hm] at hc
      rw [← hc, nameE_act ha rfl] at e
      have e5 : Lib.itoa (atoiV t) = t := app_tail (a := wdK k) e
      exact h (intB_iff.2 ⟨_, atoiV_rg t, e5.symm⟩)
theorem prsE_miss {s : List UInt8} (h : ∀ k : Nat, 1 ≤ k → k < 6 → ∀ t, s ≠ wdK k ++ 32 :: t) : prsE s = none := by
  cases h2 : prsE s with
  | none => rfl
  | some x =>
    exfalso
    obtain ⟨e, hn, _⟩ := prsE_some h2
    rcases nameE_ne.1 (e ▸ hn) with ⟨g1, g2⟩ | ⟨g1, g2⟩
    · have hb := of_decide_eq_true g1
      exact h x.k.toNat (by omega) (by omega) _ (by rw [← e, nameE_msg g1 g2])
    · have hb := of_decide_eq_true g1
      exact h x.k.toNat (by omega) (by omega) _ (by rw [← e, nameE_act g1 g2])
theorem cat_w (k : Nat) : bs (wdK k) ++ ⟨#[32]⟩ = bs (wdK k ++ [32]) := by rw [show (⟨#[32]⟩ : ByteArray) = bs [32] from rfl, bs_app]
theorem hit_of {s W : List UInt8} {k : Nat} (hW : wdK k ++ [32] = W) (h : part s 0 W.length = W) : s = wdK k ++ 32 :: part s W.length s.length := by
  have e1 : part s W.length s.length = s.drop W.length := by unfold part; exact List.take_of_length_le (by simp)
  rw [e1]
  unfold part at h
  rw [List.drop_zero, Nat.sub_zero] at h
  conv => lhs; rw [← List.take_append_drop W.length s, h]
  rw [← hW]; simp
theorem miss_len {s W : List UInt8} {k : Nat} (hW : wdK k ++ [32] = W) (h : s.length < W.length) : ∀ t, s ≠ wdK k ++ 32 :: t := by
  intro t e
  rw [e, ← hW] at h
  simp at h
theorem miss_ne {s W : List UInt8} {k : Nat} (hW : wdK k ++ [32] = W) (h : part s 0 W.length ≠ W) : ∀ t, s ≠ wdK k ++ 32 :: t := by
  intro t e
  apply h
  unfold part
  rw [e, List.drop_zero, Nat.sub_zero, show wdK k ++ 32 :: t = W ++ t by rw [← hW]; simp]
  simp
end Go.Proofs.YtdgialhigibnlaaDoor
