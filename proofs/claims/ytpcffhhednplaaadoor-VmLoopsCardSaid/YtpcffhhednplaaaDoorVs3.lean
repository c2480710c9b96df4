/-
  What one instruction does, whichever it is; what is known behind it. Conditions: it was checked, and its numbers are on the stack.
-/
import Derived.Test.YtpcffhhednplaaaDoorVs2
namespace Go.Proofs.YtpcffhhednplaaaDoor
open Go.RowKit
theorem op_cases {op : Int} (h : vl op = true) : op = 1 ∨ op = 2 ∨ op = 3 ∨ op = 4 ∨ op = 5 ∨ op = 6 ∨ op = 7 ∨ op = 8 ∨ op = 9 ∨ op = 10 ∨ op = 11 ∨ op = 12 ∨ op = 13 ∨ op = 14 ∨ op = 15 ∨ op = 16 ∨ op = 17 ∨ op = 18 ∨ op = 19 ∨ op = 20 ∨ op = 21 ∨ op = 22 ∨ op = 23 ∨ op = 24 ∨ op = 25 := by
  have := vl_iff.1 h
  omega
theorem oks_of {p : PPrg} {x : PHnd} {args : List Int} {s : MS} {i : PIns} {l : List Int} (hx : chkH p.hs.length x = 0) (hO : OkH p.hs) (ha : (args.length : Int) = x.args) (hg : Good p.hs x.code l) (hr : Rch p.hs x.code s.pc s.st.length) (hi : x.code[s.pc]? = some i) : OkS p args x.code s i := by
  have hok := (hg.closed _ _ _ (hg.at hr) hr.nonneg hi).1
  have hc : chkI x.code.length x.args p.hs.length i = 0 := by
    unfold chkH at hx
    by_cases e0 : 0 ≤ x.args ∧ x.args ≤ 4
    · rw [if_pos e0] at hx
      by_cases e1 : x.code.length ≤ 64
      · rw [if_pos e1] at hx
        exact scan_zero hx i (List.mem_of_getElem? hi)
      · rw [if_neg e1] at hx; cases hx
    · rw [if_neg e0] at hx; cases hx
  have hI := okI_of (hs := p.hs) hc
  obtain ⟨op, a⟩ := i
  refine ⟨hok, hI.vl, fun e => ?_, fun e => ?_, hI.tgt, fun e => ⟨hI.snd e, ?_⟩⟩
  · have e' : op = 5 ∨ op = 6 := e
    have h1 : (if 0 ≤ a ∧ a ≤ 7 then (0 : Int) else 6) = 0 := by rcases e' with rfl | rfl <;> exact hc
    by_cases h2 : 0 ≤ a ∧ a ≤ 7
    · exact h2
    · rw [if_neg h2] at h1; cases h1
  · have e' : op = 7 := e
    subst e'
    have h1 : (if 0 ≤ a ∧ a < x.args then (0 : Int) else 6) = 0 := hc
    by_cases h2 : 0 ≤ a ∧ a < x.args
    · exact ⟨h2.1, by rw [ha]; exact h2.2⟩
    · rw [if_neg h2] at h1; cases h1
  · have e' : op = 22 := e
    subst e'
    obtain ⟨h1, h2⟩ := hI.snd rfl
    have h1' : 0 ≤ a := h1
    obtain ⟨k, rfl⟩ := Int.eq_ofNat_of_zero_le h1'
    have h2' : (k : Int) < p.hs.length := h2
    obtain ⟨y, hy⟩ := at_lt (l := p.hs) (k := k) (by omega)
    show 0 ≤ argsOf p.hs k ∧ argsOf p.hs k ≤ 4
    rw [argsOf_at hy]
    exact hO y (List.mem_of_getElem? hy)
section
variable {w0 w : World} {B : Nat} {x : FX} {vn : Value} {us : List Value} {sk : List Int} {s : MS} {p : PPrg} {args : List Int} {code : List PIns}
theorem step_any (px : PX w0 x p args code) (h : RM w0 B x vn us sk s w) (i : PIns) (ok : OkS p args code s i) (hnl : s.notes.length ≤ 1000) :
    Calls Tryd.prog 37 #[.pointer (some ⟨B, 0, none⟩), .agg #[.int .i64 i.op, .int .i64 i.a]] w fun e w' => e = .returned (.int .i64 (stp p x.who args code.length i s).1) ∧ ∃ vn' us' sk', RM w0 B x vn' us' sk' (stp p x.who args code.length i s).2 w' := by
  obtain ⟨op, a⟩ := i
  have g1 := ok.ok.1
  have g2 := ok.ok.2
  unfold lft at g2
  rcases op_cases ok.vl with e | e | e | e | e | e | e | e | e | e | e | e | e | e | e | e | e | e | e | e | e | e | e | e | e
  · have e' : op = 1 := e
    subst e'
    have k1 : (0 : Int) ≤ s.st.length := g1
    have k2 : (s.st.length : Int) - 0 + 1 ≤ 8 := g2
    exact st1 h a (by omega)
  · have e' : op = 2 := e
    subst e'
    have k1 : (1 : Int) ≤ s.st.length := g1
    have k2 : (s.st.length : Int) - 1 + 0 ≤ 8 := g2
    exact st2 h a (by omega)
  · have e' : op = 3 := e
    subst e'
    have k1 : (1 : Int) ≤ s.st.length := g1
    have k2 : (s.st.length : Int) - 1 + 2 ≤ 8 := g2
    exact st3 h a (by omega) (by omega)
  · have e' : op = 4 := e
    subst e'
    have k1 : (2 : Int) ≤ s.st.length := g1
    have k2 : (s.st.length : Int) - 2 + 2 ≤ 8 := g2
    exact st4 h a (by omega)
  · have e' : op = 5 := e
    subst e'
    have k1 : (0 : Int) ≤ s.st.length := g1
    have k2 : (s.st.length : Int) - 0 + 1 ≤ 8 := g2
    exact st5 h a (by omega) (ok.reg (Or.inl rfl)).1
  · have e' : op = 6 := e
    subst e'
    have k1 : (1 : Int) ≤ s.st.length := g1
    have k2 : (s.st.length : Int) - 1 + 0 ≤ 8 := g2
    exact st6 h a (by omega) (ok.reg (Or.inr rfl)).1
  · have e' : op = 7 := e
    subst e'
    have k1 : (0 : Int) ≤ s.st.length := g1
    have k2 : (s.st.length : Int) - 0 + 1 ≤ 8 := g2
    exact st7 h a px (by omega) (ok.arg rfl)
  · have e' : op = 8 := e
    subst e'
    have k1 : (0 : Int) ≤ s.st.length := g1
    have k2 : (s.st.length : Int) - 0 + 1 ≤ 8 := g2
    exact st8 h a (by omega)
  · have e' : op = 9 := e
    subst e'
    have k1 : (2 : Int) ≤ s.st.length := g1
    have k2 : (s.st.length : Int) - 2 + 1 ≤ 8 := g2
    exact st9 h a (by omega)
  · have e' : op = 10 := e
    subst e'
    have k1 : (2 : Int) ≤ s.st.length := g1
    have k2 : (s.st.length : Int) - 2 + 1 ≤ 8 := g2
    exact st10 h a (by omega)
  · have e' : op = 11 := e
    subst e'
    have k1 : (2 : Int) ≤ s.st.length := g1
    have k2 : (s.st.length : Int) - 2 + 1 ≤ 8 := g2
    exact st11 h a (by omega)
  · have e' : op = 12 := e
    subst e'
    have k1 : (2 : Int) ≤ s.st.length := g1
    have k2 : (s.st.length : Int) - 2 + 1 ≤ 8 := g2
    exact st12 h a (by omega)
  · have e' : op = 13 := e
    subst e'
    have k1 : (2 : Int) ≤ s.st.length := g1
    have k2 : (s.st.length : Int) - 2 + 1 ≤ 8 := g2
    exact st13 h a (by omega)
  · have e' : op = 14 := e
    subst e'
    have k1 : (1 : Int) ≤ s.st.length := g1
    have k2 : (s.st.length : Int) - 1 + 1 ≤ 8 := g2
    exact st14 h a (by omega)
  · have e' : op = 15 := e
    subst e'
    have k1 : (2 : Int) ≤ s.st.length := g1
    have k2 : (s.st.length : Int) - 2 + 1 ≤ 8 := g2
    exact st15 h a (by omega)
  · have e' : op = 16 := e
    subst e'
    have k1 : (2 : Int) ≤ s.st.length := g1
    have k2 : (s.st.length : Int) - 2 + 1 ≤ 8 := g2
    exact st16 h a (by omega)
  · have e' : op = 17 := e
    subst e'
    have k1 : (2 : Int) ≤ s.st.length := g1
    have k2 : (s.st.length : Int) - 2 + 1 ≤ 8 := g2
    exact st17 h a (by omega)
  · have e' : op = 18 := e
    subst e'
    have k1 : (2 : Int) ≤ s.st.length := g1
    have k2 : (s.st.length : Int) - 2 + 1 ≤ 8 := g2
    exact st18 h a (by omega)
  · have e' : op = 19 := e
    subst e'
    have k1 : (1 : Int) ≤ s.st.length := g1
    have k2 : (s.st.length : Int) - 1 + 1 ≤ 8 := g2
    exact st19 h a (by omega)
  · have e' : op = 20 := e
    subst e'
    exact st20 h a (ok.tgt (Or.inl rfl))
  · have e' : op = 21 := e
    subst e'
    have k1 : (1 : Int) ≤ s.st.length := g1
    have k2 : (s.st.length : Int) - 1 + 0 ≤ 8 := g2
    by_cases hz : hd0 s.st = 0
    · have e : stp p x.who args code.length ⟨21, a⟩ s = (0, { s with st := s.st.tail, pc := a.toNat }) := by show ((0 : Int), ({ s with st := s.st.tail, pc := if hd0 s.st = 0 then a.toNat else s.pc } : MS)) = _; rw [if_pos hz]
      rw [e]
      exact st21y h a (by omega) hz (ok.tgt (Or.inr rfl))
    · have e : stp p x.who args code.length ⟨21, a⟩ s = (0, { s with st := s.st.tail }) := by show ((0 : Int), ({ s with st := s.st.tail, pc := if hd0 s.st = 0 then a.toNat else s.pc } : MS)) = _; rw [if_neg hz]
      rw [e]
      exact st21n h a (by omega) hz
  · have e' : op = 22 := e
    subst e'
    have k1 : 1 + argsOf p.hs a ≤ s.st.length := g1
    obtain ⟨s1, s2⟩ := ok.snd rfl
    have s2' : 0 ≤ argsOf p.hs a := s2.1
    by_cases hz : 0 ≤ hd0 s.st ∧ hd0 s.st < p.acs.length
    · have e : stp p x.who args code.length ⟨22, a⟩ s = (0, { s with st := s.st.tail.drop (argsOf p.hs a).toNat, notes := s.notes ++ [⟨hd0 s.st, a, (s.st.tail.take (argsOf p.hs a).toNat).reverse⟩] }) := if_pos hz
      rw [e]
      exact st22y h a px hz s1 s2 (by omega) hnl
    · have e : stp p x.who args code.length ⟨22, a⟩ s = (4, { s with st := s.st.tail }) := if_neg hz
      rw [e]
      exact st22n h a px (by omega) hz
  · have e' : op = 23 := e
    subst e'
    exact st23 h a px
  · have e' : op = 24 := e
    subst e'
    exact st24 h a
  · have e' : op = 25 := e
    subst e'
    exact st25 h a px
/-- Behind an instruction that did not take the actor down. -/
theorem stp_good {k : Nat} {i : PIns} (who : Int) (ok : OkS p args code s i) (hk : s.pc = k + 1) (hkl : k < code.length) (h0 : (stp p who args code.length i s).1 = 0) :
    (stp p who args code.length i s).2.steps = s.steps ∧ (((stp p who args code.length i s).2.st.length : Nat) : Int) = lft p.hs i s.st.length ∧ ((stp p who args code.length i s).2.pc = code.length ∨ (stp p who args code.length i s).2.pc ∈ nxt i k) ∧ (stp p who args code.length i s).2.pc ≤ code.length ∧ (stp p who args code.length i s).2.notes.length ≤ s.notes.length + 1 := by
  obtain ⟨op, a⟩ := i
  have g1 := ok.ok.1
  rcases op_cases ok.vl with e | e | e | e | e | e | e | e | e | e | e | e | e | e | e | e | e | e | e | e | e | e | e | e | e
  · have e' : op = 1 := e
    subst e'
    have k1 : (0 : Int) ≤ s.st.length := g1
    refine ⟨rfl, ?_, Or.inr (by show s.pc ∈ [k + 1]; simp [hk]), by show s.pc ≤ _; omega, Nat.le_succ _⟩
    · show ((((a :: s.st).length : Nat)) : Int) = (s.st.length : Int) - 0 + 1
      rw [List.length_cons]
      omega
  · have e' : op = 2 := e
    subst e'
    have k1 : (1 : Int) ≤ s.st.length := g1
    refine ⟨rfl, ?_, Or.inr (by show s.pc ∈ [k + 1]; simp [hk]), by show s.pc ≤ _; omega, Nat.le_succ _⟩
    · show (((s.st.tail.length : Nat)) : Int) = (s.st.length : Int) - 1 + 0
      have l1 : s.st.tail.length = s.st.length - 1 := List.length_tail
      omega
  · have e' : op = 3 := e
    subst e'
    have k1 : (1 : Int) ≤ s.st.length := g1
    refine ⟨rfl, ?_, Or.inr (by show s.pc ∈ [k + 1]; simp [hk]), by show s.pc ≤ _; omega, Nat.le_succ _⟩
    · show ((((hd0 s.st :: s.st).length : Nat)) : Int) = (s.st.length : Int) - 1 + 2
      rw [List.length_cons]
      omega
  · have e' : op = 4 := e
    subst e'
    have k1 : (2 : Int) ≤ s.st.length := g1
    refine ⟨rfl, ?_, Or.inr (by show s.pc ∈ [k + 1]; simp [hk]), by show s.pc ≤ _; omega, Nat.le_succ _⟩
    · show ((((hd0 s.st.tail :: hd0 s.st :: s.st.tail.tail).length : Nat)) : Int) = (s.st.length : Int) - 2 + 2
      have l1 : s.st.tail.length = s.st.length - 1 := List.length_tail
      have l2 : s.st.tail.tail.length = s.st.tail.length - 1 := List.length_tail
      rw [List.length_cons, List.length_cons]
      omega
  · have e' : op = 5 := e
    subst e'
    have k1 : (0 : Int) ≤ s.st.length := g1
    refine ⟨rfl, ?_, Or.inr (by show s.pc ∈ [k + 1]; simp [hk]), by show s.pc ≤ _; omega, Nat.le_succ _⟩
    · show ((((_ :: s.st).length : Nat)) : Int) = (s.st.length : Int) - 0 + 1
      rw [List.length_cons]
      omega
  · have e' : op = 6 := e
    subst e'
    have k1 : (1 : Int) ≤ s.st.length := g1
    refine ⟨rfl, ?_, Or.inr (by show s.pc ∈ [k + 1]; simp [hk]), by show s.pc ≤ _; omega, Nat.le_succ _⟩
    · show (((s.st.tail.length : Nat)) : Int) = (s.st.length : Int) - 1 + 0
      have l1 : s.st.tail.length = s.st.length - 1 := List.length_tail
      omega
  · have e' : op = 7 := e
    subst e'
    have k1 : (0 : Int) ≤ s.st.length := g1
    refine ⟨rfl, ?_, Or.inr (by show s.pc ∈ [k + 1]; simp [hk]), by show s.pc ≤ _; omega, Nat.le_succ _⟩
    · show ((((_ :: s.st).length : Nat)) : Int) = (s.st.length : Int) - 0 + 1
      rw [List.length_cons]
      omega
  · have e' : op = 8 := e
    subst e'
    have k1 : (0 : Int) ≤ s.st.length := g1
    refine ⟨rfl, ?_, Or.inr (by show s.pc ∈ [k + 1]; simp [hk]), by show s.pc ≤ _; omega, Nat.le_succ _⟩
    · show ((((_ :: s.st).length : Nat)) : Int) = (s.st.length : Int) - 0 + 1
      rw [List.length_cons]
      omega
  · have e' : op = 9 := e
    subst e'
    have k1 : (2 : Int) ≤ s.st.length := g1
    refine ⟨rfl, ?_, Or.inr (by show s.pc ∈ [k + 1]; simp [hk]), by show s.pc ≤ _; omega, Nat.le_succ _⟩
    · show ((((_ :: s.st.tail.tail).length : Nat)) : Int) = (s.st.length : Int) - 2 + 1
      have l1 : s.st.tail.length = s.st.length - 1 := List.length_tail
      have l2 : s.st.tail.tail.length = s.st.tail.length - 1 := List.length_tail
      rw [List.length_cons]
      omega
  · have e' : op = 10 := e
    subst e'
    have k1 : (2 : Int) ≤ s.st.length := g1
    refine ⟨rfl, ?_, Or.inr (by show s.pc ∈ [k + 1]; simp [hk]), by show s.pc ≤ _; omega, Nat.le_succ _⟩
    · show ((((_ :: s.st.tail.tail).length : Nat)) : Int) = (s.st.length : Int) - 2 + 1
      have l1 : s.st.tail.length = s.st.length - 1 := List.length_tail
      have l2 : s.st.tail.tail.length = s.st.tail.length - 1 := List.length_tail
      rw [List.length_cons]
      omega
  · have e' : op = 11 := e
    subst e'
    have k1 : (2 : Int) ≤ s.st.length := g1
    refine ⟨rfl, ?_, Or.inr (by show s.pc ∈ [k + 1]; simp [hk]), by show s.pc ≤ _; omega, Nat.le_succ _⟩
    · show ((((_ :: s.st.tail.tail).length : Nat)) : Int) = (s.st.length : Int) - 2 + 1
      have l1 : s.st.tail.length = s.st.length - 1 := List.length_tail
      have l2 : s.st.tail.tail.length = s.st.tail.length - 1 := List.length_tail
      rw [List.length_cons]
      omega
  · have e' : op = 12 := e
    subst e'
    have k1 : (2 : Int) ≤ s.st.length := g1
    refine ⟨rfl, ?_, Or.inr (by show s.pc ∈ [k + 1]; simp [hk]), by show s.pc ≤ _; omega, Nat.le_succ _⟩
    · show ((((_ :: s.st.tail.tail).length : Nat)) : Int) = (s.st.length : Int) - 2 + 1
      have l1 : s.st.tail.length = s.st.length - 1 := List.length_tail
      have l2 : s.st.tail.tail.length = s.st.tail.length - 1 := List.length_tail
      rw [List.length_cons]
      omega
  · have e' : op = 13 := e
    subst e'
    have k1 : (2 : Int) ≤ s.st.length := g1
    refine ⟨rfl, ?_, Or.inr (by show s.pc ∈ [k + 1]; simp [hk]), by show s.pc ≤ _; omega, Nat.le_succ _⟩
    · show ((((_ :: s.st.tail.tail).length : Nat)) : Int) = (s.st.length : Int) - 2 + 1
      have l1 : s.st.tail.length = s.st.length - 1 := List.length_tail
      have l2 : s.st.tail.tail.length = s.st.tail.length - 1 := List.length_tail
      rw [List.length_cons]
      omega
  · have e' : op = 14 := e
    subst e'
    have k1 : (1 : Int) ≤ s.st.length := g1
    refine ⟨rfl, ?_, Or.inr (by show s.pc ∈ [k + 1]; simp [hk]), by show s.pc ≤ _; omega, Nat.le_succ _⟩
    · show ((((_ :: s.st.tail).length : Nat)) : Int) = (s.st.length : Int) - 1 + 1
      have l1 : s.st.tail.length = s.st.length - 1 := List.length_tail
      rw [List.length_cons]
      omega
  · have e' : op = 15 := e
    subst e'
    have k1 : (2 : Int) ≤ s.st.length := g1
    refine ⟨rfl, ?_, Or.inr (by show s.pc ∈ [k + 1]; simp [hk]), by show s.pc ≤ _; omega, Nat.le_succ _⟩
    · show ((((_ :: s.st.tail.tail).length : Nat)) : Int) = (s.st.length : Int) - 2 + 1
      have l1 : s.st.tail.length = s.st.length - 1 := List.length_tail
      have l2 : s.st.tail.tail.length = s.st.tail.length - 1 := List.length_tail
      rw [List.length_cons]
      omega
  · have e' : op = 16 := e
    subst e'
    have k1 : (2 : Int) ≤ s.st.length := g1
    refine ⟨rfl, ?_, Or.inr (by show s.pc ∈ [k + 1]; simp [hk]), by show s.pc ≤ _; omega, Nat.le_succ _⟩
    · show ((((_ :: s.st.tail.tail).length : Nat)) : Int) = (s.st.length : Int) - 2 + 1
      have l1 : s.st.tail.length = s.st.length - 1 := List.length_tail
      have l2 : s.st.tail.tail.length = s.st.tail.length - 1 := List.length_tail
      rw [List.length_cons]
      omega
  · have e' : op = 17 := e
    subst e'
    have k1 : (2 : Int) ≤ s.st.length := g1
    refine ⟨rfl, ?_, Or.inr (by show s.pc ∈ [k + 1]; simp [hk]), by show s.pc ≤ _; omega, Nat.le_succ _⟩
    · show ((((_ :: s.st.tail.tail).length : Nat)) : Int) = (s.st.length : Int) - 2 + 1
      have l1 : s.st.tail.length = s.st.length - 1 := List.length_tail
      have l2 : s.st.tail.tail.length = s.st.tail.length - 1 := List.length_tail
      rw [List.length_cons]
      omega
  · have e' : op = 18 := e
    subst e'
    have k1 : (2 : Int) ≤ s.st.length := g1
    refine ⟨rfl, ?_, Or.inr (by show s.pc ∈ [k + 1]; simp [hk]), by show s.pc ≤ _; omega, Nat.le_succ _⟩
    · show ((((_ :: s.st.tail.tail).length : Nat)) : Int) = (s.st.length : Int) - 2 + 1
      have l1 : s.st.tail.length = s.st.length - 1 := List.length_tail
      have l2 : s.st.tail.tail.length = s.st.tail.length - 1 := List.length_tail
      rw [List.length_cons]
      omega
  · have e' : op = 19 := e
    subst e'
    have k1 : (1 : Int) ≤ s.st.length := g1
    refine ⟨rfl, ?_, Or.inr (by show s.pc ∈ [k + 1]; simp [hk]), by show s.pc ≤ _; omega, Nat.le_succ _⟩
    · show ((((_ :: s.st.tail).length : Nat)) : Int) = (s.st.length : Int) - 1 + 1
      have l1 : s.st.tail.length = s.st.length - 1 := List.length_tail
      rw [List.length_cons]
      omega
  · have e' : op = 20 := e
    subst e'
    have k1 : (0 : Int) ≤ s.st.length := g1
    have t1 := ok.tgt (Or.inl rfl)
    have t2 : a ≤ code.length := t1.2
    refine ⟨rfl, ?_, Or.inr (by show a.toNat ∈ [a.toNat]; simp), by show a.toNat ≤ _; omega, Nat.le_succ _⟩
    · show (((s.st.length : Nat)) : Int) = (s.st.length : Int) - 0 + 0
      omega
  · have e' : op = 21 := e
    subst e'
    have k1 : (1 : Int) ≤ s.st.length := g1
    have t1 := ok.tgt (Or.inr rfl)
    have t2 : a ≤ code.length := t1.2
    refine ⟨rfl, ?_, Or.inr ?_, ?_, Nat.le_succ _⟩
    · show (((s.st.tail.length : Nat)) : Int) = (s.st.length : Int) - 1 + 0
      have l1 : s.st.tail.length = s.st.length - 1 := List.length_tail
      omega
    · show (if hd0 s.st = 0 then a.toNat else s.pc) ∈ [a.toNat, k + 1]
      split <;> simp [hk]
    · show (if hd0 s.st = 0 then a.toNat else s.pc) ≤ _
      split <;> omega
  · have e' : op = 22 := e
    subst e'
    have k1 : 1 + argsOf p.hs a ≤ s.st.length := g1
    obtain ⟨s1, s2⟩ := ok.snd rfl
    have s2' : 0 ≤ argsOf p.hs a := s2.1
    by_cases hz : 0 ≤ hd0 s.st ∧ hd0 s.st < p.acs.length
    · have e : stp p who args code.length ⟨22, a⟩ s = (0, { s with st := s.st.tail.drop (argsOf p.hs a).toNat, notes := s.notes ++ [⟨hd0 s.st, a, (s.st.tail.take (argsOf p.hs a).toNat).reverse⟩] }) := if_pos hz
      rw [e]
      refine ⟨rfl, ?_, Or.inr (by show s.pc ∈ [k + 1]; simp [hk]), by show s.pc ≤ _; omega, by simp⟩
      show (((s.st.tail.drop (argsOf p.hs a).toNat).length : Nat) : Int) = (s.st.length : Int) - (1 + argsOf p.hs a) + 0
      rw [List.length_drop, List.length_tail]; omega
    · have e : stp p who args code.length ⟨22, a⟩ s = (4, { s with st := s.st.tail }) := if_neg hz
      rw [e] at h0
      cases h0
  · have e' : op = 23 := e
    subst e'
    have k1 : (0 : Int) ≤ s.st.length := g1
    refine ⟨rfl, ?_, Or.inr (by show s.pc ∈ [k + 1]; simp [hk]), by show s.pc ≤ _; omega, Nat.le_succ _⟩
    · show (((s.st.length : Nat)) : Int) = (s.st.length : Int) - 0 + 0
      omega
  · have e' : op = 24 := e
    subst e'
    have k1 : (0 : Int) ≤ s.st.length := g1
    refine ⟨rfl, ?_, Or.inr (by show s.pc ∈ [k + 1]; simp [hk]), by show s.pc ≤ _; omega, Nat.le_succ _⟩
    · show (((s.st.length : Nat)) : Int) = (s.st.length : Int) - 0 + 0
      omega
  · have e' : op = 25 := e
    subst e'
    have k1 : (0 : Int) ≤ s.st.length := g1
    refine ⟨rfl, ?_, Or.inl rfl, Nat.le_refl _, Nat.le_succ _⟩
    · show (((s.st.length : Nat)) : Int) = (s.st.length : Int) - 0 + 0
      omega
end
end Go.Proofs.YtpcffhhednplaaaDoor
