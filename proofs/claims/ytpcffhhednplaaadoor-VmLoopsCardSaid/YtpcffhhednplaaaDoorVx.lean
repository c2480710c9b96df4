/-
  One instruction behind another, as plain data; when a program of one handler is taken. No conditions.
-/
import Derived.Test.YtpcffhhednplaaaDoorVt
namespace Go.Proofs.YtpcffhhednplaaaDoor
open Go.RowKit
section
variable {p : PPrg} {who : Int} {args : List Int} {code : List PIns} {f pc t : Nat} {R : List Int} {ar : Bool} {N : List PNte} {S : List Int} {a x y : Int}
theorem rn_st {i : PIns} {s s' : MS} (hi : code[s.pc]? = some i) (e : stp p who args code.length i { s with pc := s.pc + 1, steps := s.steps + 1 } = (0, s')) : rn p who args code (f + 1) s = rn p who args code f s' := by
  rw [rn_on (List.getElem?_eq_some_iff.1 hi).1 hi (by rw [e]), e]
theorem rn_fl {i : PIns} {s s' : MS} {d : Int} (hi : code[s.pc]? = some i) (e : stp p who args code.length i { s with pc := s.pc + 1, steps := s.steps + 1 } = (d, s')) (hd : d ≠ 0) : rn p who args code (f + 1) s = (d, s') := by
  rw [rn_down (List.getElem?_eq_some_iff.1 hi).1 hi (by rw [e]; exact hd), e]
theorem x1 (h : code[pc]? = some ⟨1, a⟩) : rn p who args code (f + 1) ⟨R, ar, N, S, pc, t⟩ = rn p who args code f ⟨R, ar, N, a :: S, pc + 1, t + 1⟩ := rn_st h rfl
theorem x2 (h : code[pc]? = some ⟨2, a⟩) : rn p who args code (f + 1) ⟨R, ar, N, x :: S, pc, t⟩ = rn p who args code f ⟨R, ar, N, S, pc + 1, t + 1⟩ := rn_st h rfl
theorem x5 (h : code[pc]? = some ⟨5, a⟩) : rn p who args code (f + 1) ⟨R, ar, N, S, pc, t⟩ = rn p who args code f ⟨R, ar, N, R.getD a.toNat 0 :: S, pc + 1, t + 1⟩ := rn_st h rfl
theorem x6 (h : code[pc]? = some ⟨6, a⟩) : rn p who args code (f + 1) ⟨R, ar, N, x :: S, pc, t⟩ = rn p who args code f ⟨R.set a.toNat x, ar, N, S, pc + 1, t + 1⟩ := rn_st h rfl
theorem x7 (h : code[pc]? = some ⟨7, a⟩) : rn p who args code (f + 1) ⟨R, ar, N, S, pc, t⟩ = rn p who args code f ⟨R, ar, N, args.getD a.toNat 0 :: S, pc + 1, t + 1⟩ := rn_st h rfl
theorem x8 (h : code[pc]? = some ⟨8, a⟩) : rn p who args code (f + 1) ⟨R, ar, N, S, pc, t⟩ = rn p who args code f ⟨R, ar, N, who :: S, pc + 1, t + 1⟩ := rn_st h rfl
theorem x9 (h : code[pc]? = some ⟨9, a⟩) : rn p who args code (f + 1) ⟨R, ar, N, y :: x :: S, pc, t⟩ = rn p who args code f ⟨R, ar, N, wrap64 (x + y) :: S, pc + 1, t + 1⟩ := rn_st h (by simp [stp, dn, tw, hd0])
theorem x10 (h : code[pc]? = some ⟨10, a⟩) : rn p who args code (f + 1) ⟨R, ar, N, y :: x :: S, pc, t⟩ = rn p who args code f ⟨R, ar, N, wrap64 (x - y) :: S, pc + 1, t + 1⟩ := rn_st h (by simp [stp, dn, tw, hd0])
theorem x13 (h : code[pc]? = some ⟨13, a⟩) : ∃ s', rn p who args code (f + 1) ⟨R, ar, N, 0 :: x :: S, pc, t⟩ = (3, s') := ⟨_, rn_fl h (by simp [stp, dn, hd0]; rfl) (by decide)⟩
theorem x20 (h : code[pc]? = some ⟨20, a⟩) : rn p who args code (f + 1) ⟨R, ar, N, S, pc, t⟩ = rn p who args code f ⟨R, ar, N, S, a.toNat, t + 1⟩ := rn_st h rfl
theorem x21z (h : code[pc]? = some ⟨21, a⟩) : rn p who args code (f + 1) ⟨R, ar, N, 0 :: S, pc, t⟩ = rn p who args code f ⟨R, ar, N, S, a.toNat, t + 1⟩ := rn_st h rfl
theorem x21n (h : code[pc]? = some ⟨21, a⟩) (hx : x ≠ 0) : rn p who args code (f + 1) ⟨R, ar, N, x :: S, pc, t⟩ = rn p who args code f ⟨R, ar, N, S, pc + 1, t + 1⟩ := rn_st h (by simp [stp, hd0, hx])
theorem x22 (h : code[pc]? = some ⟨22, a⟩) (hx : 0 ≤ x ∧ x < p.acs.length) : rn p who args code (f + 1) ⟨R, ar, N, x :: S, pc, t⟩ = rn p who args code f ⟨R, ar, N ++ [⟨x, a, (S.take (argsOf p.hs a).toNat).reverse⟩], S.drop (argsOf p.hs a).toNat, pc + 1, t + 1⟩ := rn_st h (by
  show (if 0 ≤ x ∧ x < (p.acs.length : Int) then _ else _) = _
  rw [if_pos hx]; rfl)
theorem x22l (h : code[pc]? = some ⟨22, a⟩) (hx : ¬ (0 ≤ x ∧ x < p.acs.length)) : rn p who args code (f + 1) ⟨R, ar, N, x :: S, pc, t⟩ = (4, ⟨R, ar, N, S, pc + 1, t + 1⟩) := rn_fl h (by
  show (if 0 ≤ x ∧ x < (p.acs.length : Int) then _ else _) = _
  rw [if_neg hx]; rfl) (by decide)
theorem x23 (h : code[pc]? = some ⟨23, a⟩) : rn p who args code (f + 1) ⟨R, ar, N, S, pc, t⟩ = rn p who args code f ⟨R, ar || tmr p who != -1, N, S, pc + 1, t + 1⟩ := rn_st h rfl
theorem x24 (h : code[pc]? = some ⟨24, a⟩) : rn p who args code (f + 1) ⟨R, ar, N, S, pc, t⟩ = rn p who args code f ⟨R, false, N, S, pc + 1, t + 1⟩ := rn_st h rfl
/-- A way of so many steps. -/
theorem rn_path {sj : Nat → MS} {L : Nat} (hs : ∀ j f, j < L → rn p who args code (f + 1) (sj j) = rn p who args code f (sj (j + 1))) : ∀ (k f : Nat), k ≤ L → rn p who args code (f + k) (sj 0) = rn p who args code f (sj k)
  | 0, f, _ => rfl
  | k + 1, f, h => by
    rw [show f + (k + 1) = f + 1 + k by omega, rn_path hs k (f + 1) (by omega), hs k f (by omega)]
end
/-- When a program of one handler is taken. -/
theorem gen_fc {n fuel : Int} {code : List PIns} {acs : List PAct} {l : List Int} (hn : 0 ≤ n ∧ n ≤ 4) (hC : chkC ⟨[⟨n, code⟩], acs, [], fuel⟩ = 0) (hA : scan (chkA [⟨n, code⟩]) acs = 0) (hl : code.length ≤ 64) (hi : ∀ i ∈ code, chkI code.length n 1 i = 0) (hg : Good [⟨n, code⟩] code l) : fc ⟨[⟨n, code⟩], acs, [], fuel⟩ = 0 := by
  have hs : ∀ l : List PIns, (∀ i ∈ l, chkI code.length n 1 i = 0) → scan (chkI code.length n 1) l = 0 := by
    intro l
    induction l with
    | nil => intro _; rfl
    | cons x r ih => intro hx; unfold scan; rw [if_pos (hx x (by simp))]; exact ih fun i hi => hx i (by simp [hi])
  have h1 : chkH 1 ⟨n, code⟩ = 0 := by
    unfold chkH
    rw [if_pos hn, if_pos hl]
    exact hs code hi
  have h2 : scan (chkH ([⟨n, code⟩] : List PHnd).length) [⟨n, code⟩] = 0 := by
    show (if chkH 1 ⟨n, code⟩ = 0 then 0 else chkH 1 ⟨n, code⟩) = 0
    rw [if_pos h1]
  have hc : chk ⟨[⟨n, code⟩], acs, [], fuel⟩ = 0 := by
    unfold chk
    rw [if_pos hC, if_pos h2, if_pos hA]
    rfl
  unfold fc
  rw [if_pos hc]
  show (if de [⟨n, code⟩] code = 0 then 0 else de [⟨n, code⟩] code) = 0
  rw [if_pos hg.de]
theorem run_of {p : PPrg} {who : Int} {l : PLoc} {h : Int} {args : List Int} (hm : mayP p who l h args) : runP p who l h args = fin l (rnR p who l h args) := by
  unfold runP
  exact @if_pos _ (Classical.propDecidable _) hm _ _ _
theorem all_of {n : Nat} {f : Nat → Bool} (h : (List.range n).all f = true) {k : Nat} (hk : k < n) : f k = true := List.all_eq_true.1 h k (List.mem_range.2 hk)
/-- A run that falls. -/
theorem fin_fall {l : PLoc} {r : Int × MS} {d : Int} {t : Nat} (h1 : r.1 = d) (hd : d ≠ 0) (h2 : r.2.steps = t) : fin l r = ⟨{ l with down := d }, [], t⟩ := by
  unfold fin
  rw [if_neg (by rw [h1]; exact hd), h1, h2]
end Go.Proofs.YtpcffhhednplaaaDoor
