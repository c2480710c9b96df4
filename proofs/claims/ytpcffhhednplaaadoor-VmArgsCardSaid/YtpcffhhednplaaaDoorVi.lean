/-
  The fourth law's program, as plain data: arguments that are sent on. No conditions.
-/
import Derived.Test.YtpcffhhednplaaaDoorVg
namespace Go.Proofs.YtpcffhhednplaaaDoor
open Go.RowKit
def tB : Nat → List PIns
  | 0 => []
  | n + 1 => tB n ++ [⟨7, (n : Int)⟩]
def tC (n : Nat) (to_ : Int) : List PIns := tB n ++ [⟨1, to_⟩, ⟨22, 0⟩]
def tP (n : Nat) (to_ : Int) : PPrg := ⟨[⟨n, tC n to_⟩], [⟨[], 0, -1, false⟩, ⟨[], 0, -1, false⟩], [], 50⟩
theorem tB_len : ∀ n, (tB n).length = n
  | 0 => rfl
  | n + 1 => by rw [tB, List.length_append, tB_len n]; rfl
theorem tC_len (n : Nat) (t : Int) : (tC n t).length = n + 2 := by rw [tC, List.length_append, tB_len]; rfl
theorem tB_at : ∀ n i, i < n → (tB n)[i]? = some ⟨7, (i : Int)⟩
  | n + 1, i, h => by
    rw [tB]
    have hl := tB_len n
    by_cases e : i < n
    · rw [List.getElem?_append_left (by omega)]; exact tB_at n i e
    · obtain rfl : i = n := by omega
      rw [List.getElem?_append_right (by omega), hl, Nat.sub_self]; rfl
theorem tC_at {n i : Nat} {t : Int} (h : i < n) : (tC n t)[i]? = some ⟨7, (i : Int)⟩ := by
  rw [tC, List.getElem?_append_left (by rw [tB_len]; exact h)]; exact tB_at n i h
theorem tC_end (n : Nat) (t : Int) : (tC n t)[n]? = some ⟨1, t⟩ ∧ (tC n t)[n + 1]? = some ⟨22, 0⟩ := by
  have hl := tB_len n
  rw [tC, List.getElem?_append_right (by omega), List.getElem?_append_right (by omega), hl, Nat.sub_self, show n + 1 - n = 1 by omega]
  exact ⟨rfl, rfl⟩
theorem t_chk (t : Int) : ((List.range 5).all fun n => (tC n t).all (fun i => decide (chkI (tC n t).length n 1 i = 0))) = true := by kernel_rfl
theorem t_good (t : Int) : ((List.range 5).all fun n => goodB [⟨n, tC n t⟩] (tC n t) ((List.range (n + 2)).map (fun k : Nat => (k : Int)) ++ [0]) prv) = true := by kernel_rfl
theorem t_cnt (t : Int) : ((List.range 5).all fun n => decide (chkC (tP n t) = 0) && decide (scan (chkA [⟨n, tC n t⟩]) [⟨[], 0, -1, false⟩, ⟨[], 0, -1, false⟩] = 0)) = true := by kernel_rfl
theorem ft1 {n : Nat} {t : Int} (hn : n < 5) : fc (tP n t) = 0 := by
  have h := all_of (t_cnt t) hn
  rw [Bool.and_eq_true, decide_eq_true_eq, decide_eq_true_eq] at h
  exact gen_fc ⟨by omega, by omega⟩ h.1 h.2 (by rw [tC_len]; omega) (chk_alln (all_of (t_chk t) hn)) (goodB_good (all_of (t_good t) hn))
def tl (args : List Int) (j : Nat) : MS := ⟨[], false, [], (args.take j).reverse, j, j⟩
theorem tl_step {args : List Int} {t : Int} (j f : Nat) (hj : j < args.length) : rn (tP args.length t) 1 args (tC args.length t) (f + 1) (tl args j) = rn (tP args.length t) 1 args (tC args.length t) f (tl args (j + 1)) := by
  obtain ⟨x, hx⟩ := at_lt hj
  refine (x7 (tC_at hj)).trans ?_
  unfold tl
  have e : args.getD ((j : Int)).toNat 0 = x := by rw [Int.toNat_natCast, List.getD_eq_getElem?_getD, hx]; rfl
  rw [e, List.take_add_one, hx]
  simp
def loc0 : PLoc := ⟨[], false, 0, 0, 0⟩
theorem t_may {args : List Int} {t : Int} (hn : args.length < 5) : mayP (tP args.length t) 1 loc0 0 args :=
  ⟨ft1 hn, ⟨by decide, by show (1 : Int) < 2; decide⟩, ⟨by decide, by show (0 : Int) < 1; decide⟩, rfl, by show 0 ≤ 8; decide, rfl⟩
theorem t_run {args : List Int} {t : Int} (hn : args.length < 5) : rnR (tP args.length t) 1 loc0 0 args = rn (tP args.length t) 1 args (tC args.length t) (50 - args.length - 1) ⟨[], false, [], t :: args.reverse, args.length + 1, args.length + 1⟩ := by
  have h := rn_path (sj := tl args) (L := args.length) (fun j f hj => tl_step (t := t) j f hj) args.length (50 - args.length) (Nat.le_refl _)
  rw [show 50 - args.length + args.length = 50 by omega] at h
  refine Eq.trans (show _ = rn (tP args.length t) 1 args (tC args.length t) 50 (tl args 0) from rfl) (h.trans ?_)
  rw [show 50 - args.length = 50 - args.length - 1 + 1 by omega]
  refine (x1 (tC_end args.length t).1).trans ?_
  rw [List.take_length]
  rfl
theorem t_args {n : Nat} {t : Int} : (argsOf (tP n t).hs 0).toNat = n := by
  show ((n : Int)).toNat = n
  omega
theorem etE {args : List Int} {t : Int} (hn : args.length < 5) (ht : 0 ≤ t ∧ t < 2) : runP (tP args.length t) 1 loc0 0 args = ⟨⟨[], false, 0, 1, 0⟩, [⟨t, 0, args⟩], (args.length : Int) + 2⟩ := by
  rw [run_of (t_may hn), t_run hn, show 50 - args.length - 1 = 50 - args.length - 2 + 1 by omega, x22 (tC_end args.length t).2 ht, rn_end (by show ¬ args.length + 1 + 1 < _; rw [tC_len]; omega), t_args]
  unfold fin loc0
  simp
  exact ⟨wrap_inN ⟨by decide, by decide⟩, by rw [List.take_of_length_le (by simp)]; simp, by omega⟩
theorem etL {args : List Int} {t : Int} (hn : args.length < 5) (ht : ¬ (0 ≤ t ∧ t < 2)) : runP (tP args.length t) 1 loc0 0 args = ⟨⟨[], false, 4, 0, 0⟩, [], (args.length : Int) + 2⟩ := by
  rw [run_of (t_may hn), t_run hn, show 50 - args.length - 1 = 50 - args.length - 2 + 1 by omega, x22l (tC_end args.length t).2 ht]
  unfold fin loc0
  simp
  omega
end Go.Proofs.YtpcffhhednplaaaDoor
