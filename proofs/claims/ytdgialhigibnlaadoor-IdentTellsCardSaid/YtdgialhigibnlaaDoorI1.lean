/-
  Small facts on worlds; decimal texts, and cuts, as plain data. No conditions.
-/
import Derived.Test.YtdgialhigibnlaaDoorSh
import Derived.WalkKit
import Derived.WalkSpells
import Derived.WalkLawsBesides
import Derived.Deep.QuietTactic
import Derived.BigQuiet
import Derived.Deep.LoopGhost
import Derived.Deep.RegionHeld3
import Derived.Deep.DrawnRows
import Derived.Lib.AppendIntMem
import Derived.Lib.AtoiAllCases
import Derived.Lib.ItoaNum
import Derived.Lib.ItoaLen
import Derived.Lib.SlBytesRow
namespace Go.Proofs.YtdgialhigibnlaaDoor
open Go.RowKit
theorem at_lt {α : Type} {l : List α} {k : Nat} (h : k < l.length) : ∃ x, l[k]? = some x := ⟨l[k], List.getElem?_eq_getElem h⟩
theorem bDrewN {B : Nat} {a w : World} (h : Below B a w) (n : Nat) : Below B a (w.drewN n) := ⟨h.os, h.tape, h.output, h.size, h.block⟩
/-- One more new block behind what is as it was. -/
theorem bAlloc {a w : World} (h : Below a.heap.size a w) (o : Obj) : Below a.heap.size a (w.alloc o) := h.alloc h.size o
theorem bTrans {a b c : World} (h : Below a.heap.size a b) (k : Below b.heap.size b c) : Below a.heap.size a c := h.trans (k.mono h.size)
theorem bRefl (w : World) : Below w.heap.size w w := Below.refl _ _
theorem bcell {W w1 : World} (hb : Below W.heap.size W w1) : (∀ b o, b < W.heap.size → w1.cell? ⟨b, o, none⟩ = W.cell? ⟨b, o, none⟩) :=
  fun b o h => hb.cell (p := ⟨b, o, none⟩) h
theorem ret_b {a b : Bool} (h : a = b) : Ending.returned (.bool a) = .returned (.bool b) := by rw [h]
theorem lt_ne {a b : Nat} (h : a ≠ b) : ((a : Int) != (b : Int)) = true := by simp; omega
theorem lt_eq {a b : Nat} (h : a = b) : ((a : Int) != (b : Int)) = false := by simp [h]
theorem ne_no {a b : Int} (h : a = b) : (a != b) = false := by simp [h]
theorem ne_yes {a b : Int} (h : a ≠ b) : (a != b) = true := by simp [h]
theorem quiet_below {w w' : World} (h : ∃ n, w' = w.drewN n) : Below w.heap.size w w' := by obtain ⟨n, rfl⟩ := h; exact bDrewN (bRefl w) n
theorem quiet_next {w wr : World} (h : ∃ n, wr = w.drewN n) (m : Nat) : ∃ n, wr.drewN m = w.drewN n := by obtain ⟨n, rfl⟩ := h; exact ⟨n + m, by rw [World.drewN_drewN]⟩
theorem quiet_refl (w : World) : ∃ n, w = w.drewN n := ⟨0, rfl⟩
theorem undrew {W w1 : World} (h : Below W.drew.heap.size W.drew w1) : Below W.heap.size W w1 := ⟨h.os, h.tape, h.output, h.size, h.block⟩
theorem heap_new (w : World) (o : Obj) : (w.alloc o).heap[w.heap.size]? = some o := by show (w.heap.push o)[w.heap.size]? = _; simp
theorem grow_below (w : World) (k : Nat) (os : Array Obj) : Below w.heap.size w (Sort.grow (w.drewN k) os) := by
  refine ⟨rfl, rfl, rfl, ?_, fun b hb => ?_⟩
  · simp [Sort.grow]
  · show (w.heap ++ os)[b]? = w.heap[b]?
    rw [Array.getElem?_append_left hb]
/-- A text as a value. -/
def bs (l : List UInt8) : ByteArray := ⟨l.toArray⟩
theorem bs_of (s : ByteArray) : s = bs s.data.toList := rfl
theorem bs_app (a b : List UInt8) : bs a ++ bs b = bs (a ++ b) := by
  unfold bs
  apply ByteArray.ext
  simp [ByteArray.data_append]
theorem bs_size (l : List UInt8) : (bs l).size = l.length := by simp [bs, ByteArray.size]
theorem bs_data (l : List UInt8) : (bs l).data.toList = l := by simp [bs]
theorem bs_inj {a b : List UInt8} (h : bs a = bs b) : a = b := by rw [← bs_data a, h, bs_data]
theorem ret_str {a b : ByteArray} (h : a = b) : Ending.returned (.string a) = .returned (.string b) := by rw [h]
theorem str_yes {a b : List UInt8} (h : a = b) : ((bs a).toList == (bs b).toList) = true := by rw [h]; exact beq_self_eq_true _
theorem str_no {a b : List UInt8} (h : a ≠ b) : ((bs a).toList == (bs b).toList) = false := by
  rw [Lib.toList_data, Lib.toList_data, bs_data, bs_data]; exact beq_eq_false_iff_ne.2 h
theorem emp_yes {l : List UInt8} (h : l = []) : (bs l).toList.isEmpty = true := by rw [Lib.toList_data, bs_data, h]; rfl
theorem emp_no {l : List UInt8} (h : l ≠ []) : (bs l).toList.isEmpty = false := by
  rw [Lib.toList_data, bs_data]
  cases l with
  | nil => exact absurd rfl h
  | cons a r => rfl
theorem heap_new2 {w : World} {o : Obj} {n : Nat} (h : w.heap.size = n) : (w.alloc o).heap[n]? = some o := by subst h; exact heap_new _ _
section
open Go.Lib
/-! ### Decimal -/
def dgB (c : UInt8) : Bool := decide (48 ≤ c.toNat ∧ c.toNat ≤ 57)
theorem dg_ofNat {k : Nat} (h : k < 10) : (UInt8.ofNat (48 + k)).toNat = 48 + k := by
  rw [UInt8.toNat_ofNat']; omega
theorem dec_dg (u : Nat) : ∀ c ∈ decDigits u, 48 ≤ c.toNat ∧ c.toNat ≤ 57 := by
  induction u using Nat.strongRecOn with
  | _ u ih =>
    intro c hc
    rw [decDigits] at hc
    split at hc
    · rename_i h
      rw [List.mem_singleton] at hc; subst hc
      rw [dg_ofNat h]; omega
    · rename_i h
      rcases List.mem_append.1 hc with hc | hc
      · exact ih (u / 10) (by omega) c hc
      · rw [List.mem_singleton] at hc; subst hc
        rw [dg_ofNat (by omega)]; omega
theorem dec_ne (u : Nat) : decDigits u ≠ [] := by
  rw [decDigits]; split <;> simp
theorem parse_snoc (l : List UInt8) (c : UInt8) (acc : Nat) : parseUint10 acc (l ++ [c]) = match parseUint10 acc l with | .ok v => parseUint10 v [c] | .syntax => .syntax | .range => .range := by
  induction l generalizing acc with
  | nil => rfl
  | cons x r ih =>
    simp only [List.cons_append, parseUint10]
    split
    · split
      · rfl
      · split
        · rfl
        · exact ih _
    · rfl
theorem parse_dec (u : Nat) (h : u < 18446744073709551616) : parseUint10 0 (decDigits u) = .ok u := by
  induction u using Nat.strongRecOn with
  | _ u ih =>
    rw [decDigits]
    split
    · rename_i hs
      simp only [parseUint10, dg_ofNat hs]
      rw [if_pos (by omega), if_neg (by omega), if_neg (by omega)]
      congr 1; omega
    · rename_i hs
      rw [parse_snoc, ih (u / 10) (by omega) (by omega)]
      simp only [parseUint10, dg_ofNat (show u % 10 < 10 by omega)]
      rw [if_pos (by omega), if_neg (by omega), if_neg (by omega)]
      congr 1; omega
/-- A number of 64 bits. -/
def Rg (n : Int) : Prop := -9223372036854775808 ≤ n ∧ n ≤ 9223372036854775807
theorem mag_dec {u : Nat} (h : u < 18446744073709551616) : parseMag (decDigits u) = .ok u := by
  unfold parseMag; rw [if_neg (dec_ne u)]; exact parse_dec u h
theorem atoi_itoa {n : Int} (h : Rg n) : atoiAll (itoa n) = .ok n := by
  obtain ⟨h1, h2⟩ := h
  unfold itoa
  by_cases e : n < 0
  · rw [if_pos e]
    unfold atoiAll
    simp only [show (45 : UInt8).toNat = 45 from rfl, or_true, if_true]
    rw [mag_dec (by omega)]
    simp only [not_true, false_and, if_false, true_and]
    rw [if_neg (by omega)]
    congr 1; omega
  · rw [if_neg e]
    cases hl : decDigits n.toNat with
    | nil => exact absurd hl (dec_ne _)
    | cons c r =>
      have hc := dec_dg n.toNat c (by rw [hl]; simp)
      unfold atoiAll
      simp only
      rw [if_neg (by omega), ← hl, mag_dec (by omega)]
      simp only
      rw [if_neg (by omega), if_neg (by omega), if_neg (by omega)]
      congr 1; omega
theorem itoa_inj {n m : Int} (hn : Rg n) (hm : Rg m) (h : itoa n = itoa m) : n = m := by
  have := atoi_itoa hn
  rw [h, atoi_itoa hm] at this
  injection this with this
  exact this.symm
theorem itoa_ne (n : Int) : itoa n ≠ [] := by
  unfold itoa
  by_cases h : n < 0
  · rw [if_pos h]; simp
  · rw [if_neg h]; exact dec_ne _
/-- What Atoi answers beside its error. -/
def atoiV (l : List UInt8) : Int := match atoiAll l with | .ok v => v | .syntax => 0 | .range => atoiSat l

/-- Cut at the first x. -/
def cutc (x : UInt8) : List UInt8 → Option (List UInt8 × List UInt8)
  | [] => none
  | c :: r => if c = x then some ([], r) else (cutc x r).map (fun p => (c :: p.1, p.2))
theorem cutc_app {x : UInt8} {a : List UInt8} (b : List UInt8) (h : ∀ c ∈ a, c ≠ x) : cutc x (a ++ x :: b) = some (a, b) := by
  induction a with
  | nil => simp [cutc]
  | cons y r ih => rw [List.cons_append, cutc, if_neg (h y (by simp)), ih (fun c hc => h c (by simp [hc]))]; rfl
theorem cutc_none {x : UInt8} {a : List UInt8} (h : ∀ c ∈ a, c ≠ x) : cutc x a = none := by
  induction a with
  | nil => rfl
  | cons y r ih => rw [cutc, if_neg (h y (by simp)), ih (fun c hc => h c (by simp [hc]))]; rfl
theorem cutc_some {x : UInt8} : ∀ {l a b : List UInt8}, cutc x l = some (a, b) → l = a ++ x :: b ∧ ∀ c ∈ a, c ≠ x
  | [], a, b, h => by cases h
  | c :: r, a, b, h => by
    unfold cutc at h
    by_cases e : c = x
    · rw [if_pos e] at h
      simp only [Option.some.injEq, Prod.mk.injEq] at h
      obtain ⟨rfl, rfl⟩ := h
      exact ⟨by rw [e]; rfl, fun c hc => by cases hc⟩
    · rw [if_neg e] at h
      cases hr : cutc x r with
      | none => rw [hr] at h; cases h
      | some p =>
        rw [hr] at h
        simp only [Option.map_some, Option.some.injEq, Prod.mk.injEq] at h
        obtain ⟨rfl, rfl⟩ := h
        obtain ⟨h1, h2⟩ := cutc_some (a := p.1) (b := p.2) hr
        refine ⟨by rw [h1]; rfl, fun d hd => ?_⟩
        rcases List.mem_cons.1 hd with rfl | hd
        · exact e
        · exact h2 d hd
theorem cutc_no {x : UInt8} : ∀ {l : List UInt8}, cutc x l = none → ∀ c ∈ l, c ≠ x
  | [], _, c, hc => by cases hc
  | y :: r, h, c, hc => by
    unfold cutc at h
    by_cases e : y = x
    · rw [if_pos e] at h; cases h
    · rw [if_neg e] at h
      rcases List.mem_cons.1 hc with rfl | hc
      · exact e
      · exact cutc_no (Option.map_eq_none_iff.1 h) c hc
theorem atoiV_rg (l : List UInt8) : Rg (atoiV l) := by
  unfold atoiV
  cases h : atoiAll l with
  | ok v => exact atoiAll_bounds h
  | «syntax» => exact ⟨by show (-9223372036854775808 : Int) ≤ 0; omega, by show (0 : Int) ≤ 9223372036854775807; omega⟩
  | range =>
    show Rg (atoiSat l)
    unfold atoiSat Rg
    split <;> omega
end
theorem index_cutc (x : UInt8) : ∀ s : List UInt8, (∃ a b, cutc x s = some (a, b) ∧ Lib.index s [x] = (a.length : Int)) ∨ (cutc x s = none ∧ Lib.index s [x] = -1)
  | [] => Or.inr ⟨rfl, by simp [Lib.index]⟩
  | c :: r => by
    unfold cutc Lib.index
    by_cases e : c = x
    · left; refine ⟨[], r, by rw [if_pos e], ?_⟩
      rw [if_pos (by simp [e])]; rfl
    · rw [if_neg e]
      rw [if_neg (by simp; exact fun h => e h.symm)]
      rcases index_cutc x r with ⟨a, b, h1, h2⟩ | ⟨h1, h2⟩
      · left; refine ⟨c :: a, b, by rw [h1]; rfl, ?_⟩
        rw [h2, if_neg (by simp)]; simp
      · right; exact ⟨by rw [h1]; rfl, by rw [h2]; rfl⟩
theorem cut_some {x : UInt8} {s a b : List UInt8} (h : cutc x s = some (a, b)) : Lib.cut s [x] = (a, b, true) := by
  rcases index_cutc x s with ⟨a', b', h1, h2⟩ | ⟨h1, _⟩
  · rw [h] at h1; cases h1
    have := (cutc_some h).1
    unfold Lib.cut
    rw [h2, if_pos (by omega)]
    subst this
    simp
  · rw [h] at h1; cases h1
theorem cut_none {x : UInt8} {s : List UInt8} (h : cutc x s = none) : Lib.cut s [x] = (s, [], false) := by
  rcases index_cutc x s with ⟨a', b', h1, _⟩ | ⟨_, h2⟩
  · rw [h] at h1; cases h1
  · unfold Lib.cut; rw [h2, if_neg (by omega)]
end Go.Proofs.YtdgialhigibnlaaDoor
