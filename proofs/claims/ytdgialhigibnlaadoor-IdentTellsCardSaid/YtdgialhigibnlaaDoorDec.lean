/-
  The document's own decimal: Decimal, and Int. Condition: a number is one of 64 bits.
-/
import Derived.Test.YtdgialhigibnlaaDoorI3
namespace Go.Proofs.YtdgialhigibnlaaDoor
open Go.RowKit
attribute [local go_sem ↓] Go.wp_at_zero Go.wp_at_succ
theorem wrap_pos {n : Int} (h : Rg n) (hn : ¬ n < 0) : IntKind.u64.wrap n = ((n.natAbs : Nat) : Int) := by
  obtain ⟨h1, h2⟩ := h
  simp [IntKind.wrap, IntKind.bits, IntKind.signed]
  omega
theorem wrap_neg {n : Int} (h : Rg n) (hn : n < 0) : IntKind.u64.wrap (-IntKind.u64.wrap n) = ((n.natAbs : Nat) : Int) := by
  obtain ⟨h1, h2⟩ := h
  simp [IntKind.wrap, IntKind.bits, IntKind.signed]
  omega
theorem itoa_pos {n : Int} (hn : ¬ n < 0) : Lib.itoa n = Lib.decDigits n.natAbs := by
  unfold Lib.itoa; rw [if_neg hn]; congr 1; omega
theorem itoa_neg {n : Int} (hn : n < 0) : Lib.itoa n = 45 :: Lib.decDigits n.natAbs := by
  unfold Lib.itoa; rw [if_pos hn]
theorem dec_len {u : Nat} (h : u ≤ 9223372036854775808) : (Lib.decDigits u).length ≤ 21 := by
  by_cases e : u = 9223372036854775808
  · subst e; decide +kernel
  · have := Lib.itoa_length_le (u : Int) (by omega) (by omega)
    rw [itoa_pos (by omega)] at this
    simpa using this
/-- A sign, as a text. -/
theorem conv1 (w : World) (x : Int) (c : UInt8) (h : x = (c.toNat : Int)) :
    (convert 65 9 (.slice (some ⟨w.heap.size, 0, none⟩) 1 1)).run Tryd.prog (w.alloc (.cells #[.int .u8 x] 5)) = .ok (.string (bs [c])) (w.alloc (.cells #[.int .u8 x] 5)) := by
  subst h
  refine Lib.run_convert_whole (P := Tryd.prog) _ 65 5 9 Tryd.underlying65 Tryd.underlying5 Tryd.underlying9 w.heap.size 0 (bs [c]) (fun i hi => ?_) 1
  have : i = 0 := by simp [bs_size] at hi; exact hi
  subst this
  simp
  rfl
def em (t : List UInt8) : Nat := if t = [] then 1 else 0
def dgt (v : Nat) : UInt8 := UInt8.ofNat (48 + v % 10)
theorem dgt_nat (v : Nat) : (48 : Int) + (v : Int) % 10 = ((dgt v).toNat : Int) := by unfold dgt; rw [dg_ofNat (Nat.mod_lt _ (by decide))]; omega
/-- v is to be written ahead of t. -/
def dd (v : Nat) (t : List UInt8) : List UInt8 := if v = 0 ∧ t ≠ [] then t else Lib.decDigits v ++ t
theorem dd_step {v : Nat} {t : List UInt8} (h : ¬ (v = 0 ∧ t ≠ [])) : dd (v / 10) (dgt v :: t) = dd v t := by
  unfold dd dgt
  rw [if_neg h]
  by_cases e : v < 10
  · rw [if_pos ⟨by omega, by simp⟩]
    conv => rhs; rw [Lib.decDigits]
    rw [dif_pos e, show v % 10 = v by omega]; rfl
  · rw [if_neg (by omega)]
    conv => rhs; rw [Lib.decDigits]
    rw [dif_neg e]; simp
theorem dd_len {v : Nat} {t : List UInt8} : t.length ≤ (dd v t).length := by
  unfold dd
  split
  · omega
  · simp
structure DI (u v : Nat) (t : List UInt8) (w wr : World) : Prop where
  le : v ≤ u
  eq : dd v t = Lib.decDigits u
  low : Below w.heap.size w wr

set_option maxHeartbeats 2000000 in
set_option maxRecDepth 100000 in
theorem decimal_any (w : World) (n : Int) (hr : Rg n) :
    Calls Tryd.prog 31 #[.int .i64 n] w fun e w' => e = .returned (.string (bs (Lib.itoa n))) ∧ Below w.heap.size w w' := by
  have HR : Hid (Rg n) := hr
  have hu : n.natAbs ≤ 9223372036854775808 := by have := hr.1; have := hr.2; omega
  clear hr
  obtain ⟨u, hu'⟩ : ∃ u : Nat, n.natAbs = u := ⟨_, rfl⟩
  rw [hu'] at hu
  have HU : Hid (n.natAbs = u) := hu'
  clear hu'
  by_cases hn : n < 0
  · have hw : IntKind.u64.wrap (-IntKind.u64.wrap n) = (u : Int) := by rw [← HU.out]; exact wrap_neg HR.out hn
    go_enter Tryd.func31, Tryd.ntmps31
    go_wp2
    go_loopg [3, 5] (u + 1) (fun g i3 i5 wr => ∃ (v : Nat) (t : List UInt8), g = v + em t ∧ i3 = .int .u64 v ∧ i5 = .string (bs t) ∧ Hid (DI u v t w wr))
    case atStart => exact ⟨u, [], by simp [em], rfl, rfl, ⟨Nat.le_refl _, by unfold dd; simp, bRefl w⟩⟩
    case round =>
      obtain ⟨v, t, rfl, rfl, rfl, hI⟩ := hrel
      have hle := hI.out.le
      have hz : (bs t).size ≤ 21 := by rw [bs_size]; have h1 := dec_len hu; rw [← hI.out.eq] at h1; exact Nat.le_trans dd_len h1
      have hz1 : ¬ 9223372036854775807 < 1 + (bs t).size := by omega
      by_cases hg : v = 0 ∧ t ≠ []
      · have h3 := emp_no hg.2
        obtain ⟨rfl, ht⟩ := hg
        have HT : Hid (t ≠ []) := ht
        clear ht
        go_wp2
        go_ret
        exact ⟨ret_str (by rw [itoa_neg hn, HU.out, ← hI.out.eq]; unfold dd; rw [if_pos ⟨rfl, HT.out⟩]; exact bs_app [45] t), hI.out.low⟩
      · by_cases hv : v = 0
        · have ht : t = [] := by
            cases t with
            | nil => rfl
            | cons a b => exact absurd ⟨hv, by simp⟩ hg
          subst hv ht
          have h3 := emp_yes (l := []) rfl
          go_wp2
          rw [conv1 wr 48 48 rfl]
          go_wp2
          go_roundg 0
          case measure => simp [em]
          case rel => exact ⟨0, [48], by simp [em], rfl, by rw [bs_app]; rfl, ⟨hle, by rw [← hI.out.eq]; exact dd_step (v := 0) (by simp), bAlloc hI.out.low _⟩⟩
        · have hv' : 0 < v := by omega
          have hz2 : ¬ 9223372036854775807 < (bs [dgt v]).size + (bs t).size := by rw [bs_size]; simp; omega
          go_wp2
          rw [conv1 wr _ (dgt v) (dgt_nat v)]
          go_wp2
          go_roundg (v / 10)
          case measure => omega
          case rel => exact ⟨v / 10, dgt v :: t, by simp [em], by go_num, by rw [bs_app]; rfl, ⟨by omega, by rw [← hI.out.eq]; exact dd_step hg, bAlloc hI.out.low _⟩⟩
  · have hw : IntKind.u64.wrap n = (u : Int) := by rw [← HU.out]; exact wrap_pos HR.out hn
    go_enter Tryd.func31, Tryd.ntmps31
    go_wp2
    go_loopg [3, 5] (u + 1) (fun g i3 i5 wr => ∃ (v : Nat) (t : List UInt8), g = v + em t ∧ i3 = .int .u64 v ∧ i5 = .string (bs t) ∧ Hid (DI u v t w wr))
    case atStart => exact ⟨u, [], by simp [em], rfl, rfl, ⟨Nat.le_refl _, by unfold dd; simp, bRefl w⟩⟩
    case round =>
      obtain ⟨v, t, rfl, rfl, rfl, hI⟩ := hrel
      have hle := hI.out.le
      have hz : (bs t).size ≤ 21 := by rw [bs_size]; have h1 := dec_len hu; rw [← hI.out.eq] at h1; exact Nat.le_trans dd_len h1
      have hz1 : ¬ 9223372036854775807 < (bs t).size := by omega
      by_cases hg : v = 0 ∧ t ≠ []
      · have h3 := emp_no hg.2
        obtain ⟨rfl, ht⟩ := hg
        have HT : Hid (t ≠ []) := ht
        clear ht
        go_wp2
        go_ret
        exact ⟨ret_str (by rw [itoa_pos (by omega), HU.out, ← hI.out.eq]; unfold dd; rw [if_pos ⟨rfl, HT.out⟩]; exact bs_app [] t), hI.out.low⟩
      · by_cases hv : v = 0
        · have ht : t = [] := by
            cases t with
            | nil => rfl
            | cons a b => exact absurd ⟨hv, by simp⟩ hg
          subst hv ht
          have h3 := emp_yes (l := []) rfl
          go_wp2
          rw [conv1 wr 48 48 rfl]
          go_wp2
          go_roundg 0
          case measure => simp [em]
          case rel => exact ⟨0, [48], by simp [em], rfl, by rw [bs_app]; rfl, ⟨hle, by rw [← hI.out.eq]; exact dd_step (v := 0) (by simp), bAlloc hI.out.low _⟩⟩
        · have hv' : 0 < v := by omega
          have hz2 : ¬ 9223372036854775807 < (bs [dgt v]).size + (bs t).size := by rw [bs_size]; simp; omega
          go_wp2
          rw [conv1 wr _ (dgt v) (dgt_nat v)]
          go_wp2
          go_roundg (v / 10)
          case measure => omega
          case rel => exact ⟨v / 10, dgt v :: t, by simp [em], by go_num, by rw [bs_app]; rfl, ⟨by omega, by rw [← hI.out.eq]; exact dd_step hg, bAlloc hI.out.low _⟩⟩
end Go.Proofs.YtdgialhigibnlaaDoor
