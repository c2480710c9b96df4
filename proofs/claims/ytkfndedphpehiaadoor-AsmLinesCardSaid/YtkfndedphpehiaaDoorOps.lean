/-
  What the instructions' own functions, the reference's, and the small helpers answer, in a world that holds the table. No further conditions.
-/
import Derived.Test.YtkfndedphpehiaaDoorMem
namespace Go.Proofs.YtkfndedphpehiaaDoor
open Go.RowKit

def nmL : List (List UInt8) := [[], [112, 117, 115, 104], [112, 111, 112], [99, 111, 112, 121], [115, 119, 97, 112], [108, 111, 97, 100], [115, 116, 111, 114, 101], [97, 114, 103], [115, 101, 108, 102], [97, 100, 100], [115, 117, 98], [109, 117, 108], [100, 105, 118], [109, 111, 100], [110, 101, 103], [101, 113], [108, 101, 115, 115], [97, 110, 100], [111, 114], [110, 111, 116], [106, 117, 109, 112], [122, 101, 114, 111], [115, 101, 110, 100], [97, 114, 109], [99, 97, 108, 109], [101, 110, 100]]
def poL : List Int := [0, 0, 1, 1, 2, 0, 1, 0, 0, 2, 2, 2, 2, 2, 1, 2, 2, 2, 2, 1, 0, 1, 1, 0, 0, 0]
def puL : List Int := [0, 1, 0, 2, 2, 1, 0, 1, 1, 1, 1, 1, 1, 1, 1, 1, 1, 1, 1, 1, 0, 0, 0, 0, 0, 0]
def nm (i : Nat) : ByteArray := ⟨(nmL.getD i []).toArray⟩
def po (i : Nat) : Int := poL.getD i 0
def pu (i : Nat) : Int := puL.getD i 0

/-- The world holds the table of the instructions. -/
structure Tab (w : World) : Prop where
  name : ∀ i, i < 26 → w.cell? ⟨0, i * 4, none⟩ = some (.string (nm i))
  pops : ∀ i, i < 26 → w.cell? ⟨0, i * 4 + 1, none⟩ = some (.int .i64 (po i))
  puts : ∀ i, i < 26 → w.cell? ⟨0, i * 4 + 2, none⟩ = some (.int .i64 (pu i))
  oper : ∀ i, i < 26 → w.cell? ⟨0, i * 4 + 3, none⟩ = some (.int .i64 (od i))
  held : 0 < w.heap.size

theorem Tab.below {w w' : World} (h : Tab w) (hb : Below w.heap.size w w') : Tab w' :=
  ⟨fun i hi => (hb.cell (p := ⟨0, i * 4, none⟩) h.held).trans (h.name i hi), fun i hi => (hb.cell (p := ⟨0, i * 4 + 1, none⟩) h.held).trans (h.pops i hi),
   fun i hi => (hb.cell (p := ⟨0, i * 4 + 2, none⟩) h.held).trans (h.puts i hi), fun i hi => (hb.cell (p := ⟨0, i * 4 + 3, none⟩) h.held).trans (h.oper i hi), Nat.lt_of_lt_of_le h.held hb.size⟩

theorem ret_bool {a b : Bool} (h : a = b) : Ending.returned (.bool a) = .returned (.bool b) := by rw [h]
theorem ret_int {a b : Int} (h : a = b) : Ending.returned (.int .i64 a) = .returned (.int .i64 b) := by rw [h]

set_option maxHeartbeats 400000 in
theorem valid_any (op : Int) (w : World) : Calls Tryd.prog 26 #[.int .i64 op] w fun e w' => e = .returned (.bool (vl op)) ∧ w' = w := by
  by_cases h : 1 ≤ op
  · go_enter Tryd.func26, Tryd.ntmps26
    go_wp2
    go_ret
    exact ⟨ret_bool (by simp [vl, h]), rfl⟩
  · go_enter Tryd.func26, Tryd.ntmps26
    go_wp2
    go_ret
    exact ⟨ret_bool (by simp [vl]; omega), rfl⟩

set_option maxHeartbeats 400000 in
theorem rvalid_any (op : Int) (w : World) : Calls Tryd.prog 30 #[.int .i64 op] w fun e w' => e = .returned (.bool (vl op)) ∧ w' = w := by
  by_cases h : 1 ≤ op
  · go_enter Tryd.func30, Tryd.ntmps30
    go_wp2
    go_ret
    exact ⟨ret_bool (by simp [vl, h]), rfl⟩
  · go_enter Tryd.func30, Tryd.ntmps30
    go_wp2
    go_ret
    exact ⟨ret_bool (by simp [vl]; omega), rfl⟩

set_option maxHeartbeats 400000 in
theorem traits_yes (i : Nat) (w : World) (h1 : 1 ≤ i) (h2 : i ≤ 25) (ht : Tab w) :
    Calls Tryd.prog 36 #[.int .i64 (i : Int)] w fun e w' => e = .returned (.agg #[.string (nm i), .int .i64 (po i), .int .i64 (pu i), .int .i64 (od i)]) ∧ Below w.heap.size w w' := by
  have c0 := ht.name i (by omega)
  have c1 := ht.pops i (by omega)
  have c2 := ht.puts i (by omega)
  have c3 := ht.oper i (by omega)
  have c4 := ht.held
  have hv := vl_yes (op := (i : Int)) (by omega) (by omega)
  clear ht
  go_enter Tryd.func36, Tryd.ntmps36
  go_wp2_with (go_at_call 26; refine (valid_any _ _).mono ?_; rintro e w' ⟨rfl, rfl⟩)
  exact bodyPost_ret (v := .agg #[.string (nm i), .int .i64 (po i), .int .i64 (pu i), .int .i64 (od i)]) (by simp [results, Tryd.results36, go_sem]) rfl ⟨rfl, (Below.refl _ _).alloc (Nat.le_refl _) _⟩

set_option maxHeartbeats 400000 in
theorem traits_no (op : Int) (w : World) (h : op < 1 ∨ 25 < op) :
    Calls Tryd.prog 36 #[.int .i64 op] w fun e w' => e = .returned (.agg #[.string (nm 0), .int .i64 (po 0), .int .i64 (pu 0), .int .i64 (od 0)]) ∧ Below w.heap.size w w' := by
  have hv := vl_no h
  go_enter Tryd.func36, Tryd.ntmps36
  go_wp2_with (go_at_call 26; refine (valid_any _ _).mono ?_; rintro e w' ⟨rfl, rfl⟩)
  exact bodyPost_ret (v := .agg #[.string (nm 0), .int .i64 (po 0), .int .i64 (pu 0), .int .i64 (od 0)]) (by simp [results, Tryd.results36, go_sem]; exact ⟨rfl, rfl, rfl, rfl⟩) rfl ⟨rfl, (Below.refl _ _).alloc (Nat.le_refl _) _⟩

theorem traits_any (op : Int) (w : World) (ht : Tab w) :
    Calls Tryd.prog 36 #[.int .i64 op] w fun e w' => e = .returned (.agg #[.string (nm (at_ op)), .int .i64 (po (at_ op)), .int .i64 (pu (at_ op)), .int .i64 (od (at_ op))]) ∧ Below w.heap.size w w' := by
  by_cases h : 1 ≤ op ∧ op ≤ 25
  · obtain ⟨h1, h2⟩ := h
    rw [at_yes h1 h2]
    obtain ⟨i, rfl⟩ := Int.eq_ofNat_of_zero_le (show 0 ≤ op by omega)
    rw [Int.toNat_natCast]
    exact traits_yes i w (by omega) (by omega) ht
  · rw [at_no (by omega)]
    exact traits_no op w (by omega)

theorem field3 (a b c d : Value) (w : World) : (Instr.field 62 (.agg #[a, b, c, d]) 3).run Tryd.prog w = .ok d w := by kernel_rfl

set_option maxHeartbeats 400000 in
theorem oper_any (op : Int) (w : World) (ht : Tab w) :
    Calls Tryd.prog 27 #[.int .i64 op] w fun e w' => e = .returned (.int .i64 (opd op)) ∧ Below w.heap.size w w' := by
  have H : Hid (Tab w) := ht
  have hf := field3
  clear ht
  go_enter Tryd.func27, Tryd.ntmps27
  go_wp2_with (go_at_call 36; refine (traits_any op w H.out).mono ?_; rintro e w' ⟨rfl, hb⟩)
  go_ret
  exact ⟨rfl, by assumption⟩

theorem opd_is {op : Int} (k : Int) (h : (op == k) = true) {n : Int} (e : n = opd k) : n = opd op := by
  rw [beq_iff_eq] at h
  rw [h, e]
theorem od_zero : ∀ i : Nat, i < 26 → (i = 1 ∨ i = 5 ∨ i = 6 ∨ i = 7 ∨ i = 20 ∨ i = 21 ∨ i = 22) ∨ od i = 0 := by decide
theorem opd_zero {op : Int} (h1 : (op == 1) = false) (h2 : (op == 5) = false) (h3 : (op == 6) = false) (h4 : (op == 7) = false) (h5 : (op == 20) = false) (h6 : (op == 21) = false) (h7 : (op == 22) = false) : opd op = 0 := by
  rw [beq_eq_false_iff_ne] at *
  unfold opd
  by_cases h : 1 ≤ op ∧ op ≤ 25
  · rw [at_yes h.1 h.2]
    rcases od_zero op.toNat (by omega) with h | h
    · omega
    · exact h
  · rw [at_no (by omega)]
    rfl
set_option maxHeartbeats 1000000 in
theorem roper_any (op : Int) (w : World) : Calls Tryd.prog 18 #[.int .i64 op] w fun e w' => e = .returned (.int .i64 (opd op)) ∧ w' = w := by
  go_enter Tryd.func18, Tryd.ntmps18
  go_wp2
  all_goals go_ret
  all_goals refine ⟨ret_int ?_, rfl⟩
  all_goals first
    | (have hop : (op == 1) = true := by assumption
       exact opd_is 1 hop rfl)
    | (have hop : (op == 5) = true := by assumption
       exact opd_is 5 hop rfl)
    | (have hop : (op == 6) = true := by assumption
       exact opd_is 6 hop rfl)
    | (have hop : (op == 7) = true := by assumption
       exact opd_is 7 hop rfl)
    | (have hop : (op == 20) = true := by assumption
       exact opd_is 20 hop rfl)
    | (have hop : (op == 21) = true := by assumption
       exact opd_is 21 hop rfl)
    | (have hop : (op == 22) = true := by assumption
       exact opd_is 22 hop rfl)
    | exact (opd_zero (by assumption) (by assumption) (by assumption) (by assumption) (by assumption) (by assumption) (by assumption)).symm

theorem field0 (a b c d : Value) (w : World) : (Instr.field 62 (.agg #[a, b, c, d]) 0).run Tryd.prog w = .ok a w := by kernel_rfl
set_option maxHeartbeats 400000 in
theorem name_any (op : Int) (w : World) (ht : Tab w) :
    Calls Tryd.prog 28 #[.int .i64 op] w fun e w' => e = .returned (.string (nm (at_ op))) ∧ Below w.heap.size w w' := by
  have H : Hid (Tab w) := ht
  have hf := field0
  clear ht
  go_enter Tryd.func28, Tryd.ntmps28
  go_wp2_with (go_at_call 36; refine (traits_any op w H.out).mono ?_; rintro e w' ⟨rfl, hb⟩)
  go_ret
  exact ⟨rfl, by assumption⟩
/-- The first of f rows from row k on whose name it is; 0: none. -/
def fndG (s : ByteArray) : Nat → Nat → Nat
  | 0, _ => 0
  | f + 1, k => if nm k = s then k else fndG s f (k + 1)
def fnd (s : ByteArray) : Nat := fndG s 25 1

theorem eq_of_toList {a b : ByteArray} (h : (a.toList == b.toList) = true) : a = b := by
  have h := eq_of_beq h
  rw [ByteArray.toList_eq, ByteArray.toList_eq] at h
  obtain ⟨⟨a⟩⟩ := a
  obtain ⟨⟨b⟩⟩ := b
  simp only at h
  rw [h]
theorem ne_of_toList {a b : ByteArray} (h : (a.toList == b.toList) = false) : a ≠ b := by
  rintro rfl
  simp at h
theorem fndG_hit {s : ByteArray} {k : Nat} (h : k ≤ 25) (he : nm k = s) : fndG s (26 - k) k = k := by
  rw [show 26 - k = (25 - k) + 1 by omega, fndG, if_pos he]
theorem fndG_miss {s : ByteArray} {k : Nat} (h : k ≤ 25) (he : nm k ≠ s) (hf : fnd s = fndG s (26 - k) k) : fnd s = fndG s (26 - (k + 1)) (k + 1) := by
  rw [hf, show 26 - k = (25 - k) + 1 by omega, fndG, if_neg he, show 26 - (k + 1) = 25 - k by omega]
theorem ret_found {s : ByteArray} {k : Nat} (h : fnd s = k) (h1 : 1 ≤ k) : Ending.returned (.tuple #[.int .i64 (k : Int), .bool true]) = .returned (.tuple #[.int .i64 (fnd s : Int), .bool (decide (0 < fnd s))]) := by
  rw [h, decide_eq_true (by omega)]
theorem ret_none {s : ByteArray} (h : fnd s = 0) : Ending.returned (.tuple #[.int .i64 0, .bool false]) = .returned (.tuple #[.int .i64 (fnd s : Int), .bool (decide (0 < fnd s))]) := by
  rw [h]; rfl

set_option maxHeartbeats 400000 in
theorem find_any (s : ByteArray) (w : World) (ht : Tab w) :
    Calls Tryd.prog 33 #[.string s] w fun e w' => e = .returned (.tuple #[.int .i64 (fnd s), .bool (decide (0 < fnd s))]) ∧ w' = w := by
  have H : Hid (Tab w) := ht
  clear ht
  go_enter Tryd.func33, Tryd.ntmps33
  go_wp2
  go_loop [4] (fun i => ∃ k : Nat, 1 ≤ k ∧ k ≤ 26 ∧ i = .int .i64 k ∧ Hid (fnd s = fndG s (26 - k) k)) (fun i => 26 - (intOf i).toNat)
  case atStart => exact ⟨1, by omega, by omega, rfl, rfl⟩
  case round =>
    obtain ⟨k, hk1, hk2, rfl, hf⟩ := hrel
    by_cases hlt : k ≤ 25
    · have c0 := H.out.name k (by omega)
      go_wp2
      · have he : nm k = s := eq_of_toList (by assumption)
        go_ret2
        exact ⟨ret_found (hf.out.trans (fndG_hit hlt he)) hk1, rfl⟩
      · have he : nm k ≠ s := ne_of_toList (by assumption)
        go_round
        case rel => exact ⟨k + 1, by omega, by omega, by go_num, fndG_miss hlt he hf.out⟩
        case measure => simp [intOf]; omega
    · have hk : k = 26 := by omega
      have h0 : fnd s = 0 := by rw [hf.out, hk]; rfl
      have H0 : Hid (fnd s = 0) := h0
      clear h0
      go_wp2
      go_ret2
      exact ⟨ret_none H0.out, rfl⟩
end Go.Proofs.YtkfndedphpehiaaDoor
