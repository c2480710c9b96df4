/-
  What the instructions' own functions, the reference's, and the small helpers answer, in a world that holds the table. No further conditions.
-/
import Derived.Test.YtgdloonpemaijaaDoorMem
namespace Go.Proofs.YtgdloonpemaijaaDoor
open Go.RowKit

def nmL : List (List UInt8) := [[], [112, 117, 115, 104], [112, 111, 112], [99, 111, 112, 121], [115, 119, 97, 112], [108, 111, 97, 100], [115, 116, 111, 114, 101], [97, 114, 103], [115, 101, 108, 102], [97, 100, 100], [115, 117, 98], [109, 117, 108], [100, 105, 118], [109, 111, 100], [110, 101, 103], [101, 113], [108, 101, 115, 115], [97, 110, 100], [111, 114], [110, 111, 116], [106, 117, 109, 112], [122, 101, 114, 111], [115, 101, 110, 100], [97, 114, 109], [99, 97, 108, 109], [101, 110, 100]]
def poL : List Int := [0, 0, 1, 1, 2, 0, 1, 0, 0, 2, 2, 2, 2, 2, 1, 2, 2, 2, 2, 1, 0, 1, 1, 0, 0, 0]
def puL : List Int := [0, 1, 0, 2, 2, 1, 0, 1, 1, 1, 1, 1, 1, 1, 1, 1, 1, 1, 1, 1, 0, 0, 0, 0, 0, 0]
def nm (i : Nat) : ByteArray := ⟨(nmL.getD i []).toArray⟩
def po (i : Nat) : Int := poL.getD i 0
def pu (i : Nat) : Int := puL.getD i 0

/-- The world holds the table of the instructions. -/
structure Tab (w : World) : Prop where
  name : ∀ i, i < 26 → w.cell? ⟨0, i * 4, none⟩ = some (.string (nm i))
  pops : ∀ i, i < 26 → w.cell? ⟨0, i * 4 + 1, none⟩ = some (.int .i64 (po i))
  puts : ∀ i, i < 26 → w.cell? ⟨0, i * 4 + 2, none⟩ = some (.int .i64 (pu i))
  oper : ∀ i, i < 26 → w.cell? ⟨0, i * 4 + 3, none⟩ = some (.int .i64 (od i))
  held : 0 < w.heap.size

theorem Tab.below {w w' : World} (h : Tab w) (hb : Below w.heap.size w w') : Tab w' :=
  ⟨fun i hi => (hb.cell (p := ⟨0, i * 4, none⟩) h.held).trans (h.name i hi), fun i hi => (hb.cell (p := ⟨0, i * 4 + 1, none⟩) h.held).trans (h.pops i hi),
   fun i hi => (hb.cell (p := ⟨0, i * 4 + 2, none⟩) h.held).trans (h.puts i hi), fun i hi => (hb.cell (p := ⟨0, i * 4 + 3, none⟩) h.held).trans (h.oper i hi), Nat.lt_of_lt_of_le h.held hb.size⟩

theorem ret_bool {a b : Bool} (h : a = b) : Ending.returned (.bool a) = .returned (.bool b) := by rw [h]
theorem ret_int {a b : Int} (h : a = b) : Ending.returned (.int .i64 a) = .returned (.int .i64 b) := by rw [h]

set_option maxHeartbeats 400000 in
theorem valid_any (op : Int) (w : World) : Calls Tryd.prog 157 #[.int .i64 op] w fun e w' => e = .returned (.bool (vl op)) ∧ w' = w := by
  by_cases h : 1 ≤ op
  · go_enter Tryd.func157, Tryd.ntmps157
    go_wp2
    go_ret
    exact ⟨ret_bool (by simp [vl, h]), rfl⟩
  · go_enter Tryd.func157, Tryd.ntmps157
    go_wp2
    go_ret
    exact ⟨ret_bool (by simp [vl]; omega), rfl⟩

set_option maxHeartbeats 400000 in
theorem rvalid_any (op : Int) (w : World) : Calls Tryd.prog 149 #[.int .i64 op] w fun e w' => e = .returned (.bool (vl op)) ∧ w' = w := by
  by_cases h : 1 ≤ op
  · go_enter Tryd.func149, Tryd.ntmps149
    go_wp2
    go_ret
    exact ⟨ret_bool (by simp [vl, h]), rfl⟩
  · go_enter Tryd.func149, Tryd.ntmps149
    go_wp2
    go_ret
    exact ⟨ret_bool (by simp [vl]; omega), rfl⟩

/-- Is a number from one to another? -/
def inB (n lo hi : Int) : Bool := decide (lo ≤ n ∧ n ≤ hi)
set_option maxHeartbeats 400000 in
theorem within_any (n lo hi : Int) (w : World) : Calls Tryd.prog 144 #[.int .i64 n, .int .i64 lo, .int .i64 hi] w fun e w' => e = .returned (.bool (inB n lo hi)) ∧ w' = w := by
  by_cases h : lo ≤ n
  · go_enter Tryd.func144, Tryd.ntmps144
    go_wp2
    go_ret
    exact ⟨ret_bool (by simp [inB, h]), rfl⟩
  · go_enter Tryd.func144, Tryd.ntmps144
    go_wp2
    go_ret
    exact ⟨ret_bool (by simp [inB]; omega), rfl⟩

def unl (b : Bool) (e : Int) : Int := if b = true then 0 else e
set_option maxHeartbeats 400000 in
theorem unless_any (b : Bool) (n : Int) (w : World) : Calls Tryd.prog 146 #[.bool b, .int .i64 n] w fun e w' => e = .returned (.int .i64 (unl b n)) ∧ w' = w := by
  cases b
  · go_enter Tryd.func146, Tryd.ntmps146
    go_wp2
    go_ret
    exact ⟨rfl, rfl⟩
  · go_enter Tryd.func146, Tryd.ntmps146
    go_wp2
    go_ret
    exact ⟨rfl, rfl⟩

set_option maxHeartbeats 400000 in
theorem traits_yes (i : Nat) (w : World) (h1 : 1 ≤ i) (h2 : i ≤ 25) (ht : Tab w) :
    Calls Tryd.prog 160 #[.int .i64 (i : Int)] w fun e w' => e = .returned (.agg #[.string (nm i), .int .i64 (po i), .int .i64 (pu i), .int .i64 (od i)]) ∧ Below w.heap.size w w' := by
  have c0 := ht.name i (by omega)
  have c1 := ht.pops i (by omega)
  have c2 := ht.puts i (by omega)
  have c3 := ht.oper i (by omega)
  have c4 := ht.held
  have hv := vl_yes (op := (i : Int)) (by omega) (by omega)
  clear ht
  go_enter Tryd.func160, Tryd.ntmps160
  go_wp2_with (go_at_call 157; refine (valid_any _ _).mono ?_; rintro e w' ⟨rfl, rfl⟩)
  exact bodyPost_ret (v := .agg #[.string (nm i), .int .i64 (po i), .int .i64 (pu i), .int .i64 (od i)]) (by simp [results, Tryd.results160, go_sem]) rfl ⟨rfl, (Below.refl _ _).alloc (Nat.le_refl _) _⟩

set_option maxHeartbeats 400000 in
theorem traits_no (op : Int) (w : World) (h : op < 1 ∨ 25 < op) :
    Calls Tryd.prog 160 #[.int .i64 op] w fun e w' => e = .returned (.agg #[.string (nm 0), .int .i64 (po 0), .int .i64 (pu 0), .int .i64 (od 0)]) ∧ Below w.heap.size w w' := by
  have hv := vl_no h
  go_enter Tryd.func160, Tryd.ntmps160
  go_wp2_with (go_at_call 157; refine (valid_any _ _).mono ?_; rintro e w' ⟨rfl, rfl⟩)
  exact bodyPost_ret (v := .agg #[.string (nm 0), .int .i64 (po 0), .int .i64 (pu 0), .int .i64 (od 0)]) (by simp [results, Tryd.results160, go_sem]; exact ⟨rfl, rfl, rfl, rfl⟩) rfl ⟨rfl, (Below.refl _ _).alloc (Nat.le_refl _) _⟩

theorem traits_any (op : Int) (w : World) (ht : Tab w) :
    Calls Tryd.prog 160 #[.int .i64 op] w fun e w' => e = .returned (.agg #[.string (nm (at_ op)), .int .i64 (po (at_ op)), .int .i64 (pu (at_ op)), .int .i64 (od (at_ op))]) ∧ Below w.heap.size w w' := by
  by_cases h : 1 ≤ op ∧ op ≤ 25
  · obtain ⟨h1, h2⟩ := h
    rw [at_yes h1 h2]
    obtain ⟨i, rfl⟩ := Int.eq_ofNat_of_zero_le (show 0 ≤ op by omega)
    rw [Int.toNat_natCast]
    exact traits_yes i w (by omega) (by omega) ht
  · rw [at_no (by omega)]
    exact traits_no op w (by omega)

theorem field3 (a b c d : Value) (w : World) : (Instr.field 187 (.agg #[a, b, c, d]) 3).run Tryd.prog w = .ok d w := by kernel_rfl

set_option maxHeartbeats 400000 in
theorem oper_any (op : Int) (w : World) (ht : Tab w) :
    Calls Tryd.prog 158 #[.int .i64 op] w fun e w' => e = .returned (.int .i64 (opd op)) ∧ Below w.heap.size w w' := by
  have H : Hid (Tab w) := ht
  have hf := field3
  clear ht
  go_enter Tryd.func158, Tryd.ntmps158
  go_wp2_with (go_at_call 160; refine (traits_any op w H.out).mono ?_; rintro e w' ⟨rfl, hb⟩)
  go_ret
  exact ⟨rfl, by assumption⟩

theorem opd_is {op : Int} (k : Int) (h : (op == k) = true) {n : Int} (e : n = opd k) : n = opd op := by
  rw [beq_iff_eq] at h
  rw [h, e]
theorem od_zero : ∀ i : Nat, i < 26 → (i = 1 ∨ i = 5 ∨ i = 6 ∨ i = 7 ∨ i = 20 ∨ i = 21 ∨ i = 22) ∨ od i = 0 := by decide
theorem opd_zero {op : Int} (h1 : (op == 1) = false) (h2 : (op == 5) = false) (h3 : (op == 6) = false) (h4 : (op == 7) = false) (h5 : (op == 20) = false) (h6 : (op == 21) = false) (h7 : (op == 22) = false) : opd op = 0 := by
  rw [beq_eq_false_iff_ne] at *
  unfold opd
  by_cases h : 1 ≤ op ∧ op ≤ 25
  · rw [at_yes h.1 h.2]
    rcases od_zero op.toNat (by omega) with h | h
    · omega
    · exact h
  · rw [at_no (by omega)]
    rfl
set_option maxHeartbeats 1000000 in
theorem roper_any (op : Int) (w : World) : Calls Tryd.prog 150 #[.int .i64 op] w fun e w' => e = .returned (.int .i64 (opd op)) ∧ w' = w := by
  go_enter Tryd.func150, Tryd.ntmps150
  go_wp2
  all_goals go_ret
  all_goals refine ⟨ret_int ?_, rfl⟩
  all_goals first
    | (have hop : (op == 1) = true := by assumption
       exact opd_is 1 hop rfl)
    | (have hop : (op == 5) = true := by assumption
       exact opd_is 5 hop rfl)
    | (have hop : (op == 6) = true := by assumption
       exact opd_is 6 hop rfl)
    | (have hop : (op == 7) = true := by assumption
       exact opd_is 7 hop rfl)
    | (have hop : (op == 20) = true := by assumption
       exact opd_is 20 hop rfl)
    | (have hop : (op == 21) = true := by assumption
       exact opd_is 21 hop rfl)
    | (have hop : (op == 22) = true := by assumption
       exact opd_is 22 hop rfl)
    | exact (opd_zero (by assumption) (by assumption) (by assumption) (by assumption) (by assumption) (by assumption) (by assumption)).symm

end Go.Proofs.YtgdloonpemaijaaDoor
