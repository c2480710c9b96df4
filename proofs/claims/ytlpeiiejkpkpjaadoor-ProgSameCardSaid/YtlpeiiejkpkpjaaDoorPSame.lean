/-
  What ProgSame answers of any two numbers: true; and nothing old has turned. Conditions: the table of the instructions is in the world, and the second number is one of 64 bits.
-/
import Derived.Test.YtlpeiiejkpkpjaaDoorSmA
import Derived.Test.YtlpeiiejkpkpjaaDoorSmB
import Derived.Test.YtlpeiiejkpkpjaaDoorSmC
import Derived.Test.YtlpeiiejkpkpjaaDoorSmD
namespace Go.Proofs.YtlpeiiejkpkpjaaDoor
open Go.RowKit

theorem wf_bd {x : Int} (h : (Lit.int .i64 x).wf = true) : -9223372036854775808 ≤ x ∧ x ≤ 9223372036854775807 := by
  simpa [Lit.wf, IntKind.min, IntKind.max, IntKind.signed, IntKind.bits] using h
theorem wr_ne {c b : Int} (h : -9223372036854775808 ≤ b ∧ b ≤ 9223372036854775807) (hb : b ≠ 0) : wrap64 (c + b) ≠ c := by
  simp only [wrap64]; omega
theorem wr_ne0 {b : Int} (h : -9223372036854775808 ≤ b ∧ b ≤ 9223372036854775807) (hb : b ≠ 0) : wrap64 b ≠ 0 := by
  simp only [wrap64]; omega

set_option maxHeartbeats 4000000 in
set_option maxRecDepth 100000 in
theorem psame0 (k : Int) (w : World) (ht : Tab w) : Calls Tryd.prog 7 #[.int .i64 k, .int .i64 0] w fun e w' => e = .returned (.bool true) ∧ Below w.heap.size w w' := by
  have HT : Hid (Tab w) := ht
  clear ht
  have g3 := f3
  go_enter Tryd.func7, Tryd.ntmps7
  go_wp2_with fail
  refine (one_at (bRefl w)).mono ?_
  rintro e w1 ⟨v, rfl, hp, hb1⟩
  obtain ⟨A1, A2, A3, a1, a2, a3, hv⟩ := hp.open
  have hv' : v = .agg #[.slice A1 1 a1, .slice A2 1 a2, .slice A3 1 a3, .int .i64 10] := hv
  subst hv'
  clear hv
  have HP : Hid (PrgV w1 (.agg #[.slice A1 1 a1, .slice A2 1 a2, .slice A3 1 a3, .int .i64 10]) oneP) := hp
  clear hp
  go_wp2_with fail
  refine (one_exact _).mono ?_
  rintro e w2 ⟨rfl, rfl⟩
  have B1 : ∀ x y, Below w1.heap.size w1 (((oneW w1).alloc x).alloc y) := fun x y => bAlloc (bAlloc (oneW_below w1) x) y
  have B2 : ∀ x y, Below (oneW w1).heap.size (oneW w1) (((oneW w1).alloc x).alloc y) := fun x y => bAlloc (bAlloc (bRefl _) x) y
  unfold oneV
  go_wp2_with fail
  refine (same_any _ _ _ oneP oneP (HP.out.below (B1 _ _)) (one_reads w1 |>.below (B2 _ _))).mono ?_
  rintro e w2 ⟨rfl, hb2⟩
  have BB : Below w.heap.size w w2 := bTrans hb1 (bTrans (B1 _ _) hb2)
  clear hb2 B1 B2 HP
  go_wp2_with fail
  refine (awake_at HT.out BB).mono ?_
  rintro e w3 ⟨rfl, hb3⟩
  go_wp2_with fail
  go_ret
  exact ⟨rfl, hb3⟩

theorem psame_all (k b : Int) (w : World) (ht : Tab w) (hw : (Lit.int .i64 b).wf = true) : Calls Tryd.prog 7 #[.int .i64 k, .int .i64 b] w fun e w' => e = .returned (.bool true) ∧ Below w.heap.size w w' := by
  by_cases h0 : b = 0
  · subst h0
    exact psame0 k w ht
  · have hb0 : (b == 0) = false := by simp [h0]
    have hw := wf_bd hw
    have hb := rnd_bd k (n := 13) (by decide)
    rcases (by omega : rnd k 13 = 0 ∨ rnd k 13 = 1 ∨ rnd k 13 = 2 ∨ rnd k 13 = 3 ∨ rnd k 13 = 4 ∨ rnd k 13 = 5 ∨ rnd k 13 = 6 ∨ rnd k 13 = 7 ∨ rnd k 13 = 8 ∨ rnd k 13 = 9 ∨ rnd k 13 = 10 ∨ rnd k 13 = 11 ∨ rnd k 13 = 12) with h | h | h | h | h | h | h | h | h | h | h | h | h
    · exact sm0 k b w ht hb0 h (eqB_no fun e => wr_ne (c := 10) hw h0 (by simp [oneP, sm0P] at e; omega))
    · exact sm1 k b w ht hb0 h (eqB_no fun e => wr_ne (c := 1) hw h0 (by simp [oneP, sm1P] at e; omega))
    · exact sm2 k b w ht hb0 h (eqB_no fun e => wr_ne (c := 7) hw h0 (by simp [oneP, sm2P] at e; omega))
    · exact sm3 k b w ht hb0 h (eqB_no fun e => wr_ne0 hw h0 (by simp [oneP, sm3P] at e; omega))
    · exact sm4 k b w ht hb0 h (eqB_no fun e => by simp [oneP, sm4P] at e)
    · exact sm5 k b w ht hb0 h (eqB_no fun e => wr_ne (c := 3) hw h0 (by simp [oneP, sm5P] at e; omega))
    · exact sm6 k b w ht hb0 h (eqB_no fun e => wr_ne (c := 2) hw h0 (by simp [oneP, sm6P] at e; omega))
    · exact sm7 k b w ht hb0 h (eqB_no fun e => wr_ne (c := (-1)) hw h0 (by simp [oneP, sm7P] at e; omega))
    · exact sm8 k b w ht hb0 h (eqB_no fun e => by simp [oneP, sm8P] at e)
    · exact sm9 k b w ht hb0 h (eqB_no fun e => wr_ne0 hw h0 (by simp [oneP, sm9P] at e; omega))
    · exact sm10 k b w ht hb0 h (eqB_no fun e => wr_ne0 hw h0 (by simp [oneP, sm10P] at e; omega))
    · exact sm11 k b w ht hb0 h (eqB_no fun e => wr_ne (c := 5) hw h0 (by simp [oneP, sm11P] at e; omega))
    · exact sm12 k b w ht hb0 h (eqB_no fun e => by simp [oneP, sm12P] at e)
end Go.Proofs.YtlpeiiejkpkpjaaDoor
