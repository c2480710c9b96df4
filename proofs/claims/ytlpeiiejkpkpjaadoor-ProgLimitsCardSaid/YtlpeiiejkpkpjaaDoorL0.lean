/-
  The program of one, to whose handlers n more are appended: what Check answers. Condition: the table of the instructions is in the world.
-/
import Derived.Test.YtlpeiiejkpkpjaaDoorLr
import Derived.Test.YtlpeiiejkpkpjaaDoorLim
import Derived.OwnWalk
namespace Go.Proofs.YtlpeiiejkpkpjaaDoor
open Go.RowKit
theorem linfo31 : (Tryd.prog.info? 31).map (fun i => (i.zero, i.size, i.bytes)) = some (some (.agg #[.int .i64 0, .slice none 0 0]), 2, 32) := by kernel_rfl
def bx0 (w : World) (v : Value) : Array Value := #[v, .slice (some ⟨w.heap.size + 1 + 1 + 1 + 1, 0, none⟩) 1 1, .slice (some ⟨w.heap.size + 1 + 1 + 1 + 1 + 1 + 1, 0, none⟩) 1 1, .int .i64 10]
def l0 (w : World) (k : Nat) : List (List Value) := [.int .i64 1, .slice (some ⟨w.heap.size + 1, 0, none⟩) 2 2] :: List.replicate k [.int .i64 0, .slice none 0 0]
theorem l0_step (w : World) (k : Nat) : (l0 w k).flatten ++ [.int .i64 0, .slice none 0 0] = (l0 w (k + 1)).flatten := by
  unfold l0; rw [List.replicate_succ']; simp [List.flatten_append]
theorem l0_len (w : World) (k : Nat) : ∀ e ∈ l0 w k, e.length = 2 := by
  intro e he; simp only [l0, List.mem_cons, List.mem_replicate] at he; rcases he with rfl | ⟨_, rfl⟩ <;> rfl

theorem start0 (w : World) : LR (oneW w) w.heap.size 31 2 (w.heap.size + 1 + 1) (bx0 w) 1 (l0 w (0)).flatten (.slice (some ⟨w.heap.size + 1 + 1, 0, none⟩) 1 1) ((oneW w).alloc (.cells #[.slice (some ⟨w.heap.size + 1 + 1, 0, none⟩) 1 1, .slice (some ⟨w.heap.size + 1 + 1 + 1 + 1, 0, none⟩) 1 1, .slice (some ⟨w.heap.size + 1 + 1 + 1 + 1 + 1 + 1, 0, none⟩) 1 1, .int .i64 10] 26)) := by
  refine ⟨(Below.refl _ _).alloc (by rw [oneW_size]; omega) _, heap_new1 _ _, ⟨by simp [l0], Or.inr ⟨w.heap.size + 1 + 1, 1, #[.int .i64 1, .slice (some ⟨w.heap.size + 1, 0, none⟩) 2 2], rfl, by omega, ?_, ?_⟩⟩, Or.inl rfl, fun b hb _ => Below.heap_alloc _ _ _ hb⟩
  · rw [Below.heap_alloc _ _ _ (by rw [oneW_size]; omega)]
    exact oneW_h2 w
  · simp [l0, maxLen]

theorem read0 {w W wr : World} {k : Nat} {v : Value} (hW : W = oneW w) (hk : k ≤ 70) (h : LR W w.heap.size 31 2 (w.heap.size + 1 + 1) (bx0 w) (k + 1) (l0 w (k)).flatten v wr) : PrgV wr (.agg (bx0 w v)) (lim0 k) := by
  subst hW
  have hs := h.lt
  rw [oneW_size] at hs
  obtain ⟨g, cap, rfl, hl, hg, hcell⟩ := h.cells (by omega)
  have hc : ∀ i j, i < k + 1 → j < 2 → wr.cell? ⟨g, 0 + i * 2 + j, none⟩ = ((l0 w k)[i]?).bind (·[j]?) := fun i j hi hj => by
    rw [Nat.zero_add, hcell _ (by omega), flat_at (l0 w k) (l0_len w k) i j hj]
  have ho : ∀ b o, b < w.heap.size + 7 → b ≠ w.heap.size + 1 + 1 → wr.cell? ⟨b, o, none⟩ = (oneW w).cell? ⟨b, o, none⟩ := fun b o hb hb2 => h.old (by rw [oneW_size]; exact hb) hb2 o
  clear hcell h hg
  refine ⟨_, _, _, rfl, ⟨_, cap, by simp [lim0], by simp [lim0]; omega, Or.inr ⟨g, 0, rfl, trivial, hl, fun i x hx => ?_⟩⟩, sl1 trivial (by omega) ⟨⟨_, (ho (w.heap.size + 1 + 1 + 1 + 1) _ (by omega) (by omega)).trans (oneW_c4 w).1, sl1 trivial (by omega) ((ho (w.heap.size + 1 + 1 + 1) _ (by omega) (by omega)).trans (oneW_c3 w))⟩, (ho _ _ (by omega) (by omega)).trans (oneW_c4 w).2.1, (ho _ _ (by omega) (by omega)).trans (oneW_c4 w).2.2.1, (ho _ _ (by omega) (by omega)).trans (oneW_c4 w).2.2.2⟩, sl1 trivial (by omega) ⟨(ho (w.heap.size + 1 + 1 + 1 + 1 + 1 + 1) _ (by omega) (by omega)).trans (oneW_c6 w).1, (ho _ _ (by omega) (by omega)).trans (oneW_c6 w).2.1, _, (ho _ _ (by omega) (by omega)).trans (oneW_c6 w).2.2, sl1 trivial (by omega) ((ho (w.heap.size + 1 + 1 + 1 + 1 + 1) _ (by omega) (by omega)).trans (oneW_c5 w))⟩⟩
  have hi : i < k + 1 := by have := (List.getElem?_eq_some_iff.1 hx).1; simpa [lim0] using this
  match i, hi, hx with
  | 0, _, hx =>
    simp [lim0] at hx; subst hx
    exact ⟨(hc 0 0 (by omega) (by omega)).trans rfl, _, (hc 0 1 (by omega) (by omega)).trans rfl, sl2 trivial (by omega) ⟨(ho (w.heap.size + 1) _ (by omega) (by omega)).trans (oneW_c1 w).1, (ho _ _ (by omega) (by omega)).trans (oneW_c1 w).2.1⟩ ⟨(ho _ _ (by omega) (by omega)).trans (oneW_c1 w).2.2.1, (ho _ _ (by omega) (by omega)).trans (oneW_c1 w).2.2.2⟩⟩
  | i + 1, hi, hx =>
    have hx' : x = ⟨0, []⟩ := by simp [lim0, List.getElem?_replicate] at hx; exact hx.2.symm
    subst hx'
    have hc' := fun j => hc (i + 1) j hi
    have hl : (l0 w k)[i + 1]? = some [.int .i64 0, .slice none 0 0] := by rw [l0, List.getElem?_cons_succ, List.getElem?_replicate, if_pos (by omega)]
    rw [hl] at hc'
    exact ⟨hc' 0 (by omega), _, hc' 1 (by omega), sl0⟩

set_option maxHeartbeats 4000000 in
theorem limit0 (n : Nat) (k : Int) (w : World) (ht : Tab w) (hn : n ≤ 70) (hr : rnd k 5 = 0) : Calls Tryd.prog 5 #[.int .i64 n, .int .i64 k] w fun e w' => e = .returned (.bool true) ∧ Below w.heap.size w w' := by
  obtain ⟨i0, hi, hz0, hz1, hz2⟩ := info_parts linfo31
  have HT : Hid (Tab w) := ht
  have g1 : (decide ((n : Int) < 0)) = false := by simp
  have g2 : (decide ((n : Int) > 70)) = false := by simp; omega
  clear ht
  go_enter Tryd.func5, Tryd.ntmps5
  go_wp2_with fail
  refine (one_exact _).mono ?_
  rintro e w1 ⟨rfl, h1⟩
  have HW : Hid (w1 = oneW w) := h1
  have HZ : Hid (w1.heap.size = w.heap.size + 7) := by rw [h1]; exact oneW_size w
  clear h1
  unfold oneV
  go_wp2_with (go_at_call 18; refine (round_any k 5 _ (by decide) (by decide)).mono ?_; rintro e w0 ⟨rfl, rfl⟩)
  go_loopg [7] n (fun g i7 wr => ∃ (k : Nat) (v : Value), g = n - k ∧ k ≤ n ∧ i7 = .int .i64 k ∧ Hid (LR w1 w.heap.size 31 2 (w.heap.size + 1 + 1) (bx0 w) (k + 1) (l0 w (k)).flatten v wr))
  case atStart => exact ⟨0, _, rfl, by omega, rfl, by have := HW.out; subst this; exact start0 w⟩
  case round =>
    obtain ⟨k, v, rfl, hk, rfl, hL⟩ := hrel
    obtain ⟨gb, cap, rfl, hgl, hgb, hcell⟩ := hL.out.cells (by omega)
    clear hcell hgb
    have q0 := hL.out.bxc 0
    have q1 := hL.out.bxc 1
    have q2 := hL.out.bxc 2
    have q3 := hL.out.bxc 3
    simp only [bx0] at q0 q1 q2 q3
    have hz := hL.out.lt
    by_cases hlt : k < n
    · go_wp2_with (at_builtin; refine wpList_append_lies _ rfl _ _ 22 rfl w.heap.size 31 i0 _ 2 32 Tryd.underlying22 hi hz0 hz1 hz2 rfl (by decide) _ (k + 1) _ rfl (hL.out.own.alloc _) ⟨wr.heap.size, 0, none⟩ 1 1 [.int .i64 0, .slice none 0 0] rfl rfl ?c1 ?c2 (by decide) ?c3 ?c4 ?c5 (wr.heap.size + 1) ?c6 ?_)
      case c1 =>
        intro j u hj
        match j, hj with
        | 0, hj => simp at hj; subst hj; simp [Addr.add]
        | 1, hj => simp at hj; subst hj; simp [Addr.add]
      case c2 => intro u hu; simp at hu; rcases hu with rfl | rfl <;> rfl
      case c3 => unfold maxLen; omega
      case c4 => omega
      case c5 => have := HZ.out; simp; omega
      case c6 => simp
      intro gn cn w2 hown hgr hat hgl2
      have HN : Hid (LR w1 w.heap.size 31 2 (w.heap.size + 1 + 1) (bx0 w) (k + 1 + 1) (l0 w (k + 1)).flatten (.slice (some ⟨gn, 0, none⟩) (k + 1 + 1) cn) (w2.setCell ⟨w1.heap.size, 0, none⟩ (.slice (some ⟨gn, 0, none⟩) (k + 1 + 1) cn))) := by
        rw [← l0_step]
        exact hL.out.step (by have := HZ.out; omega) (by omega) (bAlloc (bRefl _) _) hown hgr hat (by omega) (fun u => by simp [bx0])
      have hm := hL.out.mid (by have := HZ.out; omega) (bAlloc (bRefl _) _) hgr
      have hz2 : w1.heap.size < w2.heap.size := (Array.getElem?_eq_some_iff.1 hm).1
      have z2 : w2.frozen? ⟨w1.heap.size, 0, none⟩ = false := by simp [World.frozen?, hm]
      have z3 := cell_of_row w2 w1.heap.size 0 _ _ _ hm
      simp only [bx0] at z3
      clear hown hgr hat hm
      go_wp2
      go_roundg (n - (k + 1))
      case measure => omega
      case rel => exact ⟨k + 1, _, rfl, by omega, by simp, HN⟩
    · have hkn : k = n := by omega
      subst hkn
      have HP : Hid (PrgV wr (.agg (bx0 w (.slice (some ⟨gb, 0, none⟩) (k + 1) cap))) (lim0 k)) := read0 HW.out (by omega) hL.out
      have HB : Hid (Below w.heap.size w wr) := by have h := hL.out; rw [HW.out] at h; exact h.all
      clear hL
      by_cases hm : k ≤ 15
      · have g3 : (decide ((k : Int) > 15)) = false := by simp; omega
        have hc : chk (lim0 k) = 0 := by rw [lim0_chk k (by omega), if_pos hm]
        go_wp2_with fail
        refine (check_at (p := lim0 k) HT.out HB.out HP.out).mono ?_
        rintro e w3 ⟨rfl, hb3⟩
        go_wp2_with fail
        refine (awake_at HT.out hb3).mono ?_
        rintro e w4 ⟨rfl, hb4⟩
        go_wp2_with fail
        go_ret
        exact ⟨rfl, hb4⟩
      · have g3 : (decide ((k : Int) > 15)) = true := by simp; omega
        have hc : chk (lim0 k) = 3 := by rw [lim0_chk k (by omega), if_neg hm]
        go_wp2_with fail
        refine (check_at (p := lim0 k) HT.out HB.out HP.out).mono ?_
        rintro e w3 ⟨rfl, hb3⟩
        go_wp2_with fail
        refine (awake_at HT.out hb3).mono ?_
        rintro e w4 ⟨rfl, hb4⟩
        go_wp2_with fail
        go_ret
        exact ⟨rfl, hb4⟩
end Go.Proofs.YtlpeiiejkpkpjaaDoor
