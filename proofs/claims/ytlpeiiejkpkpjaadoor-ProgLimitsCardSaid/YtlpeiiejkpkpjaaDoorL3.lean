/-
  The program of one, to whose first handler's instructions n more are appended: what Check answers. Condition: the table of the instructions is in the world.
-/
import Derived.Test.YtlpeiiejkpkpjaaDoorLr
import Derived.Test.YtlpeiiejkpkpjaaDoorLim
import Derived.Test.YtlpeiiejkpkpjaaDoorLx
import Derived.OwnWalk
import Derived.Deep.RegionLaw
import Derived.Deep.DrawnRows
namespace Go.Proofs.YtlpeiiejkpkpjaaDoor
open Go.RowKit
attribute [local go_sem ↓] Go.wp_at_zero Go.wp_at_succ
theorem linfo38 : (Tryd.prog.info? 38).map (fun i => (i.zero, i.size, i.bytes)) = some (some (.agg #[.int .i64 0, .int .i64 0]), 2, 16) := by kernel_rfl
def bx3 (v : Value) : Array Value := #[.int .i64 1, v]
def l3 (k : Nat) : List (List Value) := [.int .i64 7, .int .i64 0] :: [.int .i64 6, .int .i64 0] :: List.replicate k [.int .i64 25, .int .i64 0]
theorem l3_step (k : Nat) : (l3 k).flatten ++ [.int .i64 25, .int .i64 0] = (l3 (k + 1)).flatten := by
  unfold l3; rw [List.replicate_succ']; simp [List.flatten_append]
theorem l3_len (k : Nat) : ∀ e ∈ l3 k, e.length = 2 := by
  intro e he; simp only [l3, List.mem_cons, List.mem_replicate] at he; rcases he with rfl | rfl | ⟨_, rfl⟩ <;> rfl

theorem start3 (w : World) : LX ((oneW w).alloc (.cells #[.slice (some ⟨w.heap.size + 1 + 1, 0, none⟩) 1 1, .slice (some ⟨w.heap.size + 1 + 1 + 1 + 1, 0, none⟩) 1 1, .slice (some ⟨w.heap.size + 1 + 1 + 1 + 1 + 1 + 1, 0, none⟩) 1 1, .int .i64 10] 26)) w.heap.size 38 2 (w.heap.size + 1) (w.heap.size + 1 + 1) 31 bx3 (2) (l3 (0)).flatten (.slice (some ⟨w.heap.size + 1, 0, none⟩) 2 2) ((oneW w).alloc (.cells #[.slice (some ⟨w.heap.size + 1 + 1, 0, none⟩) 1 1, .slice (some ⟨w.heap.size + 1 + 1 + 1 + 1, 0, none⟩) 1 1, .slice (some ⟨w.heap.size + 1 + 1 + 1 + 1 + 1 + 1, 0, none⟩) 1 1, .int .i64 10] 26)) := by
  refine ⟨Below.refl _ _, ?_, ⟨by simp [l3], Or.inr ⟨w.heap.size + 1, 2, #[.int .i64 7, .int .i64 0, .int .i64 6, .int .i64 0], rfl, by omega, ?_, ?_⟩⟩, Or.inl rfl, fun b hb _ _ => rfl⟩
  · rw [Below.heap_alloc _ _ _ (by rw [oneW_size]; omega)]
    exact oneW_h2 w
  · rw [Below.heap_alloc _ _ _ (by rw [oneW_size]; omega)]
    exact oneW_h1 w
  · simp [l3, maxLen]

theorem read3 {w w1 wr : World} {k : Nat} {v : Value} (hW : w1 = oneW w) (hk : k ≤ 70) (h : LX (w1.alloc (.cells #[.slice (some ⟨w.heap.size + 1 + 1, 0, none⟩) 1 1, .slice (some ⟨w.heap.size + 1 + 1 + 1 + 1, 0, none⟩) 1 1, .slice (some ⟨w.heap.size + 1 + 1 + 1 + 1 + 1 + 1, 0, none⟩) 1 1, .int .i64 10] 26)) w.heap.size 38 2 (w.heap.size + 1) (w.heap.size + 1 + 1) 31 bx3 (k + 2) (l3 (k)).flatten v wr) : PrgV wr (.agg #[.slice (some ⟨w.heap.size + 1 + 1, 0, none⟩) 1 1, .slice (some ⟨w.heap.size + 1 + 1 + 1 + 1, 0, none⟩) 1 1, .slice (some ⟨w.heap.size + 1 + 1 + 1 + 1 + 1 + 1, 0, none⟩) 1 1, .int .i64 10]) (lim3 k) := by
  subst hW
  have hs := h.low.size
  rw [size_alloc1, oneW_size] at hs
  have hb := h.bxc
  obtain ⟨g, cap, rfl, hl, hcell⟩ := h.cells (by omega)
  have hc : ∀ i j, i < k + 2 → j < 2 → wr.cell? ⟨g, 0 + i * 2 + j, none⟩ = ((l3 k)[i]?).bind (·[j]?) := fun i j hi hj => by
    rw [Nat.zero_add, hcell _ (by omega), flat_at (l3 k) (l3_len k) i j hj]
  have ho : ∀ b o, b < w.heap.size + 7 → b ≠ w.heap.size + 1 → b ≠ w.heap.size + 1 + 1 → wr.cell? ⟨b, o, none⟩ = (oneW w).cell? ⟨b, o, none⟩ := fun b o hb hb2 hb3 =>
    (h.old (by rw [size_alloc1, oneW_size]; omega) hb2 hb3 o).trans (World.cell?_of_block (w := oneW w) (Below.heap_alloc _ _ _ (by rw [oneW_size]; exact hb)))
  clear hcell h
  refine ⟨_, _, _, rfl, sl1 trivial (by omega) ⟨(hb 0).trans rfl, _, (hb 1).trans rfl, ⟨_, cap, by simp [bx3], by simp; omega, Or.inr ⟨g, 0, rfl, trivial, hl, fun i x hx => ?_⟩⟩⟩, sl1 trivial (by omega) ⟨⟨_, (ho (w.heap.size + 1 + 1 + 1 + 1) _ (by omega) (by omega) (by omega)).trans (oneW_c4 w).1, sl1 trivial (by omega) ((ho (w.heap.size + 1 + 1 + 1) _ (by omega) (by omega) (by omega)).trans (oneW_c3 w))⟩, (ho _ _ (by omega) (by omega) (by omega)).trans (oneW_c4 w).2.1, (ho _ _ (by omega) (by omega) (by omega)).trans (oneW_c4 w).2.2.1, (ho _ _ (by omega) (by omega) (by omega)).trans (oneW_c4 w).2.2.2⟩, sl1 trivial (by omega) ⟨(ho (w.heap.size + 1 + 1 + 1 + 1 + 1 + 1) _ (by omega) (by omega) (by omega)).trans (oneW_c6 w).1, (ho _ _ (by omega) (by omega) (by omega)).trans (oneW_c6 w).2.1, _, (ho _ _ (by omega) (by omega) (by omega)).trans (oneW_c6 w).2.2, sl1 trivial (by omega) ((ho (w.heap.size + 1 + 1 + 1 + 1 + 1) _ (by omega) (by omega) (by omega)).trans (oneW_c5 w))⟩⟩
  have hi : i < k + 2 := by have := (List.getElem?_eq_some_iff.1 hx).1; simpa using this
  match i, hi, hx with
  | 0, _, hx =>
    simp at hx; subst hx
    exact ⟨(hc 0 0 (by omega) (by omega)).trans rfl, (hc 0 1 (by omega) (by omega)).trans rfl⟩
  | 1, _, hx =>
    simp at hx; subst hx
    exact ⟨(hc 1 0 (by omega) (by omega)).trans rfl, (hc 1 1 (by omega) (by omega)).trans rfl⟩
  | i + 2, hi, hx =>
    have hx' : x = ⟨25, 0⟩ := by simp [List.getElem?_replicate] at hx; exact hx.2.symm
    subst hx'
    have hc' := fun j => hc (i + 2) j hi
    have hl : (l3 k)[i + 2]? = some [.int .i64 25, .int .i64 0] := by rw [l3, List.getElem?_cons_succ, List.getElem?_cons_succ, List.getElem?_replicate, if_pos (by omega)]
    rw [hl] at hc'
    exact ⟨hc' 0 (by omega), hc' 1 (by omega)⟩

set_option maxHeartbeats 8000000 in
theorem limit3 (n : Nat) (k : Int) (w : World) (ht : Tab w) (hn : n ≤ 70) (hr : rnd k 5 = 3) : Calls Tryd.prog 5 #[.int .i64 n, .int .i64 k] w fun e w' => e = .returned (.bool true) ∧ Below w.heap.size w w' := by
  obtain ⟨i0, hi, hz0, hz1, hz2⟩ := info_parts linfo38
  have HT : Hid (Tab w) := ht
  have g1 : (decide ((n : Int) < 0)) = false := by simp
  have g2 : (decide ((n : Int) > 70)) = false := by simp; omega
  clear ht
  go_enter Tryd.func5, Tryd.ntmps5
  go_wp2_with fail
  refine (one_exact _).mono ?_
  rintro e w1 ⟨rfl, h1⟩
  have HW : Hid (w1 = oneW w) := h1
  have HZ : Hid (w1.heap.size = w.heap.size + 7) := by rw [h1]; exact oneW_size w
  clear h1
  unfold oneV
  go_wp2_with (go_at_call 18; refine (round_any k 5 _ (by decide) (by decide)).mono ?_; rintro e w0 ⟨rfl, rfl⟩)
  go_loopg [10] n (fun g i7 wr => ∃ (k : Nat) (v : Value), g = n - k ∧ k ≤ n ∧ i7 = .int .i64 k ∧ Hid (LX (w1.alloc (.cells #[.slice (some ⟨w.heap.size + 1 + 1, 0, none⟩) 1 1, .slice (some ⟨w.heap.size + 1 + 1 + 1 + 1, 0, none⟩) 1 1, .slice (some ⟨w.heap.size + 1 + 1 + 1 + 1 + 1 + 1, 0, none⟩) 1 1, .int .i64 10] 26)) w.heap.size 38 2 (w.heap.size + 1) (w.heap.size + 1 + 1) 31 bx3 (k + 2) (l3 (k)).flatten v wr))
  case atStart => exact ⟨0, _, rfl, by omega, rfl, by have := HW.out; subst this; exact start3 w⟩
  case round =>
    obtain ⟨k, v, rfl, hk, rfl, hL⟩ := hrel
    obtain ⟨gb, cap, rfl, hgl, hcell⟩ := hL.out.cells (by omega)
    clear hcell
    have HS : Hid ((w1.alloc (.cells #[.slice (some ⟨w.heap.size + 1 + 1, 0, none⟩) 1 1, .slice (some ⟨w.heap.size + 1 + 1 + 1 + 1, 0, none⟩) 1 1, .slice (some ⟨w.heap.size + 1 + 1 + 1 + 1 + 1 + 1, 0, none⟩) 1 1, .int .i64 10] 26)).heap.size = w1.heap.size + 1) := by exact size_alloc1 _ _
    have qb : ∀ o, wr.cell? ⟨w1.heap.size, o, none⟩ = (#[.slice (some ⟨w.heap.size + 1 + 1, 0, none⟩) 1 1, .slice (some ⟨w.heap.size + 1 + 1 + 1 + 1, 0, none⟩) 1 1, .slice (some ⟨w.heap.size + 1 + 1 + 1 + 1 + 1 + 1, 0, none⟩) 1 1, .int .i64 10] : Array Value)[o]? := fun o => (hL.out.old (by rw [HS.out]; omega) (by have := HZ.out; omega) (by have := HZ.out; omega) o).trans (World.cell?_alloc_new _ _ _ o)
    have q0 := qb 0
    have q1 := qb 1
    have q2 := qb 2
    have q3 := qb 3
    clear qb
    have x1 := hL.out.bxc 1
    simp only [bx3] at x1
    have hz : w1.heap.size < wr.heap.size := by have := hL.out.low.size; rw [HS.out] at this; omega
    have hzx : w.heap.size + 1 + 1 < wr.heap.size := by have := HZ.out; omega
    by_cases hlt : k < n
    · have OWN : Hid ((wr.drew.alloc (.cells #[.int .i64 25, .int .i64 0] 38)).ownsRow w.heap.size 38 2 (.slice (some ⟨gb, 0, none⟩) (k + 2) cap) (k + 2) (l3 k).flatten) := hL.out.own.drew.alloc _
      have NEWS : Hid (∀ j u, ([.int .i64 25, .int .i64 0] : List Value)[j]? = some u → (wr.drew.alloc (.cells #[.int .i64 25, .int .i64 0] 38)).cell? ((⟨wr.heap.size, 0, none⟩ : Addr).add j) = some u) := World.news_of_block (heap_new1 _ _)
      have ONE : Hid (∀ u ∈ ([.int .i64 25, .int .i64 0] : List Value), u.oneCell' = true) := by intro u hu; simp at hu; rcases hu with rfl | rfl <;> rfl
      have M1 : Hid (k + 2 + 1 ≤ maxLen) := by show k + 2 + 1 ≤ maxLen; unfold maxLen; omega
      have M2 : Hid ((k + 2 + 1) * 16 ≤ 140737488355328) := by show (k + 2 + 1) * 16 ≤ 140737488355328; omega
      have M3 : Hid (w.heap.size ≤ (wr.drew.alloc (.cells #[.int .i64 25, .int .i64 0] 38)).heap.size) := by show w.heap.size ≤ (wr.drew.alloc (.cells #[.int .i64 25, .int .i64 0] 38)).heap.size; have := HZ.out; simp; omega
      have M4 : Hid ((wr.drew.alloc (.cells #[.int .i64 25, .int .i64 0] 38)).heap.size = wr.heap.size + 1) := by show (wr.drew.alloc (.cells #[.int .i64 25, .int .i64 0] 38)).heap.size = wr.heap.size + 1; simp
      have BW : Hid (Below wr.heap.size wr (wr.drew.alloc (.cells #[.int .i64 25, .int .i64 0] 38))) := bAlloc (bRefl _).drew _
      have FACTS : Hid (∀ (w2 : World), (wr.drew.alloc (.cells #[.int .i64 25, .int .i64 0] 38)).grownBy w2 (some gb) → (w2.cell? ⟨w1.heap.size, 0, none⟩ = some (.slice (some ⟨w.heap.size + 1 + 1, 0, none⟩) 1 1) ∧ w2.cell? ⟨w.heap.size + 1 + 1, 1, none⟩ = some (.slice (some ⟨gb, 0, none⟩) (k + 2) cap) ∧ w2.frozen? ⟨w.heap.size + 1 + 1, 1, none⟩ = false ∧ w1.heap.size < w2.heap.size ∧ w.heap.size + 1 + 1 < w2.heap.size)) := by
        intro w2 hg
        have hm := hL.out.mid (by rw [HS.out]; have := HZ.out; omega) (by omega) BW.out hg
        have hf := hL.out.far (b := w1.heap.size) (by rw [HS.out]; omega) (by have := HZ.out; omega) BW.out hg
        have hsz := Nat.le_trans BW.out.size hg.size
        refine ⟨(World.cell?_of_block (w := wr) hf).trans q0, by simp [World.cell?, hm, bx3], by simp [World.frozen?, hm], by omega, by omega⟩
      go_wp2
      go_region_law ((refine step_append_lies _ (by rfl) _ _ 29 (by rfl) w.heap.size 38 i0 _ 2 16 Tryd.underlying29 hi hz0 hz1 hz2 rfl (by decide) (.slice (some ⟨gb, 0, none⟩) (k + 2) cap) (k + 2) _ (by rfl) OWN.out ⟨wr.heap.size, 0, none⟩ 1 1 [.int .i64 25, .int .i64 0] (by rfl) rfl NEWS.out ONE.out (by decide) M1.out M2.out M3.out (wr.heap.size + 1) M4.out ?_; intro gn cn w2 hown hgr hat hgl2; obtain ⟨f1, f2, f3, f4, f5⟩ := FACTS.out w2 hgr))
      all_goals
        have HN : Hid (LX (w1.alloc (.cells #[.slice (some ⟨w.heap.size + 1 + 1, 0, none⟩) 1 1, .slice (some ⟨w.heap.size + 1 + 1 + 1 + 1, 0, none⟩) 1 1, .slice (some ⟨w.heap.size + 1 + 1 + 1 + 1 + 1 + 1, 0, none⟩) 1 1, .int .i64 10] 26)) w.heap.size 38 2 (w.heap.size + 1) (w.heap.size + 1 + 1) 31 bx3 (k + 2 + 1) (l3 (k + 1)).flatten (.slice (some ⟨gn, 0, none⟩) (k + 2 + 1) cn) (w2.setCell ⟨w.heap.size + 1 + 1, 1, none⟩ (.slice (some ⟨gn, 0, none⟩) (k + 2 + 1) cn))) := by
          rw [← l3_step]
          exact hL.out.step (by rw [HS.out]; have := HZ.out; omega) (by omega) (by rw [HS.out]; have := HZ.out; omega) (by omega) (by omega) BW.out hown hgr hat (by omega) (fun u => by simp [bx3])
        clear hown hgr hat OWN NEWS FACTS
        go_wp2
        go_roundg (n - (k + 1))
        case measure => omega
        case rel => exact ⟨k + 1, _, rfl, by omega, by simp, lx_cast (by omega) HN⟩
    · have hkn : k = n := by omega
      subst hkn
      have HP : Hid (PrgV wr (.agg #[.slice (some ⟨w.heap.size + 1 + 1, 0, none⟩) 1 1, .slice (some ⟨w.heap.size + 1 + 1 + 1 + 1, 0, none⟩) 1 1, .slice (some ⟨w.heap.size + 1 + 1 + 1 + 1 + 1 + 1, 0, none⟩) 1 1, .int .i64 10]) (lim3 k)) := read3 HW.out (by omega) hL.out
      have HB : Hid (Below w.heap.size w wr) := by have h := hL.out; rw [HW.out] at h; exact (bAlloc (oneW_below w) _).trans h.low
      clear hL
      by_cases hm : k ≤ 62
      · have g3 : (decide ((k : Int) > 62)) = false := by simp; omega
        have hc : chk (lim3 k) = 0 := by rw [lim3_chk k (by omega), if_pos hm]
        go_wp2_with fail
        refine (check_at (p := lim3 k) HT.out HB.out HP.out).mono ?_
        rintro e w3 ⟨rfl, hb3⟩
        go_wp2_with fail
        refine (awake_at HT.out hb3).mono ?_
        rintro e w4 ⟨rfl, hb4⟩
        go_wp2_with fail
        go_ret
        exact ⟨rfl, hb4⟩
      · have g3 : (decide ((k : Int) > 62)) = true := by simp; omega
        have hc : chk (lim3 k) = 3 := by rw [lim3_chk k (by omega), if_neg hm]
        go_wp2_with fail
        refine (check_at (p := lim3 k) HT.out HB.out HP.out).mono ?_
        rintro e w3 ⟨rfl, hb3⟩
        go_wp2_with fail
        refine (awake_at HT.out hb3).mono ?_
        rintro e w4 ⟨rfl, hb4⟩
        go_wp2_with fail
        go_ret
        exact ⟨rfl, hb4⟩
end Go.Proofs.YtlpeiiejkpkpjaaDoor
