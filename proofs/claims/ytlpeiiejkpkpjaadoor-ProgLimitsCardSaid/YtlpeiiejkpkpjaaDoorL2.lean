/-
  The program of one, to whose notes n more are appended: what Check answers. Condition: the table of the instructions is in the world.
-/
import Derived.Test.YtlpeiiejkpkpjaaDoorLr
import Derived.Test.YtlpeiiejkpkpjaaDoorLim
import Derived.OwnWalk
namespace Go.Proofs.YtlpeiiejkpkpjaaDoor
open Go.RowKit
theorem linfo43 : (Tryd.prog.info? 43).map (fun i => (i.zero, i.size, i.bytes)) = some (some (.agg #[.int .i64 0, .int .i64 0, .slice none 0 0]), 3, 40) := by kernel_rfl
def bx2 (w : World) (v : Value) : Array Value := #[.slice (some ⟨w.heap.size + 1 + 1, 0, none⟩) 1 1, .slice (some ⟨w.heap.size + 1 + 1 + 1 + 1, 0, none⟩) 1 1, v, .int .i64 10]
def l2 (w : World) (bs : List Nat) : List (List Value) := [.int .i64 0, .int .i64 0, .slice (some ⟨w.heap.size + 1 + 1 + 1 + 1 + 1, 0, none⟩) 1 1] :: bs.map fun b => [.int .i64 0, .int .i64 0, .slice (some ⟨b, 0, none⟩) 1 1]
theorem l2_step (w : World) (bs : List Nat) (b : Nat) : (l2 w bs).flatten ++ [.int .i64 0, .int .i64 0, .slice (some ⟨b, 0, none⟩) 1 1] = (l2 w (bs ++ [b])).flatten := by
  unfold l2; simp [List.flatten_append]
theorem l2_len (w : World) (bs : List Nat) : ∀ e ∈ l2 w bs, e.length = 3 := by
  intro e he; simp only [l2, List.mem_cons, List.mem_map] at he; rcases he with rfl | ⟨_, _, rfl⟩ <;> rfl
/-- The appended notes' own arguments. -/
def AR (W : World) (v : Value) (bs : List Nat) (wr : World) : Prop := ∀ i b, bs[i]? = some b → wr.heap[b]? = some (.cells #[.int .i64 (Int.ofNat i)] 3) ∧ W.heap.size + 1 ≤ b ∧ v.ownBlock ≠ some b

theorem start2 (w : World) : LR (oneW w) w.heap.size 43 3 (w.heap.size + 1 + 1 + 1 + 1 + 1 + 1) (bx2 w) (1) (l2 w []).flatten (.slice (some ⟨w.heap.size + 1 + 1 + 1 + 1 + 1 + 1, 0, none⟩) 1 1) ((oneW w).alloc (.cells #[.slice (some ⟨w.heap.size + 1 + 1, 0, none⟩) 1 1, .slice (some ⟨w.heap.size + 1 + 1 + 1 + 1, 0, none⟩) 1 1, .slice (some ⟨w.heap.size + 1 + 1 + 1 + 1 + 1 + 1, 0, none⟩) 1 1, .int .i64 10] 26)) := by
  refine ⟨(Below.refl _ _).alloc (by rw [oneW_size]; omega) _, heap_new1 _ _, ⟨by simp [l2], Or.inr ⟨w.heap.size + 1 + 1 + 1 + 1 + 1 + 1, 1, #[.int .i64 0, .int .i64 0, .slice (some ⟨w.heap.size + 1 + 1 + 1 + 1 + 1, 0, none⟩) 1 1], rfl, by omega, ?_, ?_⟩⟩, Or.inl rfl, fun b hb _ => Below.heap_alloc _ _ _ hb⟩
  · rw [Below.heap_alloc _ _ _ (by rw [oneW_size]; omega)]
    exact oneW_h6 w
  · simp [l2, maxLen]

theorem AR.step {W wr w2 : World} {gb gn L cap cn : Nat} {bs : List Nat} {x : Array Value} (hA : AR W (.slice (some ⟨gb, 0, none⟩) L cap) bs wr) (hgl : gb < wr.heap.size) (hW : W.heap.size < wr.heap.size)
    (hg : ((wr.alloc (.cells #[.int .i64 (Int.ofNat bs.length)] 3)).alloc (.cells x 43)).grownBy w2 (some gb)) (hat : some gb = some gn ∨ gn = wr.heap.size + 1 + 1) (u : Value) :
    AR W (.slice (some ⟨gn, 0, none⟩) (L + 1) cn) (bs ++ [wr.heap.size]) (w2.setCell ⟨W.heap.size, 2, none⟩ u) := by
  have hgn : gn = gb ∨ gn = wr.heap.size + 1 + 1 := by rcases hat with h | h; exact Or.inl (Option.some.inj h).symm; exact Or.inr h
  intro i b hb
  by_cases hi : i < bs.length
  · rw [List.getElem?_append_left hi] at hb
    obtain ⟨h1, h2, h3⟩ := hA i b hb
    have hlt := (Array.getElem?_eq_some_iff.1 h1).1
    have h3' : b ≠ gb := fun e => h3 (by rw [e]; rfl)
    refine ⟨?_, h2, fun e => ?_⟩
    · rw [Below.heap_setCell _ _ _ _ (by simp; omega), hg.block _ (by simp; omega) (fun e => h3' (Option.some.inj e)), Below.heap_alloc _ _ _ (by simp; omega), Below.heap_alloc _ _ _ hlt]
      exact h1
    · have := Option.some.inj e; simp at this; omega
  · have hi2 : i = bs.length := by
      have := (List.getElem?_eq_some_iff.1 hb).1
      simp at this; omega
    subst hi2
    simp at hb; subst hb
    refine ⟨?_, by omega, fun e => ?_⟩
    · rw [Below.heap_setCell _ _ _ _ (by simp; omega), hg.block _ (by simp; omega) (fun e => by have := Option.some.inj e; omega), Below.heap_alloc _ _ _ (by simp)]
      exact heap_new1 _ _
    · have := Option.some.inj e; simp at this; omega

theorem read2 {w W wr : World} {k : Nat} {bs : List Nat} {v : Value} (hW : W = oneW w) (hk : k ≤ 70) (hbs : bs.length = k) (hA : AR W v bs wr) (h : LR W w.heap.size 43 3 (w.heap.size + 1 + 1 + 1 + 1 + 1 + 1) (bx2 w) (k + 1) (l2 w bs).flatten v wr) : PrgV wr (.agg (bx2 w v)) (lim2 k) := by
  subst hW
  have hs := h.lt
  rw [oneW_size] at hs
  obtain ⟨g, cap, rfl, hl, hg, hcell⟩ := h.cells (by omega)
  have hc : ∀ i j, i < k + 1 → j < 3 → wr.cell? ⟨g, 0 + i * 3 + j, none⟩ = ((l2 w bs)[i]?).bind (·[j]?) := fun i j hi hj => by
    rw [Nat.zero_add, hcell _ (by omega), flat_at (l2 w bs) (l2_len w bs) i j hj]
  have ho : ∀ b o, b < w.heap.size + 7 → b ≠ w.heap.size + 1 + 1 + 1 + 1 + 1 + 1 → wr.cell? ⟨b, o, none⟩ = (oneW w).cell? ⟨b, o, none⟩ := fun b o hb hb2 => h.old (by rw [oneW_size]; exact hb) hb2 o
  clear hcell h hg
  refine ⟨_, _, _, rfl, sl1 trivial (by omega) ⟨(ho (w.heap.size + 1 + 1) _ (by omega) (by omega)).trans (oneW_c2 w).1, _, (ho _ _ (by omega) (by omega)).trans (oneW_c2 w).2, sl2 trivial (by omega) ⟨(ho (w.heap.size + 1) _ (by omega) (by omega)).trans (oneW_c1 w).1, (ho _ _ (by omega) (by omega)).trans (oneW_c1 w).2.1⟩ ⟨(ho _ _ (by omega) (by omega)).trans (oneW_c1 w).2.2.1, (ho _ _ (by omega) (by omega)).trans (oneW_c1 w).2.2.2⟩⟩, sl1 trivial (by omega) ⟨⟨_, (ho (w.heap.size + 1 + 1 + 1 + 1) _ (by omega) (by omega)).trans (oneW_c4 w).1, sl1 trivial (by omega) ((ho (w.heap.size + 1 + 1 + 1) _ (by omega) (by omega)).trans (oneW_c3 w))⟩, (ho _ _ (by omega) (by omega)).trans (oneW_c4 w).2.1, (ho _ _ (by omega) (by omega)).trans (oneW_c4 w).2.2.1, (ho _ _ (by omega) (by omega)).trans (oneW_c4 w).2.2.2⟩, ⟨_, cap, by simp [lim2], by simp [lim2]; omega, Or.inr ⟨g, 0, rfl, trivial, hl, fun i x hx => ?_⟩⟩⟩
  have hi : i < k + 1 := by have := (List.getElem?_eq_some_iff.1 hx).1; simpa [lim2] using this
  match i, hi, hx with
  | 0, _, hx =>
    simp [lim2] at hx; subst hx
    exact ⟨(hc 0 0 (by omega) (by omega)).trans rfl, (hc 0 1 (by omega) (by omega)).trans rfl, _, (hc 0 2 (by omega) (by omega)).trans rfl, sl1 trivial (by omega) ((ho (w.heap.size + 1 + 1 + 1 + 1 + 1) _ (by omega) (by omega)).trans (oneW_c5 w))⟩
  | i + 1, hi, hx =>
    have hx' : x = ⟨0, 0, [Int.ofNat i]⟩ := by
      rw [lim2] at hx
      simp only [List.getElem?_cons_succ, List.getElem?_map, List.getElem?_range (show i < k by omega)] at hx
      exact (Option.some.inj hx).symm
    subst hx'
    obtain ⟨b, hb⟩ : ∃ b, bs[i]? = some b := ⟨bs[i]'(by omega), List.getElem?_eq_getElem (by omega)⟩
    obtain ⟨a1, a2, a3⟩ := hA i b hb
    have hc' := fun j => hc (i + 1) j hi
    have hl : (l2 w bs)[i + 1]? = some [.int .i64 0, .int .i64 0, .slice (some ⟨b, 0, none⟩) 1 1] := by rw [l2, List.getElem?_cons_succ, List.getElem?_map, hb]; rfl
    rw [hl] at hc'
    exact ⟨hc' 0 (by omega), hc' 1 (by omega), _, hc' 2 (by omega), sl1 trivial (Array.getElem?_eq_some_iff.1 a1).1 (by simp [rInt, World.cell?, a1])⟩

set_option maxHeartbeats 4000000 in
theorem limit2 (n : Nat) (k : Int) (w : World) (ht : Tab w) (hn : n ≤ 70) (hr : rnd k 5 = 2) : Calls Tryd.prog 5 #[.int .i64 n, .int .i64 k] w fun e w' => e = .returned (.bool true) ∧ Below w.heap.size w w' := by
  obtain ⟨i0, hi, hz0, hz1, hz2⟩ := info_parts linfo43
  have HT : Hid (Tab w) := ht
  have g1 : (decide ((n : Int) < 0)) = false := by simp
  have g2 : (decide ((n : Int) > 70)) = false := by simp; omega
  clear ht
  go_enter Tryd.func5, Tryd.ntmps5
  go_wp2_with fail
  refine (one_exact _).mono ?_
  rintro e w1 ⟨rfl, h1⟩
  have HW : Hid (w1 = oneW w) := h1
  have HZ : Hid (w1.heap.size = w.heap.size + 7) := by rw [h1]; exact oneW_size w
  clear h1
  unfold oneV
  go_wp2_with (go_at_call 18; refine (round_any k 5 _ (by decide) (by decide)).mono ?_; rintro e w0 ⟨rfl, rfl⟩)
  go_loopg [9] n (fun g i7 wr => ∃ (k : Nat) (v : Value) (bs : List Nat), g = n - k ∧ k ≤ n ∧ i7 = .int .i64 k ∧ Hid (bs.length = k) ∧ Hid (AR w1 v bs wr) ∧ Hid (LR w1 w.heap.size 43 3 (w.heap.size + 1 + 1 + 1 + 1 + 1 + 1) (bx2 w) (k + 1) (l2 w bs).flatten v wr))
  case atStart => exact ⟨0, _, [], rfl, by omega, rfl, rfl, fun i b hb => by simp at hb, by have := HW.out; subst this; exact start2 w⟩
  case round =>
    obtain ⟨k, v, bs, rfl, hk, rfl, hbs, hA, hL⟩ := hrel
    obtain ⟨gb, cap, rfl, hgl, hgb, hcell⟩ := hL.out.cells (by omega)
    clear hcell hgb
    have q0 := hL.out.bxc 0
    have q1 := hL.out.bxc 1
    have q2 := hL.out.bxc 2
    have q3 := hL.out.bxc 3
    simp only [bx2] at q0 q1 q2 q3
    have hz := hL.out.lt
    have hz1' : w1.heap.size < wr.heap.size + 1 := by omega
    by_cases hlt : k < n
    · go_wp2_with (at_builtin; refine wpList_append_lies _ rfl _ _ 24 rfl w.heap.size 43 i0 _ 3 40 Tryd.underlying24 hi hz0 hz1 hz2 rfl (by decide) _ (k + 1) _ rfl ((hL.out.own.alloc _).alloc _) ⟨wr.heap.size + 1, 0, none⟩ 1 1 [.int .i64 0, .int .i64 0, .slice (some ⟨wr.heap.size, 0, none⟩) 1 1] rfl rfl ?c1 ?c2 (by decide) ?c3 ?c4 ?c5 (wr.heap.size + 1 + 1) ?c6 ?_)
      case c1 =>
        intro j u hj
        match j, hj with
        | 0, hj => simp at hj; subst hj; simp [Addr.add]
        | 1, hj => simp at hj; subst hj; simp [Addr.add]
        | 2, hj => simp at hj; subst hj; simp [Addr.add]
      case c2 => intro u hu; simp at hu; rcases hu with rfl | rfl | rfl <;> rfl
      case c3 => unfold maxLen; omega
      case c4 => omega
      case c5 => have := HZ.out; simp; omega
      case c6 => simp
      intro gn cn w2 hown hgr hat hgl2
      have HN : Hid (LR w1 w.heap.size 43 3 (w.heap.size + 1 + 1 + 1 + 1 + 1 + 1) (bx2 w) (k + 1 + 1) (l2 w (bs ++ [wr.heap.size])).flatten (.slice (some ⟨gn, 0, none⟩) (k + 1 + 1) cn) (w2.setCell ⟨w1.heap.size, 2, none⟩ (.slice (some ⟨gn, 0, none⟩) (k + 1 + 1) cn))) := by
        rw [← l2_step]
        exact hL.out.step (by have := HZ.out; omega) (by omega) (bAlloc (bAlloc (bRefl _) _) _) hown hgr hat (by omega) (fun u => by simp [bx2])
      have HA : Hid (AR w1 (.slice (some ⟨gn, 0, none⟩) (k + 1 + 1) cn) (bs ++ [wr.heap.size]) (w2.setCell ⟨w1.heap.size, 2, none⟩ (.slice (some ⟨gn, 0, none⟩) (k + 1 + 1) cn))) :=
        hA.out.step hgl hz (by rw [hbs.out]; exact hgr) hat _
      have hm := hL.out.mid (by have := HZ.out; omega) (bAlloc (bAlloc (bRefl _) _) _) hgr
      have hz2 : w1.heap.size < w2.heap.size := (Array.getElem?_eq_some_iff.1 hm).1
      have z2 : w2.frozen? ⟨w1.heap.size, 2, none⟩ = false := by simp [World.frozen?, hm]
      have z3 := cell_of_row w2 w1.heap.size 2 _ _ _ hm
      simp only [bx2] at z3
      clear hown hgr hat hm
      go_wp2
      go_roundg (n - (k + 1))
      case measure => omega
      case rel => exact ⟨k + 1, _, _, rfl, by omega, by simp, by show (bs ++ [wr.heap.size]).length = k + 1; simp [hbs.out], HA, HN⟩
    · have hkn : k = n := by omega
      subst hkn
      have HP : Hid (PrgV wr (.agg (bx2 w (.slice (some ⟨gb, 0, none⟩) (k + 1) cap))) (lim2 k)) := read2 HW.out (by omega) hbs.out hA.out hL.out
      have HB : Hid (Below w.heap.size w wr) := by have h := hL.out; rw [HW.out] at h; exact h.all
      clear hL hA hbs
      by_cases hm : k ≤ 15
      · have g3 : (decide ((k : Int) > 15)) = false := by simp; omega
        have hc : chk (lim2 k) = 0 := by rw [lim2_chk k (by omega), if_pos hm]
        go_wp2_with fail
        refine (check_at (p := lim2 k) HT.out HB.out HP.out).mono ?_
        rintro e w3 ⟨rfl, hb3⟩
        go_wp2_with fail
        refine (awake_at HT.out hb3).mono ?_
        rintro e w4 ⟨rfl, hb4⟩
        go_wp2_with fail
        go_ret
        exact ⟨rfl, hb4⟩
      · have g3 : (decide ((k : Int) > 15)) = true := by simp; omega
        have hc : chk (lim2 k) = 3 := by rw [lim2_chk k (by omega), if_neg hm]
        go_wp2_with fail
        refine (check_at (p := lim2 k) HT.out HB.out HP.out).mono ?_
        rintro e w3 ⟨rfl, hb3⟩
        go_wp2_with fail
        refine (awake_at HT.out hb3).mono ?_
        rintro e w4 ⟨rfl, hb4⟩
        go_wp2_with fail
        go_ret
        exact ⟨rfl, hb4⟩
end Go.Proofs.YtlpeiiejkpkpjaaDoor
