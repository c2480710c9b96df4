/-
  What FlowFirst answers of any three numbers: true; and nothing old has turned. Condition: the table of the instructions is in the world.
-/
import Derived.Test.YtfkaalgcgbmlpaaDoorFirst
namespace Go.Proofs.YtfkaalgcgbmlpaaDoor
open Go.RowKit

theorem info49 : (Tryd.prog.info? 49).map (fun i => (i.zero, i.size, i.bytes)) = some (some (.agg #[.int .i64 0, .slice none 0 0]), 2, 32) := by kernel_rfl
section
variable {w0 W : World} {v : Value} {p : PPrg}
theorem fcheck_at (ht : Tab w0) (hb : Below w0.heap.size w0 W) (hp : PrgV W v p) : Calls Tryd.prog 14 #[v] W fun e w' => e = .returned (.int .i64 (fc p)) ∧ Below w0.heap.size w0 w' :=
  (fcheck_any W v p (ht.below hb) hp).mono fun _ _ ⟨h1, h2⟩ => ⟨h1, bTrans hb h2⟩
theorem awake_at (ht : Tab w0) (hb : Below w0.heap.size w0 W) : Calls Tryd.prog 10 #[] W fun e w' => e = .returned (.bool true) ∧ Below w0.heap.size w0 w' :=
  (awake_any W (ht.below hb)).mono fun _ _ ⟨h1, h2⟩ => ⟨h1, bTrans hb h2⟩
end
/-- The place, as a number from 0 on: one that is none of them for those below 0. -/
def plc (a : Int) : Nat := if 0 ≤ a then a.toNat else 1000
theorem plc_yes {k : Nat} {a : Int} (hk : k ≤ 10) (h : (k : Int) = a) : k = plc a := by unfold plc; rw [if_pos (by omega)]; omega
theorem plc_no {k : Nat} {a : Int} (hk : k ≤ 10) (h : (k : Int) ≠ a) : k ≠ plc a := by unfold plc; split <;> omega

theorem FR.mid {w wr w1 w' : World} {o : Nat} {fuel : Int} {k : Nat} {v : Value} (h : FR w o fuel k v wr) (hb1 : Below wr.heap.size wr w1) (hg : w1.grownBy w' v.ownBlock) : w'.heap[w.heap.size + 1]? = some (.cells (fBox w v fuel) 26) := by
  have hlt := h.lt
  have hs1 := hb1.size
  rw [hg.block _ (by omega) (Ne.symm (h.far (by omega))), hb1.block _ hlt]
  exact h.bx
theorem fV_yes {o k : Nat} (cp : Value) (h : k = o) : fV o cp k = [.int .i64 0, cp] := by unfold fV; rw [if_pos h]
theorem fV_no {o k : Nat} (cp : Value) (h : k ≠ o) : fV o cp k = [.int .i64 0, .slice none 0 0] := by unfold fV; rw [if_neg h]
theorem one2 (x y : Value) (hx : x.oneCell' = true) (hy : y.oneCell' = true) : ∀ u ∈ [x, y], u.oneCell' = true := by
  intro u hu; simp at hu; rcases hu with rfl | rfl
  · exact hx
  · exact hy
theorem bb3 (w : World) (x y z : Obj) : Below w.heap.size w (((w.alloc x).alloc y).alloc z) := bAlloc (bAlloc (bAlloc (bRefl w) x) y) z
theorem bb2 (w : World) (x y : Obj) : Below w.heap.size w ((w.alloc x).alloc y) := bAlloc (bAlloc (bRefl w) x) y

set_option maxHeartbeats 8000000 in
set_option maxRecDepth 100000 in
theorem first_in (w : World) (ht : Tab w) (n : Nat) (a fuel : Int) (hn1 : 1 ≤ n) (hn : n ≤ 10) (hf0 : 0 ≤ fuel) (hf1 : fuel ≤ 300) :
    Calls Tryd.prog 8 #[.int .i64 n, .int .i64 a, .int .i64 fuel] w fun e w' => e = .returned (.bool true) ∧ Below w.heap.size w w' := by
  have HT : Hid (Tab w) := ht
  obtain ⟨i0, hi0, hz0, hz1, hz2⟩ := info_parts info49
  have a1 : ¬ (n : Int) < 1 := by omega
  have a2 : ¬ (10 : Int) < n := by omega
  have b1 : ¬ fuel < 0 := by omega
  have b2 : ¬ 300 < fuel := by omega
  clear ht
  go_enter Tryd.func8, Tryd.ntmps8
  go_wp2_with fail
  go_loopg [8, 9] n (fun g i8 i9 wr => ∃ (k : Nat) (v : Value), g = n - k ∧ k ≤ n ∧ i8 = .int .i64 k ∧ Hid (FR w (plc a) fuel k v wr))
  case atStart => exact ⟨0, _, rfl, by omega, rfl, FR.start w (plc a) fuel⟩
  case round =>
    obtain ⟨k, v, rfl, hk, rfl, hd⟩ := hrel
    obtain ⟨A, c, rfl⟩ := hd.out.form
    have q0 := hd.out.bxc 0
    have q1 := hd.out.bxc 1
    have q2 := hd.out.bxc 2
    have q3 := hd.out.bxc 3
    simp only [fBox] at q0 q1 q2 q3
    have hz := hd.out.lt
    have hz9 : w.heap.size + 1 < wr.heap.size + 1 := by omega
    have hz8 : w.heap.size + 1 < wr.heap.size + 1 + 1 := by omega
    have hz7 : w.heap.size + 1 < wr.heap.size + 1 + 1 + 1 := by omega
    by_cases hlt : k < n
    · by_cases he : (k : Int) = a
      · have he' := int_eq he
        have HP : Hid (k = plc a) := plc_yes (by omega) he
        clear he
        obtain ⟨cp, hown, _⟩ := hd.out.hn
        have HO : Hid (wr.ownsRow (w.heap.size + 2) 49 2 (.slice A k c) k (fX (plc a) (.slice (some ⟨wr.heap.size + 1, 0, none⟩) 1 1) k)) := by
          rw [fX_other _ cp (by have := HP.out; omega)]; exact hown
        clear hown
        go_wp2_with (at_builtin; refine wpList_append_lies _ rfl _ _ 22 rfl (w.heap.size + 2) 49 i0 _ 2 32 Tryd.underlying22 hi0 hz0 hz1 hz2 rfl (by decide) _ k _ rfl (own_block HO.out fun g _ hg => (bb3 _ _ _ _).block g hg) ⟨wr.heap.size + 1 + 1, 0, none⟩ 1 1 [.int .i64 0, .slice (some ⟨wr.heap.size + 1, 0, none⟩) 1 1] rfl rfl (World.news_of_block (heap_new2 (by simp))) (one2 _ _ rfl rfl) (by decide) (by unfold maxLen; omega) (by omega) (by simp; omega) (wr.heap.size + 1 + 1 + 1) (by simp) ?_)
        intro gn cn w2 hown hgr hat hgl2
        have HN : Hid (FR w (plc a) fuel (k + 1) (.slice (some ⟨gn, 0, none⟩) (k + 1) cn) (w2.setCell ⟨w.heap.size + 1, 0, none⟩ (.slice (some ⟨gn, 0, none⟩) (k + 1) cn))) := by
          refine hd.out.step (cp := .slice (some ⟨wr.heap.size + 1, 0, none⟩) 1 1) (bb3 _ _ _ _) (by rw [fV_yes _ HP.out]; exact hown) hgr (by simpa using hat) (fun _ => ⟨wr.heap.size + 1, rfl, by omega, by simp, fun e => ?_, ?_⟩)
          · obtain ⟨cp', ho', _⟩ := hd.out.hn
            have := (own_lt ho' e).2
            omega
          · rw [Below.heap_alloc _ _ _ (by simp)]; exact heap_new2 (by simp)
        have hm := hd.out.mid (bb3 _ _ _ _) hgr
        have hz2 : w.heap.size + 1 < w2.heap.size := (Array.getElem?_eq_some_iff.1 hm).1
        have z2 : w2.frozen? ⟨w.heap.size + 1, 0, none⟩ = false := by simp [World.frozen?, hm]
        have z3 := cell_of_row w2 (w.heap.size + 1) 0 _ _ _ hm
        simp only [fBox] at z3
        clear hown hgr hat hm
        go_wp2
        go_roundg (n - (k + 1))
        case measure => omega
        case rel => exact ⟨k + 1, _, rfl, by omega, by simp, HN⟩
      · have he' := int_ne he
        have HP : Hid (k ≠ plc a) := plc_no (by omega) he
        clear he
        obtain ⟨cp, hown0, hcp⟩ := hd.out.hn
        have HO : Hid (wr.ownsRow (w.heap.size + 2) 49 2 (.slice A k c) k (fX (plc a) cp k)) := hown0
        have HCP : Hid (plc a < k → ∃ pb, cp = .slice (some ⟨pb, 0, none⟩) 1 1 ∧ w.heap.size + 2 ≤ pb ∧ (Value.slice A k c).ownBlock ≠ some pb ∧ wr.heap[pb]? = some (.cells #[.int .i64 2, .int .i64 0] 43)) := hcp
        clear hown0 hcp
        go_wp2_with (at_builtin; refine wpList_append_lies _ rfl _ _ 22 rfl (w.heap.size + 2) 49 i0 _ 2 32 Tryd.underlying22 hi0 hz0 hz1 hz2 rfl (by decide) _ k _ rfl (own_block HO.out fun g _ hg => (bb2 _ _ _).block g hg) ⟨wr.heap.size + 1, 0, none⟩ 1 1 [.int .i64 0, .slice none 0 0] rfl rfl (World.news_of_block (heap_new2 (by simp))) (one2 _ _ rfl rfl) (by decide) (by unfold maxLen; omega) (by omega) (by simp; omega) (wr.heap.size + 1 + 1) (by simp) ?_)
        intro gn cn w2 hown hgr hat hgl2
        have HN : Hid (FR w (plc a) fuel (k + 1) (.slice (some ⟨gn, 0, none⟩) (k + 1) cn) (w2.setCell ⟨w.heap.size + 1, 0, none⟩ (.slice (some ⟨gn, 0, none⟩) (k + 1) cn))) := by
          refine hd.out.step (cp := cp) (bb2 _ _ _) (by rw [fV_no _ HP.out]; exact hown) hgr (by simpa using hat) (fun ho => ?_)
          obtain ⟨pb, e1, e2, e3, e4⟩ := HCP.out (by have := HP.out; omega)
          have hpl := (Array.getElem?_eq_some_iff.1 e4).1
          exact ⟨pb, e1, e2, by simp; omega, e3, ((bb2 _ _ _).block pb hpl).trans e4⟩
        have hm := hd.out.mid (bb2 _ _ _) hgr
        have hz2 : w.heap.size + 1 < w2.heap.size := (Array.getElem?_eq_some_iff.1 hm).1
        have z2 : w2.frozen? ⟨w.heap.size + 1, 0, none⟩ = false := by simp [World.frozen?, hm]
        have z3 := cell_of_row w2 (w.heap.size + 1) 0 _ _ _ hm
        simp only [fBox] at z3
        clear hown hgr hat hm
        go_wp2
        go_roundg (n - (k + 1))
        case measure => omega
        case rel => exact ⟨k + 1, _, rfl, by omega, by simp, HN⟩
    · obtain rfl : n = k := by omega
      clear hlt
      have HPR : Hid (PrgV wr (.agg (fBox w (.slice A n c) fuel)) (fP n (plc a) fuel)) := hd.out.prg (by omega)
      have HL : Hid (Below w.heap.size w wr) := hd.out.low
      have HF := f_fc (n := n) (o := plc a) (fuel := fuel) (by omega)
      clear hd
      by_cases f1 : fuel < 1
      · rw [if_neg (by omega)] at HF
        go_wp2_with fail
        refine (fcheck_at HT.out HL.out HPR.out).mono ?_
        rintro e w3 ⟨rfl, hb3⟩
        go_wp2_with fail
        refine (awake_at HT.out hb3).mono ?_
        rintro e w4 ⟨rfl, hb4⟩
        go_wp2_with fail
        go_ret
        exact ⟨rfl, hb4⟩
      · by_cases f2 : 256 < fuel
        · rw [if_neg (by omega)] at HF
          go_wp2_with fail
          refine (fcheck_at HT.out HL.out HPR.out).mono ?_
          rintro e w3 ⟨rfl, hb3⟩
          go_wp2_with fail
          refine (awake_at HT.out hb3).mono ?_
          rintro e w4 ⟨rfl, hb4⟩
          go_wp2_with fail
          go_ret
          exact ⟨rfl, hb4⟩
        · rw [if_pos (by omega)] at HF
          by_cases g1 : 0 ≤ a
          · by_cases g2 : a < n
            · rw [if_pos (by unfold plc; rw [if_pos g1]; omega)] at HF
              go_wp2_with fail
              refine (fcheck_at HT.out HL.out HPR.out).mono ?_
              rintro e w3 ⟨rfl, hb3⟩
              go_wp2_with fail
              refine (awake_at HT.out hb3).mono ?_
              rintro e w4 ⟨rfl, hb4⟩
              go_wp2_with fail
              go_ret
              exact ⟨rfl, hb4⟩
            · rw [if_neg (by unfold plc; rw [if_pos g1]; omega)] at HF
              go_wp2_with fail
              refine (fcheck_at HT.out HL.out HPR.out).mono ?_
              rintro e w3 ⟨rfl, hb3⟩
              go_wp2_with fail
              refine (awake_at HT.out hb3).mono ?_
              rintro e w4 ⟨rfl, hb4⟩
              go_wp2_with fail
              go_ret
              exact ⟨rfl, hb4⟩
          · rw [if_neg (by unfold plc; rw [if_neg g1]; omega)] at HF
            go_wp2_with fail
            refine (fcheck_at HT.out HL.out HPR.out).mono ?_
            rintro e w3 ⟨rfl, hb3⟩
            go_wp2_with fail
            refine (awake_at HT.out hb3).mono ?_
            rintro e w4 ⟨rfl, hb4⟩
            go_wp2_with fail
            go_ret
            exact ⟨rfl, hb4⟩

set_option maxHeartbeats 2000000 in
theorem first_out (w : World) (ht : Tab w) (a b c : Int) (h : ¬ (1 ≤ a ∧ a ≤ 10 ∧ 0 ≤ c ∧ c ≤ 300)) :
    Calls Tryd.prog 8 #[.int .i64 a, .int .i64 b, .int .i64 c] w fun e w' => e = .returned (.bool true) ∧ Below w.heap.size w w' := by
  by_cases h1 : a < 1
  · go_enter Tryd.func8, Tryd.ntmps8
    go_wp2_with fail
    refine (awake_any _ ht).mono ?_
    rintro e w1 ⟨rfl, hb⟩
    go_wp2_with fail
    go_ret
    exact ⟨rfl, hb⟩
  · by_cases h2 : 10 < a
    · go_enter Tryd.func8, Tryd.ntmps8
      go_wp2_with fail
      refine (awake_any _ ht).mono ?_
      rintro e w1 ⟨rfl, hb⟩
      go_wp2_with fail
      go_ret
      exact ⟨rfl, hb⟩
    · by_cases h3 : c < 0
      · go_enter Tryd.func8, Tryd.ntmps8
        go_wp2_with fail
        refine (awake_any _ ht).mono ?_
        rintro e w1 ⟨rfl, hb⟩
        go_wp2_with fail
        go_ret
        exact ⟨rfl, hb⟩
      · have h4 : 300 < c := by omega
        clear h
        go_enter Tryd.func8, Tryd.ntmps8
        go_wp2_with fail
        refine (awake_any _ ht).mono ?_
        rintro e w1 ⟨rfl, hb⟩
        go_wp2_with fail
        go_ret
        exact ⟨rfl, hb⟩
theorem first_all (w : World) (ht : Tab w) (a b c : Int) :
    Calls Tryd.prog 8 #[.int .i64 a, .int .i64 b, .int .i64 c] w fun e w' => e = .returned (.bool true) ∧ Below w.heap.size w w' := by
  by_cases h : 1 ≤ a ∧ a ≤ 10 ∧ 0 ≤ c ∧ c ≤ 300
  · obtain ⟨h1, h2, h3, h4⟩ := h
    obtain ⟨m, rfl⟩ := Int.eq_ofNat_of_zero_le (show 0 ≤ a by omega)
    exact first_in w ht m b c (by omega) (by omega) h3 h4
  · exact first_out w ht a b c h
end Go.Proofs.YtfkaalgcgbmlpaaDoor
