/-
  What FlowReach answers of any two numbers and a bool: true; and nothing old has turned. Condition: the table of the instructions is in the world.
-/
import Derived.Test.YtfkaalgcgbmlpaaDoorSends
namespace Go.Proofs.YtfkaalgcgbmlpaaDoor
open Go.RowKit

/-- n times: self, pop. -/
def qC : Nat → List PIns
  | 0 => []
  | k + 1 => qC k ++ [⟨8, 0⟩, ⟨2, 0⟩]
def qW : Nat → List Int
  | 0 => []
  | k + 1 => qW k ++ [0, 1]
theorem qC_len (k : Nat) : (qC k).length = 2 * k := by induction k with | zero => rfl | succ k ih => simp [qC, ih]; omega
theorem qW_len (k : Nat) : (qW k).length = 2 * k := by induction k with | zero => rfl | succ k ih => simp [qW, ih]; omega
/-- The way out, and what is behind it. -/
def qO (n m : Nat) (e : Bool) : PIns := if e then ⟨25, 0⟩ else ⟨20, 2 * (n : Int) + 1 + (m : Int)⟩
def qD (n m : Nat) (e : Bool) (k : Nat) : List PIns := qC n ++ [qO n m e] ++ List.replicate k ⟨2, 0⟩
def qX (n : Nat) (k : Nat) : List Int := qW n ++ [0] ++ List.replicate k (-1)
theorem qD_len (n m : Nat) (e : Bool) (k : Nat) : (qD n m e k).length = 2 * n + 1 + k := by simp [qD, qC_len]; omega
theorem qX_len (n k : Nat) : (qX n k).length = 2 * n + 1 + k := by simp [qX, qW_len]; omega
theorem qD_step (n m : Nat) (e : Bool) (k : Nat) : qD n m e k ++ [⟨2, 0⟩] = qD n m e (k + 1) := by unfold qD; rw [List.append_assoc, List.replicate_succ']
theorem qX_step (n k : Nat) : qX n k ++ [-1] = qX n (k + 1) := by unfold qX; rw [List.append_assoc, List.replicate_succ']
theorem qD_zero (n m : Nat) (e : Bool) : qC n ++ [qO n m e] = qD n m e 0 := by simp [qD]
theorem qX_zero (n : Nat) : qW n ++ [0] = qX n 0 := by simp [qX]
def qL (e : Bool) : Int := if e then -1 else 0
def qZ (n m : Nat) (e : Bool) : List Int := qX n m ++ [qL e]
theorem q_all : ∀ n, n < 21 → ∀ m, m < 21 → ∀ e : Bool, (decide (chk (hP (qD n m e m)) = 0) && goodB (hP (qD n m e m)).hs (qD n m e m) (qZ n m e) (fun k => if k ≤ 2 * n then k - 1 else 2 * n)) = true := by decide +kernel
theorem q_yes {n m : Nat} (hn : n < 21) (hm : m < 21) (e : Bool) : fe (hP (qD n m e m)) 0 = 0 ∧ fl (hP (qD n m e m)) 0 = qZ n m e := by
  have h := q_all n hn m hm e
  rw [Bool.and_eq_true, decide_eq_true_eq] at h
  have := one_good h.1 (goodB_good h.2)
  exact ⟨this.1, this.2.1⟩
theorem CW.none2 (w : World) {B : Nat} (hB : w.heap.size = B) : CW w (.slice none 0 0) [] (.slice (some ⟨B, 0, none⟩) 0 0) [] (w.alloc (.cells #[] 3)) := by
  subst hB
  exact ⟨bAlloc (bRefl w) _, ⟨rfl, Or.inl ⟨rfl, rfl⟩⟩, ⟨rfl, Or.inr ⟨w.heap.size, 0, #[], rfl, Nat.le_refl _, heap_new _ _, by simp, by simp, rfl, rfl⟩⟩, fun g hg => by cases hg⟩

set_option maxHeartbeats 8000000 in
set_option maxRecDepth 100000 in
theorem reach_in (w : World) (ht : Tab w) (n m : Nat) (e : Bool) (hn : n < 21) (hm : m < 21) :
    Calls Tryd.prog 5 #[.int .i64 n, .bool e, .int .i64 m] w fun e w' => e = .returned (.bool true) ∧ Below w.heap.size w w' := by
  have HT : Hid (Tab w) := ht
  have a1 : ¬ (n : Int) < 0 := by omega
  have a2 : ¬ (20 : Int) < n := by omega
  have b1 : ¬ (m : Int) < 0 := by omega
  have b2 : ¬ (20 : Int) < m := by omega
  clear ht
  go_enter Tryd.func5, Tryd.ntmps5
  go_wp2_with fail
  go_loopg [7, 8, 9] n (fun g i7 i8 i9 wr => ∃ k : Nat, g = n - k ∧ k ≤ n ∧ i9 = .int .i64 k ∧ Hid (CW w i7 (qC k) i8 (qW k) wr))
  case atStart => exact ⟨0, rfl, by omega, rfl, CW.none2 w rfl⟩
  case round =>
    obtain ⟨k, rfl, hk, rfl, hd⟩ := hrel
    obtain ⟨A, c, rfl⟩ := hd.out.formN (2 * k) (qC_len k)
    obtain ⟨A', c', rfl⟩ := hd.out.formM (2 * k) (qW_len k)
    by_cases hlt : k < n
    · go_wp2_with (at_builtin; refine appC rfl _ _ rfl [⟨8, 0⟩, ⟨2, 0⟩] wr.heap.size (2 * k + 2) 2 (hd.out.below (bAlloc (bRefl _) _)) rfl rfl rfl (by rw [qC_len]) (by decide) (heap_new2 rfl) (by rw [qC_len]; omega) ?_)
      intro g cap w2 hcw hgr
      have HN : Hid (CW w (.slice (some ⟨g, 0, none⟩) (2 * k + 2) cap) (qC (k + 1)) (.slice A' (2 * k) c') (qW k) w2) := hcw.sameC rfl rfl
      clear hcw hgr
      go_wp2_with (at_builtin; refine appW rfl _ _ rfl [0, 1] w2.heap.size (2 * k + 2) 2 (HN.out.below (bAlloc (bRefl _) _)) rfl rfl rfl (by rw [qW_len]) (by decide) (heap_new2 rfl) (by rw [qW_len]; omega) ?_)
      intro g2 cap2 w3 hcw hgr
      have HN2 : Hid (CW w (.slice (some ⟨g, 0, none⟩) (2 * k + 2) cap) (qC (k + 1)) (.slice (some ⟨g2, 0, none⟩) (2 * k + 2) cap2) (qW (k + 1)) w3) := hcw.sameC rfl rfl
      clear hcw hgr HN
      go_wp2
      go_roundg (n - (k + 1))
      case measure => omega
      case rel => exact ⟨k + 1, rfl, by omega, by go_num, HN2⟩
    · obtain rfl : n = k := by omega
      clear hlt
      obtain ⟨F1, F2⟩ := q_yes hn hm e
      have HF2 : Hid (fl (hP (qD n m e m)) 0 = qZ n m e) := F2
      have ge := eqB_self (qZ n m e)
      clear F2
      cases e with
      | false =>
        go_wp2_with (at_builtin; refine appC rfl _ _ rfl [qO n m false] (wr.heap.size + 1) (2 * n + 1) 1 (hd.out.below (bAlloc (bAlloc (bRefl _) _) _)) rfl rfl rfl (by rw [qC_len]) (by decide) (heap_new2 (by simp)) (by rw [qC_len]; omega) ?_)
        intro g cap w2 hcw hgr
        have HN : Hid (CW w (.slice (some ⟨g, 0, none⟩) (2 * n + 1) cap) (qD n m false 0) (.slice A' (2 * n) c') (qW n) w2) := hcw.sameC (qD_zero n m false) rfl
        clear hcw hgr hd
        go_wp2_with (at_builtin; refine appW rfl _ _ rfl [0] w2.heap.size (2 * n + 1) 1 (HN.out.below (bAlloc (bRefl _) _)) rfl rfl rfl (by rw [qW_len]) (by decide) (heap_new2 rfl) (by rw [qW_len]; omega) ?_)
        intro g2 cap2 w3 hcw hgr
        have HN2 : Hid (CW w (.slice (some ⟨g, 0, none⟩) (2 * n + 1) cap) (qD n m false 0) (.slice (some ⟨g2, 0, none⟩) (2 * n + 1) cap2) (qX n 0) w3) := hcw.sameC rfl (qX_zero n)
        clear hcw hgr HN
        go_wp2_with fail
        go_loopg [7, 8, 11] m (fun g i7 i8 i11 wr => ∃ k : Nat, g = m - k ∧ k ≤ m ∧ i11 = .int .i64 k ∧ Hid (CW w i7 (qD n m false k) i8 (qX n k) wr))
        case atStart => exact ⟨0, rfl, by omega, rfl, HN2⟩
        case round =>
          clear HN2
          obtain ⟨k, rfl, hk, rfl, hd⟩ := hrel
          obtain ⟨A, c, rfl⟩ := hd.out.formN (2 * n + 1 + k) (qD_len n m false k)
          obtain ⟨A', c', rfl⟩ := hd.out.formM (2 * n + 1 + k) (qX_len n k)
          by_cases hlt : k < m
          · go_wp2_with (at_builtin; refine appC rfl _ _ rfl [⟨2, 0⟩] wr.heap.size (2 * n + 1 + k + 1) 1 (hd.out.below (bAlloc (bRefl _) _)) rfl rfl rfl (by rw [qD_len]) (by decide) (heap_new2 rfl) (by rw [qD_len]; omega) ?_)
            intro g cap w2 hcw hgr
            have HN : Hid (CW w (.slice (some ⟨g, 0, none⟩) (2 * n + 1 + k + 1) cap) (qD n m false (k + 1)) (.slice A' (2 * n + 1 + k) c') (qX n k) w2) := hcw.sameC (qD_step n m false k) rfl
            clear hcw hgr
            go_wp2_with (at_builtin; refine appW rfl _ _ rfl [-1] w2.heap.size (2 * n + 1 + k + 1) 1 (HN.out.below (bAlloc (bRefl _) _)) rfl rfl rfl (by rw [qX_len]) (by decide) (heap_new2 rfl) (by rw [qX_len]; omega) ?_)
            intro g2 cap2 w3 hcw hgr
            have HN2 : Hid (CW w (.slice (some ⟨g, 0, none⟩) (2 * n + 1 + k + 1) cap) (qD n m false (k + 1)) (.slice (some ⟨g2, 0, none⟩) (2 * n + 1 + k + 1) cap2) (qX n (k + 1)) w3) := hcw.sameC rfl (qX_step n k)
            clear hcw hgr HN
            go_wp2
            go_roundg (m - (k + 1))
            case measure => omega
            case rel => exact ⟨k + 1, rfl, by omega, by go_num, HN2⟩
          · obtain rfl : m = k := by omega
            clear hlt
            go_wp2_with fail
            refine (handler_any _ _ _ (hd.out.cd (by rw [qD_len]; omega))).mono ?_
            rintro e w3 ⟨A1, A2, c1, c2, rfl, hp3, hb3⟩
            have HC3 := hd.out.below hb3
            go_wp2_with fail
            refine (depths_at 0 HT.out HC3.low hp3).mono ?_
            rintro e w4 ⟨u, rfl, hu, hb4⟩
            rw [HF2.out] at hu
            obtain ⟨Au, cu, rfl, hul⟩ := hu.form
            have HC4 : Hid (CW w (.slice A (2 * n + 1 + m) c) (qD n m false m) (.slice A' (2 * n + 1 + m) c') (qX n m) w4) := HC3.below hb4
            go_wp2_with (at_builtin; refine appWg rfl _ _ rfl [qL false] w4.heap.size (2 * n + 1 + m + 1) 1 (HC4.out.below (bAlloc (bRefl _) _)) rfl rfl rfl (by rw [qX_len]) (by decide) (heap_new2 rfl) (by rw [qX_len]; omega) ?_)
            intro g2 cap2 w5 hcw hgr
            have HC5 : Hid (CW w (.slice A (2 * n + 1 + m) c) (qD n m false m) (.slice (some ⟨g2, 0, none⟩) (2 * n + 1 + m + 1) cap2) (qZ n m false) w5) := hcw.sameC rfl rfl
            have HU5 := kept_ints HC4.out hgr hu (fun g' hg' => (own_lt HC3.ow hg').2)
            clear hcw hgr hb4 HC4 hu HC3 hb3 hp3 hd
            go_wp2_with fail
            refine (alikeI anyB anyB _ _ _ _ _ HU5 (HC5.out.ints (by simp [qZ, qX_len]; omega))).mono ?_
            rintro e w6 ⟨rfl, hq⟩
            have HL6 := bTrans HC5.out.low (quiet_below hq)
            go_wp2_with fail
            refine (awake_at HT.out HL6).mono ?_
            rintro e w8 ⟨rfl, hb8⟩
            go_wp2_with fail
            go_ret
            exact ⟨rfl, hb8⟩
      | true =>
        go_wp2_with (at_builtin; refine appC rfl _ _ rfl [qO n m true] (wr.heap.size + 1) (2 * n + 1) 1 (hd.out.below (bAlloc (bAlloc (bRefl _) _) _)) rfl rfl rfl (by rw [qC_len]) (by decide) (heap_new2 (by simp)) (by rw [qC_len]; omega) ?_)
        intro g cap w2 hcw hgr
        have HN : Hid (CW w (.slice (some ⟨g, 0, none⟩) (2 * n + 1) cap) (qD n m true 0) (.slice A' (2 * n) c') (qW n) w2) := hcw.sameC (qD_zero n m true) rfl
        clear hcw hgr hd
        go_wp2_with (at_builtin; refine appW rfl _ _ rfl [0] w2.heap.size (2 * n + 1) 1 (HN.out.below (bAlloc (bRefl _) _)) rfl rfl rfl (by rw [qW_len]) (by decide) (heap_new2 rfl) (by rw [qW_len]; omega) ?_)
        intro g2 cap2 w3 hcw hgr
        have HN2 : Hid (CW w (.slice (some ⟨g, 0, none⟩) (2 * n + 1) cap) (qD n m true 0) (.slice (some ⟨g2, 0, none⟩) (2 * n + 1) cap2) (qX n 0) w3) := hcw.sameC rfl (qX_zero n)
        clear hcw hgr HN
        go_wp2_with fail
        go_loopg [7, 8, 11] m (fun g i7 i8 i11 wr => ∃ k : Nat, g = m - k ∧ k ≤ m ∧ i11 = .int .i64 k ∧ Hid (CW w i7 (qD n m true k) i8 (qX n k) wr))
        case atStart => exact ⟨0, rfl, by omega, rfl, HN2⟩
        case round =>
          clear HN2
          obtain ⟨k, rfl, hk, rfl, hd⟩ := hrel
          obtain ⟨A, c, rfl⟩ := hd.out.formN (2 * n + 1 + k) (qD_len n m true k)
          obtain ⟨A', c', rfl⟩ := hd.out.formM (2 * n + 1 + k) (qX_len n k)
          by_cases hlt : k < m
          · go_wp2_with (at_builtin; refine appC rfl _ _ rfl [⟨2, 0⟩] wr.heap.size (2 * n + 1 + k + 1) 1 (hd.out.below (bAlloc (bRefl _) _)) rfl rfl rfl (by rw [qD_len]) (by decide) (heap_new2 rfl) (by rw [qD_len]; omega) ?_)
            intro g cap w2 hcw hgr
            have HN : Hid (CW w (.slice (some ⟨g, 0, none⟩) (2 * n + 1 + k + 1) cap) (qD n m true (k + 1)) (.slice A' (2 * n + 1 + k) c') (qX n k) w2) := hcw.sameC (qD_step n m true k) rfl
            clear hcw hgr
            go_wp2_with (at_builtin; refine appW rfl _ _ rfl [-1] w2.heap.size (2 * n + 1 + k + 1) 1 (HN.out.below (bAlloc (bRefl _) _)) rfl rfl rfl (by rw [qX_len]) (by decide) (heap_new2 rfl) (by rw [qX_len]; omega) ?_)
            intro g2 cap2 w3 hcw hgr
            have HN2 : Hid (CW w (.slice (some ⟨g, 0, none⟩) (2 * n + 1 + k + 1) cap) (qD n m true (k + 1)) (.slice (some ⟨g2, 0, none⟩) (2 * n + 1 + k + 1) cap2) (qX n (k + 1)) w3) := hcw.sameC rfl (qX_step n k)
            clear hcw hgr HN
            go_wp2
            go_roundg (m - (k + 1))
            case measure => omega
            case rel => exact ⟨k + 1, rfl, by omega, by go_num, HN2⟩
          · obtain rfl : m = k := by omega
            clear hlt
            go_wp2_with fail
            refine (handler_any _ _ _ (hd.out.cd (by rw [qD_len]; omega))).mono ?_
            rintro e w3 ⟨A1, A2, c1, c2, rfl, hp3, hb3⟩
            have HC3 := hd.out.below hb3
            go_wp2_with fail
            refine (depths_at 0 HT.out HC3.low hp3).mono ?_
            rintro e w4 ⟨u, rfl, hu, hb4⟩
            rw [HF2.out] at hu
            obtain ⟨Au, cu, rfl, hul⟩ := hu.form
            have HC4 : Hid (CW w (.slice A (2 * n + 1 + m) c) (qD n m true m) (.slice A' (2 * n + 1 + m) c') (qX n m) w4) := HC3.below hb4
            go_wp2_with (at_builtin; refine appWg rfl _ _ rfl [qL true] w4.heap.size (2 * n + 1 + m + 1) 1 (HC4.out.below (bAlloc (bRefl _) _)) rfl rfl rfl (by rw [qX_len]) (by decide) (heap_new2 rfl) (by rw [qX_len]; omega) ?_)
            intro g2 cap2 w5 hcw hgr
            have HC5 : Hid (CW w (.slice A (2 * n + 1 + m) c) (qD n m true m) (.slice (some ⟨g2, 0, none⟩) (2 * n + 1 + m + 1) cap2) (qZ n m true) w5) := hcw.sameC rfl rfl
            have HU5 := kept_ints HC4.out hgr hu (fun g' hg' => (own_lt HC3.ow hg').2)
            clear hcw hgr hb4 HC4 hu HC3 hb3 hp3 hd
            go_wp2_with fail
            refine (alikeI anyB anyB _ _ _ _ _ HU5 (HC5.out.ints (by simp [qZ, qX_len]; omega))).mono ?_
            rintro e w6 ⟨rfl, hq⟩
            have HL6 := bTrans HC5.out.low (quiet_below hq)
            go_wp2_with fail
            refine (awake_at HT.out HL6).mono ?_
            rintro e w8 ⟨rfl, hb8⟩
            go_wp2_with fail
            go_ret
            exact ⟨rfl, hb8⟩

set_option maxHeartbeats 2000000 in
theorem reach_out (w : World) (ht : Tab w) (a b : Int) (c : Bool) (h : ¬ (0 ≤ a ∧ a ≤ 20 ∧ 0 ≤ b ∧ b ≤ 20)) :
    Calls Tryd.prog 5 #[.int .i64 a, .bool c, .int .i64 b] w fun e w' => e = .returned (.bool true) ∧ Below w.heap.size w w' := by
  by_cases h1 : a < 0
  · go_enter Tryd.func5, Tryd.ntmps5
    go_wp2_with fail
    refine (awake_any _ ht).mono ?_
    rintro e w1 ⟨rfl, hb⟩
    go_wp2_with fail
    go_ret
    exact ⟨rfl, hb⟩
  · by_cases h2 : 20 < a
    · go_enter Tryd.func5, Tryd.ntmps5
      go_wp2_with fail
      refine (awake_any _ ht).mono ?_
      rintro e w1 ⟨rfl, hb⟩
      go_wp2_with fail
      go_ret
      exact ⟨rfl, hb⟩
    · by_cases h3 : b < 0
      · go_enter Tryd.func5, Tryd.ntmps5
        go_wp2_with fail
        refine (awake_any _ ht).mono ?_
        rintro e w1 ⟨rfl, hb⟩
        go_wp2_with fail
        go_ret
        exact ⟨rfl, hb⟩
      · have h4 : 20 < b := by omega
        clear h
        go_enter Tryd.func5, Tryd.ntmps5
        go_wp2_with fail
        refine (awake_any _ ht).mono ?_
        rintro e w1 ⟨rfl, hb⟩
        go_wp2_with fail
        go_ret
        exact ⟨rfl, hb⟩
theorem reach_all (w : World) (ht : Tab w) (a b : Int) (c : Bool) :
    Calls Tryd.prog 5 #[.int .i64 a, .bool c, .int .i64 b] w fun e w' => e = .returned (.bool true) ∧ Below w.heap.size w w' := by
  by_cases h : 0 ≤ a ∧ a ≤ 20 ∧ 0 ≤ b ∧ b ≤ 20
  · obtain ⟨h1, h2, h3, h4⟩ := h
    obtain ⟨m, rfl⟩ := Int.eq_ofNat_of_zero_le h1
    obtain ⟨n, rfl⟩ := Int.eq_ofNat_of_zero_le h3
    exact reach_in w ht m n c (by omega) (by omega)
  · exact reach_out w ht a b c h
end Go.Proofs.YtfkaalgcgbmlpaaDoor
