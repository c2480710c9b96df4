/-
  What FlowJoins answers of any two numbers and a bool: true; and nothing old has turned. Condition: the table of the instructions is in the world.
-/
import Derived.Test.YtfkaalgcgbmlpaaDoorCw
namespace Go.Proofs.YtfkaalgcgbmlpaaDoor
open Go.RowKit

/-- The loop: a pushes, b pops, back. -/
def j1 (a b : Nat) : List PIns := List.replicate a ⟨1, 0⟩ ++ List.replicate b ⟨2, 0⟩ ++ [⟨20, 0⟩]
def upto (a b : Nat) : List Nat := (List.range (b - a)).map (· + a)
theorem j1_chk : ∀ a, a < 7 → ∀ b, b < 7 → chk (hP (j1 a b)) = 0 := by decide +kernel
def l1 (a : Nat) : List Int := (List.range a).map (fun (x : Nat) => (x : Int)) ++ (List.range (a + 1)).map (fun (x : Nat) => ((a - x : Nat) : Int)) ++ [-1]
theorem j1_good : ∀ a, a < 7 → goodB (hP (j1 a a)).hs (j1 a a) (l1 a) (fun k => k - 1) = true := by decide +kernel
theorem j1_less : ∀ a, a < 7 → ∀ b, b < 7 → a < b → badB (hP (j1 a b)).hs (j1 a b) (upto 1 (2 * a + 1)) = true := by decide +kernel
theorem j1_more : ∀ a, a < 7 → ∀ b, b < 7 → b < a → twoB (hP (j1 a b)).hs (j1 a b) (upto 1 (a + b + 1) ++ [0]) [] = true := by decide +kernel
theorem j1_fc {a b : Nat} (ha : a < 7) (hb : b < 7) : fc (hP (j1 a b)) = if a = b then 0 else 5 := by
  have hc := j1_chk a ha b hb
  by_cases e : a = b
  · subst e
    rw [if_pos rfl, (one_good hc (goodB_good (j1_good a ha))).2.2.2]
  · rw [if_neg e]
    rcases Nat.lt_or_ge a b with h | h
    · exact (one_bad hc (badB_bad (j1_less a ha b hb h))).2.2.2
    · exact (one_bad hc (twoB_bad (j1_more a ha b hb (by omega)))).2.2.2
/-- The fork: a pushes, over the second way; b pushes. -/
def j2 (a b : Nat) : List PIns := [⟨1, 0⟩, ⟨21, 3 + (a : Int)⟩] ++ List.replicate a ⟨1, 0⟩ ++ [⟨20, 3 + (a : Int) + (b : Int)⟩] ++ List.replicate b ⟨1, 0⟩
theorem j2_chk : ∀ a, a < 7 → ∀ b, b < 7 → chk (hP (j2 a b)) = 0 := by decide +kernel
def l2 (a : Nat) : List Int := [0, 1] ++ (List.range (a + 1)).map (fun (x : Nat) => (x : Int)) ++ (List.range (a + 1)).map (fun (x : Nat) => (x : Int))
theorem j2_good : ∀ a, a < 7 → goodB (hP (j2 a a)).hs (j2 a a) (l2 a) (fun k => if k = 3 + a then 1 else k - 1) = true := by decide +kernel
theorem j2_two : ∀ a, a < 7 → ∀ b, b < 7 → a ≠ b → twoB (hP (j2 a b)).hs (j2 a b) (upto 1 (3 + a) ++ [3 + a + b]) (1 :: upto (3 + a) (4 + a + b)) = true := by decide +kernel
theorem j2_fc {a b : Nat} (ha : a < 7) (hb : b < 7) : fc (hP (j2 a b)) = if a = b then 0 else 5 := by
  have hc := j2_chk a ha b hb
  by_cases e : a = b
  · subst e
    rw [if_pos rfl, (one_good hc (goodB_good (j2_good a ha))).2.2.2]
  · rw [if_neg e]
    exact (one_bad hc (twoB_bad (j2_two a ha b hb e))).2.2.2

theorem CW.none (w : World) : CW w (.slice none 0 0) [] (.slice none 0 0) [] w := ⟨bRefl w, ⟨rfl, Or.inl ⟨rfl, rfl⟩⟩, ⟨rfl, Or.inl ⟨rfl, rfl⟩⟩, fun g hg => by cases hg⟩
theorem CW.same {w wr : World} {vc vw : Value} {c c' : List PIns} {l : List Int} (h : CW w vc c vw l wr) (e : c = c') : CW w vc c' vw l wr := e ▸ h

section
variable {w0 W : World} {v : Value} {p : PPrg}
theorem fcheck_at (ht : Tab w0) (hb : Below w0.heap.size w0 W) (hp : PrgV W v p) : Calls Tryd.prog 14 #[v] W fun e w' => e = .returned (.int .i64 (fc p)) ∧ Below w0.heap.size w0 w' :=
  (fcheck_any W v p (ht.below hb) hp).mono fun _ _ ⟨h1, h2⟩ => ⟨h1, bTrans hb h2⟩
theorem awake_at (ht : Tab w0) (hb : Below w0.heap.size w0 W) : Calls Tryd.prog 10 #[] W fun e w' => e = .returned (.bool true) ∧ Below w0.heap.size w0 w' :=
  (awake_any W (ht.below hb)).mono fun _ _ ⟨h1, h2⟩ => ⟨h1, bTrans hb h2⟩
end

/-! The code on its way, by names that nothing unfolds. -/
def rA (k : Nat) : List PIns := List.replicate k ⟨1, 0⟩
theorem rA_len (k : Nat) : (rA k).length = k := by simp [rA]
theorem rA_step (k : Nat) : rA k ++ [⟨1, 0⟩] = rA (k + 1) := by unfold rA; rw [List.replicate_succ']
def rB (a k : Nat) : List PIns := List.replicate a ⟨1, 0⟩ ++ List.replicate k ⟨2, 0⟩
theorem rB_len (a k : Nat) : (rB a k).length = a + k := by unfold rB; rw [List.length_append, List.length_replicate, List.length_replicate]
theorem rB_step (a k : Nat) : rB a k ++ [⟨2, 0⟩] = rB a (k + 1) := by unfold rB; rw [List.append_assoc, List.replicate_succ']
theorem rA_rB (a : Nat) : rA a = rB a 0 := by unfold rA rB; rw [List.replicate_zero, List.append_nil]
theorem rB_j1 (a b : Nat) : rB a b ++ [⟨20, 0⟩] = j1 a b := rfl
theorem j1_len (a b : Nat) : (j1 a b).length = a + b + 1 := by simp [j1]; omega
def rC (a k : Nat) : List PIns := [⟨1, 0⟩, ⟨21, 3 + (a : Int)⟩] ++ List.replicate k ⟨1, 0⟩
theorem rC_len (a k : Nat) : (rC a k).length = 2 + k := by simp [rC]; omega
theorem rC_step (a k : Nat) : rC a k ++ [⟨1, 0⟩] = rC a (k + 1) := by unfold rC; rw [List.append_assoc, List.replicate_succ']
theorem rC_zero (a : Nat) : [⟨1, 0⟩, ⟨21, 3 + (a : Int)⟩] = rC a 0 := rfl
def rD (a b k : Nat) : List PIns := [⟨1, 0⟩, ⟨21, 3 + (a : Int)⟩] ++ List.replicate a ⟨1, 0⟩ ++ [⟨20, 3 + (a : Int) + (b : Int)⟩] ++ List.replicate k ⟨1, 0⟩
theorem rC_j2 (a b : Nat) : rC a a ++ [⟨20, 3 + (a : Int) + (b : Int)⟩] = rD a b 0 := by simp [rC, rD]
theorem rD_len (a b k : Nat) : (rD a b k).length = 3 + a + k := by simp [rD]; omega
theorem rD_step (a b k : Nat) : rD a b k ++ [⟨1, 0⟩] = rD a b (k + 1) := by unfold rD; rw [List.append_assoc, List.replicate_succ']
theorem j2_len (a b : Nat) : (j2 a b).length = 3 + a + b := rD_len a b b
theorem CW.formN {w wr : World} {vc vw : Value} {code : List PIns} {want : List Int} (h : CW w vc code vw want wr) (n : Nat) (hn : code.length = n) : ∃ A c, vc = .slice A n c := by subst hn; exact h.formC

set_option maxHeartbeats 8000000 in
set_option maxRecDepth 100000 in
theorem joins_back (w : World) (ht : Tab w) (a b : Nat) (ha : a < 7) (hb : b < 7) :
    Calls Tryd.prog 6 #[.int .i64 a, .int .i64 b, .bool true] w fun e w' => e = .returned (.bool true) ∧ Below w.heap.size w w' := by
  have HT : Hid (Tab w) := ht
  have a1 : ¬ (a : Int) < 0 := by omega
  have a2 : ¬ (6 : Int) < a := by omega
  have b1 : ¬ (b : Int) < 0 := by omega
  have b2 : ¬ (6 : Int) < b := by omega
  have HF := j1_fc ha hb
  clear ht
  go_enter Tryd.func6, Tryd.ntmps6
  go_wp2_with fail
  go_loopg [7, 9] a (fun g i7 i9 wr => ∃ k : Nat, g = a - k ∧ k ≤ a ∧ i9 = .int .i64 k ∧ Hid (CW w i7 (rA (k)) (.slice none 0 0) [] wr))
  case atStart => exact ⟨0, rfl, by omega, rfl, CW.none w⟩
  case round =>
    skip
    obtain ⟨k, rfl, hk, rfl, hd⟩ := hrel
    obtain ⟨A, c, rfl⟩ := hd.out.formN (k) (rA_len ..)
    by_cases hlt : k < a
    · go_wp2_with (at_builtin; refine appC rfl _ _ rfl [⟨1, 0⟩] wr.heap.size (k + 1) 1 (hd.out.below (bAlloc (bRefl _) _)) rfl rfl rfl (by rw [rA_len]) (by decide) (heap_new2 rfl) (by rw [rA_len]; omega) ?_)
      intro g cap w2 hcw hgr
      have HN : Hid (CW w (.slice (some ⟨g, 0, none⟩) (k + 1) cap) (rA (k + 1)) (.slice none 0 0) [] w2) := hcw.same (rA_step ..)
      clear hcw hgr
      go_wp2
      go_roundg (a - (k + 1))
      case measure => omega
      case rel => exact ⟨k + 1, rfl, by omega, by go_num, HN⟩
    · obtain rfl : a = k := by omega
      have HC := hd
      clear hd
      go_wp2_with fail
      go_loopg [7, 10] b (fun g i7 i10 wr => ∃ k : Nat, g = b - k ∧ k ≤ b ∧ i10 = .int .i64 k ∧ Hid (CW w i7 (rB a (k)) (.slice none 0 0) [] wr))
      case atStart => exact ⟨0, rfl, by omega, rfl, HC.out.same (rA_rB a)⟩
      case round =>
        clear HC
        obtain ⟨k, rfl, hk, rfl, hd⟩ := hrel
        obtain ⟨A, c, rfl⟩ := hd.out.formN (a + k) (rB_len ..)
        by_cases hlt : k < b
        · go_wp2_with (at_builtin; refine appC rfl _ _ rfl [⟨2, 0⟩] wr.heap.size (a + k + 1) 1 (hd.out.below (bAlloc (bRefl _) _)) rfl rfl rfl (by rw [rB_len]) (by decide) (heap_new2 rfl) (by rw [rB_len]; omega) ?_)
          intro g cap w2 hcw hgr
          have HN : Hid (CW w (.slice (some ⟨g, 0, none⟩) (a + k + 1) cap) (rB a (k + 1)) (.slice none 0 0) [] w2) := hcw.same (rB_step ..)
          clear hcw hgr
          go_wp2
          go_roundg (b - (k + 1))
          case measure => omega
          case rel => exact ⟨k + 1, rfl, by omega, by go_num, HN⟩
        · obtain rfl : b = k := by omega
          have HC := hd
          clear hd
          go_wp2_with (at_builtin; refine appC rfl _ _ rfl [⟨20, 0⟩] wr.heap.size (a + b + 1) 1 (HC.out.below (bAlloc (bRefl _) _)) rfl rfl rfl (by rw [rB_len]) (by decide) (heap_new2 rfl) (by rw [rB_len]; omega) ?_)
          intro g cap w2 hcw hgr
          clear hgr HC
          have HC : Hid (CW w (.slice (some ⟨g, 0, none⟩) (a + b + 1) cap) (j1 a b) (.slice none 0 0) [] w2) := hcw.same (rB_j1 a b)
          clear hcw
          have HC2 := HC.out
          clear HC
          by_cases e : a = b
          · have e' := lt_eq e
            rw [if_pos e] at HF
            clear e
            go_wp2_with fail
            refine (handler_any _ _ _ (HC2.cd (by rw [j1_len]; omega))).mono ?_
            rintro e w3 ⟨A1, A2, c1, c2, rfl, hp3, hb3⟩
            go_wp2_with fail
            refine (fcheck_at HT.out (bTrans HC2.low hb3) hp3).mono ?_
            rintro e w4 ⟨rfl, hb4⟩
            go_wp2_with fail
            refine (awake_at HT.out hb4).mono ?_
            rintro e w5 ⟨rfl, hb5⟩
            go_wp2_with fail
            go_ret
            exact ⟨rfl, hb5⟩
          · have e' := lt_ne e
            rw [if_neg e] at HF
            clear e
            go_wp2_with fail
            refine (handler_any _ _ _ (HC2.cd (by rw [j1_len]; omega))).mono ?_
            rintro e w3 ⟨A1, A2, c1, c2, rfl, hp3, hb3⟩
            go_wp2_with fail
            refine (fcheck_at HT.out (bTrans HC2.low hb3) hp3).mono ?_
            rintro e w4 ⟨rfl, hb4⟩
            go_wp2_with fail
            refine (awake_at HT.out hb4).mono ?_
            rintro e w5 ⟨rfl, hb5⟩
            go_wp2_with fail
            go_ret
            exact ⟨rfl, hb5⟩

set_option maxHeartbeats 8000000 in
set_option maxRecDepth 100000 in
theorem joins_fork (w : World) (ht : Tab w) (a b : Nat) (ha : a < 7) (hb : b < 7) :
    Calls Tryd.prog 6 #[.int .i64 a, .int .i64 b, .bool false] w fun e w' => e = .returned (.bool true) ∧ Below w.heap.size w w' := by
  have HT : Hid (Tab w) := ht
  have a1 : ¬ (a : Int) < 0 := by omega
  have a2 : ¬ (6 : Int) < a := by omega
  have b1 : ¬ (b : Int) < 0 := by omega
  have b2 : ¬ (6 : Int) < b := by omega
  have HF := j2_fc ha hb
  clear ht
  go_enter Tryd.func6, Tryd.ntmps6
  go_wp2_with (at_builtin; refine appC rfl _ _ rfl [⟨1, 0⟩, ⟨21, 3 + (a : Int)⟩] w.heap.size 2 2 ((CW.none w).below (bAlloc (bRefl _) _)) rfl rfl rfl rfl (by decide) (heap_new2 rfl) (by simp) ?_)
  intro g cap w2 hcw hgr
  have HC : Hid (CW w (.slice (some ⟨g, 0, none⟩) 2 cap) (rC a 0) (.slice none 0 0) [] w2) := hcw
  clear hcw hgr
  go_wp2_with fail
  go_loopg [7, 11] a (fun g i7 i11 wr => ∃ k : Nat, g = a - k ∧ k ≤ a ∧ i11 = .int .i64 k ∧ Hid (CW w i7 (rC a (k)) (.slice none 0 0) [] wr))
  case atStart => exact ⟨0, rfl, by omega, rfl, HC⟩
  case round =>
    clear HC
    obtain ⟨k, rfl, hk, rfl, hd⟩ := hrel
    obtain ⟨A, c, rfl⟩ := hd.out.formN (2 + k) (rC_len ..)
    by_cases hlt : k < a
    · go_wp2_with (at_builtin; refine appC rfl _ _ rfl [⟨1, 0⟩] wr.heap.size (2 + k + 1) 1 (hd.out.below (bAlloc (bRefl _) _)) rfl rfl rfl (by rw [rC_len]) (by decide) (heap_new2 rfl) (by rw [rC_len]; omega) ?_)
      intro g cap w2 hcw hgr
      have HN : Hid (CW w (.slice (some ⟨g, 0, none⟩) (2 + k + 1) cap) (rC a (k + 1)) (.slice none 0 0) [] w2) := hcw.same (rC_step ..)
      clear hcw hgr
      go_wp2
      go_roundg (a - (k + 1))
      case measure => omega
      case rel => exact ⟨k + 1, rfl, by omega, by go_num, HN⟩
    · obtain rfl : a = k := by omega
      have HC := hd
      clear hd
      go_wp2_with (at_builtin; refine appC rfl _ _ rfl [⟨20, 3 + (a : Int) + (b : Int)⟩] wr.heap.size (2 + a + 1) 1 (HC.out.below (bAlloc (bRefl _) _)) rfl rfl rfl (by rw [rC_len]) (by decide) (heap_new2 rfl) (by rw [rC_len]; omega) ?_)
      intro g cap w2 hcw hgr
      clear hgr HC
      have HC : Hid (CW w (.slice (some ⟨g, 0, none⟩) (2 + a + 1) cap) (rD a b 0) (.slice none 0 0) [] w2) := hcw.same (rC_j2 a b)
      clear hcw
      go_wp2_with fail
      go_loopg [7, 12] b (fun g i7 i12 wr => ∃ k : Nat, g = b - k ∧ k ≤ b ∧ i12 = .int .i64 k ∧ Hid (CW w i7 (rD a b (k)) (.slice none 0 0) [] wr))
      case atStart => exact ⟨0, rfl, by omega, rfl, HC⟩
      case round =>
        clear HC
        obtain ⟨k, rfl, hk, rfl, hd⟩ := hrel
        obtain ⟨A, c, rfl⟩ := hd.out.formN (3 + a + k) (rD_len ..)
        by_cases hlt : k < b
        · go_wp2_with (at_builtin; refine appC rfl _ _ rfl [⟨1, 0⟩] wr.heap.size (3 + a + k + 1) 1 (hd.out.below (bAlloc (bRefl _) _)) rfl rfl rfl (by rw [rD_len]) (by decide) (heap_new2 rfl) (by rw [rD_len]; omega) ?_)
          intro g cap w2 hcw hgr
          have HN : Hid (CW w (.slice (some ⟨g, 0, none⟩) (3 + a + k + 1) cap) (rD a b (k + 1)) (.slice none 0 0) [] w2) := hcw.same (rD_step ..)
          clear hcw hgr
          go_wp2
          go_roundg (b - (k + 1))
          case measure => omega
          case rel => exact ⟨k + 1, rfl, by omega, by go_num, HN⟩
        · obtain rfl : b = k := by omega
          have HC := hd
          clear hd
          have HC2 := HC.out.same (show _ = j2 a b from rfl)
          clear HC
          by_cases e : a = b
          · have e' := lt_eq e
            rw [if_pos e] at HF
            clear e
            go_wp2_with fail
            refine (handler_any _ _ _ (HC2.cd (by rw [j2_len]; omega))).mono ?_
            rintro e w3 ⟨A1, A2, c1, c2, rfl, hp3, hb3⟩
            go_wp2_with fail
            refine (fcheck_at HT.out (bTrans HC2.low hb3) hp3).mono ?_
            rintro e w4 ⟨rfl, hb4⟩
            go_wp2_with fail
            refine (awake_at HT.out hb4).mono ?_
            rintro e w5 ⟨rfl, hb5⟩
            go_wp2_with fail
            go_ret
            exact ⟨rfl, hb5⟩
          · have e' := lt_ne e
            rw [if_neg e] at HF
            clear e
            go_wp2_with fail
            refine (handler_any _ _ _ (HC2.cd (by rw [j2_len]; omega))).mono ?_
            rintro e w3 ⟨A1, A2, c1, c2, rfl, hp3, hb3⟩
            go_wp2_with fail
            refine (fcheck_at HT.out (bTrans HC2.low hb3) hp3).mono ?_
            rintro e w4 ⟨rfl, hb4⟩
            go_wp2_with fail
            refine (awake_at HT.out hb4).mono ?_
            rintro e w5 ⟨rfl, hb5⟩
            go_wp2_with fail
            go_ret
            exact ⟨rfl, hb5⟩

set_option maxHeartbeats 2000000 in
theorem joins_out (w : World) (ht : Tab w) (a b : Int) (c : Bool) (h : ¬ (0 ≤ a ∧ a ≤ 6 ∧ 0 ≤ b ∧ b ≤ 6)) :
    Calls Tryd.prog 6 #[.int .i64 a, .int .i64 b, .bool c] w fun e w' => e = .returned (.bool true) ∧ Below w.heap.size w w' := by
  by_cases h1 : a < 0
  · go_enter Tryd.func6, Tryd.ntmps6
    go_wp2_with fail
    refine (awake_any _ ht).mono ?_
    rintro e w1 ⟨rfl, hb⟩
    go_wp2_with fail
    go_ret
    exact ⟨rfl, hb⟩
  · by_cases h2 : 6 < a
    · go_enter Tryd.func6, Tryd.ntmps6
      go_wp2_with fail
      refine (awake_any _ ht).mono ?_
      rintro e w1 ⟨rfl, hb⟩
      go_wp2_with fail
      go_ret
      exact ⟨rfl, hb⟩
    · by_cases h3 : b < 0
      · go_enter Tryd.func6, Tryd.ntmps6
        go_wp2_with fail
        refine (awake_any _ ht).mono ?_
        rintro e w1 ⟨rfl, hb⟩
        go_wp2_with fail
        go_ret
        exact ⟨rfl, hb⟩
      · have h4 : 6 < b := by omega
        clear h
        go_enter Tryd.func6, Tryd.ntmps6
        go_wp2_with fail
        refine (awake_any _ ht).mono ?_
        rintro e w1 ⟨rfl, hb⟩
        go_wp2_with fail
        go_ret
        exact ⟨rfl, hb⟩
theorem joins_all (w : World) (ht : Tab w) (a b : Int) (c : Bool) :
    Calls Tryd.prog 6 #[.int .i64 a, .int .i64 b, .bool c] w fun e w' => e = .returned (.bool true) ∧ Below w.heap.size w w' := by
  by_cases h : 0 ≤ a ∧ a ≤ 6 ∧ 0 ≤ b ∧ b ≤ 6
  · obtain ⟨h1, h2, h3, h4⟩ := h
    obtain ⟨m, rfl⟩ := Int.eq_ofNat_of_zero_le h1
    obtain ⟨n, rfl⟩ := Int.eq_ofNat_of_zero_le h3
    cases c
    · exact joins_fork w ht m n (by omega) (by omega)
    · exact joins_back w ht m n (by omega) (by omega)
  · exact joins_out w ht a b c h
end Go.Proofs.YtfkaalgcgbmlpaaDoor
