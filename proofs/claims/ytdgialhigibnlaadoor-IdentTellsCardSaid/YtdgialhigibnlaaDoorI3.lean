/-
  What the functions of package ident read of the world; the library's contracts, at such a world. Condition: that it is there.
-/
import Derived.Test.YtdgialhigibnlaaDoorI2
namespace Go.Proofs.YtdgialhigibnlaaDoor
open Go.RowKit
attribute [local go_sem ↓] Go.wp_at_zero Go.wp_at_succ

/-- The variables that the functions read. -/
structure Env (w : World) : Prop where
  wds : ∀ k : Nat, k < 6 → w.cell? ⟨0, k, none⟩ = some (.string (bs (wdK k)))
  pow : Lib.TabIs Tryd.prog w powName .u64 Lib.pow10Tab
  ml : ∃ m, w.cell? ⟨1, 0, none⟩ = some (.int .i64 m)
  es : ∃ te pe, w.cell? ⟨2, 0, none⟩ = some (.iface te pe)
  er : ∃ te pe, w.cell? ⟨3, 0, none⟩ = some (.iface te pe)
  big : 7 ≤ w.heap.size
theorem Env.below {w w' : World} (h : Env w) (hb : Below w.heap.size w w') : Env w' := by
  have hz := h.big
  refine ⟨fun k hk => (hb.cell (p := ⟨0, k, none⟩) (show 0 < w.heap.size by omega)).trans (h.wds k hk), Lib.tabBelow_of_tabIs h.pow w' hb, ?_, ?_, ?_, Nat.le_trans hz hb.size⟩
  · obtain ⟨m, hm⟩ := h.ml; exact ⟨m, (hb.cell (p := ⟨1, 0, none⟩) (show 1 < w.heap.size by omega)).trans hm⟩
  · obtain ⟨a, b, hm⟩ := h.es; exact ⟨a, b, (hb.cell (p := ⟨2, 0, none⟩) (show 2 < w.heap.size by omega)).trans hm⟩
  · obtain ⟨a, b, hm⟩ := h.er; exact ⟨a, b, (hb.cell (p := ⟨3, 0, none⟩) (show 3 < w.heap.size by omega)).trans hm⟩
theorem itoaB (n : Int) (w : World) (hn : Rg n) (he : Env w) : Calls Tryd.prog 30 #[.int .i64 n] w fun e w' => e = .returned (.string (bs (Lib.itoa n))) ∧ Below w.heap.size w w' :=
  (Tryd.itoa_any n hn.1 hn.2 w he.pow).mono fun e w' ⟨h1, k, os, h2⟩ => ⟨h1, by rw [h2]; exact grow_below _ _ _⟩
/-- What strings.Cut answers, of one sign. -/
def cutV (x : UInt8) (s : List UInt8) : Value := match cutc x s with | some p => .tuple #[.string (bs p.1), .string (bs p.2), .bool true] | none => .tuple #[.string (bs s), .string (bs []), .bool false]
theorem cutB (x : UInt8) (s : List UInt8) (w : World) (hs : s.length ≤ 1000000) (he : Env w) :
    Calls Tryd.prog 23 #[.string (bs s), .string (bs [x])] w fun e w' => e = .returned (cutV x s) ∧ ∃ n, w' = w.drewN n := by
  obtain ⟨m, hm⟩ := he.ml
  refine (Tryd.strings_Cut (bs s) (bs [x]) m w (by rw [bs_size]; omega) hm).mono ?_
  rintro e w' ⟨rfl, hq⟩
  refine ⟨?_, hq⟩
  rw [bs_data, bs_data]
  unfold cutV
  cases h : cutc x s with
  | none => rw [cut_none h]; rfl
  | some p => rw [cut_some (a := p.1) (b := p.2) h]; rfl
theorem cut_c (x : UInt8) (l : List UInt8) : ∃ b, cutV x l = .tuple #[.string (bs (c1 x l)), .string (bs (c2 x l)), .bool b] := by
  unfold cutV c1 c2
  cases cutc x l with
  | none => exact ⟨false, rfl⟩
  | some p => exact ⟨true, rfl⟩
/-- Cut, its two texts. -/
theorem cut2 (x : UInt8) (s : List UInt8) (w : World) (hs : s.length ≤ 1000000) (he : Env w) :
    Calls Tryd.prog 23 #[.string (bs s), .string (bs [x])] w fun e w' => (∃ b, e = .returned (.tuple #[.string (bs (c1 x s)), .string (bs (c2 x s)), .bool b])) ∧ ∃ n, w' = w.drewN n := by
  obtain ⟨b, hb⟩ := cut_c x s
  refine (cutB x s w hs he).mono ?_
  rw [hb]
  rintro e w' ⟨rfl, hq⟩
  exact ⟨⟨b, rfl⟩, hq⟩
theorem atoiB (x : List UInt8) (w : World) (hs : x.length ≤ 1000000) (he : Env w) :
    Calls Tryd.prog 37 #[.string (bs x)] w fun e w' => (∃ v, e = .returned (.tuple #[.int .i64 (atoiV x), v])) ∧ Below w.heap.size w w' := by
  obtain ⟨t1, p1, h1⟩ := he.es
  obtain ⟨t2, p2, h2⟩ := he.er
  cases h : Lib.atoiAll x with
  | ok v =>
    refine (Tryd.strconv_Atoi_ok (bs x) (by rw [bs_size]; omega) v (by rw [bs_data]; exact h) w).mono ?_
    rintro e w' ⟨rfl, hw⟩
    refine ⟨⟨_, by unfold atoiV; rw [h]⟩, ?_⟩
    rcases hw with rfl | ⟨t, rfl⟩
    · exact bRefl _
    · exact Lib.bytesWorld_below w 5 t
  | «syntax» =>
    refine (Tryd.strconv_Atoi_syntax (bs x) (by rw [bs_size]; omega) (by rw [bs_data]; exact h) _ w h1 (Or.inr ⟨_, _, rfl⟩)).mono ?_
    rintro e w' ⟨N, rfl, _, _, hb⟩
    exact ⟨⟨_, by unfold atoiV; rw [h]⟩, hb⟩
  | range =>
    refine (Tryd.strconv_Atoi_range (bs x) (by rw [bs_size]; omega) (by rw [bs_data]; exact h) _ w h2 (Or.inr ⟨_, _, rfl⟩)).mono ?_
    rintro e w' ⟨N, rfl, _, _, hb⟩
    exact ⟨⟨_, by unfold atoiV; rw [h, bs_data]⟩, hb⟩
set_option maxHeartbeats 400000 in
theorem numberB (x : List UInt8) (w : World) (hs : x.length ≤ 1000000) (he : Env w) :
    Calls Tryd.prog 24 #[.string (bs x)] w fun e w' => e = .returned (.int .i64 (atoiV x)) ∧ Below w.heap.size w w' := by
  have HE : Hid (Env w) := he
  have HS : Hid (x.length ≤ 1000000) := hs
  clear he hs
  go_enter Tryd.func24, Tryd.ntmps24
  go_wp2_with (go_at_call 37; refine (atoiB x _ HS.out HE.out).mono ?_; rintro e w1 ⟨⟨v, rfl⟩, hb1⟩)
  go_ret
  exact ⟨rfl, hb1⟩

/-! ### Order -/
theorem nan_any (a : Int) (w : World) : Calls Tryd.prog 39 #[.int .i64 a] w fun e w' => e = .returned (.bool false) ∧ w' = w := by
  go_enter Tryd.func39, Tryd.ntmps39
  go_wp2
  go_ret
  exact ⟨by simp, rfl⟩
theorem cmp_any (a b : Int) (w : World) : Calls Tryd.prog 33 #[.int .i64 a, .int .i64 b] w fun e w' => e = .returned (.int .i64 (cmpI a b)) ∧ w' = w := by
  by_cases h1 : a < b
  · have e : cmpI a b = -1 := by unfold cmpI; rw [if_pos h1]
    rw [e]
    go_enter Tryd.func33, Tryd.ntmps33
    go_wp2_with (go_at_call 39; refine (nan_any _ _).mono ?_; rintro e w' ⟨rfl, hw⟩; replace hw := hw.symm; subst hw)
    go_ret
    exact ⟨rfl, rfl⟩
  · by_cases h2 : b < a
    · have e : cmpI a b = 1 := by unfold cmpI; rw [if_neg h1, if_pos h2]
      rw [e]
      go_enter Tryd.func33, Tryd.ntmps33
      go_wp2_with (go_at_call 39; refine (nan_any _ _).mono ?_; rintro e w' ⟨rfl, hw⟩; replace hw := hw.symm; subst hw)
      go_ret
      exact ⟨rfl, rfl⟩
    · have e : cmpI a b = 0 := by unfold cmpI; rw [if_neg h1, if_neg h2]
      rw [e]
      go_enter Tryd.func33, Tryd.ntmps33
      go_wp2_with (go_at_call 39; refine (nan_any _ _).mono ?_; rintro e w' ⟨rfl, hw⟩; replace hw := hw.symm; subst hw)
      go_ret
      exact ⟨rfl, rfl⟩
theorem or3_a {a b c : Int} (h : a ≠ 0) : or3 a b c = a := by unfold or3; rw [if_pos h]
theorem or3_b {a b c : Int} (ha : a = 0) (h : b ≠ 0) : or3 a b c = b := by unfold or3; rw [if_neg (by simp [ha]), if_pos h]
theorem or3_c {a b c : Int} (ha : a = 0) (hb : b = 0) : or3 a b c = c := by unfold or3; rw [if_neg (by simp [ha]), if_neg (by simp [hb])]
theorem ret_i {a b : Int} (h : a = b) : Ending.returned (.int .i64 a) = .returned (.int .i64 b) := by rw [h]
set_option maxHeartbeats 1000000 in
theorem or_any (a b c : Int) (w : World) (g : Nat) (h0 : w.cell? ⟨g, 0, none⟩ = some (.int .i64 a)) (h1 : w.cell? ⟨g, 1, none⟩ = some (.int .i64 b)) (h2 : w.cell? ⟨g, 2, none⟩ = some (.int .i64 c)) :
    Calls Tryd.prog 32 #[.slice (some ⟨g, 0, none⟩) 3 3] w fun e w' => e = .returned (.int .i64 (or3 a b c)) ∧ w' = w := by
  go_enter Tryd.func32, Tryd.ntmps32
  go_wp2
  go_loopg [5, 8] 3 (fun n i5 i8 wr => ∃ k : Nat, n = 3 - k ∧ k ≤ 3 ∧ i8 = .int .i64 k ∧ wr = w ∧ Hid (1 ≤ k → a = 0) ∧ Hid (2 ≤ k → b = 0) ∧ Hid (3 ≤ k → c = 0))
  case atStart => exact ⟨0, rfl, by omega, rfl, rfl, fun h => by omega, fun h => by omega, fun h => by omega⟩
  case round =>
    obtain ⟨k, rfl, hk, rfl, rfl, ha, hb, hc⟩ := hrel
    rcases (by omega : k = 0 ∨ k = 1 ∨ k = 2 ∨ k = 3) with rfl | rfl | rfl | rfl
    · by_cases e : a = 0
      · have e1 := ne_no e
        have E : Hid (a = 0) := e
        clear e
        go_wp2
        go_roundg 2
        case measure => omega
        case rel => exact ⟨1, rfl, by omega, rfl, rfl, fun _ => E.out, fun h => by omega, fun h => by omega⟩
      · have e1 := ne_yes e
        have E : Hid (a ≠ 0) := e
        clear e
        go_wp2
        go_ret
        exact ⟨ret_i (or3_a E.out).symm, rfl⟩
    · by_cases e : b = 0
      · have e1 := ne_no e
        have E : Hid (b = 0) := e
        clear e
        go_wp2
        go_roundg 1
        case measure => omega
        case rel => exact ⟨2, rfl, by omega, rfl, rfl, fun _ => ha.out (by omega), fun _ => E.out, fun h => by omega⟩
      · have e1 := ne_yes e
        have E : Hid (b ≠ 0) := e
        clear e
        go_wp2
        go_ret
        exact ⟨ret_i (or3_b (ha.out (by omega)) E.out).symm, rfl⟩
    · by_cases e : c = 0
      · have e1 := ne_no e
        have E : Hid (c = 0) := e
        clear e
        go_wp2
        go_roundg 0
        case measure => omega
        case rel => exact ⟨3, rfl, by omega, rfl, rfl, fun _ => ha.out (by omega), fun _ => hb.out (by omega), fun _ => E.out⟩
      · have e1 := ne_yes e
        go_wp2
        go_ret
        exact ⟨ret_i (or3_c (ha.out (by omega)) (hb.out (by omega))).symm, rfl⟩
    · go_wp2
      go_ret
      exact ⟨ret_i ((or3_c (ha.out (by omega)) (hb.out (by omega))).trans (hc.out (by omega))).symm, rfl⟩
end Go.Proofs.YtdgialhigibnlaaDoor
