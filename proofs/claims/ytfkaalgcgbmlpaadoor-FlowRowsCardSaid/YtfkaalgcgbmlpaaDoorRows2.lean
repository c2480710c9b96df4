/-
  What FlowRows answers of any list of bools: true; and nothing old has turned. Condition: the table of the instructions is in the world.
-/
import Derived.Test.YtfkaalgcgbmlpaaDoorRows1
import Derived.Test.YtfkaalgcgbmlpaaDoorSends
import Derived.Test.YtfkaalgcgbmlpaaDoorOpen
namespace Go.Proofs.YtfkaalgcgbmlpaaDoor
open Go.ChangeShapes Go.WideShapes Go.ChangeAt Go.RowKit

def rBool (w : World) (b o : Nat) (x : Bool) : Prop := w.cell? ⟨b, o, none⟩ = some (.bool x)
abbrev Bls (ok : Nat → Prop) := Sl 1 rBool ok
theorem Bls.below {ok : Nat → Prop} {w w' : World} {v : Value} {l : List Bool} (h : Bls ok w v l) (hb : Below w.heap.size w w') : Bls ok w' v l :=
  h.imp (fun _ h => h) hb.size fun b _ _ _ hlt hr => (hb.cell (p := ⟨b, _, none⟩) hlt).trans hr
theorem Bls.cell {ok : Nat → Prop} {w wr : World} {A : Option Addr} {n c : Nat} {l : List Bool} (h : Bls ok w (.slice A n c) l) (hb : Below w.heap.size w wr) {k : Nat} (hk : k < l.length) :
    ∃ b o x, A = some ⟨b, o, none⟩ ∧ l[k]? = some x ∧ wr.cell? ⟨b, o + k, none⟩ = some (.bool x) := by
  obtain ⟨x, hx⟩ := at_lt hk
  obtain ⟨b, o, rfl, _, hlt, hc⟩ := h.at (by omega)
  refine ⟨b, o, x, rfl, hx, (hb.cell (p := ⟨b, o + k, none⟩) hlt).trans ?_⟩
  have := hc k x hx
  rwa [Nat.mul_one] at this
theorem open_boolsV {H : Type} {enc : TypeId × Value → H} {w : World} {spare : Nat → Bool} {held : Bool} {r : Reach} {b0 : Nat} {v : Value} {d : DataW H} {p : List MemPlace} (hv : Value.okWide Tryd.prog w r b0 40 v) (h : DataW.Trod enc Tryd.prog w 0 spare held 40 v d p) : ∃ l, Bls anyB w v l := by
  obtain ⟨a, len, cap, rfl⟩ := okWide_slice Tryd.underlying40 hv
  obtain ⟨fuel, hf⟩ := h
  obtain ⟨u, l, hu, hl⟩ := sl_open (R := rBool) Tryd.underlying40 cells4 (by decide) (fun b o cs' n d hc h => by
    obtain ⟨k, rfl, _⟩ := DataW.trod_bool Tryd.underlying4 h
    exact ⟨k, hc 0 (by decide)⟩) hf
  simp [Value.cells] at hu
  subst hu
  exact ⟨l, hl⟩
theorem run_mx2 (P : Program) (w : World) (ts : Array TypeId) (t : TypeId) (x y : Int) : (Builtin.max_ ts t #[.int .i64 x, .int .i64 y]).run P w = .ok (.int .i64 (mx2 x y)) w := by
  rw [run_max_int2]
  have : (if y > x then y else x) = mx2 x y := by unfold mx2; split <;> split <;> omega
  rw [this]
attribute [local go_sem ↓] run_mx2

set_option maxHeartbeats 8000000 in
set_option maxRecDepth 100000 in
theorem rows_in (w : World) (ht : Tab w) (v : Value) (us : List Bool) (hv : Bls anyB w v us) (hl : us.length ≤ 60) :
    Calls Tryd.prog 4 #[v] w fun e w' => e = .returned (.bool true) ∧ Below w.heap.size w w' := by
  obtain ⟨Au, cu, rfl, hul⟩ := hv.form
  have HT : Hid (Tab w) := ht
  have hl' : ¬ (60 : Int) < us.length := by omega
  clear ht
  go_enter Tryd.func4, Tryd.ntmps4
  go_wp2_with fail
  go_loopg [3, 4, 5, 6, 7, 8] us.length (fun g i3 i4 i5 i6 i7 i8 wr => ∃ (k : Nat) (gd : Bool), g = us.length - k ∧ k ≤ us.length ∧ i8 = .int .i64 k ∧ i5 = .int .i64 (rN (us.take k)) ∧ i6 = .int .i64 (mxl (rW (us.take k))) ∧ i7 = .bool gd ∧ Hid (Fit us k) ∧ Hid ((gd = true → 0 ≤ rN (us.take k) ∧ rN (us.take k) ≤ 8) ∧ (gd = false → ¬ (0 ≤ rN (us.take k) ∧ rN (us.take k) ≤ 8))) ∧ Hid (CW w i3 (rC (us.take k)) i4 (rW (us.take k)) wr))
  case atStart => exact ⟨0, true, rfl, by omega, rfl, rfl, rfl, rfl, fun j hj => by omega, ⟨(fun _ => ⟨(show (0 : Int) ≤ 0 by omega), (show (0 : Int) ≤ 8 by omega)⟩), (fun h => by cases h)⟩, CW.start 0 rfl⟩
  case round =>
    obtain ⟨k, gd, rfl, hk, rfl, rfl, rfl, rfl, hft, hgd, hd⟩ := hrel
    obtain ⟨A, c, rfl⟩ := hd.out.formN k (by rw [rC_len, List.length_take, Nat.min_eq_left hk])
    obtain ⟨A', c', rfl⟩ := hd.out.formM (k + 1) (by rw [rW_len, List.length_take, Nat.min_eq_left hk])
    cases gd with
    | true =>
      obtain ⟨n0, n8⟩ := hgd.out.1 rfl
      clear hgd
      by_cases hlt : k < us.length
      · obtain ⟨b1, o1, b, rfl, hb, q1⟩ := hv.cell hd.out.low hlt
        have HB : Hid (us[k]? = some b) := hb
        clear hb
        cases b with
        | true =>
          by_cases m8 : rN (us.take k) + 1 ≤ 8
          · have m0 : 0 ≤ rN (us.take k) + 1 := by omega
            go_wp2_with (at_builtin; refine appC rfl _ _ rfl [⟨1, 0⟩] wr.heap.size (k + 1) 1 (hd.out.below (bAlloc (bRefl _) _)) rfl rfl rfl (by rw [rC_len, List.length_take, Nat.min_eq_left (by omega)]) (by decide) (heap_new2 rfl) (by rw [rC_len, List.length_take]; omega) ?_)
            intro g cap w2 hcw hgr
            have HN : Hid (CW w (.slice (some ⟨g, 0, none⟩) (k + 1) cap) (rC (us.take (k + 1))) (.slice A' (k + 1) c') (rW (us.take k)) w2) := hcw.sameC (rC_step HB.out) rfl
            clear hcw hgr
            go_wp2_with (at_builtin; refine appW rfl _ _ rfl [rN (us.take k) + 1] w2.heap.size (k + 1 + 1) 1 (HN.out.below (bAlloc (bRefl _) _)) rfl rfl rfl (by rw [rW_len, List.length_take, Nat.min_eq_left (by omega)]) (by decide) (heap_new2 rfl) (by rw [rW_len, List.length_take]; omega) ?_)
            intro g2 cap2 w3 hcw hgr
            have HE : Hid (rN (us.take (k + 1)) = rN (us.take k) + 1) := rN_step HB.out
            have HN2 : Hid (CW w (.slice (some ⟨g, 0, none⟩) (k + 1) cap) (rC (us.take (k + 1))) (.slice (some ⟨g2, 0, none⟩) (k + 1 + 1) cap2) (rW (us.take (k + 1))) w3) := hcw.sameC rfl (by rw [← HE.out]; exact rW_step HB.out)
            have HM : Hid (mxl (rW (us.take (k + 1))) = mx2 (mxl (rW (us.take k))) (rN (us.take k) + 1)) := by rw [← rW_step HB.out, mxl_snoc, HE.out]; rfl
            clear hcw hgr HN
            go_wp2
            go_roundg (us.length - (k + 1))
            case measure => omega
            case rel => exact ⟨k + 1, true, rfl, by omega, by go_num, by rw [HE.out], by rw [HM.out], rfl, Fit.succ hft.out n0 n8, ⟨(fun h => by rw [HE.out]; exact ⟨m0, m8⟩), (fun h => by cases h)⟩, HN2⟩
          · have m0 : 0 ≤ rN (us.take k) + 1 := by omega
            have m8' : 8 < rN (us.take k) + 1 := by omega
            go_wp2_with (at_builtin; refine appC rfl _ _ rfl [⟨1, 0⟩] wr.heap.size (k + 1) 1 (hd.out.below (bAlloc (bRefl _) _)) rfl rfl rfl (by rw [rC_len, List.length_take, Nat.min_eq_left (by omega)]) (by decide) (heap_new2 rfl) (by rw [rC_len, List.length_take]; omega) ?_)
            intro g cap w2 hcw hgr
            have HN : Hid (CW w (.slice (some ⟨g, 0, none⟩) (k + 1) cap) (rC (us.take (k + 1))) (.slice A' (k + 1) c') (rW (us.take k)) w2) := hcw.sameC (rC_step HB.out) rfl
            clear hcw hgr
            go_wp2_with (at_builtin; refine appW rfl _ _ rfl [rN (us.take k) + 1] w2.heap.size (k + 1 + 1) 1 (HN.out.below (bAlloc (bRefl _) _)) rfl rfl rfl (by rw [rW_len, List.length_take, Nat.min_eq_left (by omega)]) (by decide) (heap_new2 rfl) (by rw [rW_len, List.length_take]; omega) ?_)
            intro g2 cap2 w3 hcw hgr
            have HE : Hid (rN (us.take (k + 1)) = rN (us.take k) + 1) := rN_step HB.out
            have HN2 : Hid (CW w (.slice (some ⟨g, 0, none⟩) (k + 1) cap) (rC (us.take (k + 1))) (.slice (some ⟨g2, 0, none⟩) (k + 1 + 1) cap2) (rW (us.take (k + 1))) w3) := hcw.sameC rfl (by rw [← HE.out]; exact rW_step HB.out)
            have HM : Hid (mxl (rW (us.take (k + 1))) = mx2 (mxl (rW (us.take k))) (rN (us.take k) + 1)) := by rw [← rW_step HB.out, mxl_snoc, HE.out]; rfl
            clear hcw hgr HN
            go_wp2
            go_roundg (us.length - (k + 1))
            case measure => omega
            case rel => exact ⟨k + 1, false, rfl, by omega, by go_num, by rw [HE.out], by rw [HM.out], congrArg Value.bool (decide_eq_false (by omega)), Fit.succ hft.out n0 n8, ⟨(fun h => by cases h), (fun h => by rw [HE.out]; omega)⟩, HN2⟩
        | false =>
          by_cases m0 : 0 ≤ rN (us.take k) - 1
          · have m8 : rN (us.take k) - 1 ≤ 8 := by omega
            go_wp2_with (at_builtin; refine appC rfl _ _ rfl [⟨2, 0⟩] wr.heap.size (k + 1) 1 (hd.out.below (bAlloc (bRefl _) _)) rfl rfl rfl (by rw [rC_len, List.length_take, Nat.min_eq_left (by omega)]) (by decide) (heap_new2 rfl) (by rw [rC_len, List.length_take]; omega) ?_)
            intro g cap w2 hcw hgr
            have HN : Hid (CW w (.slice (some ⟨g, 0, none⟩) (k + 1) cap) (rC (us.take (k + 1))) (.slice A' (k + 1) c') (rW (us.take k)) w2) := hcw.sameC (rC_step HB.out) rfl
            clear hcw hgr
            go_wp2_with (at_builtin; refine appW rfl _ _ rfl [rN (us.take k) - 1] w2.heap.size (k + 1 + 1) 1 (HN.out.below (bAlloc (bRefl _) _)) rfl rfl rfl (by rw [rW_len, List.length_take, Nat.min_eq_left (by omega)]) (by decide) (heap_new2 rfl) (by rw [rW_len, List.length_take]; omega) ?_)
            intro g2 cap2 w3 hcw hgr
            have HE : Hid (rN (us.take (k + 1)) = rN (us.take k) - 1) := rN_step HB.out
            have HN2 : Hid (CW w (.slice (some ⟨g, 0, none⟩) (k + 1) cap) (rC (us.take (k + 1))) (.slice (some ⟨g2, 0, none⟩) (k + 1 + 1) cap2) (rW (us.take (k + 1))) w3) := hcw.sameC rfl (by rw [← HE.out]; exact rW_step HB.out)
            have HM : Hid (mxl (rW (us.take (k + 1))) = mx2 (mxl (rW (us.take k))) (rN (us.take k) - 1)) := by rw [← rW_step HB.out, mxl_snoc, HE.out]; rfl
            clear hcw hgr HN
            go_wp2
            go_roundg (us.length - (k + 1))
            case measure => omega
            case rel => exact ⟨k + 1, true, rfl, by omega, by go_num, by rw [HE.out], by rw [HM.out], rfl, Fit.succ hft.out n0 n8, ⟨(fun h => by rw [HE.out]; exact ⟨m0, m8⟩), (fun h => by cases h)⟩, HN2⟩
          · have m0' : rN (us.take k) - 1 < 0 := by omega
            go_wp2_with (at_builtin; refine appC rfl _ _ rfl [⟨2, 0⟩] wr.heap.size (k + 1) 1 (hd.out.below (bAlloc (bRefl _) _)) rfl rfl rfl (by rw [rC_len, List.length_take, Nat.min_eq_left (by omega)]) (by decide) (heap_new2 rfl) (by rw [rC_len, List.length_take]; omega) ?_)
            intro g cap w2 hcw hgr
            have HN : Hid (CW w (.slice (some ⟨g, 0, none⟩) (k + 1) cap) (rC (us.take (k + 1))) (.slice A' (k + 1) c') (rW (us.take k)) w2) := hcw.sameC (rC_step HB.out) rfl
            clear hcw hgr
            go_wp2_with (at_builtin; refine appW rfl _ _ rfl [rN (us.take k) - 1] w2.heap.size (k + 1 + 1) 1 (HN.out.below (bAlloc (bRefl _) _)) rfl rfl rfl (by rw [rW_len, List.length_take, Nat.min_eq_left (by omega)]) (by decide) (heap_new2 rfl) (by rw [rW_len, List.length_take]; omega) ?_)
            intro g2 cap2 w3 hcw hgr
            have HE : Hid (rN (us.take (k + 1)) = rN (us.take k) - 1) := rN_step HB.out
            have HN2 : Hid (CW w (.slice (some ⟨g, 0, none⟩) (k + 1) cap) (rC (us.take (k + 1))) (.slice (some ⟨g2, 0, none⟩) (k + 1 + 1) cap2) (rW (us.take (k + 1))) w3) := hcw.sameC rfl (by rw [← HE.out]; exact rW_step HB.out)
            have HM : Hid (mxl (rW (us.take (k + 1))) = mx2 (mxl (rW (us.take k))) (rN (us.take k) - 1)) := by rw [← rW_step HB.out, mxl_snoc, HE.out]; rfl
            clear hcw hgr HN
            go_wp2
            go_roundg (us.length - (k + 1))
            case measure => omega
            case rel => exact ⟨k + 1, false, rfl, by omega, by go_num, by rw [HE.out], by rw [HM.out], rfl, Fit.succ hft.out n0 n8, ⟨(fun h => by cases h), (fun h => by rw [HE.out]; omega)⟩, HN2⟩
      · obtain rfl : k = us.length := by omega
        clear hlt
        have HU : Hid (us.take us.length = us) := List.take_of_length_le (Nat.le_refl _)
        have hd2 := hd.out
        rw [HU.out] at hd2
        have HG := one_good (r_chk hl) (r_good (hs := (hP (rC us)).hs) (hft.out.succ n0 n8))
        obtain ⟨F1, F2, F3, _⟩ := HG
        have ge := eqB_self (rW us)
        rw [HU.out]
        rw [HU.out] at n0 n8
        clear hd hft
        have HF2 : Hid (fl (hP (rC us)) 0 = rW us) := F2
        clear F2
        go_wp2_with fail
        refine (handler_any _ _ _ (hd2.cd (by rw [rC_len]; omega))).mono ?_
        rintro e w3 ⟨A1, A2, c1, c2, rfl, hp3, hb3⟩
        have HC3 := hd2.below hb3
        go_wp2_with fail
        refine (depths_at 0 HT.out HC3.low hp3).mono ?_
        rintro e w4 ⟨u, rfl, hu, hb4⟩
        rw [HF2.out] at hu
        obtain ⟨Av, cv, rfl, hvl⟩ := hu.form
        have HC4 := HC3.below hb4
        go_wp2_with fail
        refine (alikeI _ anyB _ _ _ _ _ hu (HC4.ints (by rw [rW_len]; omega))).mono ?_
        rintro e w5 ⟨rfl, hq⟩
        have HC5 := HC4.below (quiet_below hq)
        go_wp2_with fail
        refine (handler_any _ _ _ (HC5.cd (by rw [rC_len]; omega))).mono ?_
        rintro e w6 ⟨B1, B2, d1, d2, rfl, hp6, hb6⟩
        have HC6 := HC5.below hb6
        go_wp2_with fail
        refine (most_at 0 HT.out HC6.low hp6).mono ?_
        rintro e w7 ⟨rfl, hb7⟩
        have HC7 := HC6.below hb7
        go_wp2_with fail
        refine (awake_at HT.out HC7.low).mono ?_
        rintro e w8 ⟨rfl, hb8⟩
        go_wp2_with fail
        go_ret
        exact ⟨rfl, hb8⟩
    | false =>
      have hbad := hgd.out.2 rfl
      have hlk : (us.take k).length = k := by rw [List.length_take, Nat.min_eq_left hk]
      have HG := one_bad (r_chk (us := us.take k) (by omega)) (r_bad (hs := (hP (rC (us.take k))).hs) (by have := hft.out.take; rw [hlk]; exact this) hbad)
      obtain ⟨F1, F2, F3, _⟩ := HG
      have hd2 := hd.out
      clear hgd hd hft hbad
      have HF2 : Hid (fl (hP (rC (us.take k))) 0 = []) := F2
      have HLK : Hid ((us.take k).length = k) := hlk
      clear F2 hlk
      by_cases hlt : k < us.length
      · go_wp2_with fail
        refine (handler_any _ _ _ (hd2.cd (by rw [rC_len]; have := HLK.out; omega))).mono ?_
        rintro e w3 ⟨A1, A2, c1, c2, rfl, hp3, hb3⟩
        have HC3 := hd2.below hb3
        go_wp2_with fail
        refine (depths_at 0 HT.out HC3.low hp3).mono ?_
        rintro e w4 ⟨u, rfl, hu, hb4⟩
        rw [HF2.out] at hu
        obtain ⟨Av, cv, rfl, hvl⟩ := hu.form
        have HC4 := HC3.below hb4
        go_wp2_with fail
        refine (handler_any _ _ _ (HC4.cd (by rw [rC_len]; have := HLK.out; omega))).mono ?_
        rintro e w6 ⟨B1, B2, d1, d2, rfl, hp6, hb6⟩
        have HC6 := HC4.below hb6
        go_wp2_with fail
        refine (most_at 0 HT.out HC6.low hp6).mono ?_
        rintro e w7 ⟨rfl, hb7⟩
        have HC7 := HC6.below hb7
        go_wp2_with fail
        refine (awake_at HT.out HC7.low).mono ?_
        rintro e w8 ⟨rfl, hb8⟩
        go_wp2_with fail
        go_ret
        exact ⟨rfl, hb8⟩
      · have hlt' : ¬ (k : Int) < us.length := by omega
        go_wp2_with fail
        refine (handler_any _ _ _ (hd2.cd (by rw [rC_len]; have := HLK.out; omega))).mono ?_
        rintro e w3 ⟨A1, A2, c1, c2, rfl, hp3, hb3⟩
        have HC3 := hd2.below hb3
        go_wp2_with fail
        refine (depths_at 0 HT.out HC3.low hp3).mono ?_
        rintro e w4 ⟨u, rfl, hu, hb4⟩
        rw [HF2.out] at hu
        obtain ⟨Av, cv, rfl, hvl⟩ := hu.form
        have HC4 := HC3.below hb4
        go_wp2_with fail
        refine (handler_any _ _ _ (HC4.cd (by rw [rC_len]; have := HLK.out; omega))).mono ?_
        rintro e w6 ⟨B1, B2, d1, d2, rfl, hp6, hb6⟩
        have HC6 := HC4.below hb6
        go_wp2_with fail
        refine (most_at 0 HT.out HC6.low hp6).mono ?_
        rintro e w7 ⟨rfl, hb7⟩
        have HC7 := HC6.below hb7
        go_wp2_with fail
        refine (awake_at HT.out HC7.low).mono ?_
        rintro e w8 ⟨rfl, hb8⟩
        go_wp2_with fail
        go_ret
        exact ⟨rfl, hb8⟩

set_option maxHeartbeats 2000000 in
theorem rows_out (w : World) (ht : Tab w) (v : Value) (us : List Bool) (hv : Bls anyB w v us) (hl : 60 < us.length) :
    Calls Tryd.prog 4 #[v] w fun e w' => e = .returned (.bool true) ∧ Below w.heap.size w w' := by
  obtain ⟨Au, cu, rfl, hul⟩ := hv.form
  have hl' : (60 : Int) < us.length := by omega
  go_enter Tryd.func4, Tryd.ntmps4
  go_wp2_with fail
  refine (awake_any _ ht).mono ?_
  rintro e w1 ⟨rfl, hb⟩
  go_wp2_with fail
  go_ret
  exact ⟨rfl, hb⟩
theorem rows_all (w : World) (ht : Tab w) (v : Value) (us : List Bool) (hv : Bls anyB w v us) :
    Calls Tryd.prog 4 #[v] w fun e w' => e = .returned (.bool true) ∧ Below w.heap.size w w' := by
  by_cases h : us.length ≤ 60
  · exact rows_in w ht v us hv h
  · exact rows_out w ht v us hv (by omega)
end Go.Proofs.YtfkaalgcgbmlpaaDoor
