/-
  The second law of chapter 5. Conditions: numbers of 64 bits; the variables are there.
-/
import Derived.Test.YtkfndedphpehiaaDoorMBack
import Derived.Deep.RegionWith
import Derived.Deep.RegionLaw
namespace Go.Proofs.YtkfndedphpehiaaDoor
open Go.RowKit
attribute [local go_sem ↓] Go.wp_at_zero Go.wp_at_succ

theorem pc_ten (s : List UInt8) (h : s.length ≤ 10000) : (pc s).length ≤ 10000 := by
  unfold pc
  cases hp : prs s with
  | none => simp
  | some c => exact Nat.le_trans (txtO_len (txt_prs _ (Nat.le_refl _) hp).1) h
theorem conv2 (w : World) (c : UInt8) :
    (convert 36 9 (.slice (some ⟨w.heap.size, 0, none⟩) 1 1)).run Tryd.prog (w.alloc (.cells #[.int .u8 (c.toNat : Int)] 5)).drew = .ok (.string (bs [c])) (w.alloc (.cells #[.int .u8 (c.toNat : Int)] 5)).drew := by
  refine Lib.run_convert_whole (P := Tryd.prog) _ 36 5 9 Tryd.underlying36 Tryd.underlying5 Tryd.underlying9 w.heap.size 0 (bs [c]) (fun i hi => ?_) 1
  have : i = 0 := by simp [bs_size] at hi; exact hi
  subst this
  simp
  rfl
set_option maxHeartbeats 400000 in
set_option maxRecDepth 100000 in
theorem back_any (ok : Nat → Prop) (w : World) (v : Value) (c : List PIns) (at' : Int) (sg : UInt8) (hr : ∀ i ∈ c, RgI i) (ha : Rg at') (h1 : Code ok w v c) (he : Env w) :
    Calls Tryd.prog 4 #[v, .int .i64 at', .int .u8 (sg.toNat : Int)] w fun e w' => e = .returned (.bool true) ∧ Below w.heap.size w w' := by
  obtain ⟨A1, c1, rfl, hl1⟩ := h1.form
  have HE : Hid (Env w) := he
  have HR : Hid (∀ i ∈ c, RgI i) := hr
  have HA : Hid (Rg at') := ha
  clear he hr ha
  by_cases h0 : c.length = 0
  · go_enter Tryd.func4, Tryd.ntmps4
    go_wp2_with (go_at_call 7; refine (awake_any _ HE.out).mono ?_; rintro e w3 ⟨rfl, hb3⟩)
    go_ret
    exact ⟨rfl, hb3⟩
  · have h0' : ((c.length : Int) == 0) = false := eq_no0 (by omega)
    by_cases h60 : c.length ≤ 60
    · have HC : Hid (c.length ≤ 60) := h60
      by_cases ht : txt c = []
      · have h3 := emp_yes ht
        clear ht
        go_enter Tryd.func4, Tryd.ntmps4
        go_wp2_with (first
          | (go_at_call 10; refine (text_any ok _ _ c (by have := HC.out; omega) HR.out h1 HE.out).mono ?_; rintro e w2 ⟨rfl, hb2⟩)
          | (go_at_call 7; refine (awake_any _ (HE.out.below hb2)).mono ?_; rintro e w3 ⟨rfl, hb3⟩))
        go_ret
        exact ⟨rfl, bTrans hb2 hb3⟩
      · have h3 := emp_no ht
        have HT : Hid (txtO c = some (txt c)) := txtO_of ht
        have hlt : (txt c).length ≤ 1680 := by have := txtO_le HR.out HT.out; omega
        have hz : (bs (txt c)).size = (txt c).length := bs_size _
        obtain ⟨p1, p2⟩ := pc_of (prs_txt HR.out HT.out)
        clear ht
        go_enter Tryd.func4, Tryd.ntmps4
        go_wp2_with fail
        refine (text_any ok _ _ c (by have := HC.out; omega) HR.out h1 HE.out).mono ?_
        rintro e w2 ⟨rfl, hb2⟩
        go_wp2_with fail
        have P1 := parse_any w2 (txt c) (by omega) (HE.out.below hb2)
        rw [p1, p2] at P1
        refine P1.mono ?_
        rintro e w3 ⟨v3, rfl, q3⟩
        obtain ⟨A3, d3, rfl⟩ := q3.form
        have hl3 : Below w.heap.size w w3 := bTrans hb2 q3.low
        clear P1
        go_wp2_with fail
        go_loopg [10, 11] c.length (fun g i10 i11 wr => ∃ (k : Nat) (u : List UInt8), g = c.length - k ∧ k ≤ c.length ∧ i10 = .string (bs u) ∧ i11 = .int .i64 (k : Nat) ∧ Hid (RT w3 wr c k u))
        case atStart => exact ⟨0, [], rfl, by omega, rfl, rfl, ⟨rfl, by simp, bRefl w3⟩⟩
        case round =>
          obtain ⟨k, u, rfl, hk, rfl, rfl, hI⟩ := hrel
          by_cases hkl : k < c.length
          · obtain ⟨b1, o1, x, rfl, hx, y1, y2⟩ := h1.cell (bTrans hl3 hI.out.low) hkl
            have HX : Hid (c[k]? = some x) := hx
            have hxr : Hid (RgI x) := HR.out x (List.mem_of_getElem? hx)
            clear hx
            have hn1 : (bs u).size ≤ 280000 := by rw [bs_size]; have := hI.out.len; omega
            have hn2 : (bs (line x)).size ≤ 27 := by rw [bs_size]; exact line_len hxr.out
            have z1 : ¬ 9223372036854775807 < (bs u).size + (bs (line x)).size := by omega
            have z2 : ¬ 9223372036854775807 < (bs u).size + (bs (line x)).size + 1 := by omega
            go_wp2_with (go_at_call 13; refine (line_any _ x hxr.out.2 (HE.out.below (bTrans hl3 hI.out.low))).mono ?_; rintro e w4 ⟨rfl, hb4⟩)
            go_roundg (c.length - (k + 1))
            case measure => omega
            case rel => exact ⟨k + 1, _, rfl, by omega, by rw [cat_nl], by go_num, ⟨by rw [take_snoc HX.out]; exact txtO_snoc _ _ _ hI.out.tx (line_of HT.out HX.out), by have := hI.out.len; have := line_len hxr.out; rw [List.length_append, List.length_append, List.length_singleton]; omega, bTrans hI.out.low hb4⟩⟩
          · have hu : u = txt c := by
              have h9 := hI.out.tx
              rw [List.take_of_length_le (by omega), HT.out] at h9
              exact (Option.some.inj h9).symm
            subst hu
            have hbd := rnd_bd at' (n := (txt c).length + 1) (by omega)
            obtain ⟨m, hm⟩ : ∃ m : Nat, rnd at' ((txt c).length + 1) = (m : Int) := ⟨(rnd at' ((txt c).length + 1)).toNat, by omega⟩
            have hml : m ≤ (txt c).length := by omega
            have R := round_any at' ((txt c).length + 1) wr (by omega) (by omega)
            rw [hm] at R
            clear hbd
            have hx1 : (bs (txt c)).extract 0 m = bs ((txt c).take m) := sub_ext (txt c) 0 m
            have hx2 : (bs (txt c)).extract m (txt c).length = bs ((txt c).drop m) := by rw [sub_ext, sub_all]
            have z1 : ¬ 9223372036854775807 < (bs ((txt c).take m)).size + (bs [sg]).size := by rw [bs_size, bs_size, List.length_take, List.length_singleton]; omega
            have z2 : ¬ 9223372036854775807 < (bs ((txt c).take m)).size + (bs [sg]).size + (bs ((txt c).drop m)).size := by rw [bs_size, bs_size, bs_size, List.length_take, List.length_singleton, List.length_drop]; omega
            have e5 := cat_m (txt c) m sg
            have LM : Hid ((tM (txt c) m sg).length ≤ 10000) := by show _ ≤ _; unfold tM; simp; omega
            have hlr : Below w.heap.size w wr := bTrans hl3 hI.out.low
            have q4 := q3.below hI.out.low
            go_wp2_with fail
            refine R.mono ?_
            rintro e w' ⟨rfl, rfl⟩
            clear R
            have hcv := conv2 w' sg
            go_wp2_with fail
            go_region
            have hbW : Below w'.heap.size w' (w'.alloc (.cells #[.int .u8 (sg.toNat : Int)] 5)).drew := (bAlloc (bRefl _) _).drew
            have hlW : Below w.heap.size w (w'.alloc (.cells #[.int .u8 (sg.toNat : Int)] 5)).drew := bTrans hlr hbW
            have P2 := parse_any (w'.alloc (.cells #[.int .u8 (sg.toNat : Int)] 5)).drew (tM (txt c) m sg) (by have := LM.out; omega) (HE.out.below hlW)
            have hpl := pc_len (tM (txt c) m sg) (by have := LM.out; omega)
            have eself := eqC_self c
            clear hcv hx1 hx2 z1 z2 e5
            rcases pe_two (tM (txt c) m sg) with f2 | ⟨f0, ft⟩
            · rw [f2] at P2
              go_wp2_with fail
              refine P2.mono ?_
              rintro e w5 ⟨v5, rfl, q5⟩
              obtain ⟨A5, d5, rfl⟩ := q5.form
              have hl5 : Below w.heap.size w w5 := bTrans hlW q5.low
              have hx5 := ((q4.below hbW).below q5.low).cd (by have := HC.out; omega)
              clear P2
              go_wp2_with fail
              refine (refC anyB ok _ _ _ c c hx5 (h1.below hl5)).mono ?_
              rw [eself]
              rintro e w6 ⟨rfl, hq6⟩
              have hl6 : Below w.heap.size w w6 := bTrans hl5 (quiet_below hq6)
              go_wp2_with fail
              refine (awake_any _ (HE.out.below hl6)).mono ?_
              rintro e w7 ⟨rfl, hb7⟩
              go_wp2
              go_ret
              exact ⟨rfl, bTrans hl6 hb7⟩
            · rw [f0] at P2
              go_wp2_with fail
              refine P2.mono ?_
              rintro e w5 ⟨v5, rfl, q5⟩
              obtain ⟨A5, d5, rfl⟩ := q5.form
              have hl5 : Below w.heap.size w w5 := bTrans hlW q5.low
              have hx5 := ((q4.below hbW).below q5.low).cd (by have := HC.out; omega)
              have hy5 := q5.cd hpl
              clear P2
              go_wp2_with fail
              refine (refC anyB ok _ _ _ c c hx5 (h1.below hl5)).mono ?_
              rw [eself]
              rintro e w6 ⟨rfl, hq6⟩
              have hl6 : Below w.heap.size w w6 := bTrans hl5 (quiet_below hq6)
              have hy6 := hy5.below (quiet_below hq6)
              have T := text_any anyB w6 _ (pc (tM (txt c) m sg)) (by have := pc_ten (tM (txt c) m sg) LM.out; exact this) (pc_rg _) hy6 (HE.out.below hl6)
              rw [ft] at T
              go_wp2_with fail
              refine T.mono ?_
              rintro e w8 ⟨rfl, hb8⟩
              have hl8 : Below w.heap.size w w8 := bTrans hl6 hb8
              go_wp2_with fail
              refine (awake_any _ (HE.out.below hl8)).mono ?_
              rintro e w7 ⟨rfl, hb7⟩
              go_wp2
              go_ret
              exact ⟨rfl, bTrans hl8 hb7⟩
    · go_enter Tryd.func4, Tryd.ntmps4
      go_wp2_with (go_at_call 7; refine (awake_any _ HE.out).mono ?_; rintro e w3 ⟨rfl, hb3⟩)
      go_ret
      exact ⟨rfl, hb3⟩
end Go.Proofs.YtkfndedphpehiaaDoor
