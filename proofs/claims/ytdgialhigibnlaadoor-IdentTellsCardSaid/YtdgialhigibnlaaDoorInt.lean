/-
  The document's own reading of a number: Int. No conditions beyond its length.
-/
import Derived.Test.YtdgialhigibnlaaDoorDec
namespace Go.Proofs.YtdgialhigibnlaaDoor
open Go.RowKit
attribute [local go_sem ↓] Go.wp_at_zero Go.wp_at_succ
theorem take_snoc {α : Type} {us : List α} {k : Nat} {b : α} (h : us[k]? = some b) : us.take (k + 1) = us.take k ++ [b] := by rw [List.take_add_one, h]; rfl
/-- The digits of a text, as a number of 64 bits. -/
def ivl (l : List UInt8) : Nat := l.foldl (fun a c => if 48 ≤ c.toNat ∧ c.toNat ≤ 57 then (a * 10 + (c.toNat - 48)) % 18446744073709551616 else a) 0
theorem ivl_snoc (l : List UInt8) (c : UInt8) : ivl (l ++ [c]) = if 48 ≤ c.toNat ∧ c.toNat ≤ 57 then (ivl l * 10 + (c.toNat - 48)) % 18446744073709551616 else ivl l := by
  unfold ivl; rw [List.foldl_append]; rfl
theorem ivl_dec (u : Nat) (h : u < 18446744073709551616) : ivl (Lib.decDigits u) = u := by
  induction u using Nat.strongRecOn with
  | _ u ih =>
    rw [Lib.decDigits]
    split
    · rename_i hs
      show ivl ([] ++ [UInt8.ofNat (48 + u)]) = u
      rw [ivl_snoc, dg_ofNat hs, if_pos (by omega)]
      simp [ivl]; omega
    · rw [ivl_snoc, ih (u / 10) (by omega) (by omega), dg_ofNat (by omega), if_pos (by omega)]
      omega
theorem ivl_minus (l : List UInt8) : ivl (45 :: l) = ivl l := rfl
/-- What Int takes a text for. -/
def nval (s : List UInt8) : Int := if s.head? = some 45 then wrap64 (-wrap64 (ivl (s.take 21))) else wrap64 (ivl (s.take 21))
theorem wrap_rg (x : Int) : Rg (wrap64 x) := by unfold Rg wrap64; omega
theorem nval_rg (s : List UInt8) : Rg (nval s) := by
  unfold nval
  split <;> exact wrap_rg _
theorem nval_itoa {a : Int} (h : Rg a) : nval (Lib.itoa a) = a := by
  have hlen := Lib.itoa_length_le a h.1 h.2
  unfold nval
  rw [List.take_of_length_le hlen]
  obtain ⟨h1, h2⟩ := h
  by_cases hn : a < 0
  · rw [itoa_neg hn, List.head?_cons, if_pos rfl, ivl_minus, ivl_dec _ (by omega)]
    unfold wrap64
    omega
  · rw [itoa_pos hn, ivl_dec _ (by omega)]
    rw [if_neg]
    · unfold wrap64
      omega
    · intro e
      have := dec_dg a.natAbs 45 (List.mem_of_mem_head? e)
      exact absurd this.1 (by decide)

def intB (s : List UInt8) : Bool := decide (Lib.itoa (nval s) = s)
def intV (s : List UInt8) : Int := if Lib.itoa (nval s) = s then nval s else 0
theorem ret_ib {a b : Int} {x y : Bool} (h1 : a = b) (h2 : x = y) : Ending.returned (.tuple #[.int .i64 b, .bool y]) = .returned (.tuple #[.int .i64 a, .bool x]) := by rw [h1, h2]
theorem intB_iff {s : List UInt8} : intB s = true ↔ ∃ a, Rg a ∧ s = Lib.itoa a := by
  unfold intB
  rw [decide_eq_true_eq]
  constructor
  · intro h; exact ⟨_, nval_rg s, h.symm⟩
  · rintro ⟨a, ha, rfl⟩; rw [nval_itoa ha]
theorem intV_itoa {a : Int} (h : Rg a) : intV (Lib.itoa a) = a ∧ intB (Lib.itoa a) = true := ⟨by unfold intV; rw [nval_itoa h, if_pos rfl], intB_iff.2 ⟨a, h, rfl⟩⟩
theorem step_w (v c : Nat) (h1 : 48 ≤ c) : IntKind.u64.wrap (IntKind.u64.wrap ((v : Int) * 10) + ((c : Int) - 48)) = (((v * 10 + (c - 48)) % 18446744073709551616 : Nat) : Int) := by
  simp [IntKind.wrap, IntKind.bits, IntKind.signed]
  omega
theorem val_u {x y : Int} (h : x = y) : Value.int .u64 x = .int .u64 y := by rw [h]
theorem bs_get {l : List UInt8} {k : Nat} {c : UInt8} (hc : l[k]? = some c) {h : k < (bs l).size} : (bs l)[k] = c := by
  obtain ⟨h1, h2⟩ := List.getElem?_eq_some_iff.1 hc
  exact h2
set_option maxHeartbeats 800000 in
set_option maxRecDepth 100000 in
theorem int_any (w : World) (s : List UInt8) (hl : s.length ≤ 1000000) :
    Calls Tryd.prog 25 #[.string (bs s)] w fun e w' => e = .returned (.tuple #[.int .i64 (intV s), .bool (intB s)]) ∧ Below w.heap.size w w' := by
  have hz : (bs s).size = s.length := bs_size s
  go_enter Tryd.func25, Tryd.ntmps25
  go_wp2
  go_loopg [4, 5] 21 (fun g i4 i5 wr => ∃ (v k : Nat), g = 21 - k ∧ k ≤ s.length ∧ k ≤ 21 ∧ i4 = .int .u64 v ∧ i5 = .int .i64 k ∧ Hid (v = ivl (s.take k)) ∧ v < 18446744073709551616 ∧ Hid (Below w.heap.size w wr))
  case atStart => exact ⟨0, 0, rfl, by omega, by omega, rfl, rfl, rfl, by omega, bRefl w⟩
  case round =>
    obtain ⟨v, k, rfl, hk1, hk2, rfl, rfl, hv, hv2, hB⟩ := hrel
    by_cases hg : k < s.length ∧ k < 21
    · obtain ⟨hg1, hg2⟩ := hg
      obtain ⟨c, hc⟩ := at_lt hg1
      have hq : ∀ h : k < (bs s).size, (bs s)[k] = c := fun h => bs_get hc
      have hcl : c.toNat < 256 := c.toNat_lt
      have HV : Hid (ivl (s.take (k + 1)) = if 48 ≤ c.toNat ∧ c.toNat ≤ 57 then (v * 10 + (c.toNat - 48)) % 18446744073709551616 else v) := by
        show _ = _
        rw [take_snoc hc, ivl_snoc, ← hv.out]
      clear hc
      by_cases hd1 : 48 ≤ c.toNat
      · by_cases hd2 : c.toNat ≤ 57
        · go_wp2
          go_roundg (21 - (k + 1))
          case measure => omega
          case rel => exact ⟨(v * 10 + (c.toNat - 48)) % 18446744073709551616, k + 1, rfl, by omega, by omega, val_u (step_w v _ hd1), by go_num, by show _ = _; rw [HV.out, if_pos ⟨hd1, hd2⟩], by omega, hB⟩
        · go_wp2
          go_roundg (21 - (k + 1))
          case measure => omega
          case rel => exact ⟨v, k + 1, rfl, by omega, by omega, rfl, by go_num, by show _ = _; rw [HV.out, if_neg (by omega)], hv2, hB⟩
      · go_wp2
        go_roundg (21 - (k + 1))
        case measure => omega
        case rel => exact ⟨v, k + 1, rfl, by omega, by omega, rfl, by go_num, by show _ = _; rw [HV.out, if_neg (by omega)], hv2, hB⟩
    · have HV : Hid (ivl (s.take 21) = v) := by
        show _ = _
        rw [hv.out]
        congr 1
        by_cases e : k < s.length
        · rw [show k = 21 by omega]
        · rw [List.take_of_length_le (by omega), List.take_of_length_le (by omega)]
      have HF : Hid (∀ x, nval s = x → Lib.itoa x = s → intV s = x ∧ intB s = true) := fun x hx he => by
        have e : Lib.itoa (nval s) = s := by rw [hx]; exact he
        exact ⟨by unfold intV; rw [if_pos e, hx], decide_eq_true e⟩
      have HG : Hid (∀ x, nval s = x → Lib.itoa x ≠ s → intV s = 0 ∧ intB s = false) := fun x hx he => by
        have e : Lib.itoa (nval s) ≠ s := by rw [hx]; exact he
        exact ⟨by unfold intV; rw [if_neg e], decide_eq_false e⟩
      obtain ⟨x, hx⟩ : ∃ x, nval s = x := ⟨_, rfl⟩
      have HX : Hid (nval s = x) := hx
      have hxr : Hid (Rg x) := by rw [← hx]; exact nval_rg s
      by_cases hh : s.head? = some 45
      · have hw1 : wrap64 (-wrap64 (v : Int)) = x := by rw [← hx]; unfold nval; rw [if_pos hh, HV.out]
        have hs0 : 0 < s.length := by cases s with | nil => cases hh | cons a b => simp
        have hq : ∀ h : 0 < (bs s).size, (bs s)[0] = 45 := fun h => bs_get (by rw [← List.head?_eq_getElem?]; exact hh)
        clear hh hx
        by_cases he : Lib.itoa x = s
        · have h3 := str_yes he
          have HE : Hid (Lib.itoa x = s) := he
          clear he
          go_wp2_with (go_at_call 31; refine (decimal_any _ x hxr.out).mono ?_; rintro e w1 ⟨rfl, hb1⟩)
          all_goals
            go_ret2
            exact ⟨ret_ib (HF.out x HX.out HE.out).1 (HF.out x HX.out HE.out).2, bTrans hB.out hb1⟩
        · have h3 := str_no he
          have HE : Hid (Lib.itoa x ≠ s) := he
          clear he
          go_wp2_with (go_at_call 31; refine (decimal_any _ x hxr.out).mono ?_; rintro e w1 ⟨rfl, hb1⟩)
          all_goals
            go_ret2
            exact ⟨ret_ib (HG.out x HX.out HE.out).1 (HG.out x HX.out HE.out).2, bTrans hB.out hb1⟩
      · have hw1 : wrap64 (v : Int) = x := by rw [← hx]; unfold nval; rw [if_neg hh, HV.out]
        clear hx
        by_cases hs0 : 0 < s.length
        · obtain ⟨c, hc⟩ := at_lt hs0
          have hq : ∀ h : 0 < (bs s).size, (bs s)[0] = c := fun h => bs_get hc
          have hne : c.toNat ≠ 45 := fun e => hh (by rw [List.head?_eq_getElem?, hc]; congr 1; exact UInt8.toNat_inj.1 e)
          have hne2 : ((c.toNat : Int) == 45) = false := by simp; omega
          clear hh hc
          by_cases he : Lib.itoa x = s
          · have h3 := str_yes he
            have HE : Hid (Lib.itoa x = s) := he
            clear he
            go_wp2_with (go_at_call 31; refine (decimal_any _ x hxr.out).mono ?_; rintro e w1 ⟨rfl, hb1⟩)
            all_goals
              go_ret2
              exact ⟨ret_ib (HF.out x HX.out HE.out).1 (HF.out x HX.out HE.out).2, bTrans hB.out hb1⟩
          · have h3 := str_no he
            have HE : Hid (Lib.itoa x ≠ s) := he
            clear he
            go_wp2_with (go_at_call 31; refine (decimal_any _ x hxr.out).mono ?_; rintro e w1 ⟨rfl, hb1⟩)
            all_goals
              go_ret2
              exact ⟨ret_ib (HG.out x HX.out HE.out).1 (HG.out x HX.out HE.out).2, bTrans hB.out hb1⟩
        · clear hh
          by_cases he : Lib.itoa x = s
          · have h3 := str_yes he
            have HE : Hid (Lib.itoa x = s) := he
            clear he
            go_wp2_with (go_at_call 31; refine (decimal_any _ x hxr.out).mono ?_; rintro e w1 ⟨rfl, hb1⟩)
            all_goals
              go_ret2
              exact ⟨ret_ib (HF.out x HX.out HE.out).1 (HF.out x HX.out HE.out).2, bTrans hB.out hb1⟩
          · have h3 := str_no he
            have HE : Hid (Lib.itoa x ≠ s) := he
            clear he
            go_wp2_with (go_at_call 31; refine (decimal_any _ x hxr.out).mono ?_; rintro e w1 ⟨rfl, hb1⟩)
            all_goals
              go_ret2
              exact ⟨ret_ib (HG.out x HX.out HE.out).1 (HG.out x HX.out HE.out).2, bTrans hB.out hb1⟩
end Go.Proofs.YtdgialhigibnlaaDoor
