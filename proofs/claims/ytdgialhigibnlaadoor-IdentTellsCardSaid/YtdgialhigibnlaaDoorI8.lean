/-
  How events are written: kindOf, Name. Conditions: numbers of 64 bits; what it reads is there.
-/
import Derived.Test.YtdgialhigibnlaaDoorI7
namespace Go.Proofs.YtdgialhigibnlaaDoor
open Go.RowKit
attribute [local go_sem ↓] Go.wp_at_zero Go.wp_at_succ eq6 eq10
theorem kinG_yes {s : List UInt8} {f k : Nat} (h : wdK k = s) : kinG s (f + 1) k = k := by unfold kinG; rw [if_pos h]
theorem kinG_no {s : List UInt8} {f k : Nat} (h : wdK k ≠ s) : kinG s (f + 1) k = kinG s f (k + 1) := by rw [kinG, if_neg h]
set_option maxHeartbeats 1000000 in
theorem kindof_any (s : List UInt8) (w : World) (he : Env w) : Calls Tryd.prog 27 #[.string (bs s)] w fun e w' => e = .returned (.int .i64 (kin s)) ∧ w' = w := by
  have HE : Hid (Env w) := he
  clear he
  go_enter Tryd.func27, Tryd.ntmps27
  go_wp2
  go_loopg [3] 5 (fun g i3 wr => ∃ k : Nat, g = 6 - k ∧ 1 ≤ k ∧ k ≤ 6 ∧ i3 = .int .i64 k ∧ Hid (kin s = kinG s (6 - k) k) ∧ wr = w)
  case atStart => exact ⟨1, rfl, by omega, by omega, rfl, rfl, rfl⟩
  case round =>
    obtain ⟨k, rfl, hk1, hk2, rfl, hi, rfl⟩ := hrel
    by_cases hg : k < 6
    · have hc := HE.out.wds k hg
      by_cases hw : wdK k = s
      · have h3 := str_yes hw
        have HW : Hid (wdK k = s) := hw
        clear hw
        go_wp2
        go_ret
        exact ⟨ret_i (by rw [hi.out, show 6 - k = (5 - k) + 1 by omega, kinG_yes HW.out]), rfl⟩
      · have h3 := str_no hw
        have HW : Hid (wdK k ≠ s) := hw
        clear hw
        go_wp2
        go_roundg (6 - (k + 1))
        case measure => omega
        case rel => exact ⟨k + 1, rfl, by omega, by omega, by go_num, by show _ = _; rw [hi.out, show 6 - k = (6 - (k + 1)) + 1 by omega, kinG_no HW.out], rfl⟩
    · have e : k = 6 := by omega
      subst e
      have HK : Hid (kin s = 0) := hi.out
      clear hi
      go_wp2
      go_ret
      exact ⟨ret_i (by rw [HK.out]; rfl), rfl⟩
theorem cat_b {a b t : List UInt8} (h : t = a ++ 32 :: b) : bs a ++ ⟨#[32]⟩ ++ bs b = bs t := by
  rw [h, show (⟨#[32]⟩ : ByteArray) = bs [32] from rfl, bs_app, bs_app, List.append_assoc]; rfl
set_option maxHeartbeats 2000000 in
set_option maxRecDepth 100000 in
theorem name_msg (x : PEv) (m : Nat) (w : World) (hr : RgE x) (he : Env w) (hk : x.k = m) (h1 : 1 ≤ m) (h3 : m ≤ 3) (hw : x.who = 0) :
    Calls Tryd.prog 19 #[.agg #[.int .i64 m, .int .i64 x.id.f, .int .i64 x.id.n, .int .i64 x.id.c, .int .i64 x.who]] w fun e w' => e = .returned (.string (bs (nameE x))) ∧ Below w.heap.size w w' := by
  have hm : msgK (m : Int) = true := decide_eq_true (by omega)
  have ha : actK (m : Int) = false := decide_eq_false (by omega)
  have hq : (x.who == 0) = true := by simp [hw]
  have HN : Hid (nameE x = wdK m ++ 32 :: tid x.id) := by show _ = _; rw [nameE_msg (by rw [hk]; exact hm) hw, hk]; rfl
  have HR : Hid (RgE x) := hr
  have HE : Hid (Env w) := he
  have m6 : m < 6 := by omega
  have m6' : (m : Int) < 6 := by omega
  clear hr he hk hw
  have y1 : (bs (wdK m)).size ≤ 7 := by rw [bs_size]; exact wdK_len m
  have y2 : (bs (tid x.id)).size ≤ 65 := by rw [bs_size]; have := tid_len HR.out.2.1; omega
  have z1 : ¬ 9223372036854775807 < (bs (wdK m)).size + 1 := by omega
  have z2 : ¬ 9223372036854775807 < (bs (wdK m)).size + 1 + (bs (tid x.id)).size := by omega
  clear y1 y2
  go_enter Tryd.func19, Tryd.ntmps19
  go_wp2_with (first
    | (go_at_call 34; refine (ofm_any _ _).mono ?_; rw [hm]; rintro e w' ⟨rfl, hww⟩; replace hww := hww.symm; subst hww)
    | (go_at_call 35; refine (ofa_any _ _).mono ?_; rw [ha]; rintro e w' ⟨rfl, hww⟩; replace hww := hww.symm; subst hww))
  have hA : (w.alloc (.cells #[.int .i64 m, .int .i64 x.id.f, .int .i64 x.id.n, .int .i64 x.id.c, .int .i64 x.who] 25)).heap[w.heap.size]? = some (.cells #[.int .i64 m, .int .i64 x.id.f, .int .i64 x.id.n, .int .i64 x.id.c, .int .i64 x.who] 25) := heap_new _ _
  have HL : Hid (Below w.heap.size w (w.alloc (.cells #[.int .i64 m, .int .i64 x.id.f, .int .i64 x.id.n, .int .i64 x.id.c, .int .i64 x.who] 25))) := bAlloc (bRefl _) _
  have hs0 : w.heap.size < (w.alloc (.cells #[.int .i64 m, .int .i64 x.id.f, .int .i64 x.id.n, .int .i64 x.id.c, .int .i64 x.who] 25)).heap.size := by simp
  have he1 : Env (w.alloc (.cells #[.int .i64 m, .int .i64 x.id.f, .int .i64 x.id.n, .int .i64 x.id.c, .int .i64 x.who] 25)) := HE.out.below (bAlloc (bRefl _) _)
  generalize (w.alloc (.cells #[.int .i64 m, .int .i64 x.id.f, .int .i64 x.id.n, .int .i64 x.id.c, .int .i64 x.who] 25)) = w1 at hA HL hs0 he1 ⊢
  obtain ⟨p0, p1, p2, p3, p4⟩ := blk5 hA
  have hw0 := he1.wds m (by omega)
  have hbig : 0 < w1.heap.size := by have := he1.big; omega
  have hbb : Below w1.heap.size w1 w1 := bRefl w1
  have hed : Env w1.drew := he1.below (bRefl w1).drew
  clear hA
  go_region_held3 (fun w' => w'.cell? ⟨w.heap.size, 0, none⟩ = some (.int .i64 m) ∧ w'.cell? ⟨w.heap.size, 1, none⟩ = some (.int .i64 x.id.f) ∧ w'.cell? ⟨w.heap.size, 2, none⟩ = some (.int .i64 x.id.n) ∧ w'.cell? ⟨w.heap.size, 3, none⟩ = some (.int .i64 x.id.c) ∧ w'.cell? ⟨w.heap.size, 4, none⟩ = some (.int .i64 x.who) ∧ w'.cell? ⟨0, m, none⟩ = some (.string (bs (wdK m)))) (go_keep)
    (first
      | (go_at_call 15; refine (text_any x.id _ HR.out.2.1 (by first | exact hed | exact he1)).mono ?_; rintro e w2 ⟨rfl, hb2⟩; have hc2 := (by first | exact bcell (undrew hb2) | exact bcell hb2); replace he1 := (by first | exact hed.below hb2 | exact he1.below hb2); replace hbb := (by first | exact bTrans hbb (undrew hb2) | exact bTrans hbb hb2); have hz2 := Nat.lt_of_lt_of_le hs0 hbb.size; have hz0 := Nat.lt_of_lt_of_le hbig hbb.size))
  all_goals
    go_wp2_with fail
    go_ret
    exact ⟨ret_str (cat_b HN.out), bTrans HL.out hbb⟩
set_option maxHeartbeats 2000000 in
set_option maxRecDepth 100000 in
theorem name_act (x : PEv) (m : Nat) (w : World) (hr : RgE x) (he : Env w) (hk : x.k = m) (h1 : 4 ≤ m) (h3 : m ≤ 5) (hi : x.id = id0) :
    Calls Tryd.prog 19 #[.agg #[.int .i64 m, .int .i64 x.id.f, .int .i64 x.id.n, .int .i64 x.id.c, .int .i64 x.who]] w fun e w' => e = .returned (.string (bs (nameE x))) ∧ Below w.heap.size w w' := by
  have hm : msgK (m : Int) = false := decide_eq_false (by omega)
  have ha : actK (m : Int) = true := decide_eq_true (by omega)
  have hq : sameD ⟨x.id.f, x.id.n, x.id.c⟩ ⟨0, 0, 0⟩ = true := sameD_yes hi
  have hgD := gD
  have HN : Hid (nameE x = wdK m ++ 32 :: Lib.itoa x.who) := by show _ = _; rw [nameE_act (by rw [hk]; exact ha) hi, hk]; rfl
  have HR : Hid (RgE x) := hr
  have HE : Hid (Env w) := he
  have m6 : m < 6 := by omega
  have m6' : (m : Int) < 6 := by omega
  clear hr he hk hi
  have y1 : (bs (wdK m)).size ≤ 7 := by rw [bs_size]; exact wdK_len m
  have y2 : (bs (Lib.itoa x.who)).size ≤ 65 := by rw [bs_size]; have := Lib.itoa_length_le x.who HR.out.2.2.1 HR.out.2.2.2; omega
  have z1 : ¬ 9223372036854775807 < (bs (wdK m)).size + 1 := by omega
  have z2 : ¬ 9223372036854775807 < (bs (wdK m)).size + 1 + (bs (Lib.itoa x.who)).size := by omega
  clear y1 y2
  go_enter Tryd.func19, Tryd.ntmps19
  go_wp2_with (first
    | (go_at_call 34; refine (ofm_any _ _).mono ?_; rw [hm]; rintro e w' ⟨rfl, hww⟩; replace hww := hww.symm; subst hww)
    | (go_at_call 35; refine (ofa_any _ _).mono ?_; rw [ha]; rintro e w' ⟨rfl, hww⟩; replace hww := hww.symm; subst hww))
  have hA : (w.alloc (.cells #[.int .i64 m, .int .i64 x.id.f, .int .i64 x.id.n, .int .i64 x.id.c, .int .i64 x.who] 25)).heap[w.heap.size]? = some (.cells #[.int .i64 m, .int .i64 x.id.f, .int .i64 x.id.n, .int .i64 x.id.c, .int .i64 x.who] 25) := heap_new _ _
  have HL : Hid (Below w.heap.size w (w.alloc (.cells #[.int .i64 m, .int .i64 x.id.f, .int .i64 x.id.n, .int .i64 x.id.c, .int .i64 x.who] 25))) := bAlloc (bRefl _) _
  have hs0 : w.heap.size < (w.alloc (.cells #[.int .i64 m, .int .i64 x.id.f, .int .i64 x.id.n, .int .i64 x.id.c, .int .i64 x.who] 25)).heap.size := by simp
  have he1 : Env (w.alloc (.cells #[.int .i64 m, .int .i64 x.id.f, .int .i64 x.id.n, .int .i64 x.id.c, .int .i64 x.who] 25)) := HE.out.below (bAlloc (bRefl _) _)
  generalize (w.alloc (.cells #[.int .i64 m, .int .i64 x.id.f, .int .i64 x.id.n, .int .i64 x.id.c, .int .i64 x.who] 25)) = w1 at hA HL hs0 he1 ⊢
  obtain ⟨p0, p1, p2, p3, p4⟩ := blk5 hA
  have hw0 := he1.wds m (by omega)
  have hbig : 0 < w1.heap.size := by have := he1.big; omega
  have hbb : Below w1.heap.size w1 w1 := bRefl w1
  have hed : Env w1.drew := he1.below (bRefl w1).drew
  clear hA
  go_region_held3 (fun w' => w'.cell? ⟨w.heap.size, 0, none⟩ = some (.int .i64 m) ∧ w'.cell? ⟨w.heap.size, 1, none⟩ = some (.int .i64 x.id.f) ∧ w'.cell? ⟨w.heap.size, 2, none⟩ = some (.int .i64 x.id.n) ∧ w'.cell? ⟨w.heap.size, 3, none⟩ = some (.int .i64 x.id.c) ∧ w'.cell? ⟨w.heap.size, 4, none⟩ = some (.int .i64 x.who) ∧ w'.cell? ⟨0, m, none⟩ = some (.string (bs (wdK m)))) (go_keep)
    (first
      | (go_at_call 30; refine (itoaB x.who _ HR.out.2.2 (by first | exact hed | exact he1)).mono ?_; rintro e w2 ⟨rfl, hb2⟩; have hc2 := (by first | exact bcell (undrew hb2) | exact bcell hb2); replace he1 := (by first | exact hed.below hb2 | exact he1.below hb2); replace hbb := (by first | exact bTrans hbb (undrew hb2) | exact bTrans hbb hb2); have hz2 := Nat.lt_of_lt_of_le hs0 hbb.size; have hz0 := Nat.lt_of_lt_of_le hbig hbb.size))
  all_goals
    go_wp2_with fail
    go_ret
    exact ⟨ret_str (cat_b HN.out), bTrans HL.out hbb⟩
set_option maxHeartbeats 1000000 in
theorem name_no (x : PEv) (w : World) (h1 : ¬ (msgK x.k = true ∧ x.who = 0)) (h2 : ¬ (actK x.k = true ∧ x.id = id0)) :
    Calls Tryd.prog 19 #[eV x] w fun e w' => e = .returned (.string (bs (nameE x))) ∧ Below w.heap.size w w' := by
  have HN : Hid (nameE x = []) := nameE_no h1 h2
  have hgD := gD
  obtain ⟨b1, hm⟩ : ∃ b, msgK x.k = b := ⟨_, rfl⟩
  obtain ⟨b2, ha⟩ : ∃ b, actK x.k = b := ⟨_, rfl⟩
  rw [hm] at h1
  rw [ha] at h2
  have q1 : b1 = true → (x.who == 0) = false := fun h => by
    have : x.who ≠ 0 := fun e => h1 ⟨h, e⟩
    simp [this]
  have q2 : b2 = true → sameD ⟨x.id.f, x.id.n, x.id.c⟩ ⟨0, 0, 0⟩ = false := fun h => sameD_no (fun e => h2 ⟨h, e⟩)
  clear h1 h2
  cases b1 with
  | true =>
    have q1' := q1 rfl
    clear q1
    cases b2 with
    | true =>
      have q2' := q2 rfl
      clear q2
      go_enter Tryd.func19, Tryd.ntmps19
      go_wp2_with (first
        | (go_at_call 34; refine (ofm_any _ _).mono ?_; rw [hm]; rintro e w' ⟨rfl, hww⟩; replace hww := hww.symm; subst hww)
        | (go_at_call 35; refine (ofa_any _ _).mono ?_; rw [ha]; rintro e w' ⟨rfl, hww⟩; replace hww := hww.symm; subst hww))
      go_ret
      exact ⟨ret_str (by rw [HN.out]; rfl), bAlloc (bRefl _) _⟩
    | false =>
      clear q2
      go_enter Tryd.func19, Tryd.ntmps19
      go_wp2_with (first
        | (go_at_call 34; refine (ofm_any _ _).mono ?_; rw [hm]; rintro e w' ⟨rfl, hww⟩; replace hww := hww.symm; subst hww)
        | (go_at_call 35; refine (ofa_any _ _).mono ?_; rw [ha]; rintro e w' ⟨rfl, hww⟩; replace hww := hww.symm; subst hww))
      go_ret
      exact ⟨ret_str (by rw [HN.out]; rfl), bAlloc (bRefl _) _⟩
  | false =>
    clear q1
    cases b2 with
    | true =>
      have q2' := q2 rfl
      clear q2
      go_enter Tryd.func19, Tryd.ntmps19
      go_wp2_with (first
        | (go_at_call 34; refine (ofm_any _ _).mono ?_; rw [hm]; rintro e w' ⟨rfl, hww⟩; replace hww := hww.symm; subst hww)
        | (go_at_call 35; refine (ofa_any _ _).mono ?_; rw [ha]; rintro e w' ⟨rfl, hww⟩; replace hww := hww.symm; subst hww))
      go_ret
      exact ⟨ret_str (by rw [HN.out]; rfl), bAlloc (bRefl _) _⟩
    | false =>
      clear q2
      go_enter Tryd.func19, Tryd.ntmps19
      go_wp2_with (first
        | (go_at_call 34; refine (ofm_any _ _).mono ?_; rw [hm]; rintro e w' ⟨rfl, hww⟩; replace hww := hww.symm; subst hww)
        | (go_at_call 35; refine (ofa_any _ _).mono ?_; rw [ha]; rintro e w' ⟨rfl, hww⟩; replace hww := hww.symm; subst hww))
      go_ret
      exact ⟨ret_str (by rw [HN.out]; rfl), bAlloc (bRefl _) _⟩
theorem name_any (x : PEv) (w : World) (hr : RgE x) (he : Env w) :
    Calls Tryd.prog 19 #[eV x] w fun e w' => e = .returned (.string (bs (nameE x))) ∧ Below w.heap.size w w' := by
  by_cases h1 : msgK x.k = true ∧ x.who = 0
  · have hb := of_decide_eq_true h1.1
    obtain ⟨m, hm⟩ : ∃ m : Nat, x.k = m := ⟨x.k.toNat, by omega⟩
    have := name_msg x m w hr he hm (by omega) (by omega) h1.2
    rw [← hm] at this
    exact this
  · by_cases h2 : actK x.k = true ∧ x.id = id0
    · have hb := of_decide_eq_true h2.1
      obtain ⟨m, hm⟩ : ∃ m : Nat, x.k = m := ⟨x.k.toNat, by omega⟩
      have := name_act x m w hr he hm (by omega) (by omega) h2.2
      rw [← hm] at this
      exact this
    · exact name_no x w h1 h2
end Go.Proofs.YtdgialhigibnlaaDoor
