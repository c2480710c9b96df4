/-
  The second law of chapter 7. Conditions: numbers of 64 bits; what it reads is there.
-/
import Derived.Test.YtdgialhigibnlaaDoorIa
import Derived.Deep.DeepCutAuto
namespace Go.Proofs.YtdgialhigibnlaaDoor
open Go.RowKit
attribute [local go_sem ↓] Go.wp_at_zero Go.wp_at_succ eq6 eq10
theorem hid_mk {p : Prop} (h : p) : Hid p := h
theorem tid_same {a b : PID} (ha : RgD a) (hb : RgD b) : ((bs (tid a)).toList == (bs (tid b)).toList) = sameD ⟨a.f, a.n, a.c⟩ ⟨b.f, b.n, b.c⟩ := by
  by_cases h : a = b
  · subst h; rw [str_yes rfl]; exact (sameD_yes rfl).symm
  · rw [str_no (fun e => h (tid_inj ha hb e))]; exact (sameD_no h).symm
theorem nam_same {x y : PEv} (hx : RgE x) (hy : RgE y) (hn : nameE x ≠ []) : ((bs (nameE x)).toList == (bs (nameE y)).toList) = sameE ⟨x.k, ⟨x.id.f, x.id.n, x.id.c⟩, x.who⟩ ⟨y.k, ⟨y.id.f, y.id.n, y.id.c⟩, y.who⟩ := by
  by_cases h : x = y
  · subst h; rw [str_yes rfl]; exact (sameE_yes rfl).symm
  · rw [str_no (fun e => h (nameE_inj hx hy hn e))]; exact (sameE_no h).symm
set_option maxHeartbeats 16000000 in
set_option maxRecDepth 100000 in
theorem back_any (w : World) (he : Env w) (a b : PID) (x y : PEv) (ra : RgD a) (rb : RgD b) (rx : RgE x) (ry : RgE y) :
    Calls Tryd.prog 4 #[dV a, dV b, eV x, eV y] w fun e w' => e = .returned (.bool true) ∧ Below w.heap.size w w' := by
  have HE : Hid (Env w) := he
  have RA : Hid (RgD a) := ra
  have RB : Hid (RgD b) := rb
  have RX : Hid (RgE x) := rx
  have RY : Hid (RgE y) := ry
  have hgD := gD
  have hgE := gE
  clear he ra rb rx ry
  go_enter Tryd.func4, Tryd.ntmps4
  go_wp2_with fail
  have he0 : Env ((((w.alloc (.cells #[.int .i64 a.f, .int .i64 a.n, .int .i64 a.c] 23)).alloc (.cells #[.int .i64 b.f, .int .i64 b.n, .int .i64 b.c] 23)).alloc (.cells #[.int .i64 x.k, .int .i64 x.id.f, .int .i64 x.id.n, .int .i64 x.id.c, .int .i64 x.who] 25)).alloc (.cells #[.int .i64 y.k, .int .i64 y.id.f, .int .i64 y.id.n, .int .i64 y.id.c, .int .i64 y.who] 25)) := HE.out.below (bAlloc (bAlloc (bAlloc (bAlloc (bRefl w) _) _) _) _)
  have ka : ((((w.alloc (.cells #[.int .i64 a.f, .int .i64 a.n, .int .i64 a.c] 23)).alloc (.cells #[.int .i64 b.f, .int .i64 b.n, .int .i64 b.c] 23)).alloc (.cells #[.int .i64 x.k, .int .i64 x.id.f, .int .i64 x.id.n, .int .i64 x.id.c, .int .i64 x.who] 25)).alloc (.cells #[.int .i64 y.k, .int .i64 y.id.f, .int .i64 y.id.n, .int .i64 y.id.c, .int .i64 y.who] 25)).heap[w.heap.size]? = some (.cells #[.int .i64 a.f, .int .i64 a.n, .int .i64 a.c] 23) := (Below.block (bAlloc (bAlloc (bAlloc (bRefl (w.alloc _)) _) _) _) _ (by simp; try omega)).trans (heap_new _ _)
  have kb : ((((w.alloc (.cells #[.int .i64 a.f, .int .i64 a.n, .int .i64 a.c] 23)).alloc (.cells #[.int .i64 b.f, .int .i64 b.n, .int .i64 b.c] 23)).alloc (.cells #[.int .i64 x.k, .int .i64 x.id.f, .int .i64 x.id.n, .int .i64 x.id.c, .int .i64 x.who] 25)).alloc (.cells #[.int .i64 y.k, .int .i64 y.id.f, .int .i64 y.id.n, .int .i64 y.id.c, .int .i64 y.who] 25)).heap[w.heap.size + 1]? = some (.cells #[.int .i64 b.f, .int .i64 b.n, .int .i64 b.c] 23) := (Below.block (bAlloc (bAlloc (bRefl ((w.alloc _).alloc _)) _) _) _ (by simp; try omega)).trans (heap_new2 (by simp))
  have kx : ((((w.alloc (.cells #[.int .i64 a.f, .int .i64 a.n, .int .i64 a.c] 23)).alloc (.cells #[.int .i64 b.f, .int .i64 b.n, .int .i64 b.c] 23)).alloc (.cells #[.int .i64 x.k, .int .i64 x.id.f, .int .i64 x.id.n, .int .i64 x.id.c, .int .i64 x.who] 25)).alloc (.cells #[.int .i64 y.k, .int .i64 y.id.f, .int .i64 y.id.n, .int .i64 y.id.c, .int .i64 y.who] 25)).heap[w.heap.size + 1 + 1]? = some (.cells #[.int .i64 x.k, .int .i64 x.id.f, .int .i64 x.id.n, .int .i64 x.id.c, .int .i64 x.who] 25) := (Below.block (bAlloc (bRefl (((w.alloc _).alloc _).alloc _)) _) _ (by simp; try omega)).trans (heap_new2 (by simp))
  have ky : ((((w.alloc (.cells #[.int .i64 a.f, .int .i64 a.n, .int .i64 a.c] 23)).alloc (.cells #[.int .i64 b.f, .int .i64 b.n, .int .i64 b.c] 23)).alloc (.cells #[.int .i64 x.k, .int .i64 x.id.f, .int .i64 x.id.n, .int .i64 x.id.c, .int .i64 x.who] 25)).alloc (.cells #[.int .i64 y.k, .int .i64 y.id.f, .int .i64 y.id.n, .int .i64 y.id.c, .int .i64 y.who] 25)).heap[w.heap.size + 1 + 1 + 1]? = some (.cells #[.int .i64 y.k, .int .i64 y.id.f, .int .i64 y.id.n, .int .i64 y.id.c, .int .i64 y.who] 25) := heap_new2 (by simp)
  have HL : Hid (Below w.heap.size w ((((w.alloc (.cells #[.int .i64 a.f, .int .i64 a.n, .int .i64 a.c] 23)).alloc (.cells #[.int .i64 b.f, .int .i64 b.n, .int .i64 b.c] 23)).alloc (.cells #[.int .i64 x.k, .int .i64 x.id.f, .int .i64 x.id.n, .int .i64 x.id.c, .int .i64 x.who] 25)).alloc (.cells #[.int .i64 y.k, .int .i64 y.id.f, .int .i64 y.id.n, .int .i64 y.id.c, .int .i64 y.who] 25))) := bAlloc (bAlloc (bAlloc (bAlloc (bRefl w) _) _) _) _
  generalize ((((w.alloc (.cells #[.int .i64 a.f, .int .i64 a.n, .int .i64 a.c] 23)).alloc (.cells #[.int .i64 b.f, .int .i64 b.n, .int .i64 b.c] 23)).alloc (.cells #[.int .i64 x.k, .int .i64 x.id.f, .int .i64 x.id.n, .int .i64 x.id.c, .int .i64 x.who] 25)).alloc (.cells #[.int .i64 y.k, .int .i64 y.id.f, .int .i64 y.id.n, .int .i64 y.id.c, .int .i64 y.who] 25)) = w1 at ka kb kx ky HL he0 ⊢
  obtain ⟨a0, a1, a2⟩ := blk3 ka
  refine (text_any a w1 RA.out he0).mono ?_
  rintro e w2 ⟨rfl, hb2⟩
  have hp := parse_any (tid a) w2 (Nat.le_trans (tid_len RA.out) (by decide)) (he0.below hb2)
  rw [(pd_some (prsD_tid RA.out)).1, (pd_some (prsD_tid RA.out)).2] at hp
  go_wp2_with fail
  refine hp.mono ?_
  rintro e w3 ⟨rfl, hb3⟩
  have hlow : Below w1.heap.size w1 w3 := bTrans hb2 hb3
  have L3 : Hid (Below w.heap.size w (w3.alloc (.cells #[.int .i64 a.f, .int .i64 a.n, .int .i64 a.c] 23))) := bAlloc (bTrans HL.out hlow) _
  have he3 : Env (w3.alloc (.cells #[.int .i64 a.f, .int .i64 a.n, .int .i64 a.c] 23)) := HE.out.below L3.out
  have kp : (w3.alloc (.cells #[.int .i64 a.f, .int .i64 a.n, .int .i64 a.c] 23)).heap[w3.heap.size]? = some (.cells #[.int .i64 a.f, .int .i64 a.n, .int .i64 a.c] 23) := heap_new _ _
  replace ka := blk_old (o := (.cells #[.int .i64 a.f, .int .i64 a.n, .int .i64 a.c] 23)) ((hlow.block _ (Array.getElem?_eq_some_iff.1 ka).1).trans ka)
  replace kb := blk_old (o := (.cells #[.int .i64 a.f, .int .i64 a.n, .int .i64 a.c] 23)) ((hlow.block _ (Array.getElem?_eq_some_iff.1 kb).1).trans kb)
  replace kx := blk_old (o := (.cells #[.int .i64 a.f, .int .i64 a.n, .int .i64 a.c] 23)) ((hlow.block _ (Array.getElem?_eq_some_iff.1 kx).1).trans kx)
  replace ky := blk_old (o := (.cells #[.int .i64 a.f, .int .i64 a.n, .int .i64 a.c] 23)) ((hlow.block _ (Array.getElem?_eq_some_iff.1 ky).1).trans ky)
  clear a0 a1 a2 hb2 hp hb3 hlow he0 HL
  go_wp2_with fail
  generalize hbp : w3.heap.size = bp at kp ⊢
  generalize w3.alloc (.cells #[.int .i64 a.f, .int .i64 a.n, .int .i64 a.c] 23) = w4 at ka kb kx ky kp L3 he3 ⊢
  clear hbp
  have sa := (Array.getElem?_eq_some_iff.1 ka).1
  have sb := (Array.getElem?_eq_some_iff.1 kb).1
  have sx := (Array.getElem?_eq_some_iff.1 kx).1
  have sy := (Array.getElem?_eq_some_iff.1 ky).1
  have sp := (Array.getElem?_eq_some_iff.1 kp).1
  have KX : Hid (w4.heap[w.heap.size + 1 + 1]? = some (.cells #[.int .i64 x.k, .int .i64 x.id.f, .int .i64 x.id.n, .int .i64 x.id.c, .int .i64 x.who] 25)) := kx
  have KY : Hid (w4.heap[w.heap.size + 1 + 1 + 1]? = some (.cells #[.int .i64 y.k, .int .i64 y.id.f, .int .i64 y.id.n, .int .i64 y.id.c, .int .i64 y.who] 25)) := ky
  clear kx ky
  go_cut [38] (fun i38 wc => i38 = .bool false ∧ Hid (Below w4.heap.size w4 wc))
  case first =>
    obtain ⟨a0, a1, a2⟩ := blk3 ka
    obtain ⟨b0, b1, b2⟩ := blk3 kb
    obtain ⟨p0, p1, p2⟩ := blk3 kp
    have hbb : Below w4.heap.size w4 w4 := bRefl w4
    have he1 : Env w4 := he3
    have hed : Env w4.drew := he3.below (bRefl w4).drew
    have q1 : sameD ⟨a.f, a.n, a.c⟩ ⟨a.f, a.n, a.c⟩ = true := sameD_yes rfl
    have q2 := tid_same RA.out RB.out
    clear ka kb kp
    go_region_held3 (fun w' => w'.cell? ⟨w.heap.size, 0, none⟩ = some (.int .i64 a.f) ∧ w'.cell? ⟨w.heap.size, 1, none⟩ = some (.int .i64 a.n) ∧ w'.cell? ⟨w.heap.size, 2, none⟩ = some (.int .i64 a.c) ∧ w'.cell? ⟨w.heap.size + 1, 0, none⟩ = some (.int .i64 b.f) ∧ w'.cell? ⟨w.heap.size + 1, 1, none⟩ = some (.int .i64 b.n) ∧ w'.cell? ⟨w.heap.size + 1, 2, none⟩ = some (.int .i64 b.c) ∧ w'.cell? ⟨bp, 0, none⟩ = some (.int .i64 a.f) ∧ w'.cell? ⟨bp, 1, none⟩ = some (.int .i64 a.n) ∧ w'.cell? ⟨bp, 2, none⟩ = some (.int .i64 a.c)) (go_keep)
      (first
        | (go_at_call 15; refine (text_any _ _ (by first | exact RA.out | exact RB.out) (by first | exact hed | exact he1)).mono ?_; rintro e w2 ⟨rfl, hb2⟩; have hc2 := (by first | exact bcell (undrew hb2) | exact bcell hb2); replace hbb := (by first | exact bTrans hbb (undrew hb2) | exact bTrans hbb hb2); replace he1 := (by first | exact hed.below hb2 | exact he1.below hb2); have hz0 := Nat.lt_of_lt_of_le sa hbb.size; have hz1 := Nat.lt_of_lt_of_le sb hbb.size; have hz2 := Nat.lt_of_lt_of_le sp hbb.size))
    all_goals (go_wp2_with fail; go_meet)
    all_goals exact ⟨by simp, hid_mk hbb⟩
  case rest =>
    obtain ⟨rfl, HC⟩ := hcut
    have he5 : Env wc := he3.below HC.out
    have L5 : Hid (Below w.heap.size w wc) := bTrans L3.out HC.out
    have kx : wc.heap[w.heap.size + 1 + 1]? = some (.cells #[.int .i64 x.k, .int .i64 x.id.f, .int .i64 x.id.n, .int .i64 x.id.c, .int .i64 x.who] 25) := (HC.out.block _ sx).trans KX.out
    have ky : wc.heap[w.heap.size + 1 + 1 + 1]? = some (.cells #[.int .i64 y.k, .int .i64 y.id.f, .int .i64 y.id.n, .int .i64 y.id.c, .int .i64 y.who] 25) := (HC.out.block _ sy).trans KY.out
    have tx := (Array.getElem?_eq_some_iff.1 kx).1
    have ty := (Array.getElem?_eq_some_iff.1 ky).1
    clear HC KX KY ka kb kp sa sb sx sy sp he3 L3
    go_wp2_with fail
    obtain ⟨wo, hwo⟩ : ∃ wo, wo = wc := ⟨_, rfl⟩
    subst hwo
    go_cut [11, 12] (fun i11 i12 wc => i11 = .string (bs (nameE x)) ∧ i12 = .string (bs (nameE y)) ∧ Hid (Below wo.heap.size wo wc))
    case first =>
      obtain ⟨x0, x1, x2, x3, x4⟩ := blk5 kx
      obtain ⟨y0, y1, y2, y3, y4⟩ := blk5 ky
      have hbb : Below wo.heap.size wo wo := bRefl wo
      have he1 : Env wo := he5
      have hed : Env wo.drew := he5.below (bRefl wo).drew
      clear kx ky
      go_region_held3 (fun w' => w'.cell? ⟨w.heap.size + 1 + 1, 0, none⟩ = some (.int .i64 x.k) ∧ w'.cell? ⟨w.heap.size + 1 + 1, 1, none⟩ = some (.int .i64 x.id.f) ∧ w'.cell? ⟨w.heap.size + 1 + 1, 2, none⟩ = some (.int .i64 x.id.n) ∧ w'.cell? ⟨w.heap.size + 1 + 1, 3, none⟩ = some (.int .i64 x.id.c) ∧ w'.cell? ⟨w.heap.size + 1 + 1, 4, none⟩ = some (.int .i64 x.who) ∧ w'.cell? ⟨w.heap.size + 1 + 1 + 1, 0, none⟩ = some (.int .i64 y.k) ∧ w'.cell? ⟨w.heap.size + 1 + 1 + 1, 1, none⟩ = some (.int .i64 y.id.f) ∧ w'.cell? ⟨w.heap.size + 1 + 1 + 1, 2, none⟩ = some (.int .i64 y.id.n) ∧ w'.cell? ⟨w.heap.size + 1 + 1 + 1, 3, none⟩ = some (.int .i64 y.id.c) ∧ w'.cell? ⟨w.heap.size + 1 + 1 + 1, 4, none⟩ = some (.int .i64 y.who)) (go_keep)
        (first
          | (go_at_call 19; refine (name_any _ _ (by first | exact RX.out | exact RY.out) (by first | exact hed | exact he1)).mono ?_; rintro e w2 ⟨rfl, hb2⟩; have hc2 := (by first | exact bcell (undrew hb2) | exact bcell hb2); replace hbb := (by first | exact bTrans hbb (undrew hb2) | exact bTrans hbb hb2); replace he1 := (by first | exact hed.below hb2 | exact he1.below hb2); have hz0 := Nat.lt_of_lt_of_le tx hbb.size; have hz1 := Nat.lt_of_lt_of_le ty hbb.size))
      all_goals (go_wp2_with fail; go_meet)
      all_goals exact ⟨rfl, rfl, hid_mk hbb⟩
    case rest =>
      obtain ⟨rfl, rfl, HC⟩ := hcut
      have he6 : Env wc := he5.below HC.out
      have L6 : Hid (Below w.heap.size w wc) := bTrans L5.out HC.out
      replace kx := (HC.out.block _ tx).trans kx
      replace ky := (HC.out.block _ ty).trans ky
      clear HC tx ty he5 L5
      have hv := event_any (nameE x) wc (Nat.le_trans (nameE_len RX.out) (by decide)) he6
      by_cases hn : nameE x = []
      · have hnone : prsE (nameE x) = none := by unfold prsE; rw [if_neg (fun h => h.1 hn)]
        rw [(ev_none hnone).1, (ev_none hnone).2] at hv
        have e0 := emp_yes hn
        have HV : Hid (Calls Tryd.prog 11 #[.string (bs (nameE x))] wc fun e w' => e = .returned (.tuple #[.agg #[.int .i64 0, .int .i64 0, .int .i64 0, .int .i64 0, .int .i64 0], .int .i64 2]) ∧ Below wc.heap.size wc w') := hv
        clear hv hn hnone
        go_wp2_with fail
        refine HV.out.mono ?_
        rintro e w7 ⟨rfl, hb7⟩
        have HX : Hid (∀ o, Below w.heap.size w (w7.alloc o)) := fun o => bAlloc (bTrans L6.out hb7) _
        clear hb7
        go_wp2_with (go_at_call 8; refine (awake_any _ (HE.out.below (HX.out _))).mono ?_; rintro e w9 ⟨rfl, hb9⟩)
        go_ret
        exact ⟨rfl, bTrans (HX.out _) hb9⟩
      · have hsome := prsE_name RX.out hn
        rw [(ev_some hsome).1, (ev_some hsome).2] at hv
        have e0 := emp_no hn
        have q2 := nam_same RX.out RY.out hn
        have q3 : sameE ⟨x.k, ⟨x.id.f, x.id.n, x.id.c⟩, x.who⟩ ⟨x.k, ⟨x.id.f, x.id.n, x.id.c⟩, x.who⟩ = true := sameE_yes rfl
        have HV : Hid (Calls Tryd.prog 11 #[.string (bs (nameE x))] wc fun e w' => e = .returned (.tuple #[eV x, .int .i64 0]) ∧ Below wc.heap.size wc w') := hv
        clear hv hn hsome
        go_wp2_with fail
        refine HV.out.mono ?_
        rintro e w7 ⟨rfl, hb7⟩
        have HX : Hid (∀ o, Below w.heap.size w (w7.alloc o)) := fun o => bAlloc (bTrans L6.out hb7) _
        replace kx := (hb7.block _ (Array.getElem?_eq_some_iff.1 kx).1).trans kx
        replace ky := (hb7.block _ (Array.getElem?_eq_some_iff.1 ky).1).trans ky
        obtain ⟨x0, x1, x2, x3, x4⟩ := blk5 kx
        obtain ⟨y0, y1, y2, y3, y4⟩ := blk5 ky
        have sx := (Array.getElem?_eq_some_iff.1 kx).1
        have sy := (Array.getElem?_eq_some_iff.1 ky).1
        clear hb7 kx ky
        go_wp2_with (go_at_call 8; refine (awake_any _ (HE.out.below (HX.out _))).mono ?_; rintro e w9 ⟨rfl, hb9⟩)
        go_ret
        exact ⟨rfl, bTrans (HX.out _) hb9⟩
end Go.Proofs.YtdgialhigibnlaaDoor
