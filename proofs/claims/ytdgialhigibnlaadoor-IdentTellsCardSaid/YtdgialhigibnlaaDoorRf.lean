/-
  The reference's reading of an event: ParseEvent, walked. Condition: the text is short.
-/
import Derived.Test.YtdgialhigibnlaaDoorRe
namespace Go.Proofs.YtdgialhigibnlaaDoor
open Go.RowKit
attribute [local go_sem ↓] Go.wp_at_zero Go.wp_at_succ
theorem pdB_no {t : List UInt8} (h : pdB t = false) : prsD t = none := by
  unfold pdB at h
  cases e : prsD t with
  | none => rfl
  | some a => rw [e] at h; cases h
theorem pdB_yes {t : List UInt8} (h : pdB t = true) : prsD t = some (pdV t) := by
  unfold pdB at h
  cases e : prsD t with
  | none => rw [e] at h; cases h
  | some a => rw [(pd_some e).1]
set_option maxHeartbeats 2000000 in
set_option maxRecDepth 100000 in
theorem revent_any (s : List UInt8) (w : World) (hl : s.length ≤ 400) :
    Calls Tryd.prog 12 #[.string (bs s)] w fun e w' => e = .returned (.tuple #[eV (evV s), .bool (evB s)]) ∧ Below w.heap.size w w' := by
  have hz : (bs s).size = s.length := bs_size s
  have HLn : Hid (s.length ≤ 400) := hl
  clear hl
  go_enter Tryd.func12, Tryd.ntmps12
  go_wp2_with fail
  go_loopg [4] 5 (fun g i4 wr => ∃ k : Nat, g = 6 - k ∧ 1 ≤ k ∧ k ≤ 6 ∧ i4 = .int .i64 k ∧ Hid (∀ j : Nat, 1 ≤ j → j < k → ∀ t, s ≠ wdK j ++ 32 :: t) ∧ Hid (wr.heap[w.heap.size]? = some (.cells #[.int .i64 0, .int .i64 0, .int .i64 0, .int .i64 0, .int .i64 0] 25)) ∧ Hid (Below w.heap.size w wr))
  case atStart => exact ⟨1, rfl, by omega, by omega, rfl, fun j h1 h2 => by omega, heap_new _ _, bAlloc (bRefl w) _⟩
  case round =>
    obtain ⟨k, rfl, hk1, hk2, rfl, hm, kz, hB⟩ := hrel
    by_cases hg : k < 6
    · obtain ⟨W, hW⟩ : ∃ W, wdK k ++ [32] = W := ⟨_, rfl⟩
      have HW : Hid (wdK k ++ [32] = W) := hW
      have hcat : bs (wdK k) ++ ⟨#[32]⟩ = bs W := by rw [cat_w, hW]
      have hzW : (bs W).size = W.length := bs_size W
      have z1 : ¬ 9223372036854775807 < (bs (wdK k)).size + 1 := by rw [bs_size]; have := wdK_len k; omega
      have k6' : (k : Int) < 6 := by omega
      have k5' : (k : Int) ≤ 5 := by omega
      clear hW
      have EL : Hid (s.length < W.length ∨ (¬ s.length < W.length ∧ (part s 0 W.length ≠ W ∨ part s 0 W.length = W))) := by
        show _ ∨ _
        by_cases h : s.length < W.length
        · exact Or.inl h
        · refine Or.inr ⟨h, ?_⟩
          by_cases h2 : part s 0 W.length = W
          · exact Or.inr h2
          · exact Or.inl h2
      go_wp2_with fail
      refine (rkinds_any _).mono ?_
      rintro e w2 ⟨rfl, hk3, hk4, hb2⟩
      have hkc : w2.cell? ⟨wr.heap.size, k, none⟩ = some (.string (bs (wdK k))) := hk3 k hg
      have KZ : Hid (w2.heap[w.heap.size]? = some (.cells #[.int .i64 0, .int .i64 0, .int .i64 0, .int .i64 0, .int .i64 0] 25)) := (hb2.block _ (Array.getElem?_eq_some_iff.1 kz.out).1).trans kz.out
      have HB2 : Hid (Below w.heap.size w w2) := bTrans hB.out hb2
      clear hk3 hb2 kz hB
      rcases EL.out with h | ⟨h, h2 | h2⟩
      · have HM : Hid (∀ j : Nat, 1 ≤ j → j < k + 1 → ∀ t, s ≠ wdK j ++ 32 :: t) := fun j h1 h2 => by
          by_cases e : j = k
          · subst e; exact miss_len HW.out h
          · exact hm.out j h1 (by omega)
        clear EL hm
        go_wp2_with fail
        go_roundg (6 - (k + 1))
        case measure => omega
        case rel => exact ⟨k + 1, rfl, by omega, by omega, by go_num, HM, KZ, HB2⟩
      · have HM : Hid (∀ j : Nat, 1 ≤ j → j < k + 1 → ∀ t, s ≠ wdK j ++ 32 :: t) := fun j h1 h3 => by
          by_cases e : j = k
          · subst e; exact miss_ne HW.out h2
          · exact hm.out j h1 (by omega)
        obtain ⟨P, hP⟩ : ∃ P, part s 0 W.length = P := ⟨_, rfl⟩
        have hx : (bs s).extract 0 W.length = bs P := by rw [ext_part, hP]
        rw [hP] at h2
        have h3 := str_no h2
        have h4 : W.length ≤ s.length := by omega
        clear EL hm hP h2
        go_wp2_with fail
        go_roundg (6 - (k + 1))
        case measure => omega
        case rel => exact ⟨k + 1, rfl, by omega, by omega, by go_num, HM, KZ, HB2⟩
      · have hx : (bs s).extract 0 W.length = bs W := by rw [ext_part, h2]
        obtain ⟨T, hT⟩ : ∃ T, part s W.length s.length = T := ⟨_, rfl⟩
        have HS : Hid (s = wdK k ++ 32 :: T) := by show _ = _; rw [← hT]; exact hit_of HW.out h2
        have hx2 : (bs s).extract W.length s.length = bs T := by rw [ext_part, hT]
        have HT : Hid (T.length ≤ 400) := by show _ ≤ _; rw [← hT]; have := part_len s W.length s.length; have := HLn.out; omega
        have h3 := str_yes (rfl : W = W)
        have h4 : W.length ≤ s.length := by omega
        clear EL hm hT h2
        by_cases h5 : k ≤ 3
        · have k3' : (k : Int) ≤ 3 := by omega
          go_wp2_with fail
          refine (rparse_any T _ HT.out).mono ?_
          rintro e w3 ⟨rfl, hb3⟩
          have k3 : w3.heap[w.heap.size]? = some (.cells #[.int .i64 0, .int .i64 0, .int .i64 0, .int .i64 0, .int .i64 0] 25) := (hb3.block _ (Array.getElem?_eq_some_iff.1 KZ.out).1).trans KZ.out
          have hz3 : w.heap.size < w3.heap.size := (Array.getElem?_eq_some_iff.1 k3).1
          obtain ⟨a0, a1, a2, a3, a4⟩ := blk5 k3
          have g0 := Lib.frozen_of_heap k3
          have g00 := g0 0
          have g01 := g0 1
          have g02 := g0 2
          have g03 := g0 3
          have g04 := g0 4
          have hne : ¬ w3.heap.size = w.heap.size := by omega
          have hne' : ¬ w.heap.size = w3.heap.size := by omega
          have HB3 : Hid (Below w.heap.size w w3) := bTrans HB2.out hb3
          clear g0 k3 hb3 KZ HB2 hkc hk4 hx hx2 hcat z1
          obtain ⟨D, hD⟩ : ∃ D, pdV T = D := ⟨_, rfl⟩
          obtain ⟨b, hb⟩ : ∃ b, pdB T = b := ⟨_, rfl⟩
          have HP : Hid (prsE s = (prsD T).map fun a => ⟨k, a, 0⟩) := by show _ = _; rw [HS.out]; exact prsE_msg hk1 h5 T
          rw [hD, hb]
          cases b with
          | false =>
            have HN : Hid (prsE s = none) := by show _ = _; rw [HP.out, pdB_no hb]; rfl
            clear HP hD hb
            go_wp2_with fail
            exact bodyPost_ret (v := .tuple #[.agg #[.int .i64 0, .int .i64 0, .int .i64 0, .int .i64 0, .int .i64 0], .bool false]) (by simp [results, Tryd.results12, go_sem, a0, a1, a2, a3, a4, hz3]) rfl ⟨ret_v (by rw [(evn_none HN.out).1, (evn_none HN.out).2]; rfl), (by first  | with_reducible exact ((((((bAlloc HB3.out _).setCell (p := ⟨w.heap.size, 0, none⟩) (Nat.le_refl _) _).setCell (p := ⟨w.heap.size, 1, none⟩) (Nat.le_refl _) _).setCell (p := ⟨w.heap.size, 2, none⟩) (Nat.le_refl _) _).setCell (p := ⟨w.heap.size, 3, none⟩) (Nat.le_refl _) _).setCell (p := ⟨w.heap.size, 4, none⟩) (Nat.le_refl _) _) | with_reducible exact bAlloc (((((HB3.out.setCell (p := ⟨w.heap.size, 0, none⟩) (Nat.le_refl _) _).setCell (p := ⟨w.heap.size, 1, none⟩) (Nat.le_refl _) _).setCell (p := ⟨w.heap.size, 2, none⟩) (Nat.le_refl _) _).setCell (p := ⟨w.heap.size, 3, none⟩) (Nat.le_refl _) _).setCell (p := ⟨w.heap.size, 4, none⟩) (Nat.le_refl _) _) _ | with_reducible exact (((((HB3.out.setCell (p := ⟨w.heap.size, 0, none⟩) (Nat.le_refl _) _).setCell (p := ⟨w.heap.size, 1, none⟩) (Nat.le_refl _) _).setCell (p := ⟨w.heap.size, 2, none⟩) (Nat.le_refl _) _).setCell (p := ⟨w.heap.size, 3, none⟩) (Nat.le_refl _) _).setCell (p := ⟨w.heap.size, 4, none⟩) (Nat.le_refl _) _))⟩
          | true =>
            have HN : Hid (prsE s = some ⟨k, D, 0⟩) := by show _ = _; rw [HP.out, pdB_yes hb, hD]; rfl
            clear HP hD hb
            go_wp2_with fail
            exact bodyPost_ret (v := .tuple #[.agg #[.int .i64 k, .int .i64 D.f, .int .i64 D.n, .int .i64 D.c, .int .i64 0], .bool true]) (by simp [results, Tryd.results12, go_sem, a0, a1, a2, a3, a4, hz3]) rfl ⟨ret_v (by rw [(evn_some HN.out).1, (evn_some HN.out).2]), (by first  | with_reducible exact ((((((bAlloc HB3.out _).setCell (p := ⟨w.heap.size, 0, none⟩) (Nat.le_refl _) _).setCell (p := ⟨w.heap.size, 1, none⟩) (Nat.le_refl _) _).setCell (p := ⟨w.heap.size, 2, none⟩) (Nat.le_refl _) _).setCell (p := ⟨w.heap.size, 3, none⟩) (Nat.le_refl _) _).setCell (p := ⟨w.heap.size, 4, none⟩) (Nat.le_refl _) _) | with_reducible exact bAlloc (((((HB3.out.setCell (p := ⟨w.heap.size, 0, none⟩) (Nat.le_refl _) _).setCell (p := ⟨w.heap.size, 1, none⟩) (Nat.le_refl _) _).setCell (p := ⟨w.heap.size, 2, none⟩) (Nat.le_refl _) _).setCell (p := ⟨w.heap.size, 3, none⟩) (Nat.le_refl _) _).setCell (p := ⟨w.heap.size, 4, none⟩) (Nat.le_refl _) _) _ | with_reducible exact (((((HB3.out.setCell (p := ⟨w.heap.size, 0, none⟩) (Nat.le_refl _) _).setCell (p := ⟨w.heap.size, 1, none⟩) (Nat.le_refl _) _).setCell (p := ⟨w.heap.size, 2, none⟩) (Nat.le_refl _) _).setCell (p := ⟨w.heap.size, 3, none⟩) (Nat.le_refl _) _).setCell (p := ⟨w.heap.size, 4, none⟩) (Nat.le_refl _) _))⟩
        · have k3' : ¬ (k : Int) ≤ 3 := by omega
          go_wp2_with fail
          refine (int_any _ T (by have := HT.out; omega)).mono ?_
          rintro e w3 ⟨rfl, hb3⟩
          have k3 : w3.heap[w.heap.size]? = some (.cells #[.int .i64 0, .int .i64 0, .int .i64 0, .int .i64 0, .int .i64 0] 25) := (hb3.block _ (Array.getElem?_eq_some_iff.1 KZ.out).1).trans KZ.out
          have hz3 : w.heap.size < w3.heap.size := (Array.getElem?_eq_some_iff.1 k3).1
          obtain ⟨a0, a1, a2, a3, a4⟩ := blk5 k3
          have g0 := Lib.frozen_of_heap k3
          have g00 := g0 0
          have g01 := g0 1
          have g02 := g0 2
          have g03 := g0 3
          have g04 := g0 4
          have hne : ¬ w3.heap.size = w.heap.size := by omega
          have hne' : ¬ w.heap.size = w3.heap.size := by omega
          have HB3 : Hid (Below w.heap.size w w3) := bTrans HB2.out hb3
          clear g0 k3 hb3 KZ HB2 hkc hk4 hx hx2 hcat z1
          obtain ⟨D, hD⟩ : ∃ D, intV T = D := ⟨_, rfl⟩
          obtain ⟨b, hb⟩ : ∃ b, intB T = b := ⟨_, rfl⟩
          have HP : Hid (prsE s = if intB T = true then some ⟨k, id0, intV T⟩ else none) := by show _ = _; rw [HS.out]; exact prsE_act (by omega) (by omega) T
          rw [hD, hb]
          cases b with
          | false =>
            have HN : Hid (prsE s = none) := by show _ = _; rw [HP.out, hb]; rfl
            clear HP hD hb
            go_wp2_with fail
            exact bodyPost_ret (v := .tuple #[.agg #[.int .i64 0, .int .i64 0, .int .i64 0, .int .i64 0, .int .i64 0], .bool false]) (by simp [results, Tryd.results12, go_sem, a0, a1, a2, a3, a4]) rfl ⟨ret_v (by rw [(evn_none HN.out).1, (evn_none HN.out).2]; rfl), (by first  | with_reducible exact ((((((bAlloc HB3.out _).setCell (p := ⟨w.heap.size, 0, none⟩) (Nat.le_refl _) _).setCell (p := ⟨w.heap.size, 1, none⟩) (Nat.le_refl _) _).setCell (p := ⟨w.heap.size, 2, none⟩) (Nat.le_refl _) _).setCell (p := ⟨w.heap.size, 3, none⟩) (Nat.le_refl _) _).setCell (p := ⟨w.heap.size, 4, none⟩) (Nat.le_refl _) _) | with_reducible exact bAlloc (((((HB3.out.setCell (p := ⟨w.heap.size, 0, none⟩) (Nat.le_refl _) _).setCell (p := ⟨w.heap.size, 1, none⟩) (Nat.le_refl _) _).setCell (p := ⟨w.heap.size, 2, none⟩) (Nat.le_refl _) _).setCell (p := ⟨w.heap.size, 3, none⟩) (Nat.le_refl _) _).setCell (p := ⟨w.heap.size, 4, none⟩) (Nat.le_refl _) _) _ | with_reducible exact (((((HB3.out.setCell (p := ⟨w.heap.size, 0, none⟩) (Nat.le_refl _) _).setCell (p := ⟨w.heap.size, 1, none⟩) (Nat.le_refl _) _).setCell (p := ⟨w.heap.size, 2, none⟩) (Nat.le_refl _) _).setCell (p := ⟨w.heap.size, 3, none⟩) (Nat.le_refl _) _).setCell (p := ⟨w.heap.size, 4, none⟩) (Nat.le_refl _) _))⟩
          | true =>
            have HN : Hid (prsE s = some ⟨k, id0, D⟩) := by show _ = _; rw [HP.out, hb, hD]; rfl
            clear HP hD hb
            go_wp2_with fail
            exact bodyPost_ret (v := .tuple #[.agg #[.int .i64 k, .int .i64 0, .int .i64 0, .int .i64 0, .int .i64 D], .bool true]) (by simp [results, Tryd.results12, go_sem, a0, a1, a2, a3, a4]) rfl ⟨ret_v (by rw [(evn_some HN.out).1, (evn_some HN.out).2]; rfl), (by first  | with_reducible exact ((((((bAlloc HB3.out _).setCell (p := ⟨w.heap.size, 0, none⟩) (Nat.le_refl _) _).setCell (p := ⟨w.heap.size, 1, none⟩) (Nat.le_refl _) _).setCell (p := ⟨w.heap.size, 2, none⟩) (Nat.le_refl _) _).setCell (p := ⟨w.heap.size, 3, none⟩) (Nat.le_refl _) _).setCell (p := ⟨w.heap.size, 4, none⟩) (Nat.le_refl _) _) | with_reducible exact bAlloc (((((HB3.out.setCell (p := ⟨w.heap.size, 0, none⟩) (Nat.le_refl _) _).setCell (p := ⟨w.heap.size, 1, none⟩) (Nat.le_refl _) _).setCell (p := ⟨w.heap.size, 2, none⟩) (Nat.le_refl _) _).setCell (p := ⟨w.heap.size, 3, none⟩) (Nat.le_refl _) _).setCell (p := ⟨w.heap.size, 4, none⟩) (Nat.le_refl _) _) _ | with_reducible exact (((((HB3.out.setCell (p := ⟨w.heap.size, 0, none⟩) (Nat.le_refl _) _).setCell (p := ⟨w.heap.size, 1, none⟩) (Nat.le_refl _) _).setCell (p := ⟨w.heap.size, 2, none⟩) (Nat.le_refl _) _).setCell (p := ⟨w.heap.size, 3, none⟩) (Nat.le_refl _) _).setCell (p := ⟨w.heap.size, 4, none⟩) (Nat.le_refl _) _))⟩
    · have e : k = 6 := by omega
      subst e
      have HN : Hid (prsE s = none) := prsE_miss hm.out
      obtain ⟨a0, a1, a2, a3, a4⟩ := blk5 kz.out
      have g0 := Lib.frozen_of_heap kz.out
      have g00 := g0 0
      have g01 := g0 1
      have g02 := g0 2
      have g03 := g0 3
      have g04 := g0 4
      clear hm kz g0
      go_wp2_with fail
      exact bodyPost_ret (v := .tuple #[.agg #[.int .i64 0, .int .i64 0, .int .i64 0, .int .i64 0, .int .i64 0], .bool false]) (by simp [results, Tryd.results12, go_sem, a0, a1, a2, a3, a4]) rfl ⟨ret_v (by rw [(evn_none HN.out).1, (evn_none HN.out).2]; rfl), ((((hB.out.setCell (p := ⟨w.heap.size, 0, none⟩) (Nat.le_refl _) _).setCell (p := ⟨w.heap.size, 1, none⟩) (Nat.le_refl _) _).setCell (p := ⟨w.heap.size, 2, none⟩) (Nat.le_refl _) _).setCell (p := ⟨w.heap.size, 3, none⟩) (Nat.le_refl _) _).setCell (p := ⟨w.heap.size, 4, none⟩) (Nat.le_refl _) _⟩
end Go.Proofs.YtdgialhigibnlaaDoor
