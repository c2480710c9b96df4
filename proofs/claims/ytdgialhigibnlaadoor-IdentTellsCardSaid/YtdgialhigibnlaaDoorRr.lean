/-
  The reference's reading of a name: ParseID, walked. Condition: the text is short.
-/
import Derived.Test.YtdgialhigibnlaaDoorRq
namespace Go.Proofs.YtdgialhigibnlaaDoor
open Go.RowKit
attribute [local go_sem ↓] Go.wp_at_zero Go.wp_at_succ
theorem ret_vv {a b : Value} (h : a = b) : Ending.returned a = .returned b := by rw [h]
theorem pdn_none {s : List UInt8} (h : prsD s = none) : pdV s = id0 ∧ pdB s = false := ⟨(pd_none h).1, by unfold pdB; rw [h]; rfl⟩
theorem pdn_some {s : List UInt8} {a : PID} (h : prsD s = some a) : pdV s = a ∧ pdB s = true := ⟨(pd_some h).1, by unfold pdB; rw [h]; rfl⟩
theorem at_end {s : List UInt8} : (s ++ [46])[s.length]? = some 46 := by simp
theorem at_in {s : List UInt8} {i : Nat} {c : UInt8} (h : s[i]? = some c) : (s ++ [46])[i]? = some c := by
  rw [List.getElem?_append_left (List.getElem?_eq_some_iff.1 h).1]; exact h
theorem part_len (s : List UInt8) (f i : Nat) : (part s f i).length ≤ s.length := by unfold part; simp; omega
set_option maxHeartbeats 1000000 in
set_option maxRecDepth 100000 in
theorem rparse_any (s : List UInt8) (w : World) (hl : s.length ≤ 400) :
    Calls Tryd.prog 10 #[.string (bs s)] w fun e w' => e = .returned (.tuple #[dV (pdV s), .bool (pdB s)]) ∧ Below w.heap.size w w' := by
  have hz : (bs s).size = s.length := bs_size s
  have HLn : Hid (s.length ≤ 400) := hl
  go_enter Tryd.func10, Tryd.ntmps10
  go_wp2_with fail
  go_loopg [4, 5, 6] (s.length + 1) (fun g i4 i5 i6 wr => ∃ (l : List Int) (f i : Nat), g = s.length + 1 - i ∧ f ≤ i ∧ i ≤ s.length + 1 ∧ i5 = .int .i64 f ∧ i6 = .int .i64 i ∧ l.length ≤ i ∧ Hid (PS s l f i) ∧ Hid (NO (w.alloc (.cells #[.int .i64 0, .int .i64 0, .int .i64 0] 23)) i4 l wr))
  case atStart => exact ⟨[], 0, 0, rfl, by omega, by omega, rfl, rfl, by simp, PS.start s, NO.nil _⟩
  case round =>
    obtain ⟨l, f, i, rfl, hfi, hi1, rfl, rfl, hli, hps, hno⟩ := hrel
    obtain ⟨A, c, rfl⟩ := hno.out.formN l.length rfl
    have kz : wr.heap[w.heap.size]? = some (.cells #[.int .i64 0, .int .i64 0, .int .i64 0] 23) := (hno.out.low.block _ (by simp)).trans (heap_new _ _)
    have HB0 : Hid (Below w.heap.size w wr) := bTrans (bAlloc (bRefl w) _) hno.out.low
    by_cases hg : i ≤ s.length
    · have hcase : (∃ c, s[i]? = some c ∧ c ≠ 46) ∨ (s ++ [46])[i]? = some 46 := by
        by_cases e : i < s.length
        · obtain ⟨c, hc⟩ := at_lt e
          by_cases e2 : c = 46
          · subst e2; exact Or.inr (at_in hc)
          · exact Or.inl ⟨c, hc, e2⟩
        · right
          rw [show i = s.length by omega]
          exact at_end
      rcases hcase with ⟨c0, hc0, hn0⟩ | hpt
      · have hlt : i < s.length := (List.getElem?_eq_some_iff.1 hc0).1
        have hq : ∀ h : i < (bs s).size, (bs s)[i] = c0 := fun h => bs_get hc0
        have hne : ((c0.toNat : Int) == 46) = false := by
          have : c0.toNat ≠ 46 := fun e => hn0 (UInt8.toNat_inj.1 e)
          simp; omega
        have hne2 : ((i : Int) == (s.length : Int)) = false := by simp; omega
        have HPS : Hid (PS s l f (i + 1)) := hps.out.pass hc0 hn0
        clear hc0 hn0 hps kz
        go_wp2_with fail
        go_roundg (s.length + 1 - (i + 1))
        case measure => omega
        case rel => exact ⟨l, f, i + 1, rfl, by omega, by omega, rfl, by go_num, by omega, HPS, hno⟩
      · obtain ⟨p, hp⟩ : ∃ p, part s f i = p := ⟨_, rfl⟩
        have hx : (bs s).extract f i = bs p := by rw [ext_part, hp]
        have HP : Hid (part s f i = p) := hp
        have hpl : p.length ≤ 1000000 := by rw [← hp]; have := part_len s f i; omega
        have HPT : Hid ((s ++ [46])[i]? = some 46) := hpt
        clear hp hpt
        cases hb : intB p with
        | false =>
          by_cases e : i = s.length
          · subst e
            have HNO : Hid (prsD s = none) := hps.out.bad HPT.out (by rw [HP.out]; exact hb)
            have HK : Hid (wr.heap[w.heap.size]? = some (.cells #[.int .i64 0, .int .i64 0, .int .i64 0] 23)) := kz
            clear hps hno kz
            go_wp2_with fail
            refine (int_any _ p hpl).mono ?_
            rw [hb]
            rintro e w2 ⟨rfl, hb2⟩
            have KZ : w2.heap[w.heap.size]? = some (.cells #[.int .i64 0, .int .i64 0, .int .i64 0] 23) := (hb2.block _ (Array.getElem?_eq_some_iff.1 HK.out).1).trans HK.out
            obtain ⟨a0, a1, a2⟩ := blk3 KZ
            have gz := Lib.frozen_of_heap KZ
            have g0 := gz 0
            have g1 := gz 1
            have g2 := gz 2
            clear gz
            have HB2 : Hid (Below w.heap.size w w2) := bTrans HB0.out hb2
            clear hb2 KZ HK
            go_wp2_with fail
            exact bodyPost_ret (v := .tuple #[.agg #[.int .i64 0, .int .i64 0, .int .i64 0], .bool false]) (by simp [results, Tryd.results10, go_sem, a0, a1, a2]) rfl ⟨ret_vv (by rw [(pdn_none HNO.out).1, (pdn_none HNO.out).2]; rfl), (((HB2.out).setCell (p := ⟨w.heap.size, 0, none⟩) (Nat.le_refl _) _).setCell (p := ⟨w.heap.size, 1, none⟩) (Nat.le_refl _) _).setCell (p := ⟨w.heap.size, 2, none⟩) (Nat.le_refl _) _⟩
          · have he : ((i : Int) == (s.length : Int)) = false := by simp; omega
            have hlt : i < s.length := by omega
            obtain ⟨c0, hc0⟩ := at_lt hlt
            have hq : ∀ h : i < (bs s).size, (bs s)[i] = 46 := fun h => bs_get (by rw [hc0]; rw [at_in hc0] at *; exact HPT.out)
            clear hc0
            have HNO : Hid (prsD s = none) := hps.out.bad HPT.out (by rw [HP.out]; exact hb)
            have HK : Hid (wr.heap[w.heap.size]? = some (.cells #[.int .i64 0, .int .i64 0, .int .i64 0] 23)) := kz
            clear hps hno kz
            go_wp2_with fail
            refine (int_any _ p hpl).mono ?_
            rw [hb]
            rintro e w2 ⟨rfl, hb2⟩
            have KZ : w2.heap[w.heap.size]? = some (.cells #[.int .i64 0, .int .i64 0, .int .i64 0] 23) := (hb2.block _ (Array.getElem?_eq_some_iff.1 HK.out).1).trans HK.out
            obtain ⟨a0, a1, a2⟩ := blk3 KZ
            have gz := Lib.frozen_of_heap KZ
            have g0 := gz 0
            have g1 := gz 1
            have g2 := gz 2
            clear gz
            have HB2 : Hid (Below w.heap.size w w2) := bTrans HB0.out hb2
            clear hb2 KZ HK
            go_wp2_with fail
            exact bodyPost_ret (v := .tuple #[.agg #[.int .i64 0, .int .i64 0, .int .i64 0], .bool false]) (by simp [results, Tryd.results10, go_sem, a0, a1, a2]) rfl ⟨ret_vv (by rw [(pdn_none HNO.out).1, (pdn_none HNO.out).2]; rfl), (((HB2.out).setCell (p := ⟨w.heap.size, 0, none⟩) (Nat.le_refl _) _).setCell (p := ⟨w.heap.size, 1, none⟩) (Nat.le_refl _) _).setCell (p := ⟨w.heap.size, 2, none⟩) (Nat.le_refl _) _⟩
        | true =>
          by_cases e : i = s.length
          · subst e
            obtain ⟨hrg, hpe⟩ := intB_part hb
            have HPS : Hid (PS s (l ++ [intV p]) (s.length + 1) (s.length + 1)) := hps.out.next HPT.out hrg (by rw [HP.out]; exact hpe)
            have HNO : Hid (NO (w.alloc (.cells #[.int .i64 0, .int .i64 0, .int .i64 0] 23)) (.slice A l.length c) l wr) := hno
            clear hps hno kz hrg hpe
            go_wp2_with fail
            refine (int_any _ p hpl).mono ?_
            rw [hb]
            rintro e w2 ⟨rfl, hb2⟩
            have HN2 : Hid (NO (w.alloc (.cells #[.int .i64 0, .int .i64 0, .int .i64 0] 23)) (.slice A l.length c) l w2) := HNO.out.below hb2
            clear hb2 HNO
            go_wp2_with (at_builtin; refine appO rfl _ _ rfl [intV p] w2.heap.size (l.length + 1) 1 (HN2.out.below (bAlloc (bRefl _) _)) rfl rfl rfl rfl (by decide) (heap_new2 rfl) (by have := HLn.out; omega) ?_)
            intro g cap w3 hcw hgr
            have HN3 : Hid (NO (w.alloc (.cells #[.int .i64 0, .int .i64 0, .int .i64 0] 23)) (.slice (some ⟨g, 0, none⟩) (l.length + 1) cap) (l ++ [intV p]) w3) := hcw
            clear hcw hgr HN2
            go_wp2_with fail
            go_roundg (s.length + 1 - (s.length + 1))
            case measure => omega
            case rel => exact ⟨l ++ [intV p], s.length + 1, s.length + 1, rfl, by omega, by omega, by go_num, by go_num, by simp; omega, HPS, HN3⟩
          · have he : ((i : Int) == (s.length : Int)) = false := by simp; omega
            have hlt : i < s.length := by omega
            obtain ⟨c0, hc0⟩ := at_lt hlt
            have hq : ∀ h : i < (bs s).size, (bs s)[i] = 46 := fun h => bs_get (by rw [hc0]; rw [at_in hc0] at *; exact HPT.out)
            clear hc0
            obtain ⟨hrg, hpe⟩ := intB_part hb
            have HPS : Hid (PS s (l ++ [intV p]) (i + 1) (i + 1)) := hps.out.next HPT.out hrg (by rw [HP.out]; exact hpe)
            have HNO : Hid (NO (w.alloc (.cells #[.int .i64 0, .int .i64 0, .int .i64 0] 23)) (.slice A l.length c) l wr) := hno
            clear hps hno kz hrg hpe
            go_wp2_with fail
            refine (int_any _ p hpl).mono ?_
            rw [hb]
            rintro e w2 ⟨rfl, hb2⟩
            have HN2 : Hid (NO (w.alloc (.cells #[.int .i64 0, .int .i64 0, .int .i64 0] 23)) (.slice A l.length c) l w2) := HNO.out.below hb2
            clear hb2 HNO
            go_wp2_with (at_builtin; refine appO rfl _ _ rfl [intV p] w2.heap.size (l.length + 1) 1 (HN2.out.below (bAlloc (bRefl _) _)) rfl rfl rfl rfl (by decide) (heap_new2 rfl) (by have := HLn.out; omega) ?_)
            intro g cap w3 hcw hgr
            have HN3 : Hid (NO (w.alloc (.cells #[.int .i64 0, .int .i64 0, .int .i64 0] 23)) (.slice (some ⟨g, 0, none⟩) (l.length + 1) cap) (l ++ [intV p]) w3) := hcw
            clear hcw hgr HN2
            go_wp2_with fail
            go_roundg (s.length + 1 - (i + 1))
            case measure => omega
            case rel => exact ⟨l ++ [intV p], i + 1, i + 1, rfl, by omega, by omega, by go_num, by go_num, by simp; omega, HPS, HN3⟩
    · have ei : i = s.length + 1 := by omega
      subst ei
      have HK : Hid (wr.heap[w.heap.size]? = some (.cells #[.int .i64 0, .int .i64 0, .int .i64 0] 23)) := kz
      have KZ := kz
      obtain ⟨a0, a1, a2⟩ := blk3 KZ
      have gz := Lib.frozen_of_heap KZ
      have g0 := gz 0
      have g1 := gz 1
      have g2 := gz 2
      clear gz
      by_cases h3 : l.length = 3
      · obtain ⟨x, y, z, rfl⟩ : ∃ x y z, l = [x, y, z] := by
          match l, h3 with
          | [x, y, z], _ => exact ⟨x, y, z, rfl⟩
        have HY : Hid (prsD s = some ⟨x, y, z⟩) := hps.out.yes
        obtain ⟨g, rfl, hg1, hg2, q0, q1, q2⟩ := NO.three hno.out
        have hgz : ¬ g = w.heap.size := by simp at hg1; omega
        have hgz' : ¬ w.heap.size = g := by simp at hg1; omega
        clear hps hno kz KZ HK hg1
        go_wp2_with fail
        go_region_held3 (fun w' => w'.cell? ⟨g, 0, none⟩ = some (.int .i64 x) ∧ w'.cell? ⟨g, 1, none⟩ = some (.int .i64 y) ∧ w'.cell? ⟨g, 2, none⟩ = some (.int .i64 z)) (go_keep) (fail)
        all_goals
          go_wp2_with fail
          exact bodyPost_ret (v := .tuple #[.agg #[.int .i64 x, .int .i64 y, .int .i64 z], .bool true]) (by simp [results, Tryd.results10, go_sem, a0, a1, a2]) rfl ⟨ret_vv (by rw [(pdn_some HY.out).1, (pdn_some HY.out).2]), (by first | exact ((HB0.out.setCell (p := ⟨w.heap.size, 0, none⟩) (Nat.le_refl _) _).setCell (p := ⟨w.heap.size, 1, none⟩) (Nat.le_refl _) _).setCell (p := ⟨w.heap.size, 2, none⟩) (Nat.le_refl _) _ | exact ((HB0.out.drew.setCell (p := ⟨w.heap.size, 0, none⟩) (Nat.le_refl _) _).setCell (p := ⟨w.heap.size, 1, none⟩) (Nat.le_refl _) _).setCell (p := ⟨w.heap.size, 2, none⟩) (Nat.le_refl _) _)⟩
      · have h3' : ((l.length : Int) != 3) = true := by simp; omega
        have HNO : Hid (prsD s = none) := hps.out.no3 h3
        clear hps hno kz KZ HK h3
        go_wp2_with fail
        exact bodyPost_ret (v := .tuple #[.agg #[.int .i64 0, .int .i64 0, .int .i64 0], .bool false]) (by simp [results, Tryd.results10, go_sem, a0, a1, a2]) rfl ⟨ret_vv (by rw [(pdn_none HNO.out).1, (pdn_none HNO.out).2]; rfl), (((HB0.out).setCell (p := ⟨w.heap.size, 0, none⟩) (Nat.le_refl _) _).setCell (p := ⟨w.heap.size, 1, none⟩) (Nat.le_refl _) _).setCell (p := ⟨w.heap.size, 2, none⟩) (Nat.le_refl _) _⟩
end Go.Proofs.YtdgialhigibnlaaDoor
