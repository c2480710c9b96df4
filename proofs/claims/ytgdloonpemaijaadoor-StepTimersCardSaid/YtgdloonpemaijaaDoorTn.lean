/-
  Timers (StepTimers), walked. Condition: the table of the instructions is in the world.
-/
import Derived.Test.YtgdloonpemaijaaDoorTm
namespace Go.Proofs.YtgdloonpemaijaaDoor
open Go.RowKit
theorem Sl.ltA {α : Type} {sz : Nat} {R R' : World → Nat → Nat → α → Prop} {ok : Nat → Prop} {w : World} {v : Value} {l : List α} (h : Sl sz R ok w v l) (hR : ∀ b o x, R w b o x → R' w b o x) : Sl sz R' (fun b => b < w.heap.size) w v l := by
  obtain ⟨A, c, rfl, h1, h2, h⟩ := h
  exact ⟨A, c, rfl, h1, h2, h.imp id fun ⟨b, o, e, _, hb, hc⟩ => ⟨b, o, e, hb, hb, fun k x hx => hR _ _ _ (hc k x hx)⟩⟩
/-- What a world holds lies below the world's end. -/
theorem WldV.lt {w : World} {v : Value} {x : PWld} (h : WldV w v x) : WldA (fun b => b < w.heap.size) w v x := by
  obtain ⟨a, m, e, h1, h2⟩ := h
  exact ⟨a, m, e, h1.ltA fun _ _ _ ⟨⟨c, g1, g2⟩, g3⟩ => ⟨⟨c, g1, g2.ltA fun _ _ _ h => h⟩, g3⟩, h2.ltA fun _ _ _ ⟨g0, g1, g2, g3, g4, c, g5, g6⟩ => ⟨g0, g1, g2, g3, g4, c, g5, g6.ltA fun _ _ _ h => h⟩⟩
theorem new5 (W : World) (X0 X1 X2 X3 X4 : Obj) : (((((W.alloc X0).alloc X1).alloc X2).alloc X3).alloc X4).heap[W.heap.size]? = some X0 ∧ (((((W.alloc X0).alloc X1).alloc X2).alloc X3).alloc X4).heap[W.heap.size + 1]? = some X1 ∧
    (((((W.alloc X0).alloc X1).alloc X2).alloc X3).alloc X4).heap[W.heap.size + 1 + 1]? = some X2 ∧ (((((W.alloc X0).alloc X1).alloc X2).alloc X3).alloc X4).heap[W.heap.size + 1 + 1 + 1]? = some X3 ∧
    (((((W.alloc X0).alloc X1).alloc X2).alloc X3).alloc X4).heap[W.heap.size + 1 + 1 + 1 + 1]? = some X4 ∧ Below W.heap.size W (((((W.alloc X0).alloc X1).alloc X2).alloc X3).alloc X4) :=
  have h := fun i X e => allocs_at [X0, X1, X2, X3, X4] W i X e
  ⟨(h 0 _ rfl).1, (h 1 _ rfl).1, (h 2 _ rfl).1, (h 3 _ rfl).1, (h 4 _ rfl).1, (h 0 _ rfl).2⟩
theorem new4 (W : World) (X0 X1 X2 X3 : Obj) : ((((W.alloc X0).alloc X1).alloc X2).alloc X3).heap[W.heap.size]? = some X0 ∧ ((((W.alloc X0).alloc X1).alloc X2).alloc X3).heap[W.heap.size + 1]? = some X1 ∧
    ((((W.alloc X0).alloc X1).alloc X2).alloc X3).heap[W.heap.size + 1 + 1]? = some X2 ∧ ((((W.alloc X0).alloc X1).alloc X2).alloc X3).heap[W.heap.size + 1 + 1 + 1]? = some X3 ∧ Below W.heap.size W ((((W.alloc X0).alloc X1).alloc X2).alloc X3) :=
  have h := fun i X e => allocs_at [X0, X1, X2, X3] W i X e
  ⟨(h 0 _ rfl).1, (h 1 _ rfl).1, (h 2 _ rfl).1, (h 3 _ rfl).1, (h 0 _ rfl).2⟩
theorem run_mn (P : Program) (w : World) (ts : Array TypeId) (t : TypeId) (a b : Nat) : (Builtin.min_ ts t #[.int .i64 (a : Int), .int .i64 (b : Int)]).run P w = .ok (.int .i64 ((min a b : Nat) : Int)) w := by
  rw [run_min_int2]
  by_cases h : (b : Int) < a
  · rw [if_pos h, show min a b = b by omega]
  · rw [if_neg h, show min a b = a by omega]
theorem run_mn1 (P : Program) (w : World) (ts : Array TypeId) (t : TypeId) (a : Nat) : (Builtin.min_ ts t #[.int .i64 (a : Int), .int .i64 1]).run P w = .ok (.int .i64 ((min a 1 : Nat) : Int)) w := run_mn P w ts t a 1
attribute [local go_sem ↓] run_mn run_mn1
set_option maxHeartbeats 8000000 in
set_option maxRecDepth 100000 in
theorem tim_false (w : World) (n b : Nat) (ht : Tab w) (h1 : n < 11) (h2 : b < 13) : Calls Tryd.prog 11 #[.bool false, .int .i64 (n : Int), .int .i64 (b : Int)] w fun e w' => e = .returned (.bool true) ∧ Below w.heap.size w w' := by
  have HT := hid_mk ht
  have hn1 : ¬ (n : Int) < 0 := by omega
  have hn2 : ¬ (10 : Int) < (n : Int) := by omega
  have hn3 : ¬ (b : Int) < 0 := by omega
  have hn4 : ¬ (12 : Int) < (b : Int) := by omega
  clear ht
  go_enter Tryd.func11, Tryd.ntmps11
  go_wp2_with fail
  have hc0 : Code anyB (w.alloc (.cells #[.int .i64 5, .int .i64 0, .int .i64 1, .int .i64 1, .int .i64 9, .int .i64 0, .int .i64 6, .int .i64 0] 78)) (.slice (some ⟨w.heap.size, 0, none⟩) 4 4) (tcode false) := (CO.lit w (tcode false) (by decide)).cd (by decide)
  have hA := new5 w (.cells #[.int .i64 5, .int .i64 0, .int .i64 1, .int .i64 1, .int .i64 9, .int .i64 0, .int .i64 6, .int .i64 0] 78) (.cells #[.int .i64 0, .slice (some ⟨w.heap.size, 0, none⟩) 4 4] 81) (.cells #[.int .i64 0] 3) (.cells #[.slice (some ⟨w.heap.size + 1 + 1, 0, none⟩) 1 1, .int .i64 0, .int .i64 0, .bool true] 83) (.cells #[.slice (some ⟨w.heap.size + 1, 0, none⟩) 1 1, .slice (some ⟨w.heap.size + 1 + 1 + 1, 0, none⟩) 1 1, .slice none 0 0, .int .i64 9] 26)
  have hc1 : Code anyB (((((w.alloc (.cells #[.int .i64 5, .int .i64 0, .int .i64 1, .int .i64 1, .int .i64 9, .int .i64 0, .int .i64 6, .int .i64 0] 78)).alloc (.cells #[.int .i64 0, .slice (some ⟨w.heap.size, 0, none⟩) 4 4] 81)).alloc (.cells #[.int .i64 0] 3)).alloc (.cells #[.slice (some ⟨w.heap.size + 1 + 1, 0, none⟩) 1 1, .int .i64 0, .int .i64 0, .bool true] 83)).alloc (.cells #[.slice (some ⟨w.heap.size + 1, 0, none⟩) 1 1, .slice (some ⟨w.heap.size + 1 + 1 + 1, 0, none⟩) 1 1, .slice none 0 0, .int .i64 9] 26)) (.slice (some ⟨w.heap.size, 0, none⟩) 4 4) (tcode false) := hc0.below (bAlloc (bAlloc (bAlloc (bAlloc (bRefl _) _) _) _) _)
  clear hc0
  generalize (((((w.alloc (.cells #[.int .i64 5, .int .i64 0, .int .i64 1, .int .i64 1, .int .i64 9, .int .i64 0, .int .i64 6, .int .i64 0] 78)).alloc (.cells #[.int .i64 0, .slice (some ⟨w.heap.size, 0, none⟩) 4 4] 81)).alloc (.cells #[.int .i64 0] 3)).alloc (.cells #[.slice (some ⟨w.heap.size + 1 + 1, 0, none⟩) 1 1, .int .i64 0, .int .i64 0, .bool true] 83)).alloc (.cells #[.slice (some ⟨w.heap.size + 1, 0, none⟩) 1 1, .slice (some ⟨w.heap.size + 1 + 1 + 1, 0, none⟩) 1 1, .slice none 0 0, .int .i64 9] 26)) = w2 at hA hc1 ⊢
  have HP2 : Hid (PrgV w2 (.agg #[.slice (some ⟨w.heap.size + 1, 0, none⟩) 1 1, .slice (some ⟨w.heap.size + 1 + 1 + 1, 0, none⟩) 1 1, .slice none 0 0, .int .i64 9]) (timP false)) := tim_prg hc1 hA.2.1 hA.2.2.1 hA.2.2.2.1
  have HB2 := hid_mk hA.2.2.2.2.2
  have hbx := hA.2.2.2.2.1
  refine (start_yes w2 _ (timP false) (HT.out.below HB2.out) HP2.out (tim_small false) (tim_fc false)).mono ?_
  rw [tim_start]
  rintro e w3 ⟨a3, m3, lo3, hi3, rfl, hwn3, hb3⟩
  obtain ⟨A3, c3, rfl⟩ := hwn3.acts.form
  obtain ⟨M3, d3, rfl, _⟩ := hwn3.mail.form
  have hv3 := (hwn3.wld (t_f false h2 (show 0 < 11 by omega)).sm).lt
  have hk0 := boxAt hbx hb3
  have HP3 := hid_mk (HP2.out.below hb3)
  have HB3 := hid_mk (bTrans HB2.out hb3)
  obtain ⟨p0, p1, p2, p3⟩ := blk4 hk0
  have z1 : w.heap.size + 1 + 1 + 1 + 1 < w3.heap.size := (Array.getElem?_eq_some_iff.1 hk0).1
  have HK0 := hid_mk hk0
  have HB := hid_mk h2
  have HN := hid_mk h1
  clear hA hbx hc1 hwn3 hk0 hb3
  have HS0 : Hid (TN w3 (twd false 0) (w3.alloc (.cells #[.slice A3 1 c3, .slice M3 0 d3, .int .i64 0, .int .i64 0, .int .i64 0, .int .i64 0] 44))) := ⟨⟨_, _, heap_new _ _, (hv3.below (bAlloc (bRefl _) _)).weak fun b hb => by have hb' : b < w3.heap.size := hb; show b ≠ _; omega⟩, bAlloc (bRefl _) _⟩
  clear hv3
  go_wp2
  go_loopg [11, 12, 13, 14] n (fun g i11 i12 i13 i14 wr => ∃ k : Nat, g = n - k ∧ k ≤ n ∧ i11 = .int .i64 (tdn false b k : Int) ∧ i12 = .int .i64 (k : Int) ∧ TN w3 (twd false (tdn false b k)) wr)
  case atStart => exact ⟨0, rfl, by omega, by rfl, rfl, HS0.out⟩
  case round =>
    obtain ⟨k, rfl, hk, rfl, rfl, tn⟩ := hrel
    have hdk := tdn_le false b k
    have HF := hid_mk (t_f false HB.out (show tdn false b k < 11 by have := HN.out; omega))
    have HTN := hid_mk tn
    have HL := hid_mk tn.low
    obtain ⟨am, mm, hbx, hwa⟩ := tn.bw
    have hwa' := hwa
    obtain ⟨a0, m0, he0, hac, hml⟩ := hwa'
    simp only [Value.agg.injEq, Array.mk.injEq, List.cons.injEq, and_true] at he0
    obtain ⟨rfl, rfl⟩ := he0
    obtain ⟨Ak, ck, rfl, _⟩ := hac.form
    obtain ⟨Mk, dk, rfl, _⟩ := hml.form
    have HK := hid_mk (boxAt HK0.out HL.out)
    obtain ⟨p0, p1, p2, p3⟩ := blk4 HK.out
    obtain ⟨o0, o1, o2, o3, o4, o5⟩ := blk6 hbx
    have fk : ∀ o, wr.frozen? ⟨w3.heap.size, o, none⟩ = false := fun o => heap_frozen hbx
    have z3 : w3.heap.size < wr.heap.size := (Array.getElem?_eq_some_iff.1 hbx).1
    have z0 : w.heap.size + 1 + 1 + 1 + 1 < wr.heap.size := by omega
    have HWV := hid_mk hwa.wld
    have HPR := hid_mk (HP3.out.below HL.out)
    have HT9 := hid_mk (HT.out.below (bTrans HB3.out HL.out))
    have HBX := hid_mk hbx
    have HDK := hid_mk hdk
    have HAC := hid_mk hac
    clear tn hwa hac hml hbx hdk
    by_cases hlt : k < n
    · have hki : (k : Int) < n := by omega
      have HLT := hid_mk hlt
      clear hlt
      rcases tdn_ok false b k with ⟨ho, hd⟩ | ⟨ho, hd⟩
      · have HO := hid_mk (HF.out.is.trans ho)
        have HG := hid_mk (HF.out.go ho)
        have HD := hid_mk hd
        clear ho hd
        generalize hdd : tdn false b k = d at *
        have HDD := hid_mk hdd
        clear hdd
        go_wp2_with fail
        refine (do_yes _ _ _ (timP false) (tbu b) (twd false d) evT HT9.out HPR.out HWV.out HF.out.sm HO.out).mono ?_
        rw [HG.out]
        rintro e w4 ⟨v4, rfl, hv4, hb4⟩
        obtain ⟨a4, m4, rfl, ha4, hm4⟩ := hv4
        obtain ⟨A4, c4, rfl, _⟩ := ha4.form
        obtain ⟨M4, d4, rfl, _⟩ := hm4.form
        have hk4 := boxAt HBX.out hb4
        have fk4 : ∀ o, w4.frozen? ⟨w3.heap.size, o, none⟩ = false := fun o => heap_frozen hk4
        clear o0 o1 o2 o3 o4 o5 p0 p1 p2 p3
        obtain ⟨o0, o1, o2, o3, o4, o5⟩ := blk6 hk4
        have z4 : w3.heap.size < w4.heap.size := (Array.getElem?_eq_some_iff.1 hk4).1
        have HN4 := hid_mk (HTN.out.next (x' := twd false (d + 1)) hb4 (WldA.weak (ok := fun b => wr.heap.size ≤ b) ⟨_, _, rfl, ha4, hm4⟩ (fun b hb => by have hb' : wr.heap.size ≤ b := hb; show b ≠ _; omega)))
        clear ha4 hm4 hb4 hk4
        have hdb : d < 11 := by have := HDK.out; have := HN.out; have := HLT.out; omega
        have hlt' := HLT.out
        go_wp2
        go_roundg (n - (k + 1))
        case measure => have := HLT.out; omega
        case rel => exact ⟨k + 1, rfl, by have := HLT.out; omega, by rw [HD.out]; go_num, by go_num, by rw [HD.out]; exact HN4.out.below (bAlloc (bRefl _) _)⟩
      · have HO := hid_mk (HF.out.is.trans ho)
        have HD := hid_mk hd
        clear ho hd
        go_wp2_with fail
        refine (do_no _ _ _ (timP false) (tbu b) (twd false (tdn false b k)) evT HT9.out HPR.out HWV.out HO.out).mono ?_
        rintro e w4 ⟨rfl, hb4⟩
        have HN4 := hid_mk (HTN.out.below hb4)
        clear o0 o1 o2 o3 o4 o5 p0 p1 p2 p3
        go_wp2
        go_roundg (n - (k + 1))
        case measure => have := HLT.out; omega
        case rel => exact ⟨k + 1, rfl, by have := HLT.out; omega, by rw [HD.out], by go_num, by rw [HD.out]; exact HN4.out.below (bAlloc (bRefl _) _)⟩
    · obtain rfl : k = n := by omega
      clear hlt
      have hq : min (min k b) 1 = tdn false b k := by unfold tdn; simp
      generalize tdn false b k = d at *
      by_cases hd0 : d = 0
      · subst hd0
        have u1 : (twd false 0).acts.length = 1 := rfl
        have u3 : (twd false 0).used.time = 0 := rfl
        obtain ⟨bA, oA, xA, vA, rfl, hxA, hzA, s0, s1, s2, s3, s4, hvA⟩ := HAC.out.cell (bRefl wr) (k := 0) (show 0 < 1 by decide)
        have hxA' : xA = ⟨[0], true, 0, 0, 0⟩ := (Option.some.inj hxA).symm.trans rfl
        subst hxA'
        obtain ⟨VA, cA, rfl, _⟩ := hvA.form
        have HVA := hid_mk hvA
        rw [Nat.zero_mul, Nat.add_zero] at s0 s1 s2 s3 s4
        have e9 : eqB ([0] : List Int) [0] = true := eqB_self _
        have hBI : Hid (∀ X, Below wr.heap.size wr (wr.alloc X)) := fun X => bAlloc (bRefl _) _
        have hI9 : Hid (Ints anyB (wr.alloc (.cells #[.int .i64 0] 3)) (.slice (some ⟨wr.heap.size, 0, none⟩) 1 1) [0]) := ints_lit (heap_new _ _)
        clear hxA hvA p0 p1 p2 p3
        go_wp2_with (first
          | (go_at_call 43; refine (alikeI _ _ _ _ _ [0] [0] (HVA.out.below (hBI.out _)) hI9.out).mono ?_; rw [e9]; rintro e w10 ⟨rfl, n10, h10⟩; have hb10 : Below wr.heap.size wr w10 := (by rw [h10]; exact bDrewN (hBI.out _) n10); have hc10 := bcell hb10; have HB10 := hid_mk hb10; clear h10 hb10)
          | fail)
        refine (swake_any _ (HT9.out.below HB10.out)).mono ?_
        rintro e w12 ⟨rfl, hb12⟩
        go_wp2
        go_ret
        exact ⟨rfl, bTrans (bTrans HB3.out HL.out) (bTrans HB10.out hb12)⟩
      · have hi0 : ¬ (d : Int) = 0 := by omega
        have hbq : ((d : Int) == 0) = false := by simpa using hi0
        have u1 : (twd false d).acts.length = 1 := rfl
        have u3 : (twd false d).used.time = (d : Int) := rfl
        obtain ⟨bA, oA, xA, vA, rfl, hxA, hzA, s0, s1, s2, s3, s4, hvA⟩ := HAC.out.cell (bRefl wr) (k := 0) (show 0 < 1 by decide)
        have hxA' : xA = ⟨[(d : Int)], false, 0, 0, 0⟩ := (Option.some.inj hxA).symm.trans (by rw [show decide (d = 0) = false from decide_eq_false hd0]; rfl)
        subst hxA'
        obtain ⟨VA, cA, rfl, _⟩ := hvA.form
        have HVA := hid_mk hvA
        rw [Nat.zero_mul, Nat.add_zero] at s0 s1 s2 s3 s4
        have e9 : eqB ([(d : Int)] : List Int) [(d : Int)] = true := eqB_self _
        have hBI : Hid (∀ X, Below wr.heap.size wr (wr.alloc X)) := fun X => bAlloc (bRefl _) _
        have hI9 : Hid (Ints anyB (wr.alloc (.cells #[.int .i64 (d : Int)] 3)) (.slice (some ⟨wr.heap.size, 0, none⟩) 1 1) [(d : Int)]) := ints_lit (heap_new _ _)
        clear hxA hvA p0 p1 p2 p3
        go_wp2_with (first
          | (go_at_call 43; refine (alikeI _ _ _ _ _ [(d : Int)] [(d : Int)] (HVA.out.below (hBI.out _)) hI9.out).mono ?_; rw [e9]; rintro e w10 ⟨rfl, n10, h10⟩; have hb10 : Below wr.heap.size wr w10 := (by rw [h10]; exact bDrewN (hBI.out _) n10); have hc10 := bcell hb10; have HB10 := hid_mk hb10; clear h10 hb10)
          | fail)
        refine (swake_any _ (HT9.out.below HB10.out)).mono ?_
        rintro e w12 ⟨rfl, hb12⟩
        go_wp2
        go_ret
        exact ⟨rfl, bTrans (bTrans HB3.out HL.out) (bTrans HB10.out hb12)⟩
set_option maxHeartbeats 8000000 in
set_option maxRecDepth 100000 in
theorem tim_true (w : World) (n b : Nat) (ht : Tab w) (h1 : n < 11) (h2 : b < 13) : Calls Tryd.prog 11 #[.bool true, .int .i64 (n : Int), .int .i64 (b : Int)] w fun e w' => e = .returned (.bool true) ∧ Below w.heap.size w w' := by
  have HT := hid_mk ht
  have hn1 : ¬ (n : Int) < 0 := by omega
  have hn2 : ¬ (10 : Int) < (n : Int) := by omega
  have hn3 : ¬ (b : Int) < 0 := by omega
  have hn4 : ¬ (12 : Int) < (b : Int) := by omega
  clear ht
  have HCO : Hid (CO w (.slice (some ⟨w.heap.size, 0, none⟩) 4 4) (tcode false) ((w.alloc (.cells #[.int .i64 5, .int .i64 0, .int .i64 1, .int .i64 1, .int .i64 9, .int .i64 0, .int .i64 6, .int .i64 0] 78)).alloc (.cells #[.int .i64 23, .int .i64 0] 78))) := (CO.lit w (tcode false) (by decide)).below (bAlloc (bRefl _) _)
  have HCN : Hid (((w.alloc (.cells #[.int .i64 5, .int .i64 0, .int .i64 1, .int .i64 1, .int .i64 9, .int .i64 0, .int .i64 6, .int .i64 0] 78)).alloc (.cells #[.int .i64 23, .int .i64 0] 78)).heap[w.heap.size + 1]? = some (.cells #[.int .i64 23, .int .i64 0] 78)) := by have h := heap_new (w.alloc (.cells #[.int .i64 5, .int .i64 0, .int .i64 1, .int .i64 1, .int .i64 9, .int .i64 0, .int .i64 6, .int .i64 0] 78)) (.cells #[.int .i64 23, .int .i64 0] 78); rw [show (w.alloc (.cells #[.int .i64 5, .int .i64 0, .int .i64 1, .int .i64 1, .int .i64 9, .int .i64 0, .int .i64 6, .int .i64 0] 78)).heap.size = w.heap.size + 1 by simp] at h; exact h
  go_enter Tryd.func11, Tryd.ntmps11
  go_wp2_with (at_builtin; refine appC (code := tcode false) rfl _ _ rfl [⟨23, 0⟩] (w.heap.size + 1) 5 1 HCO.out rfl rfl rfl rfl (by decide) HCN.out (by decide) ?_)
  intro g cap w1 hco hgr
  have HCO := hid_mk hco
  clear hco hgr
  go_wp2_with fail
  have hA := new4 w1 (.cells #[.int .i64 0, .slice (some ⟨g, 0, none⟩) 5 cap] 81) (.cells #[.int .i64 0] 3) (.cells #[.slice (some ⟨w1.heap.size + 1, 0, none⟩) 1 1, .int .i64 0, .int .i64 0, .bool true] 83) (.cells #[.slice (some ⟨w1.heap.size, 0, none⟩) 1 1, .slice (some ⟨w1.heap.size + 1 + 1, 0, none⟩) 1 1, .slice none 0 0, .int .i64 9] 26)
  have hc1 : Code anyB ((((w1.alloc (.cells #[.int .i64 0, .slice (some ⟨g, 0, none⟩) 5 cap] 81)).alloc (.cells #[.int .i64 0] 3)).alloc (.cells #[.slice (some ⟨w1.heap.size + 1, 0, none⟩) 1 1, .int .i64 0, .int .i64 0, .bool true] 83)).alloc (.cells #[.slice (some ⟨w1.heap.size, 0, none⟩) 1 1, .slice (some ⟨w1.heap.size + 1 + 1, 0, none⟩) 1 1, .slice none 0 0, .int .i64 9] 26)) (.slice (some ⟨g, 0, none⟩) 5 cap) (tcode true) := (show Code anyB w1 (.slice (some ⟨g, 0, none⟩) 5 cap) (tcode true) from HCO.out.cd (by decide)).below (bAlloc (bAlloc (bAlloc (bAlloc (bRefl _) _) _) _) _)
  generalize ((((w1.alloc (.cells #[.int .i64 0, .slice (some ⟨g, 0, none⟩) 5 cap] 81)).alloc (.cells #[.int .i64 0] 3)).alloc (.cells #[.slice (some ⟨w1.heap.size + 1, 0, none⟩) 1 1, .int .i64 0, .int .i64 0, .bool true] 83)).alloc (.cells #[.slice (some ⟨w1.heap.size, 0, none⟩) 1 1, .slice (some ⟨w1.heap.size + 1 + 1, 0, none⟩) 1 1, .slice none 0 0, .int .i64 9] 26)) = w2 at hA hc1 ⊢
  have HP2 : Hid (PrgV w2 (.agg #[.slice (some ⟨w1.heap.size, 0, none⟩) 1 1, .slice (some ⟨w1.heap.size + 1 + 1, 0, none⟩) 1 1, .slice none 0 0, .int .i64 9]) (timP true)) := tim_prg hc1 hA.1 hA.2.1 hA.2.2.1
  have HB2 := hid_mk (bTrans HCO.out.low hA.2.2.2.2)
  have hbx := hA.2.2.2.1
  refine (start_yes w2 _ (timP true) (HT.out.below HB2.out) HP2.out (tim_small true) (tim_fc true)).mono ?_
  rw [tim_start]
  rintro e w3 ⟨a3, m3, lo3, hi3, rfl, hwn3, hb3⟩
  obtain ⟨A3, c3, rfl⟩ := hwn3.acts.form
  obtain ⟨M3, d3, rfl, _⟩ := hwn3.mail.form
  have hv3 := (hwn3.wld (t_f true h2 (show 0 < 11 by omega)).sm).lt
  have hk0 := boxAt hbx hb3
  have HP3 := hid_mk (HP2.out.below hb3)
  have HB3 := hid_mk (bTrans HB2.out hb3)
  obtain ⟨p0, p1, p2, p3⟩ := blk4 hk0
  have z1 : w1.heap.size + 1 + 1 + 1 < w3.heap.size := (Array.getElem?_eq_some_iff.1 hk0).1
  have HK0 := hid_mk hk0
  have HB := hid_mk h2
  have HN := hid_mk h1
  clear hA hbx hc1 hwn3 hk0 hb3
  have HS0 : Hid (TN w3 (twd true 0) (w3.alloc (.cells #[.slice A3 1 c3, .slice M3 0 d3, .int .i64 0, .int .i64 0, .int .i64 0, .int .i64 0] 44))) := ⟨⟨_, _, heap_new _ _, (hv3.below (bAlloc (bRefl _) _)).weak fun b hb => by have hb' : b < w3.heap.size := hb; show b ≠ _; omega⟩, bAlloc (bRefl _) _⟩
  clear hv3
  go_wp2
  go_loopg [11, 12, 13, 14] n (fun g i11 i12 i13 i14 wr => ∃ k : Nat, g = n - k ∧ k ≤ n ∧ i11 = .int .i64 (tdn true b k : Int) ∧ i12 = .int .i64 (k : Int) ∧ TN w3 (twd true (tdn true b k)) wr)
  case atStart => exact ⟨0, rfl, by omega, by unfold tdn; simp, rfl, by rw [show tdn true b 0 = 0 by unfold tdn; simp]; exact HS0.out⟩
  case round =>
    obtain ⟨k, rfl, hk, rfl, rfl, tn⟩ := hrel
    have hdk := tdn_le true b k
    have HF := hid_mk (t_f true HB.out (show tdn true b k < 11 by have := HN.out; omega))
    have HTN := hid_mk tn
    have HL := hid_mk tn.low
    obtain ⟨am, mm, hbx, hwa⟩ := tn.bw
    have hwa' := hwa
    obtain ⟨a0, m0, he0, hac, hml⟩ := hwa'
    simp only [Value.agg.injEq, Array.mk.injEq, List.cons.injEq, and_true] at he0
    obtain ⟨rfl, rfl⟩ := he0
    obtain ⟨Ak, ck, rfl, _⟩ := hac.form
    obtain ⟨Mk, dk, rfl, _⟩ := hml.form
    have HK := hid_mk (boxAt HK0.out HL.out)
    obtain ⟨p0, p1, p2, p3⟩ := blk4 HK.out
    obtain ⟨o0, o1, o2, o3, o4, o5⟩ := blk6 hbx
    have fk : ∀ o, wr.frozen? ⟨w3.heap.size, o, none⟩ = false := fun o => heap_frozen hbx
    have z3 : w3.heap.size < wr.heap.size := (Array.getElem?_eq_some_iff.1 hbx).1
    have z0 : w1.heap.size + 1 + 1 + 1 < wr.heap.size := by omega
    have HWV := hid_mk hwa.wld
    have HPR := hid_mk (HP3.out.below HL.out)
    have HT9 := hid_mk (HT.out.below (bTrans HB3.out HL.out))
    have HBX := hid_mk hbx
    have HDK := hid_mk hdk
    have HAC := hid_mk hac
    clear tn hwa hac hml hbx hdk
    by_cases hlt : k < n
    · have hki : (k : Int) < n := by omega
      have HLT := hid_mk hlt
      clear hlt
      rcases tdn_ok true b k with ⟨ho, hd⟩ | ⟨ho, hd⟩
      · have HO := hid_mk (HF.out.is.trans ho)
        have HG := hid_mk (HF.out.go ho)
        have HD := hid_mk hd
        clear ho hd
        generalize hdd : tdn true b k = d at *
        have HDD := hid_mk hdd
        clear hdd
        go_wp2_with fail
        refine (do_yes _ _ _ (timP true) (tbu b) (twd true d) evT HT9.out HPR.out HWV.out HF.out.sm HO.out).mono ?_
        rw [HG.out]
        rintro e w4 ⟨v4, rfl, hv4, hb4⟩
        obtain ⟨a4, m4, rfl, ha4, hm4⟩ := hv4
        obtain ⟨A4, c4, rfl, _⟩ := ha4.form
        obtain ⟨M4, d4, rfl, _⟩ := hm4.form
        have hk4 := boxAt HBX.out hb4
        have fk4 : ∀ o, w4.frozen? ⟨w3.heap.size, o, none⟩ = false := fun o => heap_frozen hk4
        clear o0 o1 o2 o3 o4 o5 p0 p1 p2 p3
        obtain ⟨o0, o1, o2, o3, o4, o5⟩ := blk6 hk4
        have z4 : w3.heap.size < w4.heap.size := (Array.getElem?_eq_some_iff.1 hk4).1
        have HN4 := hid_mk (HTN.out.next (x' := twd true (d + 1)) hb4 (WldA.weak (ok := fun b => wr.heap.size ≤ b) ⟨_, _, rfl, ha4, hm4⟩ (fun b hb => by have hb' : wr.heap.size ≤ b := hb; show b ≠ _; omega)))
        clear ha4 hm4 hb4 hk4
        have hdb : d < 11 := by have := HDK.out; have := HN.out; have := HLT.out; omega
        have hlt' := HLT.out
        go_wp2
        go_roundg (n - (k + 1))
        case measure => have := HLT.out; omega
        case rel => exact ⟨k + 1, rfl, by have := HLT.out; omega, by rw [HD.out]; go_num, by go_num, by rw [HD.out]; exact HN4.out.below (bAlloc (bRefl _) _)⟩
      · have HO := hid_mk (HF.out.is.trans ho)
        have HD := hid_mk hd
        clear ho hd
        go_wp2_with fail
        refine (do_no _ _ _ (timP true) (tbu b) (twd true (tdn true b k)) evT HT9.out HPR.out HWV.out HO.out).mono ?_
        rintro e w4 ⟨rfl, hb4⟩
        have HN4 := hid_mk (HTN.out.below hb4)
        clear o0 o1 o2 o3 o4 o5 p0 p1 p2 p3
        go_wp2
        go_roundg (n - (k + 1))
        case measure => have := HLT.out; omega
        case rel => exact ⟨k + 1, rfl, by have := HLT.out; omega, by rw [HD.out], by go_num, by rw [HD.out]; exact HN4.out.below (bAlloc (bRefl _) _)⟩
    · obtain rfl : k = n := by omega
      clear hlt
      have hq : min k b = tdn true b k := by unfold tdn; simp
      generalize tdn true b k = d at *
      have u1 : (twd true d).acts.length = 1 := rfl
      have u3 : (twd true d).used.time = (d : Int) := rfl
      obtain ⟨bA, oA, xA, vA, rfl, hxA, hzA, s0, s1, s2, s3, s4, hvA⟩ := HAC.out.cell (bRefl wr) (k := 0) (show 0 < 1 by decide)
      have hxA' : xA = ⟨[(d : Int)], true, 0, 0, 0⟩ := (Option.some.inj hxA).symm.trans rfl
      subst hxA'
      obtain ⟨VA, cA, rfl, _⟩ := hvA.form
      have HVA := hid_mk hvA
      rw [Nat.zero_mul, Nat.add_zero] at s0 s1 s2 s3 s4
      have e9 : eqB ([(d : Int)] : List Int) [(d : Int)] = true := eqB_self _
      have hBI : Hid (∀ X, Below wr.heap.size wr (wr.alloc X)) := fun X => bAlloc (bRefl _) _
      have hI9 : Hid (Ints anyB (wr.alloc (.cells #[.int .i64 (d : Int)] 3)) (.slice (some ⟨wr.heap.size, 0, none⟩) 1 1) [(d : Int)]) := ints_lit (heap_new _ _)
      clear hxA hvA p0 p1 p2 p3
      go_wp2_with (first
        | (go_at_call 43; refine (alikeI _ _ _ _ _ [(d : Int)] [(d : Int)] (HVA.out.below (hBI.out _)) hI9.out).mono ?_; rw [e9]; rintro e w10 ⟨rfl, n10, h10⟩; have hb10 : Below wr.heap.size wr w10 := (by rw [h10]; exact bDrewN (hBI.out _) n10); have hc10 := bcell hb10; have HB10 := hid_mk hb10; clear h10 hb10)
        | fail)
      refine (swake_any _ (HT9.out.below HB10.out)).mono ?_
      rintro e w12 ⟨rfl, hb12⟩
      go_wp2
      go_ret
      exact ⟨rfl, bTrans (bTrans HB3.out HL.out) (bTrans HB10.out hb12)⟩
set_option maxHeartbeats 4000000 in
theorem tim_out (w : World) (a : Bool) (n b : Int) (ht : Tab w) (h : n < 0 ∨ 10 < n ∨ b < 0 ∨ 12 < b) : Calls Tryd.prog 11 #[.bool a, .int .i64 n, .int .i64 b] w fun e w' => e = .returned (.bool true) ∧ Below w.heap.size w w' := by
  have HT := hid_mk ht
  clear ht
  by_cases h1 : n < 0
  · clear h
    go_enter Tryd.func11, Tryd.ntmps11
    go_wp2_with fail
    refine (swake_any _ HT.out).mono ?_
    rintro e w2 ⟨rfl, hb2⟩
    go_wp2
    go_ret
    exact ⟨rfl, hb2⟩
  by_cases h2 : 10 < n
  · clear h
    go_enter Tryd.func11, Tryd.ntmps11
    go_wp2_with fail
    refine (swake_any _ HT.out).mono ?_
    rintro e w2 ⟨rfl, hb2⟩
    go_wp2
    go_ret
    exact ⟨rfl, hb2⟩
  by_cases h3 : b < 0
  · clear h
    go_enter Tryd.func11, Tryd.ntmps11
    go_wp2_with fail
    refine (swake_any _ HT.out).mono ?_
    rintro e w2 ⟨rfl, hb2⟩
    go_wp2
    go_ret
    exact ⟨rfl, hb2⟩
  have h4 : 12 < b := by omega
  clear h
  go_enter Tryd.func11, Tryd.ntmps11
  go_wp2_with fail
  refine (swake_any _ HT.out).mono ?_
  rintro e w2 ⟨rfl, hb2⟩
  go_wp2
  go_ret
  exact ⟨rfl, hb2⟩
theorem stimers_any (w : World) (a : Bool) (n b : Int) (ht : Tab w) : Calls Tryd.prog 11 #[.bool a, .int .i64 n, .int .i64 b] w fun e w' => e = .returned (.bool true) ∧ Below w.heap.size w w' := by
  by_cases h : n < 0 ∨ 10 < n ∨ b < 0 ∨ 12 < b
  · exact tim_out w a n b ht h
  · obtain ⟨i, rfl⟩ := Int.eq_ofNat_of_zero_le (show 0 ≤ n by omega)
    obtain ⟨j, rfl⟩ := Int.eq_ofNat_of_zero_le (show 0 ≤ b by omega)
    cases a
    · exact tim_false w i j ht (by omega) (by omega)
    · exact tim_true w i j ht (by omega) (by omega)
end Go.Proofs.YtgdloonpemaijaaDoor
