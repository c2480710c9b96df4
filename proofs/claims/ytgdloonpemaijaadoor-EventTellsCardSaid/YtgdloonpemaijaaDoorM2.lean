/-
  The order of names, '==' of them, and two notes alike: what Less, Equal, SameNote and the reference's answer. No conditions.
-/
import Derived.Test.YtgdloonpemaijaaDoorM1
namespace Go.Proofs.YtgdloonpemaijaaDoor
open Go.RowKit
attribute [local go_sem ↓] Go.wp_at_zero Go.wp_at_succ
theorem nan_any (a : Int) (w : World) : Calls Tryd.prog 169 #[.int .i64 a] w fun e w' => e = .returned (.bool false) ∧ w' = w := by
  go_enter Tryd.func169, Tryd.ntmps169
  go_wp2
  go_ret
  exact ⟨by simp, rfl⟩
theorem cmp_any (a b : Int) (w : World) : Calls Tryd.prog 163 #[.int .i64 a, .int .i64 b] w fun e w' => e = .returned (.int .i64 (cmpI a b)) ∧ w' = w := by
  by_cases h1 : a < b
  · have e : cmpI a b = -1 := by unfold cmpI; rw [if_pos h1]
    rw [e]
    go_enter Tryd.func163, Tryd.ntmps163
    go_wp2_with (go_at_call 169; refine (nan_any _ _).mono ?_; rintro e w' ⟨rfl, hw⟩; replace hw := hw.symm; subst hw)
    go_ret
    exact ⟨rfl, rfl⟩
  · by_cases h2 : b < a
    · have e : cmpI a b = 1 := by unfold cmpI; rw [if_neg h1, if_pos h2]
      rw [e]
      go_enter Tryd.func163, Tryd.ntmps163
      go_wp2_with (go_at_call 169; refine (nan_any _ _).mono ?_; rintro e w' ⟨rfl, hw⟩; replace hw := hw.symm; subst hw)
      go_ret
      exact ⟨rfl, rfl⟩
    · have e : cmpI a b = 0 := by unfold cmpI; rw [if_neg h1, if_neg h2]
      rw [e]
      go_enter Tryd.func163, Tryd.ntmps163
      go_wp2_with (go_at_call 169; refine (nan_any _ _).mono ?_; rintro e w' ⟨rfl, hw⟩; replace hw := hw.symm; subst hw)
      go_ret
      exact ⟨rfl, rfl⟩
theorem or3_a {a b c : Int} (h : a ≠ 0) : or3 a b c = a := by unfold or3; rw [if_pos h]
theorem or3_b {a b c : Int} (ha : a = 0) (h : b ≠ 0) : or3 a b c = b := by unfold or3; rw [if_neg (by simp [ha]), if_pos h]
theorem or3_c {a b c : Int} (ha : a = 0) (hb : b = 0) : or3 a b c = c := by unfold or3; rw [if_neg (by simp [ha]), if_neg (by simp [hb])]
set_option maxHeartbeats 1000000 in
theorem or_any (a b c : Int) (w : World) (g : Nat) (h0 : w.cell? ⟨g, 0, none⟩ = some (.int .i64 a)) (h1 : w.cell? ⟨g, 1, none⟩ = some (.int .i64 b)) (h2 : w.cell? ⟨g, 2, none⟩ = some (.int .i64 c)) :
    Calls Tryd.prog 162 #[.slice (some ⟨g, 0, none⟩) 3 3] w fun e w' => e = .returned (.int .i64 (or3 a b c)) ∧ w' = w := by
  go_enter Tryd.func162, Tryd.ntmps162
  go_wp2
  go_loopg [5, 8] 3 (fun n i5 i8 wr => ∃ k : Nat, n = 3 - k ∧ k ≤ 3 ∧ i8 = .int .i64 k ∧ wr = w ∧ Hid (1 ≤ k → a = 0) ∧ Hid (2 ≤ k → b = 0) ∧ Hid (3 ≤ k → c = 0))
  case atStart => exact ⟨0, rfl, by omega, rfl, rfl, fun h => by omega, fun h => by omega, fun h => by omega⟩
  case round =>
    obtain ⟨k, rfl, hk, rfl, rfl, ha, hb, hc⟩ := hrel
    rcases (by omega : k = 0 ∨ k = 1 ∨ k = 2 ∨ k = 3) with rfl | rfl | rfl | rfl
    · by_cases e : a = 0
      · have e1 := ne_no e
        have E : Hid (a = 0) := e
        clear e
        go_wp2
        go_roundg 2
        case measure => omega
        case rel => exact ⟨1, rfl, by omega, rfl, rfl, fun _ => E.out, fun h => by omega, fun h => by omega⟩
      · have e1 := ne_yes e
        have E : Hid (a ≠ 0) := e
        clear e
        go_wp2
        go_ret
        exact ⟨ret_i (or3_a E.out).symm, rfl⟩
    · by_cases e : b = 0
      · have e1 := ne_no e
        have E : Hid (b = 0) := e
        clear e
        go_wp2
        go_roundg 1
        case measure => omega
        case rel => exact ⟨2, rfl, by omega, rfl, rfl, fun _ => ha.out (by omega), fun _ => E.out, fun h => by omega⟩
      · have e1 := ne_yes e
        have E : Hid (b ≠ 0) := e
        clear e
        go_wp2
        go_ret
        exact ⟨ret_i (or3_b (ha.out (by omega)) E.out).symm, rfl⟩
    · by_cases e : c = 0
      · have e1 := ne_no e
        have E : Hid (c = 0) := e
        clear e
        go_wp2
        go_roundg 0
        case measure => omega
        case rel => exact ⟨3, rfl, by omega, rfl, rfl, fun _ => ha.out (by omega), fun _ => hb.out (by omega), fun _ => E.out⟩
      · have e1 := ne_yes e
        go_wp2
        go_ret
        exact ⟨ret_i (or3_c (ha.out (by omega)) (hb.out (by omega))).symm, rfl⟩
    · go_wp2
      go_ret
      exact ⟨ret_i ((or3_c (ha.out (by omega)) (hb.out (by omega))).trans (hc.out (by omega))).symm, rfl⟩
theorem cmp_b (a b : Int) (w : World) : Calls Tryd.prog 163 #[.int .i64 a, .int .i64 b] w fun e w' => e = .returned (.int .i64 (cmpI a b)) ∧ Below w.heap.size w w' := (cmp_any a b w).mono fun e w' ⟨h1, h2⟩ => ⟨h1, by rw [h2]; exact bRefl w⟩
theorem or_b (a b c : Int) (w : World) (g : Nat) (h : w.heap[g]? = some (.cells #[.int .i64 a, .int .i64 b, .int .i64 c] 3)) :
    Calls Tryd.prog 162 #[.slice (some ⟨g, 0, none⟩) 3 3] w fun e w' => e = .returned (.int .i64 (or3 a b c)) ∧ Below w.heap.size w w' :=
  (or_any a b c w g (by rw [Lib.cell_of_heap h]; rfl) (by rw [Lib.cell_of_heap h]; rfl) (by rw [Lib.cell_of_heap h]; rfl)).mono fun e w' ⟨h1, h2⟩ => ⟨h1, by rw [h2]; exact bRefl w⟩
set_option maxHeartbeats 2000000 in
set_option maxRecDepth 100000 in
theorem compare_any (a b : PID) (w : World) : Calls Tryd.prog 154 #[dV a, dV b] w fun e w' => e = .returned (.int .i64 (cmpD a b)) ∧ Below w.heap.size w w' := by
  go_enter Tryd.func154, Tryd.ntmps154
  go_wp2_with fail
  have hA : ((w.alloc (.cells #[.int .i64 a.f, .int .i64 a.n, .int .i64 a.c] 56)).alloc (.cells #[.int .i64 b.f, .int .i64 b.n, .int .i64 b.c] 56)).heap[w.heap.size]? = some (.cells #[.int .i64 a.f, .int .i64 a.n, .int .i64 a.c] 56) := ((bAlloc (bRefl (w.alloc _)) _).block _ (by simp)).trans (heap_new _ _)
  have hB : ((w.alloc (.cells #[.int .i64 a.f, .int .i64 a.n, .int .i64 a.c] 56)).alloc (.cells #[.int .i64 b.f, .int .i64 b.n, .int .i64 b.c] 56)).heap[w.heap.size + 1]? = some (.cells #[.int .i64 b.f, .int .i64 b.n, .int .i64 b.c] 56) := heap_new2 (by simp)
  have HL : Hid (Below w.heap.size w ((w.alloc (.cells #[.int .i64 a.f, .int .i64 a.n, .int .i64 a.c] 56)).alloc (.cells #[.int .i64 b.f, .int .i64 b.n, .int .i64 b.c] 56))) := bAlloc (bAlloc (bRefl _) _) _
  have hs : w.heap.size + 1 < ((w.alloc (.cells #[.int .i64 a.f, .int .i64 a.n, .int .i64 a.c] 56)).alloc (.cells #[.int .i64 b.f, .int .i64 b.n, .int .i64 b.c] 56)).heap.size := by simp
  generalize (w.alloc (.cells #[.int .i64 a.f, .int .i64 a.n, .int .i64 a.c] 56)).alloc (.cells #[.int .i64 b.f, .int .i64 b.n, .int .i64 b.c] 56) = w1 at hA hB HL hs ⊢
  obtain ⟨p0, p1, p2⟩ := blk3 hA
  obtain ⟨q0, q1, q2⟩ := blk3 hB
  have hs0 : w.heap.size < w1.heap.size := by omega
  have hbb : Below w1.heap.size w1 w1 := bRefl w1
  clear hA hB
  go_region_held3 (fun w' => w'.cell? ⟨w.heap.size, 0, none⟩ = some (.int .i64 a.f) ∧ w'.cell? ⟨w.heap.size, 1, none⟩ = some (.int .i64 a.n) ∧ w'.cell? ⟨w.heap.size, 2, none⟩ = some (.int .i64 a.c) ∧ w'.cell? ⟨w.heap.size + 1, 0, none⟩ = some (.int .i64 b.f) ∧ w'.cell? ⟨w.heap.size + 1, 1, none⟩ = some (.int .i64 b.n) ∧ w'.cell? ⟨w.heap.size + 1, 2, none⟩ = some (.int .i64 b.c)) (go_keep)
    (first
      | (go_at_call 163; refine (cmp_b _ _ _).mono ?_; rintro e w2 ⟨rfl, hb2⟩; have hc2 := (by first | exact bcell (undrew hb2) | exact bcell hb2); replace hbb := (by first | exact bTrans hbb (undrew hb2) | exact bTrans hbb hb2); have hz2 := Nat.lt_of_lt_of_le hs0 hbb.size; have hz3 := Nat.lt_of_lt_of_le hs hbb.size)
      | (go_at_call 162; refine (or_b _ _ _ _ _ (by exact heap_new2 (by simp))).mono ?_; rintro e w2 ⟨rfl, hb2⟩; have hc2 := bcell hb2; replace hbb := bTrans (bAlloc hbb _) hb2; have y0 := (hbb.cell (p := ⟨w.heap.size, 0, none⟩) hs0).trans p0; have y1 := (hbb.cell (p := ⟨w.heap.size, 1, none⟩) hs0).trans p1; have y2 := (hbb.cell (p := ⟨w.heap.size, 2, none⟩) hs0).trans p2; have x0 := (hbb.cell (p := ⟨w.heap.size + 1, 0, none⟩) hs).trans q0; have x1 := (hbb.cell (p := ⟨w.heap.size + 1, 1, none⟩) hs).trans q1; have x2 := (hbb.cell (p := ⟨w.heap.size + 1, 2, none⟩) hs).trans q2))
  all_goals
    go_wp2_with fail
    go_ret
    exact ⟨rfl, bTrans HL.out hbb⟩
theorem less_any (a b : PID) (w : World) : Calls Tryd.prog 137 #[dV a, dV b] w fun e w' => e = .returned (.bool (lessD a b)) ∧ Below w.heap.size w w' := by
  go_enter Tryd.func137, Tryd.ntmps137
  go_wp2_with (go_at_call 154; refine (compare_any a b _).mono ?_; rintro e w2 ⟨rfl, hb2⟩)
  go_ret
  exact ⟨rfl, bTrans (bAlloc (bAlloc (bRefl _) _) _) hb2⟩
theorem rless_any (a b : PID) (w : World) : Calls Tryd.prog 143 #[dV a, dV b] w fun e w' => e = .returned (.bool (lessD a b)) ∧ Below w.heap.size w w' := by
  have HI : Hid (lessD a b = true ↔ a.f < b.f ∨ (a.f = b.f ∧ (a.n < b.n ∨ (a.n = b.n ∧ a.c < b.c)))) := lessD_iff
  have fin : ∀ (z : Bool), (z = true ↔ a.f < b.f ∨ (a.f = b.f ∧ (a.n < b.n ∨ (a.n = b.n ∧ a.c < b.c)))) → z = lessD a b := fun z hz => Bool.eq_iff_iff.2 (hz.trans HI.out.symm)
  have HF : Hid (∀ (z : Bool), (z = true ↔ a.f < b.f ∨ (a.f = b.f ∧ (a.n < b.n ∨ (a.n = b.n ∧ a.c < b.c)))) → z = lessD a b) := fin
  clear fin
  by_cases h1 : a.f = b.f
  · have e1 := ne_no h1
    have H1 : Hid (a.f = b.f) := h1
    clear h1
    by_cases h2 : a.n = b.n
    · have e2 := ne_no h2
      have H2 : Hid (a.n = b.n) := h2
      clear h2
      go_enter Tryd.func143, Tryd.ntmps143
      go_wp2
      go_ret
      exact ⟨ret_b (HF.out _ (by have := H1.out; have := H2.out; rw [decide_eq_true_eq]; omega)), bAlloc (bAlloc (bRefl _) _) _⟩
    · have e2 := ne_yes h2
      have H2 : Hid (a.n ≠ b.n) := h2
      clear h2
      go_enter Tryd.func143, Tryd.ntmps143
      go_wp2
      go_ret
      exact ⟨ret_b (HF.out _ (by have := H1.out; have := H2.out; rw [decide_eq_true_eq]; omega)), bAlloc (bAlloc (bRefl _) _) _⟩
  · have e1 := ne_yes h1
    have H1 : Hid (a.f ≠ b.f) := h1
    clear h1
    go_enter Tryd.func143, Tryd.ntmps143
    go_wp2
    go_ret
    exact ⟨ret_b (HF.out _ (by have := H1.out; rw [decide_eq_true_eq]; omega)), bAlloc (bAlloc (bRefl _) _) _⟩
def sameD (a b : PID) : Bool := decide (a = b)
theorem gD : Tryd.prog.eqGuardType Tryd.prog.depth 56 = false := by kernel_rfl
theorem eqD (a b : PID) (w : World) : (Op.equalIn 10000 56 (dV a) (dV b)).run Tryd.prog w = .ok (sameD a b) w := by
  have u3 := Tryd.underlying3
  have a3 := Tryd.isAgg3
  have z3 := Tryd.sizeOf3
  have hS : Tryd.prog.underlying 56 = some (.struct (Tryd.prog.fieldsOf 56)) := by kernel_rfl
  have hp : Tryd.prog.stoodInHeld 56 = false := by kernel_rfl
  obtain ⟨f, n, c⟩ := a
  obtain ⟨f', n', c'⟩ := b
  unfold sameD
  rw [show (10000 : Nat) = 9999 + 1 from rfl, run_equalIn_agg w 9999 56 _ _ hS hp]
  simp only [Program.fieldsOf, Tryd.underlying56]
  go_simp
  by_cases h1 : f = f' <;> by_cases h2 : n = n' <;> by_cases h3 : c = c' <;> simp [h1, h2, h3]
theorem eq6 (f n c f' n' c' : Int) (w : World) : (Op.equalIn 10000 56 (.agg #[.int .i64 f, .int .i64 n, .int .i64 c]) (.agg #[.int .i64 f', .int .i64 n', .int .i64 c'])).run Tryd.prog w = .ok (sameD ⟨f, n, c⟩ ⟨f', n', c'⟩) w := eqD ⟨f, n, c⟩ ⟨f', n', c'⟩ w
theorem sameD_yes {a b : PID} (h : a = b) : sameD a b = true := decide_eq_true h
theorem sameD_no {a b : PID} (h : a ≠ b) : sameD a b = false := decide_eq_false h
set_option maxHeartbeats 400000 in
theorem refI (ok ok' : Nat → Prop) (w : World) (v1 v2 : Value) (a b : List Int) (h1 : Ints ok w v1 a) (h2 : Ints ok' w v2 b) :
    Calls Tryd.prog 125 #[v1, v2] w fun e w' => e = .returned (.bool (eqB a b)) ∧ ∃ n, w' = w.drewN n := by
  obtain ⟨A1, c1, rfl, hl1⟩ := h1.form
  obtain ⟨A2, c2, rfl, hl2⟩ := h2.form
  by_cases hlen : a.length = b.length
  · have HL : Hid (a.length = b.length) := hlen
    have e1 := lt_eq hlen
    clear hlen
    go_enter Tryd.func125, Tryd.ntmps125
    go_wp2
    go_loopg [5] a.length (fun g i5 wr => ∃ k : Nat, g = a.length - k ∧ k ≤ a.length ∧ i5 = .int .i64 k ∧ Hid (a.take k = b.take k) ∧ ∃ n, wr = w.drewN n)
    case atStart => exact ⟨0, rfl, by omega, rfl, rfl, quiet_refl w⟩
    case round =>
      obtain ⟨k, rfl, hk, rfl, ht, hq0⟩ := hrel
      have hb := quiet_below hq0
      have hq : Hid (∃ n, wr = w.drewN n) := hq0
      clear hq0
      by_cases hlt : k < a.length
      · obtain ⟨b1, o1, x, rfl, hx, q1⟩ := h1.cell hb hlt
        obtain ⟨b2, o2, y, rfl, hy, q2⟩ := h2.cell hb (k := k) (by have := HL.out; omega)
        have hlt2 : (k : Int) < b.length := by have := HL.out; omega
        have HX : Hid (a[k]? = some x) := hx
        have HY : Hid (b[k]? = some y) := hy
        clear hx hy
        by_cases hxy : x = y
        · have e2 := ne_no hxy
          have HE : Hid (x = y) := hxy
          clear hxy
          go_wp2
          go_quiet (fail)
          go_wp2
          go_roundg (a.length - (k + 1))
          case measure => omega
          case rel => exact ⟨k + 1, rfl, by omega, by go_num, take_eq ht.out HX.out HY.out HE.out, quiet_next hq _⟩
        · have e2 := ne_yes hxy
          go_wp2
          go_quiet (fail)
          go_wp2
          go_ret
          exact ⟨ret_b (eqB_no (take_ne HX.out HY.out hxy)).symm, quiet_next hq _⟩
      · go_wp2
        go_ret
        exact ⟨ret_b (eqB_yes (take_all HL.out hlt ht.out)).symm, hq.out⟩
  · have e1 := lt_ne hlen
    go_enter Tryd.func125, Tryd.ntmps125
    go_wp2
    go_ret
    exact ⟨ret_b (eqB_no (len_ne hlen)).symm, quiet_refl _⟩
theorem eqB_nte (a b : PNte) : eqB a b = (decide (a.to = b.to) && decide (a.hd = b.hd) && eqB a.args b.args) := by
  obtain ⟨t, d, l⟩ := a
  obtain ⟨t', d', l'⟩ := b
  simp [eqB]
  rw [Bool.eq_iff_iff]; simp [and_assoc]
set_option maxHeartbeats 400000 in
theorem rSameNote (w : World) (v1 v2 : Value) (n m : PNte) (h1 : NteV w v1 n) (h2 : NteV w v2 m) :
    Calls Tryd.prog 90 #[v1, v2] w fun e w' => e = .returned (.bool (eqB n m)) ∧ Below w.heap.size w w' := by
  obtain ⟨c1, rfl, h1⟩ := h1
  obtain ⟨c2, rfl, h2⟩ := h2
  obtain ⟨t1, d1, l1⟩ := n
  obtain ⟨t2, d2, l2⟩ := m
  have HE : Hid (eqB (PNte.mk t1 d1 l1) ⟨t2, d2, l2⟩ = (decide (t1 = t2) && decide (d1 = d2) && eqB l1 l2)) := eqB_nte _ _
  dsimp only at h1 h2
  by_cases e1 : t1 = t2
  · by_cases e2 : d1 = d2
    · subst e1 e2
      go_enter Tryd.func90, Tryd.ntmps90
      go_wp2_with (go_at_call 125; refine (refI anyB anyB _ _ _ _ _ (h1.below (by exact bAlloc (bAlloc (bRefl _) _) _)) (h2.below (by exact bAlloc (bAlloc (bRefl _) _) _))).mono ?_; rintro e w' ⟨rfl, hq⟩)
      go_ret
      exact ⟨ret_b (by rw [HE.out]; simp), bTrans (bAlloc (bAlloc (bRefl _) _) _) (quiet_below hq)⟩
    · have b2 : (d1 == d2) = false := by simp [e2]
      subst e1
      go_enter Tryd.func90, Tryd.ntmps90
      go_wp2
      go_ret
      exact ⟨ret_b (by rw [HE.out]; simp [e2]), bAlloc (bAlloc (bRefl _) _) _⟩
  · have b1 : (t1 == t2) = false := by simp [e1]
    go_enter Tryd.func90, Tryd.ntmps90
    go_wp2
    go_ret
    exact ⟨ret_b (by rw [HE.out]; simp [e1]), bAlloc (bAlloc (bRefl _) _) _⟩

set_option maxHeartbeats 400000 in
theorem eqI (ok ok' : Nat → Prop) (w : World) (v1 v2 : Value) (a b : List Int) (h1 : Ints ok w v1 a) (h2 : Ints ok' w v2 b) :
    Calls Tryd.prog 102 #[v1, v2] w fun e w' => e = .returned (.bool (eqB a b)) ∧ ∃ n, w' = w.drewN n := by
  obtain ⟨A1, c1, rfl, hl1⟩ := h1.form
  obtain ⟨A2, c2, rfl, hl2⟩ := h2.form
  by_cases hlen : a.length = b.length
  · have HL : Hid (a.length = b.length) := hlen
    have e1 := lt_eq hlen
    clear hlen
    go_enter Tryd.func102, Tryd.ntmps102
    go_wp2
    go_loopg [5, 13] a.length (fun g i5 i13 wr => ∃ k : Nat, g = a.length - k ∧ k ≤ a.length ∧ i13 = .int .i64 k ∧ Hid (a.take k = b.take k) ∧ ∃ n, wr = w.drewN n)
    case atStart => exact ⟨0, rfl, by omega, rfl, rfl, quiet_refl w⟩
    case round =>
      obtain ⟨k, rfl, hk, rfl, ht, hq0⟩ := hrel
      have hb := quiet_below hq0
      have hq : Hid (∃ n, wr = w.drewN n) := hq0
      clear hq0
      by_cases hlt : k < a.length
      · obtain ⟨b1, o1, x, rfl, hx, q1⟩ := h1.cell hb hlt
        obtain ⟨b2, o2, y, rfl, hy, q2⟩ := h2.cell hb (k := k) (by have := HL.out; omega)
        have hlt2 : (k : Int) < b.length := by have := HL.out; omega
        have HX : Hid (a[k]? = some x) := hx
        have HY : Hid (b[k]? = some y) := hy
        clear hx hy
        by_cases hxy : x = y
        · have e2 := ne_no hxy
          have HE : Hid (x = y) := hxy
          clear hxy
          go_wp2
          go_quiet (fail)
          go_wp2
          go_roundg (a.length - (k + 1))
          case measure => omega
          case rel => exact ⟨k + 1, rfl, by omega, by go_num, take_eq ht.out HX.out HY.out HE.out, quiet_next hq _⟩
        · have e2 := ne_yes hxy
          go_wp2
          go_quiet (fail)
          go_wp2
          go_ret
          exact ⟨ret_b (eqB_no (take_ne HX.out HY.out hxy)).symm, quiet_next hq _⟩
      · go_wp2
        go_ret
        exact ⟨ret_b (eqB_yes (take_all HL.out hlt ht.out)).symm, hq.out⟩
  · have e1 := lt_ne hlen
    go_enter Tryd.func102, Tryd.ntmps102
    go_wp2
    go_ret
    exact ⟨ret_b (eqB_no (len_ne hlen)).symm, quiet_refl _⟩
set_option maxHeartbeats 400000 in
theorem sameNote (w : World) (v1 v2 : Value) (n m : PNte) (h1 : NteV w v1 n) (h2 : NteV w v2 m) :
    Calls Tryd.prog 139 #[v1, v2] w fun e w' => e = .returned (.bool (eqB n m)) ∧ Below w.heap.size w w' := by
  obtain ⟨c1, rfl, h1⟩ := h1
  obtain ⟨c2, rfl, h2⟩ := h2
  obtain ⟨t1, d1, l1⟩ := n
  obtain ⟨t2, d2, l2⟩ := m
  have HE : Hid (eqB (PNte.mk t1 d1 l1) ⟨t2, d2, l2⟩ = (decide (t1 = t2) && decide (d1 = d2) && eqB l1 l2)) := eqB_nte _ _
  dsimp only at h1 h2
  by_cases e1 : t1 = t2
  · by_cases e2 : d1 = d2
    · subst e1 e2
      go_enter Tryd.func139, Tryd.ntmps139
      go_wp2_with (go_at_call 102; refine (eqI anyB anyB _ _ _ _ _ (h1.below (by exact bAlloc (bAlloc (bRefl _) _) _)) (h2.below (by exact bAlloc (bAlloc (bRefl _) _) _))).mono ?_; rintro e w' ⟨rfl, hq⟩)
      go_ret
      exact ⟨ret_b (by rw [HE.out]; simp), bTrans (bAlloc (bAlloc (bRefl _) _) _) (quiet_below hq)⟩
    · have b2 : (d1 == d2) = false := by simp [e2]
      subst e1
      go_enter Tryd.func139, Tryd.ntmps139
      go_wp2
      go_ret
      exact ⟨ret_b (by rw [HE.out]; simp [e2]), bAlloc (bAlloc (bRefl _) _) _⟩
  · have b1 : (t1 == t2) = false := by simp [e1]
    go_enter Tryd.func139, Tryd.ntmps139
    go_wp2
    go_ret
    exact ⟨ret_b (by rw [HE.out]; simp [e1]), bAlloc (bAlloc (bRefl _) _) _⟩

end Go.Proofs.YtgdloonpemaijaaDoor
