/-
  What one instruction does: the others. Conditions: it was checked, and its numbers are on the stack.
-/
import Derived.Test.YtpcffhhednplaaaDoorVs1
namespace Go.Proofs.YtpcffhhednplaaaDoor
open Go.RowKit
attribute [local go_sem ↓] Go.wp_at_zero Go.wp_at_succ
section
variable {w0 w : World} {B : Nat} {x : FX} {vn : Value} {us : List Value} {sk : List Int} {s : MS} {p : PPrg} {args : List Int} {code : List PIns}

set_option maxHeartbeats 1000000 in
set_option maxRecDepth 100000 in
theorem st9 (h : RM w0 B x vn us sk s w) (a : Int) (h2 : 2 ≤ s.st.length) :
    Calls Tryd.prog 37 #[.pointer (some ⟨B, 0, none⟩), .agg #[.int .i64 9, .int .i64 a]] w fun e w' => e = .returned (.int .i64 (dn 9 (hd0 s.st))) ∧ ∃ vn' us' sk', RM w0 B x vn' us' sk' { s with st := tw 9 (hd0 s.st.tail) (hd0 s.st) :: s.st.tail.tail } w' := by
  have HH : Hid (RM w0 B x vn us sk s (w.alloc (.cells #[.int .i64 9, .int .i64 a] 41))) := h.below (bAlloc (bRefl w) _)
  have HB : Hid (B < w.heap.size) := h.lt
  clear h
  go_enter Tryd.func37, Tryd.ntmps37
  go_wp2_with (go_at_call 53; refine (mtwo_any HH.out 9 h2).mono ?_; rintro e w' ⟨rfl, sk', h'⟩)
  go_ret
  exact ⟨rfl, _, _, _, h'⟩

set_option maxHeartbeats 1000000 in
set_option maxRecDepth 100000 in
theorem st10 (h : RM w0 B x vn us sk s w) (a : Int) (h2 : 2 ≤ s.st.length) :
    Calls Tryd.prog 37 #[.pointer (some ⟨B, 0, none⟩), .agg #[.int .i64 10, .int .i64 a]] w fun e w' => e = .returned (.int .i64 (dn 10 (hd0 s.st))) ∧ ∃ vn' us' sk', RM w0 B x vn' us' sk' { s with st := tw 10 (hd0 s.st.tail) (hd0 s.st) :: s.st.tail.tail } w' := by
  have HH : Hid (RM w0 B x vn us sk s (w.alloc (.cells #[.int .i64 10, .int .i64 a] 41))) := h.below (bAlloc (bRefl w) _)
  have HB : Hid (B < w.heap.size) := h.lt
  clear h
  go_enter Tryd.func37, Tryd.ntmps37
  go_wp2_with (go_at_call 53; refine (mtwo_any HH.out 10 h2).mono ?_; rintro e w' ⟨rfl, sk', h'⟩)
  go_ret
  exact ⟨rfl, _, _, _, h'⟩

set_option maxHeartbeats 1000000 in
set_option maxRecDepth 100000 in
theorem st11 (h : RM w0 B x vn us sk s w) (a : Int) (h2 : 2 ≤ s.st.length) :
    Calls Tryd.prog 37 #[.pointer (some ⟨B, 0, none⟩), .agg #[.int .i64 11, .int .i64 a]] w fun e w' => e = .returned (.int .i64 (dn 11 (hd0 s.st))) ∧ ∃ vn' us' sk', RM w0 B x vn' us' sk' { s with st := tw 11 (hd0 s.st.tail) (hd0 s.st) :: s.st.tail.tail } w' := by
  have HH : Hid (RM w0 B x vn us sk s (w.alloc (.cells #[.int .i64 11, .int .i64 a] 41))) := h.below (bAlloc (bRefl w) _)
  have HB : Hid (B < w.heap.size) := h.lt
  clear h
  go_enter Tryd.func37, Tryd.ntmps37
  go_wp2_with (go_at_call 53; refine (mtwo_any HH.out 11 h2).mono ?_; rintro e w' ⟨rfl, sk', h'⟩)
  go_ret
  exact ⟨rfl, _, _, _, h'⟩

set_option maxHeartbeats 1000000 in
set_option maxRecDepth 100000 in
theorem st12 (h : RM w0 B x vn us sk s w) (a : Int) (h2 : 2 ≤ s.st.length) :
    Calls Tryd.prog 37 #[.pointer (some ⟨B, 0, none⟩), .agg #[.int .i64 12, .int .i64 a]] w fun e w' => e = .returned (.int .i64 (dn 12 (hd0 s.st))) ∧ ∃ vn' us' sk', RM w0 B x vn' us' sk' { s with st := tw 12 (hd0 s.st.tail) (hd0 s.st) :: s.st.tail.tail } w' := by
  have HH : Hid (RM w0 B x vn us sk s (w.alloc (.cells #[.int .i64 12, .int .i64 a] 41))) := h.below (bAlloc (bRefl w) _)
  have HB : Hid (B < w.heap.size) := h.lt
  clear h
  go_enter Tryd.func37, Tryd.ntmps37
  go_wp2_with (go_at_call 53; refine (mtwo_any HH.out 12 h2).mono ?_; rintro e w' ⟨rfl, sk', h'⟩)
  go_ret
  exact ⟨rfl, _, _, _, h'⟩

set_option maxHeartbeats 1000000 in
set_option maxRecDepth 100000 in
theorem st13 (h : RM w0 B x vn us sk s w) (a : Int) (h2 : 2 ≤ s.st.length) :
    Calls Tryd.prog 37 #[.pointer (some ⟨B, 0, none⟩), .agg #[.int .i64 13, .int .i64 a]] w fun e w' => e = .returned (.int .i64 (dn 13 (hd0 s.st))) ∧ ∃ vn' us' sk', RM w0 B x vn' us' sk' { s with st := tw 13 (hd0 s.st.tail) (hd0 s.st) :: s.st.tail.tail } w' := by
  have HH : Hid (RM w0 B x vn us sk s (w.alloc (.cells #[.int .i64 13, .int .i64 a] 41))) := h.below (bAlloc (bRefl w) _)
  have HB : Hid (B < w.heap.size) := h.lt
  clear h
  go_enter Tryd.func37, Tryd.ntmps37
  go_wp2_with (go_at_call 53; refine (mtwo_any HH.out 13 h2).mono ?_; rintro e w' ⟨rfl, sk', h'⟩)
  go_ret
  exact ⟨rfl, _, _, _, h'⟩

set_option maxHeartbeats 1000000 in
set_option maxRecDepth 100000 in
theorem st15 (h : RM w0 B x vn us sk s w) (a : Int) (h2 : 2 ≤ s.st.length) :
    Calls Tryd.prog 37 #[.pointer (some ⟨B, 0, none⟩), .agg #[.int .i64 15, .int .i64 a]] w fun e w' => e = .returned (.int .i64 (dn 15 (hd0 s.st))) ∧ ∃ vn' us' sk', RM w0 B x vn' us' sk' { s with st := tw 15 (hd0 s.st.tail) (hd0 s.st) :: s.st.tail.tail } w' := by
  have HH : Hid (RM w0 B x vn us sk s (w.alloc (.cells #[.int .i64 15, .int .i64 a] 41))) := h.below (bAlloc (bRefl w) _)
  have HB : Hid (B < w.heap.size) := h.lt
  clear h
  go_enter Tryd.func37, Tryd.ntmps37
  go_wp2_with (go_at_call 53; refine (mtwo_any HH.out 15 h2).mono ?_; rintro e w' ⟨rfl, sk', h'⟩)
  go_ret
  exact ⟨rfl, _, _, _, h'⟩

set_option maxHeartbeats 1000000 in
set_option maxRecDepth 100000 in
theorem st16 (h : RM w0 B x vn us sk s w) (a : Int) (h2 : 2 ≤ s.st.length) :
    Calls Tryd.prog 37 #[.pointer (some ⟨B, 0, none⟩), .agg #[.int .i64 16, .int .i64 a]] w fun e w' => e = .returned (.int .i64 (dn 16 (hd0 s.st))) ∧ ∃ vn' us' sk', RM w0 B x vn' us' sk' { s with st := tw 16 (hd0 s.st.tail) (hd0 s.st) :: s.st.tail.tail } w' := by
  have HH : Hid (RM w0 B x vn us sk s (w.alloc (.cells #[.int .i64 16, .int .i64 a] 41))) := h.below (bAlloc (bRefl w) _)
  have HB : Hid (B < w.heap.size) := h.lt
  clear h
  go_enter Tryd.func37, Tryd.ntmps37
  go_wp2_with (go_at_call 53; refine (mtwo_any HH.out 16 h2).mono ?_; rintro e w' ⟨rfl, sk', h'⟩)
  go_ret
  exact ⟨rfl, _, _, _, h'⟩

set_option maxHeartbeats 1000000 in
set_option maxRecDepth 100000 in
theorem st17 (h : RM w0 B x vn us sk s w) (a : Int) (h2 : 2 ≤ s.st.length) :
    Calls Tryd.prog 37 #[.pointer (some ⟨B, 0, none⟩), .agg #[.int .i64 17, .int .i64 a]] w fun e w' => e = .returned (.int .i64 (dn 17 (hd0 s.st))) ∧ ∃ vn' us' sk', RM w0 B x vn' us' sk' { s with st := tw 17 (hd0 s.st.tail) (hd0 s.st) :: s.st.tail.tail } w' := by
  have HH : Hid (RM w0 B x vn us sk s (w.alloc (.cells #[.int .i64 17, .int .i64 a] 41))) := h.below (bAlloc (bRefl w) _)
  have HB : Hid (B < w.heap.size) := h.lt
  clear h
  go_enter Tryd.func37, Tryd.ntmps37
  go_wp2_with (go_at_call 53; refine (mtwo_any HH.out 17 h2).mono ?_; rintro e w' ⟨rfl, sk', h'⟩)
  go_ret
  exact ⟨rfl, _, _, _, h'⟩

set_option maxHeartbeats 1000000 in
set_option maxRecDepth 100000 in
theorem st18 (h : RM w0 B x vn us sk s w) (a : Int) (h2 : 2 ≤ s.st.length) :
    Calls Tryd.prog 37 #[.pointer (some ⟨B, 0, none⟩), .agg #[.int .i64 18, .int .i64 a]] w fun e w' => e = .returned (.int .i64 (dn 18 (hd0 s.st))) ∧ ∃ vn' us' sk', RM w0 B x vn' us' sk' { s with st := tw 18 (hd0 s.st.tail) (hd0 s.st) :: s.st.tail.tail } w' := by
  have HH : Hid (RM w0 B x vn us sk s (w.alloc (.cells #[.int .i64 18, .int .i64 a] 41))) := h.below (bAlloc (bRefl w) _)
  have HB : Hid (B < w.heap.size) := h.lt
  clear h
  go_enter Tryd.func37, Tryd.ntmps37
  go_wp2_with (go_at_call 53; refine (mtwo_any HH.out 18 h2).mono ?_; rintro e w' ⟨rfl, sk', h'⟩)
  go_ret
  exact ⟨rfl, _, _, _, h'⟩

set_option maxHeartbeats 1000000 in
set_option maxRecDepth 100000 in
theorem st14 (h : RM w0 B x vn us sk s w) (a : Int) (h1 : 0 < s.st.length) :
    Calls Tryd.prog 37 #[.pointer (some ⟨B, 0, none⟩), .agg #[.int .i64 14, .int .i64 a]] w fun e w' => e = .returned (.int .i64 0) ∧ ∃ vn' us' sk', RM w0 B x vn' us' sk' { s with st := on 14 (hd0 s.st) :: s.st.tail } w' := by
  have h8 := h.st8
  have HH : Hid (RM w0 B x vn us sk s (w.alloc (.cells #[.int .i64 14, .int .i64 a] 41))) := h.below (bAlloc (bRefl w) _)
  have HB : Hid (B < w.heap.size) := h.lt
  clear h
  have hz : w.heap.size ≠ B := by have := HB.out; omega
  go_enter Tryd.func37, Tryd.ntmps37
  go_wp2_with fail
  go_region_with (first
    | (go_at_call 50; refine (take_any (HH.out.below (bRefl _).drew) h1).mono ?_; rintro e w1 ⟨rfl, h1', hk⟩; have hc1 : w1.cell? ⟨w.heap.size, 0, none⟩ = some (.int .i64 14) := new_c (hk _ hz))
    | (go_at_call 54; refine (one_any _ _ _).mono ?_; rintro e w2 ⟨rfl, rfl⟩))
  all_goals (go_wp2_with (go_at_call 49; refine (put_any h1' _ (by simp; omega)).mono ?_; rintro e w' ⟨rfl, sk', h'⟩); go_ret; exact ⟨rfl, _, _, _, h'⟩)

set_option maxHeartbeats 1000000 in
set_option maxRecDepth 100000 in
theorem st19 (h : RM w0 B x vn us sk s w) (a : Int) (h1 : 0 < s.st.length) :
    Calls Tryd.prog 37 #[.pointer (some ⟨B, 0, none⟩), .agg #[.int .i64 19, .int .i64 a]] w fun e w' => e = .returned (.int .i64 0) ∧ ∃ vn' us' sk', RM w0 B x vn' us' sk' { s with st := on 19 (hd0 s.st) :: s.st.tail } w' := by
  have h8 := h.st8
  have HH : Hid (RM w0 B x vn us sk s (w.alloc (.cells #[.int .i64 19, .int .i64 a] 41))) := h.below (bAlloc (bRefl w) _)
  have HB : Hid (B < w.heap.size) := h.lt
  clear h
  have hz : w.heap.size ≠ B := by have := HB.out; omega
  go_enter Tryd.func37, Tryd.ntmps37
  go_wp2_with fail
  go_region_with (first
    | (go_at_call 50; refine (take_any (HH.out.below (bRefl _).drew) h1).mono ?_; rintro e w1 ⟨rfl, h1', hk⟩; have hc1 : w1.cell? ⟨w.heap.size, 0, none⟩ = some (.int .i64 19) := new_c (hk _ hz))
    | (go_at_call 54; refine (one_any _ _ _).mono ?_; rintro e w2 ⟨rfl, rfl⟩))
  all_goals (go_wp2_with (go_at_call 49; refine (put_any h1' _ (by simp; omega)).mono ?_; rintro e w' ⟨rfl, sk', h'⟩); go_ret; exact ⟨rfl, _, _, _, h'⟩)

set_option maxHeartbeats 1000000 in
set_option maxRecDepth 100000 in
theorem st20 (h : RM w0 B x vn us sk s w) (a : Int) (h0 : 0 ≤ a ∧ a ≤ code.length) :
    Calls Tryd.prog 37 #[.pointer (some ⟨B, 0, none⟩), .agg #[.int .i64 20, .int .i64 a]] w fun e w' => e = .returned (.int .i64 0) ∧ ∃ vn' us' sk', RM w0 B x vn' us' sk' { s with pc := a.toNat } w' := by
  obtain ⟨k, rfl⟩ := Int.eq_ofNat_of_zero_le h0.1
  rw [Int.toNat_natCast]
  have HN : Hid (RM w0 B x vn us sk { s with pc := k } ((w.setCell ⟨B, 22, none⟩ (.int .i64 k)).alloc (.cells #[.int .i64 20, .int .i64 (k : Int)] 41))) := (h.spc k).below (bAlloc (bRefl _) _)
  have q1 := (h.below (bAlloc (bRefl w) (.cells #[.int .i64 20, .int .i64 (k : Int)] 41))).c 22 (by omega)
  have q2 := (h.below (bAlloc (bRefl w) (.cells #[.int .i64 20, .int .i64 (k : Int)] 41))).fz 22
  have hBl := h.lt
  clear h h0
  go_enter Tryd.func37, Tryd.ntmps37
  go_wp2
  go_ret
  exact ⟨rfl, _, _, _, HN.out⟩

set_option maxHeartbeats 1000000 in
set_option maxRecDepth 100000 in
theorem st21y (h : RM w0 B x vn us sk s w) (a : Int) (h1 : 0 < s.st.length) (hz0 : hd0 s.st = 0) (h0 : 0 ≤ a ∧ a ≤ code.length) :
    Calls Tryd.prog 37 #[.pointer (some ⟨B, 0, none⟩), .agg #[.int .i64 21, .int .i64 a]] w fun e w' => e = .returned (.int .i64 0) ∧ ∃ vn' us' sk', RM w0 B x vn' us' sk' { s with st := s.st.tail, pc := a.toNat } w' := by
  obtain ⟨k, rfl⟩ := Int.eq_ofNat_of_zero_le h0.1
  rw [Int.toNat_natCast]
  have HH : Hid (RM w0 B x vn us sk s (w.alloc (.cells #[.int .i64 21, .int .i64 (k : Int)] 41))) := h.below (bAlloc (bRefl w) _)
  have HB : Hid (B < w.heap.size) := h.lt
  clear h
  have hz : w.heap.size ≠ B := by have := HB.out; omega
  have hze : (hd0 s.st == 0) = true := by simp [hz0]
  go_enter Tryd.func37, Tryd.ntmps37
  go_wp2_with fail
  refine (take_any HH.out h1).mono ?_
  rintro e w1 ⟨rfl, h', hk⟩
  have hc1 : w1.cell? ⟨w.heap.size, 1, none⟩ = some (.int .i64 (k : Int)) := new_c (hk _ hz)
  have HN : Hid (RM w0 B x vn us sk { s with st := s.st.tail, pc := k } (w1.setCell ⟨B, 22, none⟩ (.int .i64 k))) := h'.spc k
  have q1 := h'.c 22 (by omega)
  have q2 := h'.fz 22
  have hBl := h'.lt
  clear h' hk
  go_wp2
  go_ret
  exact ⟨rfl, _, _, _, HN.out⟩

set_option maxHeartbeats 1000000 in
set_option maxRecDepth 100000 in
theorem st21n (h : RM w0 B x vn us sk s w) (a : Int) (h1 : 0 < s.st.length) (hz0 : hd0 s.st ≠ 0) :
    Calls Tryd.prog 37 #[.pointer (some ⟨B, 0, none⟩), .agg #[.int .i64 21, .int .i64 a]] w fun e w' => e = .returned (.int .i64 0) ∧ ∃ vn' us' sk', RM w0 B x vn' us' sk' { s with st := s.st.tail } w' := by
  have HH : Hid (RM w0 B x vn us sk s (w.alloc (.cells #[.int .i64 21, .int .i64 a] 41))) := h.below (bAlloc (bRefl w) _)
  have HB : Hid (B < w.heap.size) := h.lt
  clear h
  have hze : (hd0 s.st == 0) = false := by simp [hz0]
  go_enter Tryd.func37, Tryd.ntmps37
  go_wp2_with fail
  refine (take_any HH.out h1).mono ?_
  rintro e w1 ⟨rfl, h', hk⟩
  go_wp2
  go_ret
  exact ⟨rfl, _, _, _, h'⟩

set_option maxHeartbeats 1000000 in
set_option maxRecDepth 100000 in
theorem st22n (h : RM w0 B x vn us sk s w) (a : Int) (px : PX w0 x p args code) (h1 : 0 < s.st.length) (hto : ¬ (0 ≤ hd0 s.st ∧ hd0 s.st < p.acs.length)) :
    Calls Tryd.prog 37 #[.pointer (some ⟨B, 0, none⟩), .agg #[.int .i64 22, .int .i64 a]] w fun e w' => e = .returned (.int .i64 4) ∧ ∃ vn' us' sk', RM w0 B x vn' us' sk' { s with st := s.st.tail } w' := by
  obtain ⟨A2, c2, h2, _⟩ := px.acs.form
  have HH : Hid (RM w0 B x vn us sk s (w.alloc (.cells #[.int .i64 22, .int .i64 a] 41))) := h.below (bAlloc (bRefl w) _)
  have HB : Hid (B < w.heap.size) := h.lt
  clear h
  go_enter Tryd.func37, Tryd.ntmps37
  go_wp2_with (go_at_call 55; refine (send_lost HH.out a _ c2 A2 h2 h1 hto).mono ?_; rintro e w' ⟨rfl, h'⟩)
  go_ret
  exact ⟨rfl, _, _, _, h'⟩

set_option maxHeartbeats 1000000 in
set_option maxRecDepth 100000 in
theorem st22y (h : RM w0 B x vn us sk s w) (a : Int) (px : PX w0 x p args code) (hto : 0 ≤ hd0 s.st ∧ hd0 s.st < p.acs.length) (ha : 0 ≤ a ∧ a < p.hs.length) (hk : 0 ≤ argsOf p.hs a ∧ argsOf p.hs a ≤ 4) (h0 : argsOf p.hs a + 1 ≤ s.st.length) (hnl : s.notes.length ≤ 1000) :
    Calls Tryd.prog 37 #[.pointer (some ⟨B, 0, none⟩), .agg #[.int .i64 22, .int .i64 a]] w fun e w' => e = .returned (.int .i64 0) ∧ ∃ vn' us' sk', RM w0 B x vn' us' sk' { s with st := s.st.tail.drop (argsOf p.hs a).toNat, notes := s.notes ++ [⟨hd0 s.st, a, (s.st.tail.take (argsOf p.hs a).toNat).reverse⟩] } w' := by
  obtain ⟨A2, c2, h2, _⟩ := px.acs.form
  have HP : Hid (PX w0 x p args code) := px
  clear px
  have HH : Hid (RM w0 B x vn us sk s (w.alloc (.cells #[.int .i64 22, .int .i64 a] 41))) := h.below (bAlloc (bRefl w) _)
  have HB : Hid (B < w.heap.size) := h.lt
  clear h
  go_enter Tryd.func37, Tryd.ntmps37
  go_wp2_with (go_at_call 55; refine (send_any HH.out p.hs a _ c2 A2 h2 HP.out.hs ha hk h0 hto hnl).mono ?_; rintro e w' ⟨rfl, vn', us', h'⟩)
  go_ret
  exact ⟨rfl, _, _, _, h'⟩

set_option maxHeartbeats 4000000 in
set_option maxRecDepth 100000 in
theorem st23 (h : RM w0 B x vn us sk s w) (a : Int) (px : PX w0 x p args code) :
    Calls Tryd.prog 37 #[.pointer (some ⟨B, 0, none⟩), .agg #[.int .i64 23, .int .i64 a]] w fun e w' => e = .returned (.int .i64 0) ∧ ∃ vn' us' sk', RM w0 B x vn' us' sk' { s with armed := s.armed || tmr p x.who != -1 } w' := by
  obtain ⟨k, hk⟩ := Int.eq_ofNat_of_zero_le px.who.1
  have hkl : k < p.acs.length := by have := px.who.2; omega
  obtain ⟨A2, c2, h2, hl2⟩ := px.acs.form
  have hI := px.acs
  rw [h2] at hI
  obtain ⟨b1, o1, y, v1, rfl, hy, hz1, _, _, q3, _, _⟩ := hI.cell (h.below (bAlloc (bRefl w) (.cells #[.int .i64 23, .int .i64 a] 41))).low (k := k) hkl
  have ht : tmr p x.who = y.timer := by unfold tmr; rw [hk, Int.toNat_natCast, hy]; rfl
  rw [ht]
  have hb1 : b1 < w.heap.size := by
    obtain ⟨b', o', e', _, hlt', _⟩ := hI.at (by omega)
    cases e'
    have := h.low.size
    omega
  have hM := h.below (bAlloc (bRefl w) (.cells #[.int .i64 23, .int .i64 a] 41))
  have q1 : (w.alloc (.cells #[.int .i64 23, .int .i64 a] 41)).cell? ⟨B, 1, none⟩ = some (.slice (some ⟨b1, o1, none⟩) p.acs.length c2) := by rw [← h2]; exact hM.c 1 (by omega)
  have q4 : (w.alloc (.cells #[.int .i64 23, .int .i64 a] 41)).cell? ⟨B, 4, none⟩ = some (.int .i64 (k : Int)) := by have := hM.c 4 (by omega); rw [this, ← hk]; rfl
  have q8 : (w.alloc (.cells #[.int .i64 23, .int .i64 a] 41)).cell? ⟨B, 8, none⟩ = some (.bool s.armed) := hM.c 8 (by omega)
  have f8 := hM.fz 8
  have hBl := h.lt
  have HN : ∀ b, Hid (RM w0 B x vn us sk { s with armed := b } ((w.setCell ⟨B, 8, none⟩ (.bool b)).alloc (.cells #[.int .i64 23, .int .i64 a] 41))) := fun b => (h.sar b).below (bAlloc (bRefl _) _)
  clear h hM hI h2 hy px ht hk
  cases har : s.armed with
  | true =>
    rw [har] at q8
    go_enter Tryd.func37, Tryd.ntmps37
    go_wp2_with fail
    go_region
    go_wp2
    go_ret
    exact ⟨rfl, _, _, _, (HN true).out.below (bRefl _).drew⟩
  | false =>
    rw [har] at q8
    by_cases ht : y.timer = -1
    · have e1 : (y.timer != -1) = false := by simp [ht]
      go_enter Tryd.func37, Tryd.ntmps37
      go_wp2_with fail
      go_region
      go_wp2
      go_ret
      exact ⟨rfl, _, _, _, by rw [e1]; exact (HN false).out.below (bRefl _).drew⟩
    · have e1 : (y.timer != -1) = true := by simp [ht]
      go_enter Tryd.func37, Tryd.ntmps37
      go_wp2_with fail
      go_region
      go_wp2
      go_ret
      exact ⟨rfl, _, _, _, by rw [e1]; exact (HN true).out.below (bRefl _).drew⟩

set_option maxHeartbeats 1000000 in
set_option maxRecDepth 100000 in
theorem st24 (h : RM w0 B x vn us sk s w) (a : Int) :
    Calls Tryd.prog 37 #[.pointer (some ⟨B, 0, none⟩), .agg #[.int .i64 24, .int .i64 a]] w fun e w' => e = .returned (.int .i64 0) ∧ ∃ vn' us' sk', RM w0 B x vn' us' sk' { s with armed := false } w' := by
  have HN : Hid (RM w0 B x vn us sk { s with armed := false } ((w.setCell ⟨B, 8, none⟩ (.bool false)).alloc (.cells #[.int .i64 24, .int .i64 a] 41))) := (h.sar false).below (bAlloc (bRefl _) _)
  have q1 := (h.below (bAlloc (bRefl w) (.cells #[.int .i64 24, .int .i64 a] 41))).c 8 (by omega)
  have q2 := (h.below (bAlloc (bRefl w) (.cells #[.int .i64 24, .int .i64 a] 41))).fz 8
  have hBl := h.lt
  clear h
  go_enter Tryd.func37, Tryd.ntmps37
  go_wp2
  go_ret
  exact ⟨rfl, _, _, _, HN.out⟩

set_option maxHeartbeats 1000000 in
set_option maxRecDepth 100000 in
theorem st25 (h : RM w0 B x vn us sk s w) (a : Int) (px : PX w0 x p args code) :
    Calls Tryd.prog 37 #[.pointer (some ⟨B, 0, none⟩), .agg #[.int .i64 25, .int .i64 a]] w fun e w' => e = .returned (.int .i64 0) ∧ ∃ vn' us' sk', RM w0 B x vn' us' sk' { s with pc := code.length } w' := by
  obtain ⟨Ac, cc, hvc, hlc⟩ := px.vc.form
  have q0 : (w.alloc (.cells #[.int .i64 25, .int .i64 a] 41)).cell? ⟨B, 6, none⟩ = some (.slice Ac code.length cc) := by rw [← hvc]; exact (h.below (bAlloc (bRefl w) _)).c 6 (by omega)
  have HN : Hid (RM w0 B x vn us sk { s with pc := code.length } ((w.setCell ⟨B, 22, none⟩ (.int .i64 code.length)).alloc (.cells #[.int .i64 25, .int .i64 a] 41))) := (h.spc code.length).below (bAlloc (bRefl _) _)
  have q1 := (h.below (bAlloc (bRefl w) (.cells #[.int .i64 25, .int .i64 a] 41))).c 22 (by omega)
  have q2 := (h.below (bAlloc (bRefl w) (.cells #[.int .i64 25, .int .i64 a] 41))).fz 22
  have hBl := h.lt
  clear h px hvc
  go_enter Tryd.func37, Tryd.ntmps37
  go_wp2
  go_ret
  exact ⟨rfl, _, _, _, HN.out⟩
end
end Go.Proofs.YtpcffhhednplaaaDoor
