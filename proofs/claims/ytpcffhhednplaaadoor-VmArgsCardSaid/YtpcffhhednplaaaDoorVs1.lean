/-
  What one instruction does. Conditions: it was checked, and its numbers are on the stack.
-/
import Derived.Test.YtpcffhhednplaaaDoorVw3
import Derived.Deep.RegionWith
import Derived.BigRegion
namespace Go.Proofs.YtpcffhhednplaaaDoor
open Go.RowKit
attribute [local go_sem ↓] Go.wp_at_zero Go.wp_at_succ

/-- The program's parts, as the run holds them. -/
structure PX (w0 : World) (x : FX) (p : PPrg) (args : List Int) (code : List PIns) : Prop where
  hs : Hnds anyB anyB w0 x.a1 p.hs
  acs : Acts anyB anyB w0 x.a2 p.acs
  fuel : x.fuel = p.fuel
  va : Ints anyB w0 x.va args
  vc : Code anyB w0 x.vc code
  who : 0 ≤ x.who ∧ x.who < p.acs.length
section
variable {w0 w : World} {B : Nat} {x : FX} {vn : Value} {us : List Value} {sk : List Int} {s : MS} {p : PPrg} {args : List Int} {code : List PIns}
theorem rv_pc {x : FX} {ar : Bool} {vn : Value} {sk : List Int} {d a a' st : Int} : ∀ i, i < 24 → (if i = 22 then Value.int .i64 a' else rv x ar vn sk d a st i) = rv x ar vn sk d a' st i := by
  intro i hi
  by_cases e : i = 22
  · rw [if_pos e, e]; rfl
  · rw [if_neg e]
    unfold rv
    split <;> first | rfl | omega
theorem rv_st {x : FX} {ar : Bool} {vn : Value} {sk : List Int} {d a st st' : Int} : ∀ i, i < 24 → (if i = 23 then Value.int .i64 st' else rv x ar vn sk d a st i) = rv x ar vn sk d a st' i := by
  intro i hi
  by_cases e : i = 23
  · rw [if_pos e, e]; rfl
  · rw [if_neg e]
    unfold rv
    split <;> first | rfl | omega
theorem rv_ar {x : FX} {ar ar' : Bool} {vn : Value} {sk : List Int} {d a st : Int} : ∀ i, i < 24 → (if i = 8 then Value.bool ar' else rv x ar vn sk d a st i) = rv x ar' vn sk d a st i := by
  intro i hi
  by_cases e : i = 8
  · rw [if_pos e, e]; rfl
  · rw [if_neg e]
    unfold rv
    split <;> first | rfl | omega
theorem RM.spc (h : RM w0 B x vn us sk s w) (k : Nat) : RM w0 B x vn us sk { s with pc := k } (w.setCell ⟨B, 22, none⟩ (.int .i64 k)) :=
  h.setB _ _ { s with pc := k } _ rfl rfl h.skl h.stk h.st8 rv_pc
theorem RM.sst (h : RM w0 B x vn us sk s w) (k : Nat) : RM w0 B x vn us sk { s with steps := k } (w.setCell ⟨B, 23, none⟩ (.int .i64 k)) :=
  h.setB _ _ { s with steps := k } _ rfl rfl h.skl h.stk h.st8 rv_st
theorem RM.sar (h : RM w0 B x vn us sk s w) (b : Bool) : RM w0 B x vn us sk { s with armed := b } (w.setCell ⟨B, 8, none⟩ (.bool b)) :=
  h.setB _ _ { s with armed := b } _ rfl rfl h.skl h.stk h.st8 rv_ar
theorem new_c {w w' : World} {c : Array Value} {t : TypeId} {k : Nat} (h : w'.heap[w.heap.size]? = (w.alloc (.cells c t)).heap[w.heap.size]?) : w'.cell? ⟨w.heap.size, k, none⟩ = c[k]? := by
  rw [heap_new] at h
  exact cell_of_row _ _ _ _ _ _ h

set_option maxHeartbeats 1000000 in
set_option maxRecDepth 100000 in
theorem st1 (h : RM w0 B x vn us sk s w) (a : Int) (h8 : s.st.length < 8) :
    Calls Tryd.prog 37 #[.pointer (some ⟨B, 0, none⟩), .agg #[.int .i64 1, .int .i64 a]] w fun e w' => e = .returned (.int .i64 0) ∧ ∃ vn' us' sk', RM w0 B x vn' us' sk' { s with st := a :: s.st } w' := by
  have HH : Hid (RM w0 B x vn us sk s (w.alloc (.cells #[.int .i64 1, .int .i64 a] 41))) := h.below (bAlloc (bRefl w) _)
  have HB : Hid (B < w.heap.size) := h.lt
  clear h
  go_enter Tryd.func37, Tryd.ntmps37
  go_wp2_with (go_at_call 49; refine (put_any HH.out _ (by omega)).mono ?_; rintro e w' ⟨rfl, sk', h'⟩)
  go_ret
  exact ⟨rfl, _, _, _, h'⟩

set_option maxHeartbeats 1000000 in
set_option maxRecDepth 100000 in
theorem st2 (h : RM w0 B x vn us sk s w) (a : Int) (h0 : 0 < s.st.length) :
    Calls Tryd.prog 37 #[.pointer (some ⟨B, 0, none⟩), .agg #[.int .i64 2, .int .i64 a]] w fun e w' => e = .returned (.int .i64 0) ∧ ∃ vn' us' sk', RM w0 B x vn' us' sk' { s with st := s.st.tail } w' := by
  have HH : Hid (RM w0 B x vn us sk s (w.alloc (.cells #[.int .i64 2, .int .i64 a] 41))) := h.below (bAlloc (bRefl w) _)
  have HB : Hid (B < w.heap.size) := h.lt
  clear h
  go_enter Tryd.func37, Tryd.ntmps37
  go_wp2_with (go_at_call 50; refine (take_any HH.out h0).mono ?_; rintro e w' ⟨rfl, h', _⟩)
  go_ret
  exact ⟨rfl, _, _, _, h'⟩

set_option maxHeartbeats 1000000 in
set_option maxRecDepth 100000 in
theorem st3 (h : RM w0 B x vn us sk s w) (a : Int) (h0 : 0 < s.st.length) (h8 : s.st.length < 8) :
    Calls Tryd.prog 37 #[.pointer (some ⟨B, 0, none⟩), .agg #[.int .i64 3, .int .i64 a]] w fun e w' => e = .returned (.int .i64 0) ∧ ∃ vn' us' sk', RM w0 B x vn' us' sk' { s with st := hd0 s.st :: s.st } w' := by
  obtain ⟨m, hm⟩ : ∃ m, s.st.length = m + 1 := ⟨s.st.length - 1, by omega⟩
  have hv : sk.getD m 0 = hd0 s.st := by
    have := sk_at (j := 0) h.stk h0
    rw [Nat.sub_zero, hm, Nat.add_sub_cancel] at this
    rw [this]
    cases s.st <;> rfl
  have q1 : (w.alloc (.cells #[.int .i64 3, .int .i64 a] 41)).cell? ⟨B, 21, none⟩ = some (.int .i64 ((m : Int) + 1)) := by rw [show (m : Int) + 1 = ((s.st.length : Nat) : Int) by omega]; exact (h.below (bAlloc (bRefl w) _)).c 21 (by omega)
  have q2 : (w.alloc (.cells #[.int .i64 3, .int .i64 a] 41)).cell? ⟨B, 13 + m, none⟩ = some (.int .i64 (hd0 s.st)) := by rw [← hv]; exact (h.below (bAlloc (bRefl w) _)).sc (by omega)
  have hBl := h.lt
  have hm7 : m < 8 := by omega
  have hwm : IntKind.i64.wrap (m : Int) = m := by rw [IntKind.wrap_i64]; omega
  have HH : Hid (RM w0 B x vn us sk s (w.alloc (.cells #[.int .i64 3, .int .i64 a] 41))) := h.below (bAlloc (bRefl w) _)
  have HB : Hid (B < w.heap.size) := h.lt
  clear h
  go_enter Tryd.func37, Tryd.ntmps37
  go_wp2_with fail
  go_region_with (go_at_call 49; refine (put_any (HH.out.below (bRefl _).drew) _ (by omega)).mono ?_; rintro e w' ⟨rfl, sk', h'⟩)
  all_goals (go_wp2; go_ret; exact ⟨rfl, _, _, _, h'⟩)

set_option maxHeartbeats 1000000 in
set_option maxRecDepth 100000 in
theorem st4 (h : RM w0 B x vn us sk s w) (a : Int) (h2 : 2 ≤ s.st.length) :
    Calls Tryd.prog 37 #[.pointer (some ⟨B, 0, none⟩), .agg #[.int .i64 4, .int .i64 a]] w fun e w' => e = .returned (.int .i64 0) ∧ ∃ vn' us' sk', RM w0 B x vn' us' sk' { s with st := hd0 s.st.tail :: hd0 s.st :: s.st.tail.tail } w' := by
  have h8 := h.st8
  have HH : Hid (RM w0 B x vn us sk s (w.alloc (.cells #[.int .i64 4, .int .i64 a] 41))) := h.below (bAlloc (bRefl w) _)
  have HB : Hid (B < w.heap.size) := h.lt
  clear h
  go_enter Tryd.func37, Tryd.ntmps37
  go_wp2_with fail
  refine (take_any HH.out (by omega)).mono ?_
  rintro e w1 ⟨rfl, h1, _⟩
  have H1 : Hid (RM w0 B x vn us sk { s with st := s.st.tail } w1) := h1
  clear h1
  go_wp2_with fail
  refine (take_any H1.out (by simp; omega)).mono ?_
  rintro e w2 ⟨rfl, h2', _⟩
  have H2 : Hid (RM w0 B x vn us sk { s with st := s.st.tail.tail } w2) := h2'
  clear h2'
  go_wp2_with fail
  refine (put_any H2.out _ (by simp; omega)).mono ?_
  rintro e w3 ⟨rfl, sk3, h3⟩
  have H3 : Hid (RM w0 B x vn us sk3 { s with st := hd0 s.st :: s.st.tail.tail } w3) := h3
  clear h3
  go_wp2_with fail
  refine (put_any H3.out _ (by simp; omega)).mono ?_
  rintro e w4 ⟨rfl, sk4, h4⟩
  go_wp2
  go_ret
  exact ⟨rfl, _, _, _, h4⟩

set_option maxHeartbeats 1000000 in
set_option maxRecDepth 100000 in
theorem st5 (h : RM w0 B x vn us sk s w) (a : Int) (h8 : s.st.length < 8) (h0 : 0 ≤ a) :
    Calls Tryd.prog 37 #[.pointer (some ⟨B, 0, none⟩), .agg #[.int .i64 5, .int .i64 a]] w fun e w' => e = .returned (.int .i64 0) ∧ ∃ vn' us' sk', RM w0 B x vn' us' sk' { s with st := s.regs.getD a.toNat 0 :: s.st } w' := by
  have HH : Hid (RM w0 B x vn us sk s (w.alloc (.cells #[.int .i64 5, .int .i64 a] 41))) := h.below (bAlloc (bRefl w) _)
  have HB : Hid (B < w.heap.size) := h.lt
  clear h
  go_enter Tryd.func37, Tryd.ntmps37
  go_wp2_with fail
  refine (load_any HH.out a h0).mono ?_
  rintro e w1 ⟨rfl, rfl⟩
  go_wp2_with (go_at_call 49; refine (put_any HH.out _ (by omega)).mono ?_; rintro e w' ⟨rfl, sk', h'⟩)
  go_ret
  exact ⟨rfl, _, _, _, h'⟩

set_option maxHeartbeats 1000000 in
set_option maxRecDepth 100000 in
theorem st6 (h : RM w0 B x vn us sk s w) (a : Int) (h1 : 0 < s.st.length) (h0 : 0 ≤ a) :
    Calls Tryd.prog 37 #[.pointer (some ⟨B, 0, none⟩), .agg #[.int .i64 6, .int .i64 a]] w fun e w' => e = .returned (.int .i64 0) ∧ ∃ vn' us' sk', RM w0 B x vn' us' sk' { s with st := s.st.tail, regs := s.regs.set a.toNat (hd0 s.st) } w' := by
  have HH : Hid (RM w0 B x vn us sk s (w.alloc (.cells #[.int .i64 6, .int .i64 a] 41))) := h.below (bAlloc (bRefl w) _)
  have HB : Hid (B < w.heap.size) := h.lt
  clear h
  have hz : w.heap.size ≠ B := by have := HB.out; omega
  go_enter Tryd.func37, Tryd.ntmps37
  go_wp2_with fail
  go_region_with (first
    | (go_at_call 50; refine (take_any (HH.out.below (bRefl _).drew) h1).mono ?_; rintro e w1 ⟨rfl, h', hk⟩; have hc1 : w1.cell? ⟨w.heap.size, 1, none⟩ = some (.int .i64 a) := new_c (hk _ hz))
    | (go_at_call 52; refine (store_any h' a _ h0).mono ?_; rintro e w2 ⟨rfl, h''⟩))
  all_goals (go_wp2; go_ret; exact ⟨rfl, _, _, _, h''⟩)

set_option maxHeartbeats 1000000 in
set_option maxRecDepth 100000 in
theorem st7 (h : RM w0 B x vn us sk s w) (a : Int) (px : PX w0 x p args code) (h8 : s.st.length < 8) (h0 : 0 ≤ a ∧ a < args.length) :
    Calls Tryd.prog 37 #[.pointer (some ⟨B, 0, none⟩), .agg #[.int .i64 7, .int .i64 a]] w fun e w' => e = .returned (.int .i64 0) ∧ ∃ vn' us' sk', RM w0 B x vn' us' sk' { s with st := args.getD a.toNat 0 :: s.st } w' := by
  obtain ⟨k, rfl⟩ := Int.eq_ofNat_of_zero_le h0.1
  obtain ⟨Aa, ca, hva, hla⟩ := px.va.form
  have hI := px.va
  rw [hva] at hI
  obtain ⟨b1, o1, y, rfl, hy, q1⟩ := hI.cell (h.below (bAlloc (bRefl w) (.cells #[.int .i64 7, .int .i64 (k : Int)] 41))).low (k := k) (by omega)
  have q2 : (w.alloc (.cells #[.int .i64 7, .int .i64 (k : Int)] 41)).cell? ⟨B, 5, none⟩ = some (.slice (some ⟨b1, o1, none⟩) args.length ca) := by rw [← hva]; exact (h.below (bAlloc (bRefl w) _)).c 5 (by omega)
  have hb1 : b1 < w.heap.size := by
    obtain ⟨b', o', e', _, hlt', _⟩ := hI.at (by omega)
    cases e'
    have := h.low.size
    omega
  have hk : k < args.length := by omega
  have HV : Hid (args.getD (k : Int).toNat 0 = y) := by show _ = _; rw [Int.toNat_natCast, List.getD_eq_getElem?_getD, hy]; rfl
  rw [HV.out]
  have hBl := h.lt
  clear hy hI hva px h0
  have HH : Hid (RM w0 B x vn us sk s (w.alloc (.cells #[.int .i64 7, .int .i64 (k : Int)] 41))) := h.below (bAlloc (bRefl w) _)
  have HB : Hid (B < w.heap.size) := h.lt
  clear h
  go_enter Tryd.func37, Tryd.ntmps37
  go_wp2_with fail
  go_region_with (go_at_call 49; refine (put_any (HH.out.below (bRefl _).drew) _ (by omega)).mono ?_; rintro e w' ⟨rfl, sk', h'⟩)
  all_goals (go_wp2; go_ret; exact ⟨rfl, _, _, _, h'⟩)

set_option maxHeartbeats 1000000 in
set_option maxRecDepth 100000 in
theorem st8 (h : RM w0 B x vn us sk s w) (a : Int) (h8 : s.st.length < 8) :
    Calls Tryd.prog 37 #[.pointer (some ⟨B, 0, none⟩), .agg #[.int .i64 8, .int .i64 a]] w fun e w' => e = .returned (.int .i64 0) ∧ ∃ vn' us' sk', RM w0 B x vn' us' sk' { s with st := x.who :: s.st } w' := by
  have q2 : (w.alloc (.cells #[.int .i64 8, .int .i64 a] 41)).cell? ⟨B, 4, none⟩ = some (.int .i64 x.who) := (h.below (bAlloc (bRefl w) _)).c 4 (by omega)
  have hBl := h.lt
  have HH : Hid (RM w0 B x vn us sk s (w.alloc (.cells #[.int .i64 8, .int .i64 a] 41))) := h.below (bAlloc (bRefl w) _)
  have HB : Hid (B < w.heap.size) := h.lt
  clear h
  go_enter Tryd.func37, Tryd.ntmps37
  go_wp2_with (go_at_call 49; refine (put_any HH.out _ (by omega)).mono ?_; rintro e w' ⟨rfl, sk', h'⟩)
  go_ret
  exact ⟨rfl, _, _, _, h'⟩
end
end Go.Proofs.YtpcffhhednplaaaDoor
