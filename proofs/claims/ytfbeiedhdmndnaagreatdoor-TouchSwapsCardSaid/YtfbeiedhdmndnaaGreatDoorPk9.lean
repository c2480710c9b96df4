/-
  What send does.
-/
import Derived.Test.YtfbeiedhdmndnaaGreatDoorPk8
import Derived.Deep.RegionWith
import Derived.BigRegion
namespace Go.Proofs.YtfbeiedhdmndnaaGreatDoor
open Go.RowKit
attribute [local go_sem ↓] Go.wp_at_zero Go.wp_at_succ
theorem linfo79 : (Tryz.prog.info? 79).map (fun i => (i.zero, i.size, i.bytes)) = some (some (.agg #[.int .i64 0, .int .i64 0, .slice none 0 0]), 3, 40) := by kernel_rfl
section
variable {w0 w : World} {B : Nat} {x : FX} {vn : Value} {us : List Value} {sk : List Int} {s : MS}

set_option maxHeartbeats 1000000 in
theorem send_lost (h : RM w0 B x vn us sk s w) (a : Int) (n2 c2 : Nat) (A2 : Option Addr) (h2 : x.a2 = .slice A2 n2 c2) (h0 : 0 < s.st.length) (hto : ¬ (0 ≤ hd0 s.st ∧ hd0 s.st < n2)) :
    Calls Tryz.prog 162 #[.pointer (some ⟨B, 0, none⟩), .int .i64 a] w fun e w' => e = .returned (.int .i64 4) ∧ RM w0 B x vn us sk { s with st := s.st.tail } w' := by
  have HH : Hid (RM w0 B x vn us sk s w) := h
  have e1 : decide (0 ≤ hd0 s.st ∧ hd0 s.st < n2) = false := decide_eq_false hto
  clear h hto
  go_enter Tryz.func162, Tryz.ntmps162
  go_wp2_with fail
  refine (take_any HH.out h0).mono ?_
  rintro e w1 ⟨rfl, h1, _⟩
  have q1 : w1.cell? ⟨B, 1, none⟩ = some (.slice A2 n2 c2) := by rw [← h2]; exact h1.c 1 (by omega)
  have H1 : Hid (RM w0 B x vn us sk { s with st := s.st.tail } w1) := h1
  clear h1
  go_wp2_with (go_at_call 129; refine (vwithin_any _ _ _).mono ?_; rw [e1]; rintro e w2 ⟨rfl, rfl⟩)
  go_ret
  exact ⟨rfl, H1.out⟩

set_option maxHeartbeats 2000000 in
theorem send_anyV (h : RM w0 B x vn us sk s w) (hs : List PHnd) (a : Int) (n2 c2 : Nat) (A2 : Option Addr) (h2 : x.a2 = .slice A2 n2 c2) (hH : Hnds anyB anyB w0 x.a1 hs) (ha : 0 ≤ a ∧ a < hs.length) (hk : 0 ≤ argsOf hs a ∧ argsOf hs a ≤ 4) (h0 : argsOf hs a + 1 ≤ s.st.length) (hto : 0 ≤ hd0 s.st ∧ hd0 s.st < n2) (hnl : s.notes.length ≤ 1000) :
    Calls Tryz.prog 162 #[.pointer (some ⟨B, 0, none⟩), .int .i64 a] w fun e w' => e = .returned (.int .i64 0) ∧ ∃ vn' us', RM w0 B x vn' us' sk { s with st := s.st.tail.drop (argsOf hs a).toNat, notes := s.notes ++ [⟨hd0 s.st, a, (s.st.tail.take (argsOf hs a).toNat).reverse⟩] } w' := by
  have HH : Hid (RM w0 B x vn us sk s w) := h
  have e1 : decide (0 ≤ hd0 s.st ∧ hd0 s.st < n2) = true := decide_eq_true hto
  obtain ⟨k, hkk⟩ := Int.eq_ofNat_of_zero_le hk.1
  obtain ⟨j, rfl⟩ := Int.eq_ofNat_of_zero_le ha.1
  obtain ⟨i0, hi0, hz0, hz1, hz2⟩ := info_parts linfo79
  have hst8 := h.st8
  clear h hto
  go_enter Tryz.func162, Tryz.ntmps162
  go_wp2_with fail
  refine (take_any HH.out (by omega)).mono ?_
  rintro e w1 ⟨rfl, h1, _⟩
  have hk4 : k ≤ 4 := by omega
  have hkl : k ≤ s.st.tail.length := by simp; omega
  obtain ⟨A1, c1, hv1, hl1⟩ := hH.form
  rw [hv1] at hH
  obtain ⟨b1, o1, y, v1, rfl, hy, hz1', q2, _, _⟩ := hH.cell h1.low (k := j) (by omega)
  have hyk : y.args = (k : Int) := by rw [← hkk, argsOf_at hy]
  rw [hyk] at q2
  have hb1B : b1 ≠ B := by
    obtain ⟨b', o', e', _, hlt', _⟩ := hH.at (by omega)
    cases e'
    have := h1.base
    omega
  have hB := h1.lt
  have q0 : w1.cell? ⟨B, 0, none⟩ = some (.slice (some ⟨b1, o1, none⟩) hs.length c1) := by rw [← hv1]; exact h1.c 0 (by omega)
  have q1 : w1.cell? ⟨B, 1, none⟩ = some (.slice A2 n2 c2) := by rw [← h2]; exact h1.c 1 (by omega)
  have q21 : w1.cell? ⟨B, 21, none⟩ = some (.int .i64 s.st.tail.length) := h1.c 21 (by omega)
  have f21 := h1.fz 21
  have H2 : Hid (RM w0 B x vn us sk { s with st := s.st.tail.drop k } (w1.setCell ⟨B, 21, none⟩ (.int .i64 ((s.st.tail.length : Int) - k)))) := h1.drop k hkl
  have HS : Hid (∀ (t : Nat) (y : Int), (s.st.tail.take k).reverse[t]? = some y → s.st.tail.length - k + t < 8 ∧ sk.getD (s.st.tail.length - k + t) 0 = y) := fun t y hy => h1.sent hkl hy
  obtain ⟨m, hm⟩ : ∃ m, s.st.tail.length = m + k := ⟨s.st.tail.length - k, by omega⟩
  have em : ((m + k : Nat) : Int) - k = m := by omega
  rw [hm] at q21 H2 HS
  rw [em] at H2
  rw [Nat.add_sub_cancel] at HS
  have hm7 : m + k < 8 := by have : s.st.tail.length + 1 ≤ 8 := by simp; omega
                             omega
  have hj : (j : Int) < hs.length := ha.2
  have hj' : j < hs.length := by omega
  have HL : Hid ((s.st.tail.take k).reverse.length = k) := by show _ = _; simp; omega
  have hlow := h1.low
  have HE : Hid ({ s with st := s.st.tail.drop k, notes := s.notes ++ [⟨hd0 s.st, (j : Int), (s.st.tail.take k).reverse⟩] } = ({ s with st := s.st.tail.drop (argsOf hs j).toNat, notes := s.notes ++ [⟨hd0 s.st, (j : Int), (s.st.tail.take (argsOf hs j).toNat).reverse⟩] } : MS)) := by show _ = _; rw [hkk, Int.toNat_natCast]
  have hnz : b1 < w1.heap.size := hz1'
  clear h1 hH hy hv1 hk h0 hkk ha
  go_wp2_with (go_at_call 129; refine (vwithin_any _ _ _).mono ?_; rw [e1]; rintro e w2 ⟨rfl, rfl⟩)
  go_region
  obtain ⟨w3, hw3⟩ : ∃ w3, w3 = (w2.setCell ⟨B, 21, none⟩ (.int .i64 (m : Int))).drew := ⟨_, rfl⟩
  rw [← hw3]
  have H3 : Hid (RM w0 B x vn us sk { s with st := s.st.tail.drop k } w3) := by rw [hw3]; exact H2.out.below (bRefl _).drew
  have HS3 : ∀ (t : Nat) (y : Int), (s.st.tail.take k).reverse[t]? = some y → w3.cell? ⟨B, 13 + m + t, none⟩ = some (.int .i64 y) := fun t y hy => by
    obtain ⟨h1, h2⟩ := HS.out t y hy
    rw [Nat.add_assoc, H3.out.sc h1, h2]
  clear H2 HS hw3 q0 q1 q2 q21 f21 hB hz1' hnz hlow
  have q21 : w3.cell? ⟨B, 21, none⟩ = some (.int .i64 m) := by
    have := H3.out.c 21 (by omega)
    rw [this]
    show some (Value.int .i64 (((s.st.tail.drop k).length : Nat) : Int)) = _
    rw [show (s.st.tail.drop k).length = m by simp at hm ⊢; omega]
  have hB := H3.out.lt
  obtain ⟨A', c', w4, hrun, hnew⟩ := run_copyI w3.drew (some ⟨B, 13 + m, none⟩) k (8 - m) _ HL.out (by omega) (Or.inr ⟨B, 13 + m, rfl, fun t y hy => HS3 t y hy⟩)
  have HR : Hid (∀ ty, (Builtin.append_ #[54, 54] ty #[.slice none 0 0, .slice (some ⟨B, 13 + m, none⟩) k (8 - m)]).run Tryz.prog w3.drew = .ok (.slice A' k c') w4) := hrun
  have HW : Hid (NewI w3.drew w4 (.slice A' k c') (s.st.tail.take k).reverse) := hnew
  clear hrun hnew HS3
  have hsl := slice8 w3.drew B m k (by omega) (by omega)
  go_wp2_with fail
  go_region_law (refine step_append_run rfl _ _ 54 rfl _ _ _ _ rfl rfl HR.out ?_)
  have h4 := H3.out.below (undrew HW.out.2.1)
  have HI : Hid (Ints (fun b => w3.heap.size ≤ b) w4 (.slice A' k c') (s.st.tail.take k).reverse) := HW.out.1
  have HB : Hid (Below w3.heap.size w3 w4) := undrew HW.out.2.1
  obtain ⟨An, cn, hvn⟩ := h4.nts.form
  have q12 : w4.cell? ⟨B, 12, none⟩ = some (.slice An s.notes.length cn) := by rw [← hvn]; exact h4.c 12 (by omega)
  have H4 : Hid (RM w0 B x (.slice An s.notes.length cn) us sk { s with st := s.st.tail.drop k } w4) := by rw [← hvn]; exact h4
  have hB4 := h4.lt
  have H3' : Hid (RM w0 B x (.slice An s.notes.length cn) us sk { s with st := s.st.tail.drop k } w3) := by rw [← hvn]; exact H3.out
  clear h4 hsl HR HW q21 hB H3 hvn
  go_wp2_with (at_builtin; refine wpList_append_lies _ rfl _ _ 24 rfl w0.heap.size 79 i0 _ 3 40 Tryz.underlying24 hi0 hz0 hz1 hz2 rfl (by decide) _ s.notes.length _ rfl (H4.out.below (bAlloc (bRefl _) _)).nts.own ⟨w4.heap.size, 0, none⟩ 1 1 [.int .i64 (hd0 s.st), .int .i64 (j : Int), .slice A' k c'] rfl rfl ?c1 ?c2 (by decide) ?c3 ?c4 ?c5 (w4.heap.size + 1) ?c6 ?_)
  case c1 =>
    intro t u ht
    match t, ht with
    | 0, ht => simp at ht; subst ht; simp [Addr.add]
    | 1, ht => simp at ht; subst ht; simp [Addr.add]
    | 2, ht => simp at ht; subst ht; simp [Addr.add]
  case c2 => intro u hu; simp at hu; rcases hu with rfl | rfl | rfl <;> rfl
  case c3 => unfold maxLen; omega
  case c4 => omega
  case c5 => have := H4.out.low.size; simp; omega
  case c6 => simp
  intro g cap w5 hown hgr hat _
  obtain ⟨h5, p1, p2, p3⟩ := H3'.out.push (n := ⟨hd0 s.st, (j : Int), (s.st.tail.take k).reverse⟩) (bAlloc HB.out _) hown hgr (by simpa using hat) (HI.out.below (bAlloc (bRefl w4) _))
  have H5 : Hid (RM w0 B x (.slice (some ⟨g, 0, none⟩) (s.notes.length + 1) cap) (us ++ [.slice A' k c']) sk { s with st := s.st.tail.drop k, notes := s.notes ++ [⟨hd0 s.st, (j : Int), (s.st.tail.take k).reverse⟩] } (w5.setCell ⟨B, 12, none⟩ (.slice (some ⟨g, 0, none⟩) (s.notes.length + 1) cap))) := h5
  clear h5 hown hgr hat
  go_wp2
  go_ret
  exact ⟨rfl, _, _, HE.out ▸ H5.out⟩
end
end Go.Proofs.YtfbeiedhdmndnaaGreatDoor
namespace Go.Proofs.YtfbeiedhdmndnaaGreatDoor
open Go.RowKit
attribute [local go_sem ↓] Go.wp_at_zero Go.wp_at_succ

structure PX (w0 : World) (x : FX) (p : PPrg) (args : List Int) (code : List PIns) : Prop where
  hs : Hnds anyB anyB w0 x.a1 p.hs
  acs : Acts anyB anyB w0 x.a2 p.acs
  fuel : x.fuel = p.fuel
  va : Ints anyB w0 x.va args
  vc : Code anyB w0 x.vc code
  who : 0 ≤ x.who ∧ x.who < p.acs.length
section
variable {w0 w : World} {B : Nat} {x : FX} {vn : Value} {us : List Value} {sk : List Int} {s : MS} {p : PPrg} {args : List Int} {code : List PIns}
theorem rv_pc {x : FX} {ar : Bool} {vn : Value} {sk : List Int} {d a a' st : Int} : ∀ i, i < 24 → (if i = 22 then Value.int .i64 a' else rv x ar vn sk d a st i) = rv x ar vn sk d a' st i := by
  intro i hi
  by_cases e : i = 22
  · rw [if_pos e, e]; rfl
  · rw [if_neg e]
    unfold rv
    split <;> first | rfl | omega
theorem rv_st {x : FX} {ar : Bool} {vn : Value} {sk : List Int} {d a st st' : Int} : ∀ i, i < 24 → (if i = 23 then Value.int .i64 st' else rv x ar vn sk d a st i) = rv x ar vn sk d a st' i := by
  intro i hi
  by_cases e : i = 23
  · rw [if_pos e, e]; rfl
  · rw [if_neg e]
    unfold rv
    split <;> first | rfl | omega
theorem rv_ar {x : FX} {ar ar' : Bool} {vn : Value} {sk : List Int} {d a st : Int} : ∀ i, i < 24 → (if i = 8 then Value.bool ar' else rv x ar vn sk d a st i) = rv x ar' vn sk d a st i := by
  intro i hi
  by_cases e : i = 8
  · rw [if_pos e, e]; rfl
  · rw [if_neg e]
    unfold rv
    split <;> first | rfl | omega
theorem RM.spc (h : RM w0 B x vn us sk s w) (k : Nat) : RM w0 B x vn us sk { s with pc := k } (w.setCell ⟨B, 22, none⟩ (.int .i64 k)) :=
  h.setB _ _ { s with pc := k } _ rfl rfl h.skl h.stk h.st8 rv_pc
theorem RM.sst (h : RM w0 B x vn us sk s w) (k : Nat) : RM w0 B x vn us sk { s with steps := k } (w.setCell ⟨B, 23, none⟩ (.int .i64 k)) :=
  h.setB _ _ { s with steps := k } _ rfl rfl h.skl h.stk h.st8 rv_st
theorem RM.sar (h : RM w0 B x vn us sk s w) (b : Bool) : RM w0 B x vn us sk { s with armed := b } (w.setCell ⟨B, 8, none⟩ (.bool b)) :=
  h.setB _ _ { s with armed := b } _ rfl rfl h.skl h.stk h.st8 rv_ar
theorem new_c {w w' : World} {c : Array Value} {t : TypeId} {k : Nat} (h : w'.heap[w.heap.size]? = (w.alloc (.cells c t)).heap[w.heap.size]?) : w'.cell? ⟨w.heap.size, k, none⟩ = c[k]? := by
  rw [heap_new] at h
  exact cell_of_row _ _ _ _ _ _ h

set_option maxHeartbeats 1000000 in
set_option maxRecDepth 100000 in
theorem st1 (h : RM w0 B x vn us sk s w) (a : Int) (h8 : s.st.length < 8) :
    Calls Tryz.prog 131 #[.pointer (some ⟨B, 0, none⟩), .agg #[.int .i64 1, .int .i64 a]] w fun e w' => e = .returned (.int .i64 0) ∧ ∃ vn' us' sk', RM w0 B x vn' us' sk' { s with st := a :: s.st } w' := by
  have HH : Hid (RM w0 B x vn us sk s (w.alloc (.cells #[.int .i64 1, .int .i64 a] 70))) := h.below (bAlloc (bRefl w) _)
  have HB : Hid (B < w.heap.size) := h.lt
  clear h
  go_enter Tryz.func131, Tryz.ntmps131
  go_wp2_with (go_at_call 156; refine (put_any HH.out _ (by omega)).mono ?_; rintro e w' ⟨rfl, sk', h'⟩)
  go_ret
  exact ⟨rfl, _, _, _, h'⟩

set_option maxHeartbeats 1000000 in
set_option maxRecDepth 100000 in
theorem st2 (h : RM w0 B x vn us sk s w) (a : Int) (h0 : 0 < s.st.length) :
    Calls Tryz.prog 131 #[.pointer (some ⟨B, 0, none⟩), .agg #[.int .i64 2, .int .i64 a]] w fun e w' => e = .returned (.int .i64 0) ∧ ∃ vn' us' sk', RM w0 B x vn' us' sk' { s with st := s.st.tail } w' := by
  have HH : Hid (RM w0 B x vn us sk s (w.alloc (.cells #[.int .i64 2, .int .i64 a] 70))) := h.below (bAlloc (bRefl w) _)
  have HB : Hid (B < w.heap.size) := h.lt
  clear h
  go_enter Tryz.func131, Tryz.ntmps131
  go_wp2_with (go_at_call 157; refine (take_any HH.out h0).mono ?_; rintro e w' ⟨rfl, h', _⟩)
  go_ret
  exact ⟨rfl, _, _, _, h'⟩

set_option maxHeartbeats 1000000 in
set_option maxRecDepth 100000 in
theorem st3 (h : RM w0 B x vn us sk s w) (a : Int) (h0 : 0 < s.st.length) (h8 : s.st.length < 8) :
    Calls Tryz.prog 131 #[.pointer (some ⟨B, 0, none⟩), .agg #[.int .i64 3, .int .i64 a]] w fun e w' => e = .returned (.int .i64 0) ∧ ∃ vn' us' sk', RM w0 B x vn' us' sk' { s with st := hd0 s.st :: s.st } w' := by
  obtain ⟨m, hm⟩ : ∃ m, s.st.length = m + 1 := ⟨s.st.length - 1, by omega⟩
  have hv : sk.getD m 0 = hd0 s.st := by
    have := sk_at (j := 0) h.stk h0
    rw [Nat.sub_zero, hm, Nat.add_sub_cancel] at this
    rw [this]
    cases s.st <;> rfl
  have q1 : (w.alloc (.cells #[.int .i64 3, .int .i64 a] 70)).cell? ⟨B, 21, none⟩ = some (.int .i64 ((m : Int) + 1)) := by rw [show (m : Int) + 1 = ((s.st.length : Nat) : Int) by omega]; exact (h.below (bAlloc (bRefl w) _)).c 21 (by omega)
  have q2 : (w.alloc (.cells #[.int .i64 3, .int .i64 a] 70)).cell? ⟨B, 13 + m, none⟩ = some (.int .i64 (hd0 s.st)) := by rw [← hv]; exact (h.below (bAlloc (bRefl w) _)).sc (by omega)
  have hBl := h.lt
  have hm7 : m < 8 := by omega
  have hwm : IntKind.i64.wrap (m : Int) = m := by rw [IntKind.wrap_i64]; omega
  have HH : Hid (RM w0 B x vn us sk s (w.alloc (.cells #[.int .i64 3, .int .i64 a] 70))) := h.below (bAlloc (bRefl w) _)
  have HB : Hid (B < w.heap.size) := h.lt
  clear h
  go_enter Tryz.func131, Tryz.ntmps131
  go_wp2_with fail
  go_region_with (go_at_call 156; refine (put_any (HH.out.below (bRefl _).drew) _ (by omega)).mono ?_; rintro e w' ⟨rfl, sk', h'⟩)
  all_goals (go_wp2; go_ret; exact ⟨rfl, _, _, _, h'⟩)

set_option maxHeartbeats 1000000 in
set_option maxRecDepth 100000 in
theorem st4 (h : RM w0 B x vn us sk s w) (a : Int) (h2 : 2 ≤ s.st.length) :
    Calls Tryz.prog 131 #[.pointer (some ⟨B, 0, none⟩), .agg #[.int .i64 4, .int .i64 a]] w fun e w' => e = .returned (.int .i64 0) ∧ ∃ vn' us' sk', RM w0 B x vn' us' sk' { s with st := hd0 s.st.tail :: hd0 s.st :: s.st.tail.tail } w' := by
  have h8 := h.st8
  have HH : Hid (RM w0 B x vn us sk s (w.alloc (.cells #[.int .i64 4, .int .i64 a] 70))) := h.below (bAlloc (bRefl w) _)
  have HB : Hid (B < w.heap.size) := h.lt
  clear h
  go_enter Tryz.func131, Tryz.ntmps131
  go_wp2_with fail
  refine (take_any HH.out (by omega)).mono ?_
  rintro e w1 ⟨rfl, h1, _⟩
  have H1 : Hid (RM w0 B x vn us sk { s with st := s.st.tail } w1) := h1
  clear h1
  go_wp2_with fail
  refine (take_any H1.out (by simp; omega)).mono ?_
  rintro e w2 ⟨rfl, h2', _⟩
  have H2 : Hid (RM w0 B x vn us sk { s with st := s.st.tail.tail } w2) := h2'
  clear h2'
  go_wp2_with fail
  refine (put_any H2.out _ (by simp; omega)).mono ?_
  rintro e w3 ⟨rfl, sk3, h3⟩
  have H3 : Hid (RM w0 B x vn us sk3 { s with st := hd0 s.st :: s.st.tail.tail } w3) := h3
  clear h3
  go_wp2_with fail
  refine (put_any H3.out _ (by simp; omega)).mono ?_
  rintro e w4 ⟨rfl, sk4, h4⟩
  go_wp2
  go_ret
  exact ⟨rfl, _, _, _, h4⟩

set_option maxHeartbeats 1000000 in
set_option maxRecDepth 100000 in
theorem st5 (h : RM w0 B x vn us sk s w) (a : Int) (h8 : s.st.length < 8) (h0 : 0 ≤ a) :
    Calls Tryz.prog 131 #[.pointer (some ⟨B, 0, none⟩), .agg #[.int .i64 5, .int .i64 a]] w fun e w' => e = .returned (.int .i64 0) ∧ ∃ vn' us' sk', RM w0 B x vn' us' sk' { s with st := s.regs.getD a.toNat 0 :: s.st } w' := by
  have HH : Hid (RM w0 B x vn us sk s (w.alloc (.cells #[.int .i64 5, .int .i64 a] 70))) := h.below (bAlloc (bRefl w) _)
  have HB : Hid (B < w.heap.size) := h.lt
  clear h
  go_enter Tryz.func131, Tryz.ntmps131
  go_wp2_with fail
  refine (load_any HH.out a h0).mono ?_
  rintro e w1 ⟨rfl, rfl⟩
  go_wp2_with (go_at_call 156; refine (put_any HH.out _ (by omega)).mono ?_; rintro e w' ⟨rfl, sk', h'⟩)
  go_ret
  exact ⟨rfl, _, _, _, h'⟩

set_option maxHeartbeats 1000000 in
set_option maxRecDepth 100000 in
theorem st6 (h : RM w0 B x vn us sk s w) (a : Int) (h1 : 0 < s.st.length) (h0 : 0 ≤ a) :
    Calls Tryz.prog 131 #[.pointer (some ⟨B, 0, none⟩), .agg #[.int .i64 6, .int .i64 a]] w fun e w' => e = .returned (.int .i64 0) ∧ ∃ vn' us' sk', RM w0 B x vn' us' sk' { s with st := s.st.tail, regs := s.regs.set a.toNat (hd0 s.st) } w' := by
  have HH : Hid (RM w0 B x vn us sk s (w.alloc (.cells #[.int .i64 6, .int .i64 a] 70))) := h.below (bAlloc (bRefl w) _)
  have HB : Hid (B < w.heap.size) := h.lt
  clear h
  have hz : w.heap.size ≠ B := by have := HB.out; omega
  go_enter Tryz.func131, Tryz.ntmps131
  go_wp2_with fail
  go_region_with (first
    | (go_at_call 157; refine (take_any (HH.out.below (bRefl _).drew) h1).mono ?_; rintro e w1 ⟨rfl, h', hk⟩; have hc1 : w1.cell? ⟨w.heap.size, 1, none⟩ = some (.int .i64 a) := new_c (hk _ hz))
    | (go_at_call 159; refine (store_any h' a _ h0).mono ?_; rintro e w2 ⟨rfl, h''⟩))
  all_goals (go_wp2; go_ret; exact ⟨rfl, _, _, _, h''⟩)

set_option maxHeartbeats 1000000 in
set_option maxRecDepth 100000 in
theorem st7 (h : RM w0 B x vn us sk s w) (a : Int) (px : PX w0 x p args code) (h8 : s.st.length < 8) (h0 : 0 ≤ a ∧ a < args.length) :
    Calls Tryz.prog 131 #[.pointer (some ⟨B, 0, none⟩), .agg #[.int .i64 7, .int .i64 a]] w fun e w' => e = .returned (.int .i64 0) ∧ ∃ vn' us' sk', RM w0 B x vn' us' sk' { s with st := args.getD a.toNat 0 :: s.st } w' := by
  obtain ⟨k, rfl⟩ := Int.eq_ofNat_of_zero_le h0.1
  obtain ⟨Aa, ca, hva, hla⟩ := px.va.form
  have hI := px.va
  rw [hva] at hI
  obtain ⟨b1, o1, y, rfl, hy, q1⟩ := hI.cell (h.below (bAlloc (bRefl w) (.cells #[.int .i64 7, .int .i64 (k : Int)] 70))).low (k := k) (by omega)
  have q2 : (w.alloc (.cells #[.int .i64 7, .int .i64 (k : Int)] 70)).cell? ⟨B, 5, none⟩ = some (.slice (some ⟨b1, o1, none⟩) args.length ca) := by rw [← hva]; exact (h.below (bAlloc (bRefl w) _)).c 5 (by omega)
  have hb1 : b1 < w.heap.size := by
    obtain ⟨b', o', e', _, hlt', _⟩ := hI.at (by omega)
    cases e'
    have := h.low.size
    omega
  have hk : k < args.length := by omega
  have HV : Hid (args.getD (k : Int).toNat 0 = y) := by show _ = _; rw [Int.toNat_natCast, List.getD_eq_getElem?_getD, hy]; rfl
  rw [HV.out]
  have hBl := h.lt
  clear hy hI hva px h0
  have HH : Hid (RM w0 B x vn us sk s (w.alloc (.cells #[.int .i64 7, .int .i64 (k : Int)] 70))) := h.below (bAlloc (bRefl w) _)
  have HB : Hid (B < w.heap.size) := h.lt
  clear h
  go_enter Tryz.func131, Tryz.ntmps131
  go_wp2_with fail
  go_region_with (go_at_call 156; refine (put_any (HH.out.below (bRefl _).drew) _ (by omega)).mono ?_; rintro e w' ⟨rfl, sk', h'⟩)
  all_goals (go_wp2; go_ret; exact ⟨rfl, _, _, _, h'⟩)

set_option maxHeartbeats 1000000 in
set_option maxRecDepth 100000 in
theorem st8 (h : RM w0 B x vn us sk s w) (a : Int) (h8 : s.st.length < 8) :
    Calls Tryz.prog 131 #[.pointer (some ⟨B, 0, none⟩), .agg #[.int .i64 8, .int .i64 a]] w fun e w' => e = .returned (.int .i64 0) ∧ ∃ vn' us' sk', RM w0 B x vn' us' sk' { s with st := x.who :: s.st } w' := by
  have q2 : (w.alloc (.cells #[.int .i64 8, .int .i64 a] 70)).cell? ⟨B, 4, none⟩ = some (.int .i64 x.who) := (h.below (bAlloc (bRefl w) _)).c 4 (by omega)
  have hBl := h.lt
  have HH : Hid (RM w0 B x vn us sk s (w.alloc (.cells #[.int .i64 8, .int .i64 a] 70))) := h.below (bAlloc (bRefl w) _)
  have HB : Hid (B < w.heap.size) := h.lt
  clear h
  go_enter Tryz.func131, Tryz.ntmps131
  go_wp2_with (go_at_call 156; refine (put_any HH.out _ (by omega)).mono ?_; rintro e w' ⟨rfl, sk', h'⟩)
  go_ret
  exact ⟨rfl, _, _, _, h'⟩
end
end Go.Proofs.YtfbeiedhdmndnaaGreatDoor
namespace Go.Proofs.YtfbeiedhdmndnaaGreatDoor
open Go.RowKit
attribute [local go_sem ↓] Go.wp_at_zero Go.wp_at_succ
section
variable {w0 w : World} {B : Nat} {x : FX} {vn : Value} {us : List Value} {sk : List Int} {s : MS} {p : PPrg} {args : List Int} {code : List PIns}

set_option maxHeartbeats 1000000 in
set_option maxRecDepth 100000 in
theorem st9 (h : RM w0 B x vn us sk s w) (a : Int) (h2 : 2 ≤ s.st.length) :
    Calls Tryz.prog 131 #[.pointer (some ⟨B, 0, none⟩), .agg #[.int .i64 9, .int .i64 a]] w fun e w' => e = .returned (.int .i64 (dn 9 (hd0 s.st))) ∧ ∃ vn' us' sk', RM w0 B x vn' us' sk' { s with st := tw 9 (hd0 s.st.tail) (hd0 s.st) :: s.st.tail.tail } w' := by
  have HH : Hid (RM w0 B x vn us sk s (w.alloc (.cells #[.int .i64 9, .int .i64 a] 70))) := h.below (bAlloc (bRefl w) _)
  have HB : Hid (B < w.heap.size) := h.lt
  clear h
  go_enter Tryz.func131, Tryz.ntmps131
  go_wp2_with (go_at_call 160; refine (mtwo_any HH.out 9 h2).mono ?_; rintro e w' ⟨rfl, sk', h'⟩)
  go_ret
  exact ⟨rfl, _, _, _, h'⟩

set_option maxHeartbeats 1000000 in
set_option maxRecDepth 100000 in
theorem st10 (h : RM w0 B x vn us sk s w) (a : Int) (h2 : 2 ≤ s.st.length) :
    Calls Tryz.prog 131 #[.pointer (some ⟨B, 0, none⟩), .agg #[.int .i64 10, .int .i64 a]] w fun e w' => e = .returned (.int .i64 (dn 10 (hd0 s.st))) ∧ ∃ vn' us' sk', RM w0 B x vn' us' sk' { s with st := tw 10 (hd0 s.st.tail) (hd0 s.st) :: s.st.tail.tail } w' := by
  have HH : Hid (RM w0 B x vn us sk s (w.alloc (.cells #[.int .i64 10, .int .i64 a] 70))) := h.below (bAlloc (bRefl w) _)
  have HB : Hid (B < w.heap.size) := h.lt
  clear h
  go_enter Tryz.func131, Tryz.ntmps131
  go_wp2_with (go_at_call 160; refine (mtwo_any HH.out 10 h2).mono ?_; rintro e w' ⟨rfl, sk', h'⟩)
  go_ret
  exact ⟨rfl, _, _, _, h'⟩

set_option maxHeartbeats 1000000 in
set_option maxRecDepth 100000 in
theorem st11 (h : RM w0 B x vn us sk s w) (a : Int) (h2 : 2 ≤ s.st.length) :
    Calls Tryz.prog 131 #[.pointer (some ⟨B, 0, none⟩), .agg #[.int .i64 11, .int .i64 a]] w fun e w' => e = .returned (.int .i64 (dn 11 (hd0 s.st))) ∧ ∃ vn' us' sk', RM w0 B x vn' us' sk' { s with st := tw 11 (hd0 s.st.tail) (hd0 s.st) :: s.st.tail.tail } w' := by
  have HH : Hid (RM w0 B x vn us sk s (w.alloc (.cells #[.int .i64 11, .int .i64 a] 70))) := h.below (bAlloc (bRefl w) _)
  have HB : Hid (B < w.heap.size) := h.lt
  clear h
  go_enter Tryz.func131, Tryz.ntmps131
  go_wp2_with (go_at_call 160; refine (mtwo_any HH.out 11 h2).mono ?_; rintro e w' ⟨rfl, sk', h'⟩)
  go_ret
  exact ⟨rfl, _, _, _, h'⟩

set_option maxHeartbeats 1000000 in
set_option maxRecDepth 100000 in
theorem st12 (h : RM w0 B x vn us sk s w) (a : Int) (h2 : 2 ≤ s.st.length) :
    Calls Tryz.prog 131 #[.pointer (some ⟨B, 0, none⟩), .agg #[.int .i64 12, .int .i64 a]] w fun e w' => e = .returned (.int .i64 (dn 12 (hd0 s.st))) ∧ ∃ vn' us' sk', RM w0 B x vn' us' sk' { s with st := tw 12 (hd0 s.st.tail) (hd0 s.st) :: s.st.tail.tail } w' := by
  have HH : Hid (RM w0 B x vn us sk s (w.alloc (.cells #[.int .i64 12, .int .i64 a] 70))) := h.below (bAlloc (bRefl w) _)
  have HB : Hid (B < w.heap.size) := h.lt
  clear h
  go_enter Tryz.func131, Tryz.ntmps131
  go_wp2_with (go_at_call 160; refine (mtwo_any HH.out 12 h2).mono ?_; rintro e w' ⟨rfl, sk', h'⟩)
  go_ret
  exact ⟨rfl, _, _, _, h'⟩

set_option maxHeartbeats 1000000 in
set_option maxRecDepth 100000 in
theorem st13 (h : RM w0 B x vn us sk s w) (a : Int) (h2 : 2 ≤ s.st.length) :
    Calls Tryz.prog 131 #[.pointer (some ⟨B, 0, none⟩), .agg #[.int .i64 13, .int .i64 a]] w fun e w' => e = .returned (.int .i64 (dn 13 (hd0 s.st))) ∧ ∃ vn' us' sk', RM w0 B x vn' us' sk' { s with st := tw 13 (hd0 s.st.tail) (hd0 s.st) :: s.st.tail.tail } w' := by
  have HH : Hid (RM w0 B x vn us sk s (w.alloc (.cells #[.int .i64 13, .int .i64 a] 70))) := h.below (bAlloc (bRefl w) _)
  have HB : Hid (B < w.heap.size) := h.lt
  clear h
  go_enter Tryz.func131, Tryz.ntmps131
  go_wp2_with (go_at_call 160; refine (mtwo_any HH.out 13 h2).mono ?_; rintro e w' ⟨rfl, sk', h'⟩)
  go_ret
  exact ⟨rfl, _, _, _, h'⟩

set_option maxHeartbeats 1000000 in
set_option maxRecDepth 100000 in
theorem st15 (h : RM w0 B x vn us sk s w) (a : Int) (h2 : 2 ≤ s.st.length) :
    Calls Tryz.prog 131 #[.pointer (some ⟨B, 0, none⟩), .agg #[.int .i64 15, .int .i64 a]] w fun e w' => e = .returned (.int .i64 (dn 15 (hd0 s.st))) ∧ ∃ vn' us' sk', RM w0 B x vn' us' sk' { s with st := tw 15 (hd0 s.st.tail) (hd0 s.st) :: s.st.tail.tail } w' := by
  have HH : Hid (RM w0 B x vn us sk s (w.alloc (.cells #[.int .i64 15, .int .i64 a] 70))) := h.below (bAlloc (bRefl w) _)
  have HB : Hid (B < w.heap.size) := h.lt
  clear h
  go_enter Tryz.func131, Tryz.ntmps131
  go_wp2_with (go_at_call 160; refine (mtwo_any HH.out 15 h2).mono ?_; rintro e w' ⟨rfl, sk', h'⟩)
  go_ret
  exact ⟨rfl, _, _, _, h'⟩

set_option maxHeartbeats 1000000 in
set_option maxRecDepth 100000 in
theorem st16 (h : RM w0 B x vn us sk s w) (a : Int) (h2 : 2 ≤ s.st.length) :
    Calls Tryz.prog 131 #[.pointer (some ⟨B, 0, none⟩), .agg #[.int .i64 16, .int .i64 a]] w fun e w' => e = .returned (.int .i64 (dn 16 (hd0 s.st))) ∧ ∃ vn' us' sk', RM w0 B x vn' us' sk' { s with st := tw 16 (hd0 s.st.tail) (hd0 s.st) :: s.st.tail.tail } w' := by
  have HH : Hid (RM w0 B x vn us sk s (w.alloc (.cells #[.int .i64 16, .int .i64 a] 70))) := h.below (bAlloc (bRefl w) _)
  have HB : Hid (B < w.heap.size) := h.lt
  clear h
  go_enter Tryz.func131, Tryz.ntmps131
  go_wp2_with (go_at_call 160; refine (mtwo_any HH.out 16 h2).mono ?_; rintro e w' ⟨rfl, sk', h'⟩)
  go_ret
  exact ⟨rfl, _, _, _, h'⟩

set_option maxHeartbeats 1000000 in
set_option maxRecDepth 100000 in
theorem st17 (h : RM w0 B x vn us sk s w) (a : Int) (h2 : 2 ≤ s.st.length) :
    Calls Tryz.prog 131 #[.pointer (some ⟨B, 0, none⟩), .agg #[.int .i64 17, .int .i64 a]] w fun e w' => e = .returned (.int .i64 (dn 17 (hd0 s.st))) ∧ ∃ vn' us' sk', RM w0 B x vn' us' sk' { s with st := tw 17 (hd0 s.st.tail) (hd0 s.st) :: s.st.tail.tail } w' := by
  have HH : Hid (RM w0 B x vn us sk s (w.alloc (.cells #[.int .i64 17, .int .i64 a] 70))) := h.below (bAlloc (bRefl w) _)
  have HB : Hid (B < w.heap.size) := h.lt
  clear h
  go_enter Tryz.func131, Tryz.ntmps131
  go_wp2_with (go_at_call 160; refine (mtwo_any HH.out 17 h2).mono ?_; rintro e w' ⟨rfl, sk', h'⟩)
  go_ret
  exact ⟨rfl, _, _, _, h'⟩

set_option maxHeartbeats 1000000 in
set_option maxRecDepth 100000 in
theorem st18 (h : RM w0 B x vn us sk s w) (a : Int) (h2 : 2 ≤ s.st.length) :
    Calls Tryz.prog 131 #[.pointer (some ⟨B, 0, none⟩), .agg #[.int .i64 18, .int .i64 a]] w fun e w' => e = .returned (.int .i64 (dn 18 (hd0 s.st))) ∧ ∃ vn' us' sk', RM w0 B x vn' us' sk' { s with st := tw 18 (hd0 s.st.tail) (hd0 s.st) :: s.st.tail.tail } w' := by
  have HH : Hid (RM w0 B x vn us sk s (w.alloc (.cells #[.int .i64 18, .int .i64 a] 70))) := h.below (bAlloc (bRefl w) _)
  have HB : Hid (B < w.heap.size) := h.lt
  clear h
  go_enter Tryz.func131, Tryz.ntmps131
  go_wp2_with (go_at_call 160; refine (mtwo_any HH.out 18 h2).mono ?_; rintro e w' ⟨rfl, sk', h'⟩)
  go_ret
  exact ⟨rfl, _, _, _, h'⟩

set_option maxHeartbeats 1000000 in
set_option maxRecDepth 100000 in
theorem st14 (h : RM w0 B x vn us sk s w) (a : Int) (h1 : 0 < s.st.length) :
    Calls Tryz.prog 131 #[.pointer (some ⟨B, 0, none⟩), .agg #[.int .i64 14, .int .i64 a]] w fun e w' => e = .returned (.int .i64 0) ∧ ∃ vn' us' sk', RM w0 B x vn' us' sk' { s with st := on 14 (hd0 s.st) :: s.st.tail } w' := by
  have h8 := h.st8
  have HH : Hid (RM w0 B x vn us sk s (w.alloc (.cells #[.int .i64 14, .int .i64 a] 70))) := h.below (bAlloc (bRefl w) _)
  have HB : Hid (B < w.heap.size) := h.lt
  clear h
  have hz : w.heap.size ≠ B := by have := HB.out; omega
  go_enter Tryz.func131, Tryz.ntmps131
  go_wp2_with fail
  go_region_with (first
    | (go_at_call 157; refine (take_any (HH.out.below (bRefl _).drew) h1).mono ?_; rintro e w1 ⟨rfl, h1', hk⟩; have hc1 : w1.cell? ⟨w.heap.size, 0, none⟩ = some (.int .i64 14) := new_c (hk _ hz))
    | (go_at_call 161; refine (one_any _ _ _).mono ?_; rintro e w2 ⟨rfl, rfl⟩))
  all_goals (go_wp2_with (go_at_call 156; refine (put_any h1' _ (by simp; omega)).mono ?_; rintro e w' ⟨rfl, sk', h'⟩); go_ret; exact ⟨rfl, _, _, _, h'⟩)

set_option maxHeartbeats 1000000 in
set_option maxRecDepth 100000 in
theorem st19 (h : RM w0 B x vn us sk s w) (a : Int) (h1 : 0 < s.st.length) :
    Calls Tryz.prog 131 #[.pointer (some ⟨B, 0, none⟩), .agg #[.int .i64 19, .int .i64 a]] w fun e w' => e = .returned (.int .i64 0) ∧ ∃ vn' us' sk', RM w0 B x vn' us' sk' { s with st := on 19 (hd0 s.st) :: s.st.tail } w' := by
  have h8 := h.st8
  have HH : Hid (RM w0 B x vn us sk s (w.alloc (.cells #[.int .i64 19, .int .i64 a] 70))) := h.below (bAlloc (bRefl w) _)
  have HB : Hid (B < w.heap.size) := h.lt
  clear h
  have hz : w.heap.size ≠ B := by have := HB.out; omega
  go_enter Tryz.func131, Tryz.ntmps131
  go_wp2_with fail
  go_region_with (first
    | (go_at_call 157; refine (take_any (HH.out.below (bRefl _).drew) h1).mono ?_; rintro e w1 ⟨rfl, h1', hk⟩; have hc1 : w1.cell? ⟨w.heap.size, 0, none⟩ = some (.int .i64 19) := new_c (hk _ hz))
    | (go_at_call 161; refine (one_any _ _ _).mono ?_; rintro e w2 ⟨rfl, rfl⟩))
  all_goals (go_wp2_with (go_at_call 156; refine (put_any h1' _ (by simp; omega)).mono ?_; rintro e w' ⟨rfl, sk', h'⟩); go_ret; exact ⟨rfl, _, _, _, h'⟩)

set_option maxHeartbeats 1000000 in
set_option maxRecDepth 100000 in
theorem st20 (h : RM w0 B x vn us sk s w) (a : Int) (h0 : 0 ≤ a ∧ a ≤ code.length) :
    Calls Tryz.prog 131 #[.pointer (some ⟨B, 0, none⟩), .agg #[.int .i64 20, .int .i64 a]] w fun e w' => e = .returned (.int .i64 0) ∧ ∃ vn' us' sk', RM w0 B x vn' us' sk' { s with pc := a.toNat } w' := by
  obtain ⟨k, rfl⟩ := Int.eq_ofNat_of_zero_le h0.1
  rw [Int.toNat_natCast]
  have HN : Hid (RM w0 B x vn us sk { s with pc := k } ((w.setCell ⟨B, 22, none⟩ (.int .i64 k)).alloc (.cells #[.int .i64 20, .int .i64 (k : Int)] 70))) := (h.spc k).below (bAlloc (bRefl _) _)
  have q1 := (h.below (bAlloc (bRefl w) (.cells #[.int .i64 20, .int .i64 (k : Int)] 70))).c 22 (by omega)
  have q2 := (h.below (bAlloc (bRefl w) (.cells #[.int .i64 20, .int .i64 (k : Int)] 70))).fz 22
  have hBl := h.lt
  clear h h0
  go_enter Tryz.func131, Tryz.ntmps131
  go_wp2
  go_ret
  exact ⟨rfl, _, _, _, HN.out⟩

set_option maxHeartbeats 1000000 in
set_option maxRecDepth 100000 in
theorem st21y (h : RM w0 B x vn us sk s w) (a : Int) (h1 : 0 < s.st.length) (hz0 : hd0 s.st = 0) (h0 : 0 ≤ a ∧ a ≤ code.length) :
    Calls Tryz.prog 131 #[.pointer (some ⟨B, 0, none⟩), .agg #[.int .i64 21, .int .i64 a]] w fun e w' => e = .returned (.int .i64 0) ∧ ∃ vn' us' sk', RM w0 B x vn' us' sk' { s with st := s.st.tail, pc := a.toNat } w' := by
  obtain ⟨k, rfl⟩ := Int.eq_ofNat_of_zero_le h0.1
  rw [Int.toNat_natCast]
  have HH : Hid (RM w0 B x vn us sk s (w.alloc (.cells #[.int .i64 21, .int .i64 (k : Int)] 70))) := h.below (bAlloc (bRefl w) _)
  have HB : Hid (B < w.heap.size) := h.lt
  clear h
  have hz : w.heap.size ≠ B := by have := HB.out; omega
  have hze : (hd0 s.st == 0) = true := by simp [hz0]
  go_enter Tryz.func131, Tryz.ntmps131
  go_wp2_with fail
  refine (take_any HH.out h1).mono ?_
  rintro e w1 ⟨rfl, h', hk⟩
  have hc1 : w1.cell? ⟨w.heap.size, 1, none⟩ = some (.int .i64 (k : Int)) := new_c (hk _ hz)
  have HN : Hid (RM w0 B x vn us sk { s with st := s.st.tail, pc := k } (w1.setCell ⟨B, 22, none⟩ (.int .i64 k))) := h'.spc k
  have q1 := h'.c 22 (by omega)
  have q2 := h'.fz 22
  have hBl := h'.lt
  clear h' hk
  go_wp2
  go_ret
  exact ⟨rfl, _, _, _, HN.out⟩

set_option maxHeartbeats 1000000 in
set_option maxRecDepth 100000 in
theorem st21n (h : RM w0 B x vn us sk s w) (a : Int) (h1 : 0 < s.st.length) (hz0 : hd0 s.st ≠ 0) :
    Calls Tryz.prog 131 #[.pointer (some ⟨B, 0, none⟩), .agg #[.int .i64 21, .int .i64 a]] w fun e w' => e = .returned (.int .i64 0) ∧ ∃ vn' us' sk', RM w0 B x vn' us' sk' { s with st := s.st.tail } w' := by
  have HH : Hid (RM w0 B x vn us sk s (w.alloc (.cells #[.int .i64 21, .int .i64 a] 70))) := h.below (bAlloc (bRefl w) _)
  have HB : Hid (B < w.heap.size) := h.lt
  clear h
  have hze : (hd0 s.st == 0) = false := by simp [hz0]
  go_enter Tryz.func131, Tryz.ntmps131
  go_wp2_with fail
  refine (take_any HH.out h1).mono ?_
  rintro e w1 ⟨rfl, h', hk⟩
  go_wp2
  go_ret
  exact ⟨rfl, _, _, _, h'⟩

set_option maxHeartbeats 1000000 in
set_option maxRecDepth 100000 in
theorem st22n (h : RM w0 B x vn us sk s w) (a : Int) (px : PX w0 x p args code) (h1 : 0 < s.st.length) (hto : ¬ (0 ≤ hd0 s.st ∧ hd0 s.st < p.acs.length)) :
    Calls Tryz.prog 131 #[.pointer (some ⟨B, 0, none⟩), .agg #[.int .i64 22, .int .i64 a]] w fun e w' => e = .returned (.int .i64 4) ∧ ∃ vn' us' sk', RM w0 B x vn' us' sk' { s with st := s.st.tail } w' := by
  obtain ⟨A2, c2, h2, _⟩ := px.acs.form
  have HH : Hid (RM w0 B x vn us sk s (w.alloc (.cells #[.int .i64 22, .int .i64 a] 70))) := h.below (bAlloc (bRefl w) _)
  have HB : Hid (B < w.heap.size) := h.lt
  clear h
  go_enter Tryz.func131, Tryz.ntmps131
  go_wp2_with (go_at_call 162; refine (send_lost HH.out a _ c2 A2 h2 h1 hto).mono ?_; rintro e w' ⟨rfl, h'⟩)
  go_ret
  exact ⟨rfl, _, _, _, h'⟩

set_option maxHeartbeats 1000000 in
set_option maxRecDepth 100000 in
theorem st22y (h : RM w0 B x vn us sk s w) (a : Int) (px : PX w0 x p args code) (hto : 0 ≤ hd0 s.st ∧ hd0 s.st < p.acs.length) (ha : 0 ≤ a ∧ a < p.hs.length) (hk : 0 ≤ argsOf p.hs a ∧ argsOf p.hs a ≤ 4) (h0 : argsOf p.hs a + 1 ≤ s.st.length) (hnl : s.notes.length ≤ 1000) :
    Calls Tryz.prog 131 #[.pointer (some ⟨B, 0, none⟩), .agg #[.int .i64 22, .int .i64 a]] w fun e w' => e = .returned (.int .i64 0) ∧ ∃ vn' us' sk', RM w0 B x vn' us' sk' { s with st := s.st.tail.drop (argsOf p.hs a).toNat, notes := s.notes ++ [⟨hd0 s.st, a, (s.st.tail.take (argsOf p.hs a).toNat).reverse⟩] } w' := by
  obtain ⟨A2, c2, h2, _⟩ := px.acs.form
  have HP : Hid (PX w0 x p args code) := px
  clear px
  have HH : Hid (RM w0 B x vn us sk s (w.alloc (.cells #[.int .i64 22, .int .i64 a] 70))) := h.below (bAlloc (bRefl w) _)
  have HB : Hid (B < w.heap.size) := h.lt
  clear h
  go_enter Tryz.func131, Tryz.ntmps131
  go_wp2_with (go_at_call 162; refine (send_anyV HH.out p.hs a _ c2 A2 h2 HP.out.hs ha hk h0 hto hnl).mono ?_; rintro e w' ⟨rfl, vn', us', h'⟩)
  go_ret
  exact ⟨rfl, _, _, _, h'⟩

set_option maxHeartbeats 4000000 in
set_option maxRecDepth 100000 in
theorem st23 (h : RM w0 B x vn us sk s w) (a : Int) (px : PX w0 x p args code) :
    Calls Tryz.prog 131 #[.pointer (some ⟨B, 0, none⟩), .agg #[.int .i64 23, .int .i64 a]] w fun e w' => e = .returned (.int .i64 0) ∧ ∃ vn' us' sk', RM w0 B x vn' us' sk' { s with armed := s.armed || tmr p x.who != -1 } w' := by
  obtain ⟨k, hk⟩ := Int.eq_ofNat_of_zero_le px.who.1
  have hkl : k < p.acs.length := by have := px.who.2; omega
  obtain ⟨A2, c2, h2, hl2⟩ := px.acs.form
  have hI := px.acs
  rw [h2] at hI
  obtain ⟨b1, o1, y, v1, rfl, hy, hz1, _, _, q3, _, _⟩ := hI.cell (h.below (bAlloc (bRefl w) (.cells #[.int .i64 23, .int .i64 a] 70))).low (k := k) hkl
  have ht : tmr p x.who = y.timer := by unfold tmr; rw [hk, Int.toNat_natCast, hy]; rfl
  rw [ht]
  have hb1 : b1 < w.heap.size := by
    obtain ⟨b', o', e', _, hlt', _⟩ := hI.at (by omega)
    cases e'
    have := h.low.size
    omega
  have hM := h.below (bAlloc (bRefl w) (.cells #[.int .i64 23, .int .i64 a] 70))
  have q1 : (w.alloc (.cells #[.int .i64 23, .int .i64 a] 70)).cell? ⟨B, 1, none⟩ = some (.slice (some ⟨b1, o1, none⟩) p.acs.length c2) := by rw [← h2]; exact hM.c 1 (by omega)
  have q4 : (w.alloc (.cells #[.int .i64 23, .int .i64 a] 70)).cell? ⟨B, 4, none⟩ = some (.int .i64 (k : Int)) := by have := hM.c 4 (by omega); rw [this, ← hk]; rfl
  have q8 : (w.alloc (.cells #[.int .i64 23, .int .i64 a] 70)).cell? ⟨B, 8, none⟩ = some (.bool s.armed) := hM.c 8 (by omega)
  have f8 := hM.fz 8
  have hBl := h.lt
  have HN : ∀ b, Hid (RM w0 B x vn us sk { s with armed := b } ((w.setCell ⟨B, 8, none⟩ (.bool b)).alloc (.cells #[.int .i64 23, .int .i64 a] 70))) := fun b => (h.sar b).below (bAlloc (bRefl _) _)
  clear h hM hI h2 hy px ht hk
  cases har : s.armed with
  | true =>
    rw [har] at q8
    go_enter Tryz.func131, Tryz.ntmps131
    go_wp2_with fail
    go_region
    go_wp2
    go_ret
    exact ⟨rfl, _, _, _, (HN true).out.below (bRefl _).drew⟩
  | false =>
    rw [har] at q8
    by_cases ht : y.timer = -1
    · have e1 : (y.timer != -1) = false := by simp [ht]
      go_enter Tryz.func131, Tryz.ntmps131
      go_wp2_with fail
      go_region
      go_wp2
      go_ret
      exact ⟨rfl, _, _, _, by rw [e1]; exact (HN false).out.below (bRefl _).drew⟩
    · have e1 : (y.timer != -1) = true := by simp [ht]
      go_enter Tryz.func131, Tryz.ntmps131
      go_wp2_with fail
      go_region
      go_wp2
      go_ret
      exact ⟨rfl, _, _, _, by rw [e1]; exact (HN true).out.below (bRefl _).drew⟩

set_option maxHeartbeats 1000000 in
set_option maxRecDepth 100000 in
theorem st24 (h : RM w0 B x vn us sk s w) (a : Int) :
    Calls Tryz.prog 131 #[.pointer (some ⟨B, 0, none⟩), .agg #[.int .i64 24, .int .i64 a]] w fun e w' => e = .returned (.int .i64 0) ∧ ∃ vn' us' sk', RM w0 B x vn' us' sk' { s with armed := false } w' := by
  have HN : Hid (RM w0 B x vn us sk { s with armed := false } ((w.setCell ⟨B, 8, none⟩ (.bool false)).alloc (.cells #[.int .i64 24, .int .i64 a] 70))) := (h.sar false).below (bAlloc (bRefl _) _)
  have q1 := (h.below (bAlloc (bRefl w) (.cells #[.int .i64 24, .int .i64 a] 70))).c 8 (by omega)
  have q2 := (h.below (bAlloc (bRefl w) (.cells #[.int .i64 24, .int .i64 a] 70))).fz 8
  have hBl := h.lt
  clear h
  go_enter Tryz.func131, Tryz.ntmps131
  go_wp2
  go_ret
  exact ⟨rfl, _, _, _, HN.out⟩

set_option maxHeartbeats 1000000 in
set_option maxRecDepth 100000 in
theorem st25 (h : RM w0 B x vn us sk s w) (a : Int) (px : PX w0 x p args code) :
    Calls Tryz.prog 131 #[.pointer (some ⟨B, 0, none⟩), .agg #[.int .i64 25, .int .i64 a]] w fun e w' => e = .returned (.int .i64 0) ∧ ∃ vn' us' sk', RM w0 B x vn' us' sk' { s with pc := code.length } w' := by
  obtain ⟨Ac, cc, hvc, hlc⟩ := px.vc.form
  have q0 : (w.alloc (.cells #[.int .i64 25, .int .i64 a] 70)).cell? ⟨B, 6, none⟩ = some (.slice Ac code.length cc) := by rw [← hvc]; exact (h.below (bAlloc (bRefl w) _)).c 6 (by omega)
  have HN : Hid (RM w0 B x vn us sk { s with pc := code.length } ((w.setCell ⟨B, 22, none⟩ (.int .i64 code.length)).alloc (.cells #[.int .i64 25, .int .i64 a] 70))) := (h.spc code.length).below (bAlloc (bRefl _) _)
  have q1 := (h.below (bAlloc (bRefl w) (.cells #[.int .i64 25, .int .i64 a] 70))).c 22 (by omega)
  have q2 := (h.below (bAlloc (bRefl w) (.cells #[.int .i64 25, .int .i64 a] 70))).fz 22
  have hBl := h.lt
  clear h px hvc
  go_enter Tryz.func131, Tryz.ntmps131
  go_wp2
  go_ret
  exact ⟨rfl, _, _, _, HN.out⟩
end
end Go.Proofs.YtfbeiedhdmndnaaGreatDoor
namespace Go.Proofs.YtfbeiedhdmndnaaGreatDoor
open Go.RowKit
theorem op_cases {op : Int} (h : vl op = true) : op = 1 ∨ op = 2 ∨ op = 3 ∨ op = 4 ∨ op = 5 ∨ op = 6 ∨ op = 7 ∨ op = 8 ∨ op = 9 ∨ op = 10 ∨ op = 11 ∨ op = 12 ∨ op = 13 ∨ op = 14 ∨ op = 15 ∨ op = 16 ∨ op = 17 ∨ op = 18 ∨ op = 19 ∨ op = 20 ∨ op = 21 ∨ op = 22 ∨ op = 23 ∨ op = 24 ∨ op = 25 := by
  have := vl_iff.1 h
  omega
theorem oks_of {p : PPrg} {x : PHnd} {args : List Int} {s : MS} {i : PIns} {l : List Int} (hx : chkH p.hs.length x = 0) (hO : OkH p.hs) (ha : (args.length : Int) = x.args) (hg : Good p.hs x.code l) (hr : Rch p.hs x.code s.pc s.st.length) (hi : x.code[s.pc]? = some i) : OkS p args x.code s i := by
  have hok := (hg.closed _ _ _ (hg.at hr) hr.nonneg hi).1
  have hc : chkI x.code.length x.args p.hs.length i = 0 := by
    unfold chkH at hx
    by_cases e0 : 0 ≤ x.args ∧ x.args ≤ 4
    · rw [if_pos e0] at hx
      by_cases e1 : x.code.length ≤ 64
      · rw [if_pos e1] at hx
        exact scan_zero hx i (List.mem_of_getElem? hi)
      · rw [if_neg e1] at hx; cases hx
    · rw [if_neg e0] at hx; cases hx
  have hI := okI_of (hs := p.hs) hc
  obtain ⟨op, a⟩ := i
  refine ⟨hok, hI.vl, fun e => ?_, fun e => ?_, hI.tgt, fun e => ⟨hI.snd e, ?_⟩⟩
  · have e' : op = 5 ∨ op = 6 := e
    have h1 : (if 0 ≤ a ∧ a ≤ 7 then (0 : Int) else 6) = 0 := by rcases e' with rfl | rfl <;> exact hc
    by_cases h2 : 0 ≤ a ∧ a ≤ 7
    · exact h2
    · rw [if_neg h2] at h1; cases h1
  · have e' : op = 7 := e
    subst e'
    have h1 : (if 0 ≤ a ∧ a < x.args then (0 : Int) else 6) = 0 := hc
    by_cases h2 : 0 ≤ a ∧ a < x.args
    · exact ⟨h2.1, by rw [ha]; exact h2.2⟩
    · rw [if_neg h2] at h1; cases h1
  · have e' : op = 22 := e
    subst e'
    obtain ⟨h1, h2⟩ := hI.snd rfl
    have h1' : 0 ≤ a := h1
    obtain ⟨k, rfl⟩ := Int.eq_ofNat_of_zero_le h1'
    have h2' : (k : Int) < p.hs.length := h2
    obtain ⟨y, hy⟩ := at_lt (l := p.hs) (k := k) (by omega)
    show 0 ≤ argsOf p.hs k ∧ argsOf p.hs k ≤ 4
    rw [argsOf_at hy]
    exact hO y (List.mem_of_getElem? hy)
section
variable {w0 w : World} {B : Nat} {x : FX} {vn : Value} {us : List Value} {sk : List Int} {s : MS} {p : PPrg} {args : List Int} {code : List PIns}
theorem step_any (px : PX w0 x p args code) (h : RM w0 B x vn us sk s w) (i : PIns) (ok : OkS p args code s i) (hnl : s.notes.length ≤ 1000) :
    Calls Tryz.prog 131 #[.pointer (some ⟨B, 0, none⟩), .agg #[.int .i64 i.op, .int .i64 i.a]] w fun e w' => e = .returned (.int .i64 (stp p x.who args code.length i s).1) ∧ ∃ vn' us' sk', RM w0 B x vn' us' sk' (stp p x.who args code.length i s).2 w' := by
  obtain ⟨op, a⟩ := i
  have g1 := ok.ok.1
  have g2 := ok.ok.2
  unfold lft at g2
  rcases op_cases ok.vl with e | e | e | e | e | e | e | e | e | e | e | e | e | e | e | e | e | e | e | e | e | e | e | e | e
  · have e' : op = 1 := e
    subst e'
    have k1 : (0 : Int) ≤ s.st.length := g1
    have k2 : (s.st.length : Int) - 0 + 1 ≤ 8 := g2
    exact st1 h a (by omega)
  · have e' : op = 2 := e
    subst e'
    have k1 : (1 : Int) ≤ s.st.length := g1
    have k2 : (s.st.length : Int) - 1 + 0 ≤ 8 := g2
    exact st2 h a (by omega)
  · have e' : op = 3 := e
    subst e'
    have k1 : (1 : Int) ≤ s.st.length := g1
    have k2 : (s.st.length : Int) - 1 + 2 ≤ 8 := g2
    exact st3 h a (by omega) (by omega)
  · have e' : op = 4 := e
    subst e'
    have k1 : (2 : Int) ≤ s.st.length := g1
    have k2 : (s.st.length : Int) - 2 + 2 ≤ 8 := g2
    exact st4 h a (by omega)
  · have e' : op = 5 := e
    subst e'
    have k1 : (0 : Int) ≤ s.st.length := g1
    have k2 : (s.st.length : Int) - 0 + 1 ≤ 8 := g2
    exact st5 h a (by omega) (ok.reg (Or.inl rfl)).1
  · have e' : op = 6 := e
    subst e'
    have k1 : (1 : Int) ≤ s.st.length := g1
    have k2 : (s.st.length : Int) - 1 + 0 ≤ 8 := g2
    exact st6 h a (by omega) (ok.reg (Or.inr rfl)).1
  · have e' : op = 7 := e
    subst e'
    have k1 : (0 : Int) ≤ s.st.length := g1
    have k2 : (s.st.length : Int) - 0 + 1 ≤ 8 := g2
    exact st7 h a px (by omega) (ok.arg rfl)
  · have e' : op = 8 := e
    subst e'
    have k1 : (0 : Int) ≤ s.st.length := g1
    have k2 : (s.st.length : Int) - 0 + 1 ≤ 8 := g2
    exact st8 h a (by omega)
  · have e' : op = 9 := e
    subst e'
    have k1 : (2 : Int) ≤ s.st.length := g1
    have k2 : (s.st.length : Int) - 2 + 1 ≤ 8 := g2
    exact st9 h a (by omega)
  · have e' : op = 10 := e
    subst e'
    have k1 : (2 : Int) ≤ s.st.length := g1
    have k2 : (s.st.length : Int) - 2 + 1 ≤ 8 := g2
    exact st10 h a (by omega)
  · have e' : op = 11 := e
    subst e'
    have k1 : (2 : Int) ≤ s.st.length := g1
    have k2 : (s.st.length : Int) - 2 + 1 ≤ 8 := g2
    exact st11 h a (by omega)
  · have e' : op = 12 := e
    subst e'
    have k1 : (2 : Int) ≤ s.st.length := g1
    have k2 : (s.st.length : Int) - 2 + 1 ≤ 8 := g2
    exact st12 h a (by omega)
  · have e' : op = 13 := e
    subst e'
    have k1 : (2 : Int) ≤ s.st.length := g1
    have k2 : (s.st.length : Int) - 2 + 1 ≤ 8 := g2
    exact st13 h a (by omega)
  · have e' : op = 14 := e
    subst e'
    have k1 : (1 : Int) ≤ s.st.length := g1
    have k2 : (s.st.length : Int) - 1 + 1 ≤ 8 := g2
    exact st14 h a (by omega)
  · have e' : op = 15 := e
    subst e'
    have k1 : (2 : Int) ≤ s.st.length := g1
    have k2 : (s.st.length : Int) - 2 + 1 ≤ 8 := g2
    exact st15 h a (by omega)
  · have e' : op = 16 := e
    subst e'
    have k1 : (2 : Int) ≤ s.st.length := g1
    have k2 : (s.st.length : Int) - 2 + 1 ≤ 8 := g2
    exact st16 h a (by omega)
  · have e' : op = 17 := e
    subst e'
    have k1 : (2 : Int) ≤ s.st.length := g1
    have k2 : (s.st.length : Int) - 2 + 1 ≤ 8 := g2
    exact st17 h a (by omega)
  · have e' : op = 18 := e
    subst e'
    have k1 : (2 : Int) ≤ s.st.length := g1
    have k2 : (s.st.length : Int) - 2 + 1 ≤ 8 := g2
    exact st18 h a (by omega)
  · have e' : op = 19 := e
    subst e'
    have k1 : (1 : Int) ≤ s.st.length := g1
    have k2 : (s.st.length : Int) - 1 + 1 ≤ 8 := g2
    exact st19 h a (by omega)
  · have e' : op = 20 := e
    subst e'
    exact st20 h a (ok.tgt (Or.inl rfl))
  · have e' : op = 21 := e
    subst e'
    have k1 : (1 : Int) ≤ s.st.length := g1
    have k2 : (s.st.length : Int) - 1 + 0 ≤ 8 := g2
    by_cases hz : hd0 s.st = 0
    · have e : stp p x.who args code.length ⟨21, a⟩ s = (0, { s with st := s.st.tail, pc := a.toNat }) := by show ((0 : Int), ({ s with st := s.st.tail, pc := if hd0 s.st = 0 then a.toNat else s.pc } : MS)) = _; rw [if_pos hz]
      rw [e]
      exact st21y h a (by omega) hz (ok.tgt (Or.inr rfl))
    · have e : stp p x.who args code.length ⟨21, a⟩ s = (0, { s with st := s.st.tail }) := by show ((0 : Int), ({ s with st := s.st.tail, pc := if hd0 s.st = 0 then a.toNat else s.pc } : MS)) = _; rw [if_neg hz]
      rw [e]
      exact st21n h a (by omega) hz
  · have e' : op = 22 := e
    subst e'
    have k1 : 1 + argsOf p.hs a ≤ s.st.length := g1
    obtain ⟨s1, s2⟩ := ok.snd rfl
    have s2' : 0 ≤ argsOf p.hs a := s2.1
    by_cases hz : 0 ≤ hd0 s.st ∧ hd0 s.st < p.acs.length
    · have e : stp p x.who args code.length ⟨22, a⟩ s = (0, { s with st := s.st.tail.drop (argsOf p.hs a).toNat, notes := s.notes ++ [⟨hd0 s.st, a, (s.st.tail.take (argsOf p.hs a).toNat).reverse⟩] }) := if_pos hz
      rw [e]
      exact st22y h a px hz s1 s2 (by omega) hnl
    · have e : stp p x.who args code.length ⟨22, a⟩ s = (4, { s with st := s.st.tail }) := if_neg hz
      rw [e]
      exact st22n h a px (by omega) hz
  · have e' : op = 23 := e
    subst e'
    exact st23 h a px
  · have e' : op = 24 := e
    subst e'
    exact st24 h a
  · have e' : op = 25 := e
    subst e'
    exact st25 h a px
theorem stp_good {k : Nat} {i : PIns} (who : Int) (ok : OkS p args code s i) (hk : s.pc = k + 1) (hkl : k < code.length) (h0 : (stp p who args code.length i s).1 = 0) :
    (stp p who args code.length i s).2.steps = s.steps ∧ (((stp p who args code.length i s).2.st.length : Nat) : Int) = lft p.hs i s.st.length ∧ ((stp p who args code.length i s).2.pc = code.length ∨ (stp p who args code.length i s).2.pc ∈ nxt i k) ∧ (stp p who args code.length i s).2.pc ≤ code.length ∧ (stp p who args code.length i s).2.notes.length ≤ s.notes.length + 1 := by
  obtain ⟨op, a⟩ := i
  have g1 := ok.ok.1
  rcases op_cases ok.vl with e | e | e | e | e | e | e | e | e | e | e | e | e | e | e | e | e | e | e | e | e | e | e | e | e
  · have e' : op = 1 := e
    subst e'
    have k1 : (0 : Int) ≤ s.st.length := g1
    refine ⟨rfl, ?_, Or.inr (by show s.pc ∈ [k + 1]; simp [hk]), by show s.pc ≤ _; omega, Nat.le_succ _⟩
    · show ((((a :: s.st).length : Nat)) : Int) = (s.st.length : Int) - 0 + 1
      rw [List.length_cons]
      omega
  · have e' : op = 2 := e
    subst e'
    have k1 : (1 : Int) ≤ s.st.length := g1
    refine ⟨rfl, ?_, Or.inr (by show s.pc ∈ [k + 1]; simp [hk]), by show s.pc ≤ _; omega, Nat.le_succ _⟩
    · show (((s.st.tail.length : Nat)) : Int) = (s.st.length : Int) - 1 + 0
      have l1 : s.st.tail.length = s.st.length - 1 := List.length_tail
      omega
  · have e' : op = 3 := e
    subst e'
    have k1 : (1 : Int) ≤ s.st.length := g1
    refine ⟨rfl, ?_, Or.inr (by show s.pc ∈ [k + 1]; simp [hk]), by show s.pc ≤ _; omega, Nat.le_succ _⟩
    · show ((((hd0 s.st :: s.st).length : Nat)) : Int) = (s.st.length : Int) - 1 + 2
      rw [List.length_cons]
      omega
  · have e' : op = 4 := e
    subst e'
    have k1 : (2 : Int) ≤ s.st.length := g1
    refine ⟨rfl, ?_, Or.inr (by show s.pc ∈ [k + 1]; simp [hk]), by show s.pc ≤ _; omega, Nat.le_succ _⟩
    · show ((((hd0 s.st.tail :: hd0 s.st :: s.st.tail.tail).length : Nat)) : Int) = (s.st.length : Int) - 2 + 2
      have l1 : s.st.tail.length = s.st.length - 1 := List.length_tail
      have l2 : s.st.tail.tail.length = s.st.tail.length - 1 := List.length_tail
      rw [List.length_cons, List.length_cons]
      omega
  · have e' : op = 5 := e
    subst e'
    have k1 : (0 : Int) ≤ s.st.length := g1
    refine ⟨rfl, ?_, Or.inr (by show s.pc ∈ [k + 1]; simp [hk]), by show s.pc ≤ _; omega, Nat.le_succ _⟩
    · show ((((_ :: s.st).length : Nat)) : Int) = (s.st.length : Int) - 0 + 1
      rw [List.length_cons]
      omega
  · have e' : op = 6 := e
    subst e'
    have k1 : (1 : Int) ≤ s.st.length := g1
    refine ⟨rfl, ?_, Or.inr (by show s.pc ∈ [k + 1]; simp [hk]), by show s.pc ≤ _; omega, Nat.le_succ _⟩
    · show (((s.st.tail.length : Nat)) : Int) = (s.st.length : Int) - 1 + 0
      have l1 : s.st.tail.length = s.st.length - 1 := List.length_tail
      omega
  · have e' : op = 7 := e
    subst e'
    have k1 : (0 : Int) ≤ s.st.length := g1
    refine ⟨rfl, ?_, Or.inr (by show s.pc ∈ [k + 1]; simp [hk]), by show s.pc ≤ _; omega, Nat.le_succ _⟩
    · show ((((_ :: s.st).length : Nat)) : Int) = (s.st.length : Int) - 0 + 1
      rw [List.length_cons]
      omega
  · have e' : op = 8 := e
    subst e'
    have k1 : (0 : Int) ≤ s.st.length := g1
    refine ⟨rfl, ?_, Or.inr (by show s.pc ∈ [k + 1]; simp [hk]), by show s.pc ≤ _; omega, Nat.le_succ _⟩
    · show ((((_ :: s.st).length : Nat)) : Int) = (s.st.length : Int) - 0 + 1
      rw [List.length_cons]
      omega
  · have e' : op = 9 := e
    subst e'
    have k1 : (2 : Int) ≤ s.st.length := g1
    refine ⟨rfl, ?_, Or.inr (by show s.pc ∈ [k + 1]; simp [hk]), by show s.pc ≤ _; omega, Nat.le_succ _⟩
    · show ((((_ :: s.st.tail.tail).length : Nat)) : Int) = (s.st.length : Int) - 2 + 1
      have l1 : s.st.tail.length = s.st.length - 1 := List.length_tail
      have l2 : s.st.tail.tail.length = s.st.tail.length - 1 := List.length_tail
      rw [List.length_cons]
      omega
  · have e' : op = 10 := e
    subst e'
    have k1 : (2 : Int) ≤ s.st.length := g1
    refine ⟨rfl, ?_, Or.inr (by show s.pc ∈ [k + 1]; simp [hk]), by show s.pc ≤ _; omega, Nat.le_succ _⟩
    · show ((((_ :: s.st.tail.tail).length : Nat)) : Int) = (s.st.length : Int) - 2 + 1
      have l1 : s.st.tail.length = s.st.length - 1 := List.length_tail
      have l2 : s.st.tail.tail.length = s.st.tail.length - 1 := List.length_tail
      rw [List.length_cons]
      omega
  · have e' : op = 11 := e
    subst e'
    have k1 : (2 : Int) ≤ s.st.length := g1
    refine ⟨rfl, ?_, Or.inr (by show s.pc ∈ [k + 1]; simp [hk]), by show s.pc ≤ _; omega, Nat.le_succ _⟩
    · show ((((_ :: s.st.tail.tail).length : Nat)) : Int) = (s.st.length : Int) - 2 + 1
      have l1 : s.st.tail.length = s.st.length - 1 := List.length_tail
      have l2 : s.st.tail.tail.length = s.st.tail.length - 1 := List.length_tail
      rw [List.length_cons]
      omega
  · have e' : op = 12 := e
    subst e'
    have k1 : (2 : Int) ≤ s.st.length := g1
    refine ⟨rfl, ?_, Or.inr (by show s.pc ∈ [k + 1]; simp [hk]), by show s.pc ≤ _; omega, Nat.le_succ _⟩
    · show ((((_ :: s.st.tail.tail).length : Nat)) : Int) = (s.st.length : Int) - 2 + 1
      have l1 : s.st.tail.length = s.st.length - 1 := List.length_tail
      have l2 : s.st.tail.tail.length = s.st.tail.length - 1 := List.length_tail
      rw [List.length_cons]
      omega
  · have e' : op = 13 := e
    subst e'
    have k1 : (2 : Int) ≤ s.st.length := g1
    refine ⟨rfl, ?_, Or.inr (by show s.pc ∈ [k + 1]; simp [hk]), by show s.pc ≤ _; omega, Nat.le_succ _⟩
    · show ((((_ :: s.st.tail.tail).length : Nat)) : Int) = (s.st.length : Int) - 2 + 1
      have l1 : s.st.tail.length = s.st.length - 1 := List.length_tail
      have l2 : s.st.tail.tail.length = s.st.tail.length - 1 := List.length_tail
      rw [List.length_cons]
      omega
  · have e' : op = 14 := e
    subst e'
    have k1 : (1 : Int) ≤ s.st.length := g1
    refine ⟨rfl, ?_, Or.inr (by show s.pc ∈ [k + 1]; simp [hk]), by show s.pc ≤ _; omega, Nat.le_succ _⟩
    · show ((((_ :: s.st.tail).length : Nat)) : Int) = (s.st.length : Int) - 1 + 1
      have l1 : s.st.tail.length = s.st.length - 1 := List.length_tail
      rw [List.length_cons]
      omega
  · have e' : op = 15 := e
    subst e'
    have k1 : (2 : Int) ≤ s.st.length := g1
    refine ⟨rfl, ?_, Or.inr (by show s.pc ∈ [k + 1]; simp [hk]), by show s.pc ≤ _; omega, Nat.le_succ _⟩
    · show ((((_ :: s.st.tail.tail).length : Nat)) : Int) = (s.st.length : Int) - 2 + 1
      have l1 : s.st.tail.length = s.st.length - 1 := List.length_tail
      have l2 : s.st.tail.tail.length = s.st.tail.length - 1 := List.length_tail
      rw [List.length_cons]
      omega
  · have e' : op = 16 := e
    subst e'
    have k1 : (2 : Int) ≤ s.st.length := g1
    refine ⟨rfl, ?_, Or.inr (by show s.pc ∈ [k + 1]; simp [hk]), by show s.pc ≤ _; omega, Nat.le_succ _⟩
    · show ((((_ :: s.st.tail.tail).length : Nat)) : Int) = (s.st.length : Int) - 2 + 1
      have l1 : s.st.tail.length = s.st.length - 1 := List.length_tail
      have l2 : s.st.tail.tail.length = s.st.tail.length - 1 := List.length_tail
      rw [List.length_cons]
      omega
  · have e' : op = 17 := e
    subst e'
    have k1 : (2 : Int) ≤ s.st.length := g1
    refine ⟨rfl, ?_, Or.inr (by show s.pc ∈ [k + 1]; simp [hk]), by show s.pc ≤ _; omega, Nat.le_succ _⟩
    · show ((((_ :: s.st.tail.tail).length : Nat)) : Int) = (s.st.length : Int) - 2 + 1
      have l1 : s.st.tail.length = s.st.length - 1 := List.length_tail
      have l2 : s.st.tail.tail.length = s.st.tail.length - 1 := List.length_tail
      rw [List.length_cons]
      omega
  · have e' : op = 18 := e
    subst e'
    have k1 : (2 : Int) ≤ s.st.length := g1
    refine ⟨rfl, ?_, Or.inr (by show s.pc ∈ [k + 1]; simp [hk]), by show s.pc ≤ _; omega, Nat.le_succ _⟩
    · show ((((_ :: s.st.tail.tail).length : Nat)) : Int) = (s.st.length : Int) - 2 + 1
      have l1 : s.st.tail.length = s.st.length - 1 := List.length_tail
      have l2 : s.st.tail.tail.length = s.st.tail.length - 1 := List.length_tail
      rw [List.length_cons]
      omega
  · have e' : op = 19 := e
    subst e'
    have k1 : (1 : Int) ≤ s.st.length := g1
    refine ⟨rfl, ?_, Or.inr (by show s.pc ∈ [k + 1]; simp [hk]), by show s.pc ≤ _; omega, Nat.le_succ _⟩
    · show ((((_ :: s.st.tail).length : Nat)) : Int) = (s.st.length : Int) - 1 + 1
      have l1 : s.st.tail.length = s.st.length - 1 := List.length_tail
      rw [List.length_cons]
      omega
  · have e' : op = 20 := e
    subst e'
    have k1 : (0 : Int) ≤ s.st.length := g1
    have t1 := ok.tgt (Or.inl rfl)
    have t2 : a ≤ code.length := t1.2
    refine ⟨rfl, ?_, Or.inr (by show a.toNat ∈ [a.toNat]; simp), by show a.toNat ≤ _; omega, Nat.le_succ _⟩
    · show (((s.st.length : Nat)) : Int) = (s.st.length : Int) - 0 + 0
      omega
  · have e' : op = 21 := e
    subst e'
    have k1 : (1 : Int) ≤ s.st.length := g1
    have t1 := ok.tgt (Or.inr rfl)
    have t2 : a ≤ code.length := t1.2
    refine ⟨rfl, ?_, Or.inr ?_, ?_, Nat.le_succ _⟩
    · show (((s.st.tail.length : Nat)) : Int) = (s.st.length : Int) - 1 + 0
      have l1 : s.st.tail.length = s.st.length - 1 := List.length_tail
      omega
    · show (if hd0 s.st = 0 then a.toNat else s.pc) ∈ [a.toNat, k + 1]
      split <;> simp [hk]
    · show (if hd0 s.st = 0 then a.toNat else s.pc) ≤ _
      split <;> omega
  · have e' : op = 22 := e
    subst e'
    have k1 : 1 + argsOf p.hs a ≤ s.st.length := g1
    obtain ⟨s1, s2⟩ := ok.snd rfl
    have s2' : 0 ≤ argsOf p.hs a := s2.1
    by_cases hz : 0 ≤ hd0 s.st ∧ hd0 s.st < p.acs.length
    · have e : stp p who args code.length ⟨22, a⟩ s = (0, { s with st := s.st.tail.drop (argsOf p.hs a).toNat, notes := s.notes ++ [⟨hd0 s.st, a, (s.st.tail.take (argsOf p.hs a).toNat).reverse⟩] }) := if_pos hz
      rw [e]
      refine ⟨rfl, ?_, Or.inr (by show s.pc ∈ [k + 1]; simp [hk]), by show s.pc ≤ _; omega, by simp⟩
      show (((s.st.tail.drop (argsOf p.hs a).toNat).length : Nat) : Int) = (s.st.length : Int) - (1 + argsOf p.hs a) + 0
      rw [List.length_drop, List.length_tail]; omega
    · have e : stp p who args code.length ⟨22, a⟩ s = (4, { s with st := s.st.tail }) := if_neg hz
      rw [e] at h0
      cases h0
  · have e' : op = 23 := e
    subst e'
    have k1 : (0 : Int) ≤ s.st.length := g1
    refine ⟨rfl, ?_, Or.inr (by show s.pc ∈ [k + 1]; simp [hk]), by show s.pc ≤ _; omega, Nat.le_succ _⟩
    · show (((s.st.length : Nat)) : Int) = (s.st.length : Int) - 0 + 0
      omega
  · have e' : op = 24 := e
    subst e'
    have k1 : (0 : Int) ≤ s.st.length := g1
    refine ⟨rfl, ?_, Or.inr (by show s.pc ∈ [k + 1]; simp [hk]), by show s.pc ≤ _; omega, Nat.le_succ _⟩
    · show (((s.st.length : Nat)) : Int) = (s.st.length : Int) - 0 + 0
      omega
  · have e' : op = 25 := e
    subst e'
    have k1 : (0 : Int) ≤ s.st.length := g1
    refine ⟨rfl, ?_, Or.inl rfl, Nat.le_refl _, Nat.le_succ _⟩
    · show (((s.st.length : Nat)) : Int) = (s.st.length : Int) - 0 + 0
      omega
end
end Go.Proofs.YtfbeiedhdmndnaaGreatDoor
namespace Go.Proofs.YtfbeiedhdmndnaaGreatDoor
open Go.RowKit
attribute [local go_sem ↓] Go.wp_at_zero Go.wp_at_succ
section
variable {w0 w : World} {B : Nat} {x : FX} {vn : Value} {us : List Value} {sk : List Int} {s : MS} {p : PPrg} {args : List Int}
theorem rn_end {code : List PIns} {who : Int} {f : Nat} (h : ¬ s.pc < code.length) : rn p who args code f s = (0, s) := by
  cases f with
  | zero => unfold rn; rw [if_neg h]
  | succ f => unfold rn; rw [if_neg h]
theorem rn_out {code : List PIns} {who : Int} (h : s.pc < code.length) : rn p who args code 0 s = (2, s) := by unfold rn; rw [if_pos h]
theorem rn_down {code : List PIns} {who : Int} {f : Nat} {i : PIns} (h : s.pc < code.length) (hi : code[s.pc]? = some i) (hd : (stp p who args code.length i { s with pc := s.pc + 1, steps := s.steps + 1 }).1 ≠ 0) :
    rn p who args code (f + 1) s = stp p who args code.length i { s with pc := s.pc + 1, steps := s.steps + 1 } := by
  have e : code.getD s.pc default = i := by rw [List.getD_eq_getElem?_getD, hi]; rfl
  rw [rn]
  rw [if_pos h, e]
  show (if _ = (0 : Int) then _ else _) = _
  rw [if_neg hd]
theorem rn_on {code : List PIns} {who : Int} {f : Nat} {i : PIns} (h : s.pc < code.length) (hi : code[s.pc]? = some i) (hd : (stp p who args code.length i { s with pc := s.pc + 1, steps := s.steps + 1 }).1 = 0) :
    rn p who args code (f + 1) s = rn p who args code f (stp p who args code.length i { s with pc := s.pc + 1, steps := s.steps + 1 }).2 := by
  have e : code.getD s.pc default = i := by rw [List.getD_eq_getElem?_getD, hi]; rfl
  rw [rn]
  rw [if_pos h, e]
  show (if _ = (0 : Int) then _ else _) = _
  rw [if_pos hd]

structure LI (p : PPrg) (args : List Int) (who : Int) (code : List PIns) (R : Int × MS) (s : MS) : Prop where
  rch : s.pc < code.length → Rch p.hs code s.pc s.st.length
  eq : rn p who args code (p.fuel.toNat - s.steps) s = R
  nl : s.notes.length ≤ s.steps
theorem LI.next {y : PHnd} {l : List Int} {who : Int} {R : Int × MS} {i : PIns} (h : LI p args who y.code R s) (hx : chkH p.hs.length y = 0) (hO : OkH p.hs) (ha : (args.length : Int) = y.args) (hg : Good p.hs y.code l) (hi : y.code[s.pc]? = some i) (hf : s.steps < p.fuel.toNat)
    (hd : (stp p who args y.code.length i { s with pc := s.pc + 1, steps := s.steps + 1 }).1 = 0) :
    LI p args who y.code R (stp p who args y.code.length i { s with pc := s.pc + 1, steps := s.steps + 1 }).2 ∧ (stp p who args y.code.length i { s with pc := s.pc + 1, steps := s.steps + 1 }).2.steps = s.steps + 1 ∧ (stp p who args y.code.length i { s with pc := s.pc + 1, steps := s.steps + 1 }).2.pc ≤ y.code.length := by
  have hk := (List.getElem?_eq_some_iff.1 hi).1
  have ok0 := oks_of hx hO ha hg (h.rch hk) hi
  have ok : OkS p args y.code { s with pc := s.pc + 1, steps := s.steps + 1 } i := ⟨ok0.ok, ok0.vl, ok0.reg, ok0.arg, ok0.tgt, ok0.snd⟩
  obtain ⟨h1, h2, h3, h4, h5⟩ := stp_good who ok rfl hk hd
  have h1' : (stp p who args y.code.length i { s with pc := s.pc + 1, steps := s.steps + 1 }).2.steps = s.steps + 1 := h1
  refine ⟨⟨fun hlt => ?_, ?_, ?_⟩, h1', h4⟩
  · rcases h3 with h3 | h3
    · omega
    · rw [h2]; exact Rch.step (h.rch hk) hi ok.ok h3
  · rw [h1', ← h.eq, show p.fuel.toNat - s.steps = (p.fuel.toNat - (s.steps + 1)) + 1 by omega, rn_on hk hi hd]
  · rw [h1']
    have := h.nl
    have h5' : (stp p who args y.code.length i { s with pc := s.pc + 1, steps := s.steps + 1 }).2.notes.length ≤ s.notes.length + 1 := h5
    omega

set_option maxHeartbeats 4000000 in
set_option maxRecDepth 100000 in
theorem all_any {y : PHnd} {l : List Int} {R : Int × MS} (px : PX w0 x p args y.code) (h : RM w0 B x vn us sk s w) (hL : LI p args x.who y.code R s) (h0 : s.steps ≤ p.fuel.toNat) (hf : 0 ≤ p.fuel ∧ p.fuel ≤ 256) (hpc : s.pc ≤ y.code.length) (hx : chkH p.hs.length y = 0) (hO : OkH p.hs) (ha : (args.length : Int) = y.args) (hg : Good p.hs y.code l) :
    Calls Tryz.prog 104 #[.pointer (some ⟨B, 0, none⟩)] w fun e w' => e = .returned (.int .i64 R.1) ∧ ∃ vn' us' sk', RM w0 B x vn' us' sk' R.2 w' := by
  obtain ⟨fu, hfu⟩ := Int.eq_ofNat_of_zero_le hf.1
  have hfu' : p.fuel.toNat = fu := by rw [hfu]; exact Int.toNat_natCast fu
  have hfl : fu ≤ 256 := by omega
  have hxf : x.fuel = (fu : Int) := px.fuel.trans hfu
  obtain ⟨Ac, cc, hvc, hlc⟩ := px.vc.form
  have hC := px.vc
  rw [hvc] at hC
  have HP : Hid (PX w0 x p args y.code) := px
  have HX : Hid (chkH p.hs.length y = 0 ∧ OkH p.hs ∧ (args.length : Int) = y.args ∧ Good p.hs y.code l) := ⟨hx, hO, ha, hg⟩
  have HH : Hid (RM w0 B x vn us sk s w) := h
  have HL : Hid (LI p args x.who y.code R s) := hL
  have HF : Hid (p.fuel.toNat = fu) := hfu'
  have hcl : y.code.length ≤ 64 := by
    unfold chkH at hx
    by_cases e0 : 0 ≤ y.args ∧ y.args ≤ 4
    · rw [if_pos e0] at hx
      by_cases e1 : y.code.length ≤ 64
      · exact e1
      · rw [if_neg e1] at hx; cases hx
    · rw [if_neg e0] at hx; cases hx
  rw [hfu'] at h0
  clear px hx hO ha hg h hL hfu hfu' hf
  go_enter Tryz.func104, Tryz.ntmps104
  go_wp2_with fail
  go_loopg [3, 4] (fu - s.steps) (fun g i3 i4 wr => ∃ (s' : MS) (vn' : Value) (us' : List Value) (sk' : List Int), g = fu - s'.steps ∧ s'.steps ≤ fu ∧ s'.pc ≤ y.code.length ∧ Hid (RM w0 B x vn' us' sk' s' wr) ∧ Hid (LI p args x.who y.code R s'))
  case atStart => exact ⟨s, vn, us, sk, rfl, h0, hpc, HH, HL⟩
  case round =>
    clear HH HL h0 hpc
    obtain ⟨s', vn', us', sk', rfl, hs, hpc, hM, hL⟩ := hrel
    have q22 : wr.cell? ⟨B, 22, none⟩ = some (.int .i64 (s'.pc : Int)) := hM.out.c 22 (by omega)
    have q6 : wr.cell? ⟨B, 6, none⟩ = some (.slice Ac y.code.length cc) := by rw [← hvc]; exact hM.out.c 6 (by omega)
    have q23 : wr.cell? ⟨B, 23, none⟩ = some (.int .i64 (s'.steps : Int)) := hM.out.c 23 (by omega)
    have q3 : wr.cell? ⟨B, 3, none⟩ = some (.int .i64 (fu : Int)) := by rw [← hxf]; exact hM.out.c 3 (by omega)
    have hB := hM.out.lt
    by_cases hlt : s'.pc < y.code.length
    · by_cases hst : s'.steps = fu
      · have e1 : ((s'.steps : Int) == (fu : Int)) = true := by simp [hst]
        have HR : Hid (R = (2, s')) := by
          show _ = _
          have := hL.out.eq
          rw [← this, HF.out, hst, Nat.sub_self, rn_out hlt]
        go_wp2_with fail
        go_region
        go_wp2_with fail
        go_region
        go_wp2
        go_ret
        exact ⟨by rw [HR.out]; rfl, _, _, _, by rw [HR.out]; exact hM.out.below (bRefl _).drew.drew⟩
      · have e1 : ((s'.steps : Int) == (fu : Int)) = false := by simp; omega
        obtain ⟨b1, o1, i, rfl, hi, c1, c2⟩ := hC.cell hM.out.low hlt
        have hb1 : b1 < wr.heap.size := World.block_lt_of_cell? _ _ c1
        have hb1B : b1 ≠ B := by
          obtain ⟨b', o', e', _, hlt', _⟩ := hC.at (by omega)
          cases e'
          have := hM.out.base
          omega
        have f22 := hM.out.fz 22
        have f23 := hM.out.fz 23
        have HI : Hid (y.code[s'.pc]? = some i) := hi
        have HO : Hid (OkS p args y.code { s' with pc := s'.pc + 1, steps := s'.steps + 1 } i) := by
          have ok0 := oks_of HX.out.1 HX.out.2.1 HX.out.2.2.1 HX.out.2.2.2 (hL.out.rch hlt) hi
          exact ⟨ok0.ok, ok0.vl, ok0.reg, ok0.arg, ok0.tgt, ok0.snd⟩
        have HN : Hid (RM w0 B x vn' us' sk' { s' with pc := s'.pc + 1, steps := s'.steps + 1 } ((wr.setCell ⟨B, 23, none⟩ (.int .i64 ((s'.steps : Int) + 1))).setCell ⟨B, 22, none⟩ (.int .i64 ((s'.pc : Int) + 1)))) := (hM.out.sst (s'.steps + 1)).spc (s'.pc + 1)
        have hnl : s'.notes.length ≤ 1000 := by have := hL.out.nl; omega
        have w23 : IntKind.i64.wrap ((s'.steps : Int) + 1) = (s'.steps : Int) + 1 := by rw [IntKind.wrap_i64]; omega
        have w22 : IntKind.i64.wrap ((s'.pc : Int) + 1) = (s'.pc : Int) + 1 := by rw [IntKind.wrap_i64]; omega
        clear hi
        go_wp2_with fail
        go_region
        go_wp2_with fail
        go_region
        go_wp2_with fail
        go_region
        go_wp2_with fail
        have S := step_any HP.out (HN.out.below ((bAlloc (bRefl _) (.cells #[.int .i64 i.op, .int .i64 i.a] 70)).drew.drew.drew)) i HO.out hnl
        obtain ⟨r, hr⟩ : ∃ r, stp p x.who args y.code.length i { s' with pc := s'.pc + 1, steps := s'.steps + 1 } = r := ⟨_, rfl⟩
        rw [hr] at S
        by_cases hd : r.1 = 0
        · have e2 : (r.1 != 0) = false := ne_no hd
          have HX2 := hL.out.next HX.out.1 HX.out.2.1 HX.out.2.2.1 HX.out.2.2.2 HI.out (by rw [HF.out]; omega) (by rw [hr]; exact hd)
          rw [hr] at HX2
          obtain ⟨n1, n2, n3⟩ := HX2
          have HL2 : Hid (LI p args x.who y.code R r.2) := n1
          clear hr n1 hd
          refine S.mono ?_
          rintro e w2 ⟨rfl, vn2, us2, sk2, h2⟩
          have HM2 : Hid (RM w0 B x vn2 us2 sk2 r.2 w2) := h2
          clear h2 S HN q22 q6 q23 q3 hB c1 c2 f22 f23 hM hL
          go_wp2
          go_roundg (fu - r.2.steps)
          case measure => omega
          case rel => exact ⟨r.2, vn2, us2, sk2, rfl, by omega, n3, HM2, HL2⟩
        · have e2 : (r.1 != 0) = true := ne_yes hd
          have HR : Hid (R = r) := by
            show _ = _
            have := hL.out.eq
            rw [← this, HF.out, show fu - s'.steps = (fu - (s'.steps + 1)) + 1 by omega, rn_down hlt HI.out (by rw [hr]; exact hd), hr]
          clear hr hd
          refine S.mono ?_
          rintro e w2 ⟨rfl, vn2, us2, sk2, h2⟩
          have HM2 : Hid (RM w0 B x vn2 us2 sk2 r.2 w2) := h2
          clear h2 S HN q22 q6 q23 q3 hB c1 c2 f22 f23 hM hL
          go_wp2
          go_ret
          exact ⟨by rw [HR.out]; rfl, vn2, us2, sk2, by rw [HR.out]; exact HM2.out⟩
    · have HR : Hid (R = (0, s')) := by
        show _ = _
        have := hL.out.eq
        rw [← this, rn_end hlt]
      go_wp2_with fail
      go_region
      go_wp2
      go_ret
      exact ⟨by rw [HR.out]; rfl, _, _, _, by rw [HR.out]; exact hM.out.below (bRefl _).drew⟩
end
end Go.Proofs.YtfbeiedhdmndnaaGreatDoor
namespace Go.Proofs.YtfbeiedhdmndnaaGreatDoor
open Go.RowKit
attribute [local go_sem ↓] Go.wp_at_zero Go.wp_at_succ

def CL (w w' : World) (v : Value) (l : List Int) : Prop :=
  ∃ A c, v = .slice A l.length c ∧ l.length ≤ c ∧ (l = [] ∨ ∃ (b : Nat) (cur : Array Value), A = some ⟨b, 0, none⟩ ∧ w.heap.size ≤ b ∧ w'.heap[b]? = some (.cells cur 3) ∧ ∀ (k : Nat) (x : Int), l[k]? = some x → cur[k]? = some (Value.int .i64 x))
theorem CL.below {w w' w2 : World} {v : Value} {l : List Int} (h : CL w w' v l) (hb : Below w'.heap.size w' w2) : CL w w2 v l := by
  obtain ⟨A, c, rfl, hcp, h⟩ := h
  refine ⟨A, c, rfl, hcp, ?_⟩
  rcases h with h | ⟨b, cur, rfl, h1, h2, h3⟩
  · exact Or.inl h
  · exact Or.inr ⟨b, cur, rfl, h1, (hb.block b (Array.getElem?_eq_some_iff.1 h2).1).trans h2, h3⟩
theorem CL.rg {w0 w w' : World} {B : Nat} {v : Value} {l : List Int} (h : CL w w' v l) (hz : w0.heap.size ≤ w.heap.size) (hl : l.length ≤ 8) (hB : w'.heap.size ≤ B ∨ B < w.heap.size) : RG w0 B w' v l := by
  obtain ⟨A, c, rfl, hcp, h⟩ := h
  refine ⟨A, c, rfl, hl, hcp, ?_⟩
  rcases h with h | ⟨b, cur, rfl, h1, h2, h3⟩
  · exact Or.inl h
  · have := (Array.getElem?_eq_some_iff.1 h2).1
    exact Or.inr ⟨b, cur, rfl, by omega, by omega, h2, h3⟩
theorem CL.mono {w W w' : World} {v : Value} {l : List Int} (h : CL W w' v l) (hz : w.heap.size ≤ W.heap.size) : CL w w' v l := by
  obtain ⟨A, c, rfl, hcp, h⟩ := h
  refine ⟨A, c, rfl, hcp, ?_⟩
  rcases h with h | ⟨b, cur, rfl, h1, h2, h3⟩
  · exact Or.inl h
  · exact Or.inr ⟨b, cur, rfl, by omega, h2, h3⟩
theorem CL.set {W w' : World} {v : Value} {l : List Int} (h : CL W w' v l) {b' j : Nat} (hb : b' < W.heap.size) (x : Value) : CL W (w'.setCell ⟨b', j, none⟩ x) v l := by
  obtain ⟨A, c, rfl, hcp, h⟩ := h
  refine ⟨A, c, rfl, hcp, ?_⟩
  rcases h with h | ⟨b, cur, rfl, h1, h2, h3⟩
  · exact Or.inl h
  · refine Or.inr ⟨b, cur, rfl, h1, (Below.heap_setCell _ _ _ _ (fun e => ?_)).trans h2, h3⟩
    have e' : b = b' := e
    omega
theorem CL.form {w w' : World} {v : Value} {l : List Int} (h : CL w w' v l) : ∃ A c, v = .slice A l.length c := let ⟨A, c, h1, _⟩ := h; ⟨A, c, h1⟩
theorem CL.ints {w w' : World} {v : Value} {l : List Int} (h : CL w w' v l) (hl : l.length ≤ 1000) : Ints (fun b => w.heap.size ≤ b) w' v l := by
  obtain ⟨A, c, rfl, hcp, h⟩ := h
  refine ⟨A, c, rfl, by omega, hcp, ?_⟩
  rcases h with rfl | ⟨b, cur, rfl, h1, h3, h4⟩
  · exact Or.inl rfl
  · exact Or.inr ⟨b, 0, rfl, h1, (Array.getElem?_eq_some_iff.1 h3).1, fun k x hx => by
      show w'.cell? ⟨b, 0 + k * 1, none⟩ = _
      rw [Nat.zero_add, Nat.mul_one]
      rw [cell_of_row _ _ _ _ _ _ h3]
      exact h4 k x hx⟩

set_option maxHeartbeats 1000000 in
set_option maxRecDepth 100000 in
theorem clone_any (ok : Nat → Prop) (w : World) (v : Value) (l : List Int) (h : Ints ok w v l) (hl : l.length ≤ 1000) :
    Calls Tryz.prog 130 #[v] w fun e w' => ∃ u, e = .returned u ∧ CL w w' u l ∧ Below w.heap.size w w' := by
  obtain ⟨i0, hi0, hz0, hz1, hz2⟩ := info_parts info3
  obtain ⟨A, c, rfl, hlen, _, hr⟩ := h
  have heq := fun (n : Nat) => Lib.run_eql_slice_nil (P := Tryz.prog) w 54 3 A n c 0 0 Tryz.underlying54
  cases A with
  | none =>
    have hl0 : l = [] := by
      rcases hr with h | ⟨b, o, h, _⟩
      · exact h
      · cases h
    subst hl0
    go_enter Tryz.func130, Tryz.ntmps130
    go_wp2
    go_ret
    exact ⟨_, rfl, ⟨none, 0, rfl, by simp, Or.inl rfl⟩, bRefl w⟩
  | some ad =>
    have hown : (w.alloc (.cells #[] 3)).ownsRow w.heap.size 3 1 (.slice (some ⟨w.heap.size, 0, none⟩) 0 0) 0 [] := ⟨rfl, Or.inr ⟨w.heap.size, 0, #[], rfl, Nat.le_refl _, heap_new _ _, by simp, by simp [maxLen], rfl, rfl⟩⟩
    by_cases h0 : l = []
    · subst h0
      have hrun : ∀ ty, (Builtin.append_ #[54, 54] ty #[.slice (some ⟨w.heap.size, 0, none⟩) 0 0, .slice (some ad) 0 c]).run Tryz.prog (w.alloc (.cells #[] 3)) = .ok (.slice (some ⟨w.heap.size, 0, none⟩) 0 0) (w.alloc (.cells #[] 3)) := fun ty => by
        have := run_append_room_cells (P := Tryz.prog) (w.alloc (.cells #[] 3)) 54 ty 3 i0 Tryz.underlying54 hi0 w.heap.size 0 0 0 ad 0 c [] (by simp) (by simp) (by simp) (by omega) (by simp) (by simp)
        rw [this]; rfl
      have HR : Hid (∀ ty, (Builtin.append_ #[54, 54] ty #[.slice (some ⟨w.heap.size, 0, none⟩) 0 0, .slice (some ad) 0 c]).run Tryz.prog (w.alloc (.cells #[] 3)) = .ok (.slice (some ⟨w.heap.size, 0, none⟩) 0 0) (w.alloc (.cells #[] 3))) := hrun
      clear hrun hown hr
      go_enter Tryz.func130, Tryz.ntmps130
      go_wp2_with (at_builtin; refine wpList_append_run rfl _ _ 54 rfl _ _ _ _ rfl rfl HR.out ?_)
      go_ret
      exact ⟨_, rfl, ⟨_, 0, rfl, by simp, Or.inl rfl⟩, bAlloc (bRefl w) _⟩
    · rcases hr with hr | ⟨b, o, hA, _, hlt, hcell⟩
      · exact absurd hr h0
      · cases hA
        have hp : 0 < l.length := List.length_pos_iff.2 h0
        have HC : Hid (∀ (k : Nat) (x : Int), l[k]? = some x → w.cell? ⟨b, o + k, none⟩ = some (.int .i64 x)) := fun k x hx => by have := hcell k x hx; unfold rInt at this; rwa [Nat.mul_one] at this
        have HO : Hid ((w.alloc (.cells #[] 3)).ownsRow w.heap.size 3 1 (.slice (some ⟨w.heap.size, 0, none⟩) 0 0) 0 []) := hown
        clear hcell hown
        go_enter Tryz.func130, Tryz.ntmps130
        go_wp2_with (at_builtin; refine wpList_append_lies _ rfl _ _ 54 rfl w.heap.size 3 i0 _ 1 8 Tryz.underlying54 hi0 hz0 hz1 hz2 rfl (by decide) _ 0 _ rfl HO.out ⟨b, o, none⟩ l.length c (l.map (Value.int .i64)) rfl (by simp) ?c1 ?c2 hp ?c3 ?c4 ?c5 (w.heap.size + 1) ?c6 ?_)
        case c1 =>
          intro j u hu
          rw [List.getElem?_map] at hu
          cases hx : l[j]? with
          | none => rw [hx] at hu; cases hu
          | some y =>
            rw [hx] at hu
            cases hu
            have hadd : (⟨b, o, none⟩ : Addr).add j = ⟨b, o + j, none⟩ := by
              unfold Addr.add
              by_cases h0 : j = 0
              · subst h0; rfl
              · rw [if_neg h0]
            rw [hadd]
            exact ((bAlloc (bRefl w) (.cells #[] 3)).cell (p := ⟨b, o + j, none⟩) hlt).trans (HC.out j y hx)
        case c2 => intro u hu; rw [List.mem_map] at hu; obtain ⟨y, _, rfl⟩ := hu; rfl
        case c3 => unfold maxLen; omega
        case c4 => omega
        case c5 => simp
        case c6 => simp
        intro g cap w' hown' hgr hat _
        have hb : Below w.heap.size w w' := grown_low (bAlloc (bRefl w) (.cells #[] 3)) hgr fun k hk => by
          have e : w.heap.size = k := Option.some.inj hk
          omega
        have hcl : CL w w' (.slice (some ⟨g, 0, none⟩) l.length cap) l := by
          obtain ⟨h1, h2⟩ := hown'
          rcases h2 with ⟨e, _⟩ | ⟨g', cap', cur, e, hb', hh, h3, h4, h5, h6⟩
          · cases e
          · cases e
            refine ⟨_, _, rfl, h3, Or.inr ⟨g, cur, rfl, hb', hh, fun k x hx => ?_⟩⟩
            have hk := (List.getElem?_eq_some_iff.1 hx).1
            have e2 : cur[k]? = (l.map (Value.int .i64))[k]? := by rw [← h6, List.getElem?_take, if_pos (by omega)]; simp
            rw [e2, List.getElem?_map, hx]; rfl
        clear hown' hgr hat
        go_wp2
        go_ret
        exact ⟨_, rfl, hcl, hb⟩

theorem blk5V {w : World} {b : Nat} {v0 v1 v2 v3 v4 : Value} {t : TypeId} (h : w.heap[b]? = some (.cells #[v0, v1, v2, v3, v4] t)) :
    w.cell? ⟨b, 0, none⟩ = some v0 ∧ w.cell? ⟨b, 1, none⟩ = some v1 ∧ w.cell? ⟨b, 2, none⟩ = some v2 ∧ w.cell? ⟨b, 3, none⟩ = some v3 ∧ w.cell? ⟨b, 4, none⟩ = some v4 ∧ ∀ j, w.frozen? ⟨b, j, none⟩ = false :=
  ⟨by rw [cell_of_row _ _ _ _ _ _ h]; rfl, by rw [cell_of_row _ _ _ _ _ _ h]; rfl, by rw [cell_of_row _ _ _ _ _ _ h]; rfl, by rw [cell_of_row _ _ _ _ _ _ h]; rfl, by rw [cell_of_row _ _ _ _ _ _ h]; rfl, fun j => by simp [World.frozen?, h]⟩
set_option maxHeartbeats 1000000 in
set_option maxRecDepth 100000 in
theorem another_anyV (ok : Nat → Prop) (w : World) (v : Value) (l : PLoc) (h : LocV ok w v l) (hl : l.regs.length ≤ 1000) :
    Calls Tryz.prog 103 #[v] w fun e w' => ∃ u, e = .returned (.agg #[u, .bool l.armed, .int .i64 l.down, .int .i64 l.sent, .int .i64 l.over]) ∧ CL w w' u l.regs ∧ Below w.heap.size w w' := by
  obtain ⟨c, rfl, hr⟩ := h
  obtain ⟨A, d, rfl, hlen⟩ := hr.form
  have HR : Hid (Ints ok w (.slice A l.regs.length d) l.regs) := hr
  clear hr
  go_enter Tryz.func103, Tryz.ntmps103
  go_wp2_with fail
  have hbb : Below w.heap.size w ((w.alloc (.cells #[.slice A l.regs.length d, .bool l.armed, .int .i64 l.down, .int .i64 l.sent, .int .i64 l.over] 56)).alloc (.cells #[.slice none 0 0, .bool false, .int .i64 0, .int .i64 0, .int .i64 0] 56)) := bAlloc (bAlloc (bRefl w) _) _
  refine (clone_any ok _ _ l.regs (HR.out.below hbb) hl).mono ?_
  rintro e w1 ⟨u, rfl, hcl, hb1⟩
  obtain ⟨A1, d1, rfl⟩ := hcl.form
  have hz1 : w.heap.size + 1 < w1.heap.size := by have := hb1.size; simp at this; omega
  have hz0 : w.heap.size < w1.heap.size := by omega
  have k0 : w1.heap[w.heap.size]? = some (.cells #[.slice A l.regs.length d, .bool l.armed, .int .i64 l.down, .int .i64 l.sent, .int .i64 l.over] 56) := (hb1.block _ (by first | (simp; done) | (simp; omega))).trans ((Below.heap_alloc _ _ _ (by first | (simp; done) | (simp; omega))).trans (heap_new _ _))
  have k1 : w1.heap[w.heap.size + 1]? = some (.cells #[.slice none 0 0, .bool false, .int .i64 0, .int .i64 0, .int .i64 0] 56) := (hb1.block _ (by first | (simp; done) | (simp; omega))).trans (heap_new2 (by simp))
  obtain ⟨x0, x1, x2, x3, x4, xf⟩ := blk5V k0
  obtain ⟨y0, y1, y2, y3, y4, yf⟩ := blk5V k1
  have HCL : Hid (CL ((w.alloc (.cells #[.slice A l.regs.length d, .bool l.armed, .int .i64 l.down, .int .i64 l.sent, .int .i64 l.over] 56)).alloc (.cells #[.slice none 0 0, .bool false, .int .i64 0, .int .i64 0, .int .i64 0] 56)) w1 (.slice A1 l.regs.length d1) l.regs) := hcl
  have HB : Hid (Below w.heap.size w w1) := bTrans hbb hb1
  clear hcl hb1 hbb k0 k1
  go_wp2
  refine bodyPost_ret (v := .agg #[.slice A1 l.regs.length d1, .bool l.armed, .int .i64 l.down, .int .i64 l.sent, .int .i64 l.over]) (by simp [results, Tryz.results103, go_sem, *]) rfl ⟨_, rfl, CL.mono (W := ((w.alloc (.cells #[.slice A l.regs.length d, .bool l.armed, .int .i64 l.down, .int .i64 l.sent, .int .i64 l.over] 56)).alloc (.cells #[.slice none 0 0, .bool false, .int .i64 0, .int .i64 0, .int .i64 0] 56))) ?_ (by simp; omega), ?_⟩
  · repeat (refine CL.set ?_ (by first | (simp; done) | (simp; omega)) _)
    exact HCL.out
  · repeat (refine Below.setCell ?_ (by first | (simp; done) | (simp; omega)) _)
    exact HB.out
end Go.Proofs.YtfbeiedhdmndnaaGreatDoor
