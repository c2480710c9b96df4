/-
  What send does. Conditions: the handler is there, with 0 to 4 arguments; the stack has them, and the one to whom.
-/
import Derived.Test.YtpcffhhednplaaaDoorVw2
namespace Go.Proofs.YtpcffhhednplaaaDoor
open Go.RowKit
attribute [local go_sem ↓] Go.wp_at_zero Go.wp_at_succ
theorem linfo47 : (Tryd.prog.info? 47).map (fun i => (i.zero, i.size, i.bytes)) = some (some (.agg #[.int .i64 0, .int .i64 0, .slice none 0 0]), 3, 40) := by kernel_rfl
section
variable {w0 w : World} {B : Nat} {x : FX} {vn : Value} {us : List Value} {sk : List Int} {s : MS}

set_option maxHeartbeats 1000000 in
theorem send_lost (h : RM w0 B x vn us sk s w) (a : Int) (n2 c2 : Nat) (A2 : Option Addr) (h2 : x.a2 = .slice A2 n2 c2) (h0 : 0 < s.st.length) (hto : ¬ (0 ≤ hd0 s.st ∧ hd0 s.st < n2)) :
    Calls Tryd.prog 55 #[.pointer (some ⟨B, 0, none⟩), .int .i64 a] w fun e w' => e = .returned (.int .i64 4) ∧ RM w0 B x vn us sk { s with st := s.st.tail } w' := by
  have HH : Hid (RM w0 B x vn us sk s w) := h
  have e1 : decide (0 ≤ hd0 s.st ∧ hd0 s.st < n2) = false := decide_eq_false hto
  clear h hto
  go_enter Tryd.func55, Tryd.ntmps55
  go_wp2_with fail
  refine (take_any HH.out h0).mono ?_
  rintro e w1 ⟨rfl, h1, _⟩
  have q1 : w1.cell? ⟨B, 1, none⟩ = some (.slice A2 n2 c2) := by rw [← h2]; exact h1.c 1 (by omega)
  have H1 : Hid (RM w0 B x vn us sk { s with st := s.st.tail } w1) := h1
  clear h1
  go_wp2_with (go_at_call 24; refine (vwithin_any _ _ _).mono ?_; rw [e1]; rintro e w2 ⟨rfl, rfl⟩)
  go_ret
  exact ⟨rfl, H1.out⟩

set_option maxHeartbeats 2000000 in
theorem send_any (h : RM w0 B x vn us sk s w) (hs : List PHnd) (a : Int) (n2 c2 : Nat) (A2 : Option Addr) (h2 : x.a2 = .slice A2 n2 c2) (hH : Hnds anyB anyB w0 x.a1 hs) (ha : 0 ≤ a ∧ a < hs.length) (hk : 0 ≤ argsOf hs a ∧ argsOf hs a ≤ 4) (h0 : argsOf hs a + 1 ≤ s.st.length) (hto : 0 ≤ hd0 s.st ∧ hd0 s.st < n2) (hnl : s.notes.length ≤ 1000) :
    Calls Tryd.prog 55 #[.pointer (some ⟨B, 0, none⟩), .int .i64 a] w fun e w' => e = .returned (.int .i64 0) ∧ ∃ vn' us', RM w0 B x vn' us' sk { s with st := s.st.tail.drop (argsOf hs a).toNat, notes := s.notes ++ [⟨hd0 s.st, a, (s.st.tail.take (argsOf hs a).toNat).reverse⟩] } w' := by
  have HH : Hid (RM w0 B x vn us sk s w) := h
  have e1 : decide (0 ≤ hd0 s.st ∧ hd0 s.st < n2) = true := decide_eq_true hto
  obtain ⟨k, hkk⟩ := Int.eq_ofNat_of_zero_le hk.1
  obtain ⟨j, rfl⟩ := Int.eq_ofNat_of_zero_le ha.1
  obtain ⟨i0, hi0, hz0, hz1, hz2⟩ := info_parts linfo47
  have hst8 := h.st8
  clear h hto
  go_enter Tryd.func55, Tryd.ntmps55
  go_wp2_with fail
  refine (take_any HH.out (by omega)).mono ?_
  rintro e w1 ⟨rfl, h1, _⟩
  have hk4 : k ≤ 4 := by omega
  have hkl : k ≤ s.st.tail.length := by simp; omega
  obtain ⟨A1, c1, hv1, hl1⟩ := hH.form
  rw [hv1] at hH
  obtain ⟨b1, o1, y, v1, rfl, hy, hz1', q2, _, _⟩ := hH.cell h1.low (k := j) (by omega)
  have hyk : y.args = (k : Int) := by rw [← hkk, argsOf_at hy]
  rw [hyk] at q2
  have hb1B : b1 ≠ B := by
    obtain ⟨b', o', e', _, hlt', _⟩ := hH.at (by omega)
    cases e'
    have := h1.base
    omega
  have hB := h1.lt
  have q0 : w1.cell? ⟨B, 0, none⟩ = some (.slice (some ⟨b1, o1, none⟩) hs.length c1) := by rw [← hv1]; exact h1.c 0 (by omega)
  have q1 : w1.cell? ⟨B, 1, none⟩ = some (.slice A2 n2 c2) := by rw [← h2]; exact h1.c 1 (by omega)
  have q21 : w1.cell? ⟨B, 21, none⟩ = some (.int .i64 s.st.tail.length) := h1.c 21 (by omega)
  have f21 := h1.fz 21
  have H2 : Hid (RM w0 B x vn us sk { s with st := s.st.tail.drop k } (w1.setCell ⟨B, 21, none⟩ (.int .i64 ((s.st.tail.length : Int) - k)))) := h1.drop k hkl
  have HS : Hid (∀ (t : Nat) (y : Int), (s.st.tail.take k).reverse[t]? = some y → s.st.tail.length - k + t < 8 ∧ sk.getD (s.st.tail.length - k + t) 0 = y) := fun t y hy => h1.sent hkl hy
  obtain ⟨m, hm⟩ : ∃ m, s.st.tail.length = m + k := ⟨s.st.tail.length - k, by omega⟩
  have em : ((m + k : Nat) : Int) - k = m := by omega
  rw [hm] at q21 H2 HS
  rw [em] at H2
  rw [Nat.add_sub_cancel] at HS
  have hm7 : m + k < 8 := by have : s.st.tail.length + 1 ≤ 8 := by simp; omega
                             omega
  have hj : (j : Int) < hs.length := ha.2
  have hj' : j < hs.length := by omega
  have HL : Hid ((s.st.tail.take k).reverse.length = k) := by show _ = _; simp; omega
  have hlow := h1.low
  have HE : Hid ({ s with st := s.st.tail.drop k, notes := s.notes ++ [⟨hd0 s.st, (j : Int), (s.st.tail.take k).reverse⟩] } = ({ s with st := s.st.tail.drop (argsOf hs j).toNat, notes := s.notes ++ [⟨hd0 s.st, (j : Int), (s.st.tail.take (argsOf hs j).toNat).reverse⟩] } : MS)) := by show _ = _; rw [hkk, Int.toNat_natCast]
  have hnz : b1 < w1.heap.size := hz1'
  clear h1 hH hy hv1 hk h0 hkk ha
  go_wp2_with (go_at_call 24; refine (vwithin_any _ _ _).mono ?_; rw [e1]; rintro e w2 ⟨rfl, rfl⟩)
  go_region
  obtain ⟨w3, hw3⟩ : ∃ w3, w3 = (w2.setCell ⟨B, 21, none⟩ (.int .i64 (m : Int))).drew := ⟨_, rfl⟩
  rw [← hw3]
  have H3 : Hid (RM w0 B x vn us sk { s with st := s.st.tail.drop k } w3) := by rw [hw3]; exact H2.out.below (bRefl _).drew
  have HS3 : ∀ (t : Nat) (y : Int), (s.st.tail.take k).reverse[t]? = some y → w3.cell? ⟨B, 13 + m + t, none⟩ = some (.int .i64 y) := fun t y hy => by
    obtain ⟨h1, h2⟩ := HS.out t y hy
    rw [Nat.add_assoc, H3.out.sc h1, h2]
  clear H2 HS hw3 q0 q1 q2 q21 f21 hB hz1' hnz hlow
  have q21 : w3.cell? ⟨B, 21, none⟩ = some (.int .i64 m) := by
    have := H3.out.c 21 (by omega)
    rw [this]
    show some (Value.int .i64 (((s.st.tail.drop k).length : Nat) : Int)) = _
    rw [show (s.st.tail.drop k).length = m by simp at hm ⊢; omega]
  have hB := H3.out.lt
  obtain ⟨A', c', w4, hrun, hnew⟩ := run_copyI w3.drew (some ⟨B, 13 + m, none⟩) k (8 - m) _ HL.out (by omega) (Or.inr ⟨B, 13 + m, rfl, fun t y hy => HS3 t y hy⟩)
  have HR : Hid (∀ ty, (Builtin.append_ #[27, 27] ty #[.slice none 0 0, .slice (some ⟨B, 13 + m, none⟩) k (8 - m)]).run Tryd.prog w3.drew = .ok (.slice A' k c') w4) := hrun
  have HW : Hid (NewI w3.drew w4 (.slice A' k c') (s.st.tail.take k).reverse) := hnew
  clear hrun hnew HS3
  have hsl := slice8 w3.drew B m k (by omega) (by omega)
  go_wp2_with fail
  go_region_law (refine step_append_run rfl _ _ 27 rfl _ _ _ _ rfl rfl HR.out ?_)
  have h4 := H3.out.below (undrew HW.out.2.1)
  have HI : Hid (Ints (fun b => w3.heap.size ≤ b) w4 (.slice A' k c') (s.st.tail.take k).reverse) := HW.out.1
  have HB : Hid (Below w3.heap.size w3 w4) := undrew HW.out.2.1
  obtain ⟨An, cn, hvn⟩ := h4.nts.form
  have q12 : w4.cell? ⟨B, 12, none⟩ = some (.slice An s.notes.length cn) := by rw [← hvn]; exact h4.c 12 (by omega)
  have H4 : Hid (RM w0 B x (.slice An s.notes.length cn) us sk { s with st := s.st.tail.drop k } w4) := by rw [← hvn]; exact h4
  have hB4 := h4.lt
  have H3' : Hid (RM w0 B x (.slice An s.notes.length cn) us sk { s with st := s.st.tail.drop k } w3) := by rw [← hvn]; exact H3.out
  clear h4 hsl HR HW q21 hB H3 hvn
  go_wp2_with (at_builtin; refine wpList_append_lies _ rfl _ _ 24 rfl w0.heap.size 47 i0 _ 3 40 Tryd.underlying24 hi0 hz0 hz1 hz2 rfl (by decide) _ s.notes.length _ rfl (H4.out.below (bAlloc (bRefl _) _)).nts.own ⟨w4.heap.size, 0, none⟩ 1 1 [.int .i64 (hd0 s.st), .int .i64 (j : Int), .slice A' k c'] rfl rfl ?c1 ?c2 (by decide) ?c3 ?c4 ?c5 (w4.heap.size + 1) ?c6 ?_)
  case c1 =>
    intro t u ht
    match t, ht with
    | 0, ht => simp at ht; subst ht; simp [Addr.add]
    | 1, ht => simp at ht; subst ht; simp [Addr.add]
    | 2, ht => simp at ht; subst ht; simp [Addr.add]
  case c2 => intro u hu; simp at hu; rcases hu with rfl | rfl | rfl <;> rfl
  case c3 => unfold maxLen; omega
  case c4 => omega
  case c5 => have := H4.out.low.size; simp; omega
  case c6 => simp
  intro g cap w5 hown hgr hat _
  obtain ⟨h5, p1, p2, p3⟩ := H3'.out.push (n := ⟨hd0 s.st, (j : Int), (s.st.tail.take k).reverse⟩) (bAlloc HB.out _) hown hgr (by simpa using hat) (HI.out.below (bAlloc (bRefl w4) _))
  have H5 : Hid (RM w0 B x (.slice (some ⟨g, 0, none⟩) (s.notes.length + 1) cap) (us ++ [.slice A' k c']) sk { s with st := s.st.tail.drop k, notes := s.notes ++ [⟨hd0 s.st, (j : Int), (s.st.tail.take k).reverse⟩] } (w5.setCell ⟨B, 12, none⟩ (.slice (some ⟨g, 0, none⟩) (s.notes.length + 1) cap))) := h5
  clear h5 hown hgr hat
  go_wp2
  go_ret
  exact ⟨rfl, _, _, HE.out ▸ H5.out⟩
end
end Go.Proofs.YtpcffhhednplaaaDoor
