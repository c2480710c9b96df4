/-
  The machine's small steps: put, take, load, store, two. Condition: the stack has room, or a number.
-/
import Derived.Test.YtpcffhhednplaaaDoorVMem
import Derived.Test.YtpcffhhednplaaaDoorSums
import Derived.Deep.RegionHeld3
import Derived.Deep.DrawnRows
namespace Go.Proofs.YtpcffhhednplaaaDoor
open Go.RowKit
attribute [local go_sem ↓] Go.wp_at_zero Go.wp_at_succ

theorem take_set {sk st : List Int} {n : Int} (hl : sk.length = 8) (ht : sk.take st.length = st.reverse) (h8 : st.length < 8) : (sk.set st.length n).take (n :: st).length = (n :: st).reverse := by
  rw [List.length_cons, List.take_add_one, List.getElem?_set_self (by omega), List.take_set_of_le (Nat.le_refl _), ht, List.reverse_cons]
  rfl
theorem take_tail {sk st : List Int} (ht : sk.take st.length = st.reverse) : sk.take st.tail.length = st.tail.reverse := by
  cases st with
  | nil => simp
  | cons a r =>
    have := congrArg (List.take r.length) ht
    rw [List.take_take, List.reverse_cons, List.length_cons, Nat.min_eq_left (by omega), List.take_append_of_le_length (by rw [List.length_reverse]; exact Nat.le_refl _), List.take_of_length_le (l := r.reverse) (by rw [List.length_reverse]; exact Nat.le_refl _)] at this
    exact this
theorem sk_at {sk st : List Int} {j : Nat} (ht : sk.take st.length = st.reverse) (hj : j < st.length) : sk.getD (st.length - 1 - j) 0 = st.getD j 0 := by
  have h1 : (sk.take st.length)[st.length - 1 - j]? = sk[st.length - 1 - j]? := by rw [List.getElem?_take, if_pos (by omega)]
  rw [List.getD_eq_getElem?_getD, ← h1, ht, List.getElem?_reverse (by omega), List.getD_eq_getElem?_getD]
  congr 2
  omega
section
variable {w0 w : World} {B : Nat} {x : FX} {vn : Value} {us : List Value} {sk : List Int} {s : MS}
theorem rv_put {x : FX} {ar : Bool} {vn : Value} {sk : List Int} {d a st : Int} {k : Nat} {n : Int} (hk : k < 8) (hl : sk.length = 8) : ∀ i, i < 24 → (if i = 13 + k then Value.int .i64 n else rv x ar vn sk d a st i) = rv x ar vn (sk.set k n) d a st i := by
  intro i hi
  by_cases e : i = 13 + k
  · rw [if_pos e, e, rv_sk hk, List.getD_eq_getElem?_getD, List.getElem?_set_self (by omega)]; rfl
  · rw [if_neg e]
    by_cases h1 : 13 ≤ i ∧ i < 21
    · obtain ⟨j, rfl⟩ : ∃ j, i = 13 + j := ⟨i - 13, by omega⟩
      rw [rv_sk (by omega), rv_sk (by omega), List.getD_eq_getElem?_getD, List.getD_eq_getElem?_getD, List.getElem?_set_ne (by omega)]
    · have : i = 0 ∨ i = 1 ∨ i = 2 ∨ i = 3 ∨ i = 4 ∨ i = 5 ∨ i = 6 ∨ i = 7 ∨ i = 8 ∨ i = 9 ∨ i = 10 ∨ i = 11 ∨ i = 12 ∨ i = 21 ∨ i = 22 ∨ i = 23 := by omega
      rcases this with rfl | rfl | rfl | rfl | rfl | rfl | rfl | rfl | rfl | rfl | rfl | rfl | rfl | rfl | rfl | rfl <;> rfl
theorem rv_dep {x : FX} {ar : Bool} {vn : Value} {sk : List Int} {d d' a st : Int} : ∀ i, i < 24 → (if i = 21 then Value.int .i64 d' else rv x ar vn sk d a st i) = rv x ar vn sk d' a st i := by
  intro i hi
  by_cases e : i = 21
  · rw [if_pos e, e]; rfl
  · rw [if_neg e]
    unfold rv
    split <;> first | rfl | omega
theorem RM.put1 (h : RM w0 B x vn us sk s w) (n : Int) (h8 : s.st.length < 8) : RM w0 B x vn us (sk.set s.st.length n) s (w.setCell ⟨B, 13 + s.st.length, none⟩ (.int .i64 n)) :=
  h.setB _ _ s _ rfl rfl (by rw [List.length_set]; exact h.skl) (by rw [List.take_set_of_le (Nat.le_refl _)]; exact h.stk) h.st8 (rv_put h8 h.skl)
/-- The stack cell is written, then the depth. -/
theorem RM.put (h : RM w0 B x vn us sk s w) (n : Int) (h8 : s.st.length < 8) : RM w0 B x vn us (sk.set s.st.length n) { s with st := n :: s.st } ((w.setCell ⟨B, 13 + s.st.length, none⟩ (.int .i64 n)).setCell ⟨B, 21, none⟩ (.int .i64 ((s.st.length : Int) + 1))) := by
  have hl : (sk.set s.st.length n).length = 8 := by rw [List.length_set]; exact h.skl
  refine (h.put1 n h8).setB _ _ { s with st := n :: s.st } _ rfl rfl hl (take_set h.skl h.stk h8) (by simp; omega) ?_
  have e : (((n :: s.st).length : Nat) : Int) = (s.st.length : Int) + 1 := by simp
  show ∀ i, i < 24 → _ = rv x s.armed vn _ (((n :: s.st).length : Nat) : Int) s.pc s.steps i
  rw [e]
  exact rv_dep
/-- A number is taken. -/
theorem RM.pop (h : RM w0 B x vn us sk s w) (h0 : 0 < s.st.length) : RM w0 B x vn us sk { s with st := s.st.tail } (w.setCell ⟨B, 21, none⟩ (.int .i64 ((s.st.length : Int) - 1))) := by
  refine h.setB _ _ { s with st := s.st.tail } _ rfl rfl h.skl (take_tail h.stk) (by have := h.st8; simp; omega) ?_
  have e : ((s.st.tail.length : Nat) : Int) = (s.st.length : Int) - 1 := by simp; omega
  show ∀ i, i < 24 → _ = rv x s.armed vn _ ((s.st.tail.length : Nat) : Int) s.pc s.steps i
  rw [e]
  exact rv_dep

set_option maxHeartbeats 400000 in
theorem put_any (h : RM w0 B x vn us sk s w) (n : Int) (h8 : s.st.length < 8) :
    Calls Tryd.prog 49 #[.pointer (some ⟨B, 0, none⟩), .int .i64 n] w fun e w' => e = .returned (.tuple #[]) ∧ ∃ sk', RM w0 B x vn us sk' { s with st := n :: s.st } w' := by
  have HN : Hid (RM w0 B x vn us (sk.set s.st.length n) { s with st := n :: s.st } ((w.setCell ⟨B, 13 + s.st.length, none⟩ (.int .i64 n)).setCell ⟨B, 21, none⟩ (.int .i64 ((s.st.length : Int) + 1)))) := h.put n h8
  have q1 : w.cell? ⟨B, 21, none⟩ = some (.int .i64 s.st.length) := h.c 21 (by omega)
  have q2 := h.sc h8
  have f1 := h.fz 21
  have f2 := h.fz (13 + s.st.length)
  have hB := h.lt
  have q3 : (w.drew.setCell ⟨B, 13 + s.st.length, none⟩ (.int .i64 n)).cell? ⟨B, 21, none⟩ = some (.int .i64 s.st.length) := ((h.below (bRefl w).drew).put1 n h8).c 21 (by omega)
  have f3 : (w.drew.setCell ⟨B, 13 + s.st.length, none⟩ (.int .i64 n)).frozen? ⟨B, 21, none⟩ = false := ((h.below (bRefl w).drew).put1 n h8).fz 21
  obtain ⟨d, hd⟩ : ∃ d, s.st.length = d := ⟨_, rfl⟩
  rw [hd] at q1 q2 f2 HN h8 q3 f3
  clear h
  go_enter Tryd.func49, Tryd.ntmps49
  go_wp2
  go_region
  go_wp2
  (try simp only [Exit.inBlock, Exit.then]); refine bodyPost_end (results_none rfl _ _ _) rfl ?_
  exact ⟨rfl, _, HN.out.below (bRefl _).drew⟩

set_option maxHeartbeats 400000 in
theorem take_any (h : RM w0 B x vn us sk s w) (h0 : 0 < s.st.length) :
    Calls Tryd.prog 50 #[.pointer (some ⟨B, 0, none⟩)] w fun e w' => e = .returned (.int .i64 (hd0 s.st)) ∧ RM w0 B x vn us sk { s with st := s.st.tail } w' ∧ ∀ b, b ≠ B → w'.heap[b]? = w.heap[b]? := by
  have HN : Hid (RM w0 B x vn us sk { s with st := s.st.tail } (w.setCell ⟨B, 21, none⟩ (.int .i64 ((s.st.length : Int) - 1)))) := h.pop h0
  have q1 : w.cell? ⟨B, 21, none⟩ = some (.int .i64 s.st.length) := h.c 21 (by omega)
  have f1 := h.fz 21
  have hB := h.lt
  have h8 := h.st8
  have HV : Hid (sk.getD (s.st.length - 1) 0 = hd0 s.st) := by
    show _ = _
    have := sk_at (j := 0) h.stk h0
    rw [Nat.sub_zero] at this
    rw [this]
    cases s.st <;> rfl
  have q2 : (w.setCell ⟨B, 21, none⟩ (.int .i64 ((s.st.length : Int) - 1))).cell? ⟨B, 13 + (s.st.length - 1), none⟩ = some (.int .i64 (sk.getD (s.st.length - 1) 0)) := (h.pop h0).sc (by omega)
  obtain ⟨d, hd⟩ : ∃ d, s.st.length = d + 1 := ⟨s.st.length - 1, by omega⟩
  rw [hd] at q1 q2 HN HV h8
  have ed : (((d + 1 : Nat) : Int) - 1) = (d : Int) := by omega
  rw [ed] at q2 HN
  rw [Nat.add_sub_cancel] at q2 HV
  have h7 : d < 8 := by omega
  clear h
  go_enter Tryd.func50, Tryd.ntmps50
  go_wp2
  go_region
  go_wp2
  go_ret
  exact ⟨ret_int HV.out, HN.out.below (bRefl _).drew, fun b hb => Below.heap_setCell _ _ _ _ (fun e => hb (by have e' : b = B := e; exact e'))⟩

set_option maxHeartbeats 400000 in
theorem load_any (h : RM w0 B x vn us sk s w) (a : Int) (h0 : 0 ≤ a) :
    Calls Tryd.prog 51 #[.pointer (some ⟨B, 0, none⟩), .int .i64 a] w fun e w' => e = .returned (.int .i64 (s.regs.getD a.toNat 0)) ∧ w' = w := by
  have q1 : w.cell? ⟨B, 7, none⟩ = some x.vr := h.c 7 (by omega)
  have hR := h.regs
  have hB := h.lt
  obtain ⟨A, c, hv, hl⟩ := hR.form
  rw [hv] at q1 hR
  obtain ⟨k, rfl⟩ := Int.eq_ofNat_of_zero_le h0
  clear h hv
  by_cases hk : k < s.regs.length
  · obtain ⟨b, y, rfl, _, hy, hlt, hbB, q2, _⟩ := hR.cell hk
    have HV : Hid (y = s.regs.getD (k : Int).toNat 0) := by show _ = _; rw [Int.toNat_natCast, List.getD_eq_getElem?_getD, hy]; rfl
    clear hy
    go_enter Tryd.func51, Tryd.ntmps51
    go_wp2
    go_ret
    exact ⟨ret_int HV.out, rfl⟩
  · have HV : Hid (0 = s.regs.getD (k : Int).toNat 0) := by show _ = _; rw [Int.toNat_natCast, List.getD_eq_getElem?_getD, List.getElem?_eq_none (by omega)]; rfl
    go_enter Tryd.func51, Tryd.ntmps51
    go_wp2
    go_ret
    exact ⟨ret_int HV.out, rfl⟩
theorem RM.reg (h : RM w0 B x vn us sk s w) {A : Option Addr} {n c b k : Nat} (hv : x.vr = .slice A n c) (hA : A = some ⟨b, 0, none⟩) (hk : k < s.regs.length) (y : Int) : RM w0 B x vn us sk { s with regs := s.regs.set k y } (w.setCell ⟨b, k, none⟩ (.int .i64 y)) := by
  have hR := h.regs
  rw [hv] at hR
  obtain ⟨b', z, e, hh, _, _, hbB, _⟩ := hR.cell hk
  rw [hA] at e
  cases e
  have hg := hR.hb hh
  have hne : ∀ b', b' ≠ b → (w.setCell ⟨b, k, none⟩ (.int .i64 y)).heap[b']? = w.heap[b']? := fun b' hb => Below.heap_setCell _ _ _ _ (fun e => hb (by have e' : b' = b := e; exact e'))
  refine ⟨h.low.setCell hg.1 _, h.row.setOther (by exact Ne.symm hbB) _, h.base, h.skl, h.stk, h.st8, by rw [hv]; exact hR.set hA hk y, h.nts.same (by simp) fun b' _ hb => hne b' (fun e => hb (Or.inr (by rw [hv, e]; exact hh)))⟩

set_option maxHeartbeats 400000 in
theorem store_any (h : RM w0 B x vn us sk s w) (a n : Int) (h0 : 0 ≤ a) :
    Calls Tryd.prog 52 #[.pointer (some ⟨B, 0, none⟩), .int .i64 a, .int .i64 n] w fun e w' => e = .returned (.tuple #[]) ∧ RM w0 B x vn us sk { s with regs := s.regs.set a.toNat n } w' := by
  have q1 : w.cell? ⟨B, 7, none⟩ = some x.vr := h.c 7 (by omega)
  have hR := h.regs
  have hB := h.lt
  obtain ⟨A, c, hv, hl⟩ := hR.form
  rw [hv] at q1 hR
  obtain ⟨k, rfl⟩ := Int.eq_ofNat_of_zero_le h0
  by_cases hk : k < s.regs.length
  · obtain ⟨b, y, rfl, _, hy, hlt, hbB, q2, hf⟩ := hR.cell hk
    have HN : Hid (RM w0 B x vn us sk { s with regs := s.regs.set k n } (w.setCell ⟨b, k, none⟩ (.int .i64 n))) := h.reg hv rfl hk n
    have f2 := hf k
    clear hy h hv hR hf
    go_enter Tryd.func52, Tryd.ntmps52
    go_wp2
    (try simp only [Exit.inBlock, Exit.then]); refine bodyPost_end (results_none rfl _ _ _) rfl ?_
    exact ⟨rfl, HN.out⟩
  · have HN : Hid (RM w0 B x vn us sk { s with regs := s.regs.set k n } w) := by
      rw [List.set_eq_of_length_le (by omega)]; exact h
    clear h hv hR
    go_enter Tryd.func52, Tryd.ntmps52
    go_wp2
    (try simp only [Exit.inBlock, Exit.then]); refine bodyPost_end (results_none rfl _ _ _) rfl ?_
    exact ⟨rfl, HN.out⟩

set_option maxHeartbeats 400000 in
theorem mtwo_any (h : RM w0 B x vn us sk s w) (op : Int) (h2 : 2 ≤ s.st.length) :
    Calls Tryd.prog 53 #[.pointer (some ⟨B, 0, none⟩), .int .i64 op] w fun e w' => e = .returned (.int .i64 (dn op (hd0 s.st))) ∧ ∃ sk', RM w0 B x vn us sk' { s with st := tw op (hd0 s.st.tail) (hd0 s.st) :: s.st.tail.tail } w' := by
  have HH : Hid (RM w0 B x vn us sk s w) := h
  have HL : Hid (2 ≤ s.st.length ∧ s.st.length ≤ 8) := ⟨h2, h.st8⟩
  clear h h2
  go_enter Tryd.func53, Tryd.ntmps53
  go_wp2_with fail
  refine (take_any HH.out (by have := HL.out; omega)).mono ?_
  rintro e w1 ⟨rfl, h1, _⟩
  have H1 : Hid (RM w0 B x vn us sk { s with st := s.st.tail } w1) := h1
  clear h1
  go_wp2_with fail
  refine (take_any H1.out (by have := HL.out; simp; omega)).mono ?_
  rintro e w2 ⟨rfl, h2, _⟩
  have H2 : Hid (RM w0 B x vn us sk { s with st := s.st.tail.tail } w2) := h2
  clear h2
  go_wp2_with fail
  refine (two_any _ _ _ _).mono ?_
  rintro e w3 ⟨rfl, rfl⟩
  go_wp2_with fail
  refine (put_any H2.out _ (by have := HL.out; simp; omega)).mono ?_
  rintro e w4 ⟨rfl, sk', h4⟩
  go_wp2
  go_ret
  exact ⟨rfl, sk', h4⟩
end
end Go.Proofs.YtpcffhhednplaaaDoor
