/-
  How many go somewhere, whether messages stand in order, whether they are few and short: To, Sorted and the reference's, Mail. No conditions.
-/
import Derived.Test.YtgdloonpemaijaaDoorM3
namespace Go.Proofs.YtgdloonpemaijaaDoor
open Go.RowKit
attribute [local go_sem ↓] Go.wp_at_zero Go.wp_at_succ eq6
theorem beq_no {a b : Int} (h : a ≠ b) : (a == b) = false := by simp [h]
theorem beq_yes {a b : Int} (h : a = b) : (a == b) = true := by simp [h]
set_option maxHeartbeats 1000000 in
theorem to_any (w : World) (v : Value) (l : List PMsg) (who : Int) (h : Msgs anyB anyB w v l) :
    Calls Tryd.prog 133 #[v, .int .i64 who] w fun e w' => e = .returned (.int .i64 (toN l who)) ∧ Below w.heap.size w w' := by
  obtain ⟨A, c, rfl, hl⟩ := h.form
  go_enter Tryd.func133, Tryd.ntmps133
  go_wp2
  go_loopg [5, 7, 10] l.length (fun n i5 i7 i10 wr => ∃ k m : Nat, n = l.length - k ∧ k ≤ l.length ∧ i10 = .int .i64 k ∧ i5 = .int .i64 m ∧ Hid (m = toN (l.take k) who) ∧ m ≤ k ∧ Below w.heap.size w wr)
  case atStart => exact ⟨0, 0, rfl, by omega, rfl, rfl, rfl, by omega, bRefl w⟩
  case round =>
    obtain ⟨k, m, rfl, hk, rfl, rfl, ht, hm, hb⟩ := hrel
    by_cases hlt : k < l.length
    · obtain ⟨b1, o1, x, v1, rfl, hx, hz1, q1, q2, q3, q4, q5, q6, hv1⟩ := h.cell hb hlt
      obtain ⟨V1, n1, rfl, _⟩ := hv1.form
      have HX : Hid (l[k]? = some x) := hx
      have HB : Hid (Below w.heap.size w wr) := hb
      clear hx hb
      by_cases e : x.nt.to = who
      · have e2 := beq_yes e
        have HE : Hid (x.nt.to = who) := e
        clear e
        go_wp2
        go_roundg (l.length - (k + 1))
        case measure => omega
        case rel => exact ⟨k + 1, m + 1, rfl, by omega, by go_num, by go_num, by show _ = _; rw [toN_yes HX.out HE.out, ← ht.out], by omega, bAlloc HB.out _⟩
      · have e2 := beq_no e
        have HE : Hid (x.nt.to ≠ who) := e
        clear e
        go_wp2
        go_roundg (l.length - (k + 1))
        case measure => omega
        case rel => exact ⟨k + 1, m, rfl, by omega, by go_num, rfl, by show _ = _; rw [toN_no HX.out HE.out, ← ht.out], by omega, bAlloc HB.out _⟩
    · go_wp2
      go_ret
      exact ⟨ret_i (by rw [ht.out, List.take_of_length_le (by omega)]), hb⟩
/-- Few, and short. -/
def shortB (l : List PMsg) : Bool := decide (l.length ≤ 50 ∧ ∀ x ∈ l, x.nt.args.length ≤ 6)
theorem shortB_of {l : List PMsg} (h : shortB l = true) : l.length ≤ 50 ∧ ∀ x ∈ l, x.nt.args.length ≤ 6 := of_decide_eq_true h
set_option maxHeartbeats 1000000 in
theorem mail_any (w : World) (v : Value) (l : List PMsg) (h : Msgs anyB anyB w v l) :
    Calls Tryd.prog 69 #[v] w fun e w' => e = .returned (.bool (shortB l)) ∧ Below w.heap.size w w' := by
  obtain ⟨A, c, rfl, hl⟩ := h.form
  go_enter Tryd.func69, Tryd.ntmps69
  go_wp2
  go_loopg [3] l.length (fun n i3 wr => ∃ k : Nat, n = l.length - k ∧ k ≤ l.length ∧ i3 = .int .i64 k ∧ Hid (∀ (j : Nat) (y : PMsg), j < k → l[j]? = some y → y.nt.args.length ≤ 6) ∧ Below w.heap.size w wr)
  case atStart => exact ⟨0, rfl, by omega, rfl, fun j y hj => by omega, bRefl w⟩
  case round =>
    obtain ⟨k, rfl, hk, rfl, ht, hb⟩ := hrel
    by_cases hlt : k < l.length
    · obtain ⟨b1, o1, x, v1, rfl, hx, hz1, q1, q2, q3, q4, q5, q6, hv1⟩ := h.cell hb hlt
      obtain ⟨V1, n1, rfl, _⟩ := hv1.form
      have HX : Hid (l[k]? = some x) := hx
      have HB : Hid (Below w.heap.size w wr) := hb
      clear hx hb
      by_cases h60 : (k : Int) < 60
      · by_cases e : x.nt.args.length ≤ 6
        · go_wp2
          go_roundg (l.length - (k + 1))
          case measure => omega
          case rel => exact ⟨k + 1, rfl, by omega, by go_num, fun j y hj hy => by
            by_cases ej : j = k
            · subst ej; have := HX.out; rw [hy] at this; cases this; exact e
            · exact ht.out j y (by omega) hy, HB.out⟩
        · go_wp2
          go_ret
          exact ⟨ret_b (decide_eq_false fun h => e (h.2 x (List.mem_of_getElem? HX.out))).symm, HB.out⟩
      · have h50 : ¬ ((l.length : Int) ≤ 50) := by omega
        go_wp2
        go_ret
        exact ⟨ret_b (decide_eq_false fun h => by have := h.1; omega).symm, HB.out⟩
    · have HB : Hid (Below w.heap.size w wr) := hb
      clear hb
      go_wp2
      go_ret
      refine ⟨ret_b (decide_eq_decide.2 ⟨fun h => ⟨by omega, fun x hx => ?_⟩, fun h => by have := h.1; omega⟩), HB.out⟩
      obtain ⟨j, hj⟩ := List.mem_iff_getElem?.1 hx
      exact ht.out j x (by have := (List.getElem?_eq_some_iff.1 hj).1; omega) hj
set_option maxHeartbeats 4000000 in
theorem sorted_any (w : World) (v : Value) (l : List PMsg) (h : Msgs anyB anyB w v l) :
    Calls Tryd.prog 100 #[v] w fun e w' => e = .returned (.bool (srt l)) ∧ Below w.heap.size w w' := by
  obtain ⟨A, c, rfl, hl⟩ := h.form
  go_enter Tryd.func100, Tryd.ntmps100
  go_wp2
  go_loopg [3] l.length (fun n i3 wr => ∃ k : Nat, n = l.length - k ∧ k ≤ l.length ∧ i3 = .int .i64 ((k : Int) + 1) ∧ Hid (∀ (j : Nat) (x y : PMsg), j < k → l[j]? = some x → l[j + 1]? = some y → lessD x.id y.id = true) ∧ Below w.heap.size w wr)
  case atStart => exact ⟨0, rfl, by omega, rfl, fun j x y hj => by omega, bRefl w⟩
  case round =>
    obtain ⟨k, rfl, hk, rfl, ht, hb⟩ := hrel
    by_cases hlt : k + 1 < l.length
    · obtain ⟨b1, o1, x, v1, hA1, hx, hz1, q1, q2, q3, -, -, -, -⟩ := h.cell (k := k) hb (by omega)
      obtain ⟨b2, o2, y, v2, hA2, hy, hz2, r1, r2, r3, -, -, -, -⟩ := h.cell hb hlt
      subst hA1
      cases hA2
      have HX : Hid (l[k]? = some x) := hx
      have HY : Hid (l[k + 1]? = some y) := hy
      have HB : Hid (Below w.heap.size w wr) := hb
      have a1 : (k : Int) < l.length := by omega
      have a2 : (k : Int) + 1 < l.length := by omega
      have a3 : (0 : Int) ≤ (k : Int) + 1 := by omega
      have a4 : ((k : Int) + 1).toNat = k + 1 := by omega
      have a5 : IntKind.i64.wrap ((k : Int) + 1 - 1) = k := by rw [IntKind.wrap_i64]; omega
      have a6 : IntKind.i64.wrap (k : Int) = k := by rw [IntKind.wrap_i64]; omega
      have a7 : (k : Int) ≤ 9223372036854775807 := by omega
      have a8 : IntKind.i64.wrap ((k : Int) + 1) = (k : Int) + 1 := by rw [IntKind.wrap_i64]; omega
      have a9 : IntKind.i64.wrap ((k : Int) + 1 + 1) = (k : Int) + 1 + 1 := by rw [IntKind.wrap_i64]; omega
      clear hx hy hb
      cases hle : lessD x.id y.id with
      | true =>
        have HE : Hid (lessD x.id y.id = true) := hle
        go_wp2
        go_region_held3 (fun w' => w'.cell? ⟨b1, o1 + k * 6, none⟩ = some (.int .i64 x.id.f) ∧ w'.cell? ⟨b1, o1 + k * 6 + 1, none⟩ = some (.int .i64 x.id.n) ∧ w'.cell? ⟨b1, o1 + k * 6 + 2, none⟩ = some (.int .i64 x.id.c) ∧ w'.cell? ⟨b1, o1 + (k + 1) * 6, none⟩ = some (.int .i64 y.id.f) ∧ w'.cell? ⟨b1, o1 + (k + 1) * 6 + 1, none⟩ = some (.int .i64 y.id.n) ∧ w'.cell? ⟨b1, o1 + (k + 1) * 6 + 2, none⟩ = some (.int .i64 y.id.c)) (go_keep)
          (first | (go_at_call 137; refine (less_any x.id y.id _).mono ?_; rintro e w1 ⟨rfl, hb1⟩; have hc1 := bcell (undrew hb1)))
        go_wp2
        go_roundg (l.length - (k + 1))
        case measure => omega
        case rel => exact ⟨k + 1, rfl, by omega, by go_num, fun j x' y' hj hx' hy' => by
            by_cases ej : j = k
            · subst ej; have e1 := HX.out; have e2 := HY.out; rw [hx'] at e1; rw [hy'] at e2; cases e1; cases e2; exact HE.out
            · exact ht.out j x' y' (by omega) hx' hy', bTrans HB.out (undrew hb1)⟩
      | false =>
        have HE : Hid (lessD x.id y.id = false) := hle
        go_wp2
        go_region_held3 (fun w' => w'.cell? ⟨b1, o1 + k * 6, none⟩ = some (.int .i64 x.id.f) ∧ w'.cell? ⟨b1, o1 + k * 6 + 1, none⟩ = some (.int .i64 x.id.n) ∧ w'.cell? ⟨b1, o1 + k * 6 + 2, none⟩ = some (.int .i64 x.id.c) ∧ w'.cell? ⟨b1, o1 + (k + 1) * 6, none⟩ = some (.int .i64 y.id.f) ∧ w'.cell? ⟨b1, o1 + (k + 1) * 6 + 1, none⟩ = some (.int .i64 y.id.n) ∧ w'.cell? ⟨b1, o1 + (k + 1) * 6 + 2, none⟩ = some (.int .i64 y.id.c)) (go_keep)
          (first | (go_at_call 137; refine (less_any x.id y.id _).mono ?_; rintro e w1 ⟨rfl, hb1⟩; have hc1 := bcell (undrew hb1)))
        go_wp2
        go_ret
        exact ⟨ret_b (srt_no HX.out HY.out HE.out).symm, bTrans HB.out (undrew hb1)⟩
    · have hlt' : ¬ ((k : Int) + 1 < l.length) := by omega
      go_wp2
      go_ret
      refine ⟨ret_b ((srt_iff l).2 fun i x y hx hy => ht.out i x y ?_ hx hy).symm, hb⟩
      have := (List.getElem?_eq_some_iff.1 hy).1
      omega
end Go.Proofs.YtgdloonpemaijaaDoor
