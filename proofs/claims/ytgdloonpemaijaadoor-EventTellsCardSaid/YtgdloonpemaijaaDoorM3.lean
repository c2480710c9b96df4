/-
  Where a name is, how many go somewhere, whether messages stand in order: what Find, To, Sorted and the reference's answer. No conditions.
-/
import Derived.Test.YtgdloonpemaijaaDoorM2
namespace Go.Proofs.YtgdloonpemaijaaDoor
open Go.RowKit
attribute [local go_sem ↓] Go.wp_at_zero Go.wp_at_succ eq6

/-- The first place of a name; -1: none. -/
def fnd (l : List PMsg) (d : PID) : Int := match l.findIdx? (fun m => decide (m.id = d)) with | some k => k | none => -1
theorem fnd_at {l : List PMsg} {d : PID} {k : Nat} {x : PMsg} (hx : l[k]? = some x) (e : x.id = d) (h : ∀ (j : Nat) (y : PMsg), j < k → l[j]? = some y → y.id ≠ d) : fnd l d = k := by
  obtain ⟨hk, rfl⟩ := List.getElem?_eq_some_iff.1 hx
  have : l.findIdx? (fun m => decide (m.id = d)) = some k := by
    rw [List.findIdx?_eq_some_iff_getElem]
    exact ⟨hk, by simpa using e, fun j hj => by simpa using h j _ hj (List.getElem?_eq_getElem (by omega))⟩
  unfold fnd; rw [this]
theorem fnd_no {l : List PMsg} {d : PID} (h : ∀ (j : Nat) (y : PMsg), l[j]? = some y → y.id ≠ d) : fnd l d = -1 := by
  have : l.findIdx? (fun m => decide (m.id = d)) = none := by
    rw [List.findIdx?_eq_none_iff]
    intro x hx
    obtain ⟨j, hj⟩ := List.mem_iff_getElem?.1 hx
    simpa using h j x hj
  unfold fnd; rw [this]
theorem fnd_cases (l : List PMsg) (d : PID) : (fnd l d = -1 ∧ ∀ (j : Nat) (y : PMsg), l[j]? = some y → y.id ≠ d) ∨ ∃ (k : Nat) (x : PMsg), fnd l d = k ∧ l[k]? = some x ∧ x.id = d ∧ ∀ (j : Nat) (y : PMsg), j < k → l[j]? = some y → y.id ≠ d := by
  cases h : l.findIdx? (fun m => decide (m.id = d)) with
  | none =>
    refine Or.inl ⟨by unfold fnd; rw [h], fun j y hy => ?_⟩
    rw [List.findIdx?_eq_none_iff] at h
    simpa using h y (List.mem_of_getElem? hy)
  | some k =>
    have hf : fnd l d = k := by unfold fnd; rw [h]
    rw [List.findIdx?_eq_some_iff_getElem] at h
    obtain ⟨hk, h1, h2⟩ := h
    refine Or.inr ⟨k, l[k], hf, List.getElem?_eq_getElem hk, by simpa using h1, fun j y hj hy => ?_⟩
    obtain ⟨hj', rfl⟩ := List.getElem?_eq_some_iff.1 hy
    simpa using h2 j hj
/-- How many go there. -/
def toN (l : List PMsg) (who : Int) : Nat := l.countP fun m => decide (m.nt.to = who)
theorem toN_yes {l : List PMsg} {k : Nat} {x : PMsg} {who : Int} (hx : l[k]? = some x) (e : x.nt.to = who) : toN (l.take (k + 1)) who = toN (l.take k) who + 1 := by
  unfold toN; rw [List.take_add_one, hx, List.countP_append]; simp [e]
theorem toN_no {l : List PMsg} {k : Nat} {x : PMsg} {who : Int} (hx : l[k]? = some x) (e : x.nt.to ≠ who) : toN (l.take (k + 1)) who = toN (l.take k) who := by
  unfold toN; rw [List.take_add_one, hx, List.countP_append]; simp [e]
theorem toN_le (l : List PMsg) (who : Int) : toN l who ≤ l.length := List.countP_le_length
/-- Do they stand in order? -/
def srt : List PMsg → Bool
  | x :: y :: r => lessD x.id y.id && srt (y :: r)
  | _ => true
theorem srt_iff : ∀ (l : List PMsg), srt l = true ↔ ∀ (i : Nat) x y, l[i]? = some x → l[i + 1]? = some y → lessD x.id y.id = true
  | [] => by simp [srt]
  | [a] => by simp [srt]
  | a :: b :: r => by
    rw [srt, Bool.and_eq_true, srt_iff (b :: r)]
    constructor
    · rintro ⟨h1, h2⟩ i x y hx hy
      cases i with
      | zero =>
        simp only [List.getElem?_cons_zero, Option.some.injEq, List.getElem?_cons_succ] at hx hy
        subst hx hy; exact h1
      | succ i => exact h2 i x y (by simpa using hx) (by simpa using hy)
    · intro h
      exact ⟨h 0 a b rfl rfl, fun i x y hx hy => h (i + 1) x y (by simpa using hx) (by simpa using hy)⟩
theorem srt_no {l : List PMsg} {i : Nat} {x y : PMsg} (hx : l[i]? = some x) (hy : l[i + 1]? = some y) (h : lessD x.id y.id = false) : srt l = false := by
  cases hs : srt l with
  | false => rfl
  | true => have := (srt_iff l).1 hs i x y hx hy; rw [h] at this; cases this

theorem find1_any (w : World) (v : Value) (m : PMsg) (c : Value) (d : PID) (g : Nat) (hv : v = mVal m c) (h0 : w.cell? ⟨g, 0, none⟩ = some (.int .i64 d.f)) (h1 : w.cell? ⟨g, 1, none⟩ = some (.int .i64 d.n)) (h2 : w.cell? ⟨g, 2, none⟩ = some (.int .i64 d.c)) (hg : g < w.heap.size) :
    Calls Tryd.prog 109 #[v, .pointer (some ⟨g, 0, none⟩)] w fun e w' => e = .returned (.bool (sameD m.id d)) ∧ Below w.heap.size w w' := by
  subst hv
  have hgD := gD
  go_enter Tryd.func109, Tryd.ntmps109
  go_wp2
  go_ret
  exact ⟨rfl, bAlloc (bRefl _) _⟩
set_option maxHeartbeats 1000000 in
theorem index_any (w : World) (v : Value) (l : List PMsg) (d : PID) (g : Nat) (h : Msgs anyB anyB w v l) (h0 : w.cell? ⟨g, 0, none⟩ = some (.int .i64 d.f)) (h1 : w.cell? ⟨g, 1, none⟩ = some (.int .i64 d.n)) (h2 : w.cell? ⟨g, 2, none⟩ = some (.int .i64 d.c)) (hg : g < w.heap.size) :
    Calls Tryd.prog 108 #[v, .func (.func 109) #[] #[.pointer (some ⟨g, 0, none⟩)]] w fun e w' => e = .returned (.int .i64 (fnd l d)) ∧ Below w.heap.size w w' := by
  obtain ⟨A, c, rfl, hl⟩ := h.form
  go_enter Tryd.func108, Tryd.ntmps108
  go_wp2
  go_loopg [5, 8] l.length (fun n i5 i8 wr => ∃ k : Nat, n = l.length - k ∧ k ≤ l.length ∧ i8 = .int .i64 k ∧ Hid (∀ (j : Nat) (y : PMsg), j < k → l[j]? = some y → y.id ≠ d) ∧ Below w.heap.size w wr)
  case atStart => exact ⟨0, rfl, by omega, rfl, fun j y hj => by omega, bRefl w⟩
  case round =>
    obtain ⟨k, rfl, hk, rfl, ht, hb⟩ := hrel
    by_cases hlt : k < l.length
    · obtain ⟨b1, o1, x, v1, rfl, hx, hz1, q1, q2, q3, q4, q5, q6, hv1⟩ := h.cell hb hlt
      obtain ⟨V1, n1, rfl, _⟩ := hv1.form
      have HX : Hid (l[k]? = some x) := hx
      have HB : Hid (Below w.heap.size w wr) := hb
      have k0 := (hb.cell (p := ⟨g, 0, none⟩) hg).trans h0
      have k1 := (hb.cell (p := ⟨g, 1, none⟩) hg).trans h1
      have k2 := (hb.cell (p := ⟨g, 2, none⟩) hg).trans h2
      have kg : g < wr.heap.size := Nat.lt_of_lt_of_le hg hb.size
      clear hx hb h0 h1 h2
      by_cases e : x.id = d
      · have e2 := sameD_yes e
        have HE : Hid (x.id = d) := e
        clear e
        go_wp2_with (go_at_call 109; refine (find1_any _ _ x (.slice V1 x.nt.args.length n1) d g rfl k0 k1 k2 kg).mono ?_; rintro e w1 ⟨rfl, hb1⟩)
        go_ret
        exact ⟨ret_i (fnd_at HX.out HE.out ht.out).symm, bTrans HB.out hb1⟩
      · have e2 := sameD_no e
        have HE : Hid (x.id ≠ d) := e
        clear e
        go_wp2_with (go_at_call 109; refine (find1_any _ _ x (.slice V1 x.nt.args.length n1) d g rfl k0 k1 k2 kg).mono ?_; rintro e w1 ⟨rfl, hb1⟩)
        go_roundg (l.length - (k + 1))
        case measure => omega
        case rel => exact ⟨k + 1, rfl, by omega, by go_num, fun j y hj hy => by
            by_cases ej : j = k
            · subst ej; have := HX.out; rw [hy] at this; cases this; exact HE.out
            · exact ht.out j y (by omega) hy, bTrans HB.out hb1⟩
    · go_wp2
      go_ret
      exact ⟨ret_i (fnd_no fun j y hy => ht.out j y (by have := (List.getElem?_eq_some_iff.1 hy).1; omega) hy).symm, hb⟩
theorem find_any (w : World) (v : Value) (l : List PMsg) (d : PID) (h : Msgs anyB anyB w v l) :
    Calls Tryd.prog 72 #[v, dV d] w fun e w' => e = .returned (.int .i64 (fnd l d)) ∧ Below w.heap.size w w' := by
  obtain ⟨A, c, rfl, hl⟩ := h.form
  have HH : Hid (Msgs anyB anyB w (.slice A l.length c) l) := h
  clear h
  go_enter Tryd.func72, Tryd.ntmps72
  go_wp2_with fail
  have hA := heap_new w (.cells #[.int .i64 d.f, .int .i64 d.n, .int .i64 d.c] 56)
  obtain ⟨p0, p1, p2⟩ := blk3 hA
  refine (index_any _ _ l d w.heap.size (HH.out.below (bAlloc (bRefl w) _)) p0 p1 p2 (by simp)).mono ?_
  rintro e w1 ⟨rfl, hb1⟩
  go_wp2
  go_ret
  exact ⟨rfl, bTrans (bAlloc (bRefl w) _) hb1⟩
set_option maxHeartbeats 1000000 in
theorem rfind_any (w : World) (v : Value) (l : List PMsg) (d : PID) (h : Msgs anyB anyB w v l) :
    Calls Tryd.prog 113 #[v, dV d] w fun e w' => e = .returned (.int .i64 (fnd l d)) ∧ Below w.heap.size w w' := by
  obtain ⟨A, c, rfl, hl⟩ := h.form
  have hgD := gD
  obtain ⟨p0, p1, p2⟩ := blk3 (heap_new w (.cells #[.int .i64 d.f, .int .i64 d.n, .int .i64 d.c] 56))
  go_enter Tryd.func113, Tryd.ntmps113
  go_wp2
  go_loopg [5] l.length (fun n i5 wr => ∃ k : Nat, n = l.length - k ∧ k ≤ l.length ∧ i5 = .int .i64 k ∧ Hid (∀ (j : Nat) (y : PMsg), j < k → l[j]? = some y → y.id ≠ d) ∧ ∃ q, wr = (w.alloc (.cells #[.int .i64 d.f, .int .i64 d.n, .int .i64 d.c] 56)).drewN q)
  case atStart => exact ⟨0, rfl, by omega, rfl, fun j y hj => by omega, quiet_refl _⟩
  case round =>
    obtain ⟨k, rfl, hk, rfl, ht, hq0⟩ := hrel
    have hb := bTrans (bAlloc (bRefl w) _) (quiet_below hq0)
    have hb' := quiet_below hq0
    have hq : Hid (∃ q, wr = (w.alloc (.cells #[.int .i64 d.f, .int .i64 d.n, .int .i64 d.c] 56)).drewN q) := hq0
    clear hq0
    by_cases hlt : k < l.length
    · obtain ⟨b1, o1, x, v1, rfl, hx, hz1, q1, q2, q3, q4, q5, q6, hv1⟩ := h.cell hb hlt
      have HX : Hid (l[k]? = some x) := hx
      have HB : Hid (Below w.heap.size w wr) := hb
      have k0 := (hb'.cell (p := ⟨w.heap.size, 0, none⟩) (by simp)).trans p0
      have k1 := (hb'.cell (p := ⟨w.heap.size, 1, none⟩) (by simp)).trans p1
      have k2 := (hb'.cell (p := ⟨w.heap.size, 2, none⟩) (by simp)).trans p2
      clear hx hb hb' p0 p1 p2
      by_cases e : x.id = d
      · have e2 := sameD_yes e
        have HE : Hid (x.id = d) := e
        clear e
        go_wp2
        go_quiet (fail)
        go_wp2
        go_ret
        exact ⟨ret_i (fnd_at HX.out HE.out ht.out).symm, bTrans (bAlloc (bRefl w) _) (quiet_below (quiet_next hq.out _))⟩
      · have e2 := sameD_no e
        have HE : Hid (x.id ≠ d) := e
        clear e
        go_wp2
        go_quiet (fail)
        go_wp2
        go_roundg (l.length - (k + 1))
        case measure => omega
        case rel => exact ⟨k + 1, rfl, by omega, by go_num, fun j y hj hy => by
            by_cases ej : j = k
            · subst ej; have := HX.out; rw [hy] at this; cases this; exact HE.out
            · exact ht.out j y (by omega) hy, quiet_next hq.out _⟩
    · go_wp2
      go_ret
      exact ⟨ret_i (fnd_no fun j y hy => ht.out j y (by have := (List.getElem?_eq_some_iff.1 hy).1; omega) hy).symm, hb⟩
end Go.Proofs.YtgdloonpemaijaaDoor
