/-
  A message put in, by its name: placeFor, Put. Condition: the lists are short.
-/
import Derived.Test.YtgdloonpemaijaaDoorM7
namespace Go.Proofs.YtgdloonpemaijaaDoor
open Go.RowKit
attribute [local go_sem ↓] Go.wp_at_zero Go.wp_at_succ
/-- The first place whose name is not less. -/
def plc (l : List PMsg) (d : PID) : Nat := l.findIdx fun m => !lessD m.id d
theorem plc_at {l : List PMsg} {d : PID} {k : Nat} {x : PMsg} (hx : l[k]? = some x) (e : lessD x.id d = false) (h : ∀ (j : Nat) (y : PMsg), j < k → l[j]? = some y → lessD y.id d = true) : plc l d = k := by
  obtain ⟨hk, rfl⟩ := List.getElem?_eq_some_iff.1 hx
  unfold plc
  rw [List.findIdx_eq hk]
  exact ⟨by simpa using e, fun j hj => by simpa using h j _ hj (List.getElem?_eq_getElem (by omega))⟩
theorem plc_end {l : List PMsg} {d : PID} (h : ∀ (j : Nat) (y : PMsg), l[j]? = some y → lessD y.id d = true) : plc l d = l.length := by
  unfold plc
  rw [List.findIdx_eq_length]
  intro x hx
  obtain ⟨j, hj⟩ := List.mem_iff_getElem?.1 hx
  simpa using h j x hj
theorem plc_le (l : List PMsg) (d : PID) : plc l d ≤ l.length := List.findIdx_le_length
/-- With m, at its place. -/
def putP (l : List PMsg) (m : PMsg) : List PMsg := l.take (plc l m.id) ++ m :: l.drop (plc l m.id)
set_option maxHeartbeats 1000000 in
theorem place_any (w : World) (v : Value) (l : List PMsg) (d : PID) (h : Msgs anyB anyB w v l) :
    Calls Tryd.prog 153 #[v, dV d] w fun e w' => e = .returned (.int .i64 (plc l d)) ∧ Below w.heap.size w w' := by
  obtain ⟨A, c, rfl, hl⟩ := h.form
  have HA : Hid (Below w.heap.size w (w.alloc (.cells #[.int .i64 d.f, .int .i64 d.n, .int .i64 d.c] 56))) := bAlloc (bRefl w) _
  obtain ⟨p0, p1, p2⟩ := blk3 (heap_new w (.cells #[.int .i64 d.f, .int .i64 d.n, .int .i64 d.c] 56))
  go_enter Tryd.func153, Tryd.ntmps153
  go_wp2
  go_loopg [5, 6, 9] l.length (fun n i5 i6 i9 wr => ∃ k : Nat, n = l.length - k ∧ k ≤ l.length ∧ i9 = .int .i64 k ∧ Hid (∀ (j : Nat) (y : PMsg), j < k → l[j]? = some y → lessD y.id d = true) ∧ Below (w.heap.size + 1) (w.alloc (.cells #[.int .i64 d.f, .int .i64 d.n, .int .i64 d.c] 56)) wr)
  case atStart => exact ⟨0, rfl, by omega, rfl, fun j y hj => by omega, Below.refl _ _⟩
  case round =>
    obtain ⟨k, rfl, hk, rfl, ht, hb'⟩ := hrel
    have hb : Below w.heap.size w wr := HA.out.trans (hb'.mono (by omega))
    by_cases hlt : k < l.length
    · obtain ⟨b1, o1, x, v1, rfl, hx, hz1, q1, q2, q3, q4, q5, q6, hv1⟩ := h.cell hb hlt
      obtain ⟨V1, n1, rfl, _⟩ := hv1.form
      have HX : Hid (l[k]? = some x) := hx
      have HB : Hid (Below (w.heap.size + 1) (w.alloc (.cells #[.int .i64 d.f, .int .i64 d.n, .int .i64 d.c] 56)) wr) := hb'
      have k0 := (hb'.cell (p := ⟨w.heap.size, 0, none⟩) (by simp)).trans p0
      have k1 := (hb'.cell (p := ⟨w.heap.size, 1, none⟩) (by simp)).trans p1
      have k2 := (hb'.cell (p := ⟨w.heap.size, 2, none⟩) (by simp)).trans p2
      have kz : w.heap.size < wr.heap.size := by have := hb'.size; simp at this; omega
      have HS : Hid (w.heap.size + 1 ≤ wr.heap.size) := kz
      clear hx hb hb' p0 p1 p2
      cases hle : lessD x.id d with
      | true =>
        have HE : Hid (lessD x.id d = true) := hle
        go_wp2_with (go_at_call 137; refine (less_any x.id d _).mono ?_; rintro e w1 ⟨rfl, hb1⟩)
        go_roundg (l.length - (k + 1))
        case measure => omega
        case rel => exact ⟨k + 1, rfl, by omega, by go_num, fun j y hj hy => by
            by_cases ej : j = k
            · subst ej; have := HX.out; rw [hy] at this; cases this; exact HE.out
            · exact ht.out j y (by omega) hy, (HB.out.alloc HS.out _).trans (hb1.mono (by have := HS.out; simp; omega))⟩
      | false =>
        have HE : Hid (lessD x.id d = false) := hle
        go_wp2_with (go_at_call 137; refine (less_any x.id d _).mono ?_; rintro e w1 ⟨rfl, hb1⟩)
        go_ret
        exact ⟨ret_i (by rw [plc_at HX.out HE.out ht.out]), HA.out.trans (((HB.out.alloc HS.out _).trans (hb1.mono (by have := HS.out; simp; omega))).mono (by omega))⟩
    · go_wp2
      go_ret
      exact ⟨ret_i (by rw [plc_end fun j y hy => ht.out j y (by have := (List.getElem?_eq_some_iff.1 hy).1; omega) hy]), hb⟩
end Go.Proofs.YtgdloonpemaijaaDoor
