/-
  What the functions that hold two lists of numbers, or of instructions, against each other answer: whether the lists are one. No further conditions.
-/
import Derived.Test.YtlpeiiejkpkpjaaDoorMem
import Derived.Deep.QuietTactic
import Derived.BigQuiet
import Derived.Deep.LoopGhost
namespace Go.Proofs.YtlpeiiejkpkpjaaDoor
open Go.RowKit
theorem Ints.cell {ok : Nat → Prop} {w wr : World} {A : Option Addr} {n c : Nat} {l : List Int} (h : Ints ok w (.slice A n c) l) (hb : Below w.heap.size w wr) {k : Nat} (hk : k < l.length) :
    ∃ b o x, A = some ⟨b, o, none⟩ ∧ l[k]? = some x ∧ wr.cell? ⟨b, o + k, none⟩ = some (.int .i64 x) := by
  obtain ⟨x, hx⟩ := at_lt hk
  obtain ⟨b, o, rfl, _, hlt, hc⟩ := h.at (by omega)
  refine ⟨b, o, x, rfl, hx, (hb.cell (p := ⟨b, o + k, none⟩) hlt).trans ?_⟩
  have := hc k x hx
  rwa [Nat.mul_one] at this
theorem Code.cell {ok : Nat → Prop} {w wr : World} {A : Option Addr} {n c : Nat} {l : List PIns} (h : Code ok w (.slice A n c) l) (hb : Below w.heap.size w wr) {k : Nat} (hk : k < l.length) :
    ∃ b o x, A = some ⟨b, o, none⟩ ∧ l[k]? = some x ∧ wr.cell? ⟨b, o + k * 2, none⟩ = some (.int .i64 x.op) ∧ wr.cell? ⟨b, o + k * 2 + 1, none⟩ = some (.int .i64 x.a) := by
  obtain ⟨x, hx⟩ := at_lt hk
  obtain ⟨b, o, rfl, _, hlt, hc⟩ := h.at (by omega)
  exact ⟨b, o, x, rfl, hx, (hb.cell (p := ⟨b, o + k * 2, none⟩) hlt).trans (hc k x hx).1, (hb.cell (p := ⟨b, o + k * 2 + 1, none⟩) hlt).trans (hc k x hx).2⟩
theorem ret_b {a b : Bool} (h : a = b) : Ending.returned (.bool a) = .returned (.bool b) := by rw [h]
theorem lt_ne {a b : Nat} (h : a ≠ b) : ((a : Int) != (b : Int)) = true := by simp; omega
theorem lt_eq {a b : Nat} (h : a = b) : ((a : Int) != (b : Int)) = false := by simp [h]
theorem ne_no {a b : Int} (h : a = b) : (a != b) = false := by simp [h]
theorem ne_yes {a b : Int} (h : a ≠ b) : (a != b) = true := by simp [h]
theorem quiet_below {w w' : World} (h : ∃ n, w' = w.drewN n) : Below w.heap.size w w' := by obtain ⟨n, rfl⟩ := h; exact bDrewN (bRefl w) n
theorem quiet_next {w wr : World} (h : ∃ n, wr = w.drewN n) (m : Nat) : ∃ n, wr.drewN m = w.drewN n := by obtain ⟨n, rfl⟩ := h; exact ⟨n + m, by rw [World.drewN_drewN]⟩
theorem quiet_refl (w : World) : ∃ n, w = w.drewN n := ⟨0, rfl⟩

set_option maxHeartbeats 400000 in
theorem equalI (ok ok' : Nat → Prop) (w : World) (v1 v2 : Value) (a b : List Int) (h1 : Ints ok w v1 a) (h2 : Ints ok' w v2 b) :
    Calls Tryd.prog 40 #[v1, v2] w fun e w' => e = .returned (.bool (eqB a b)) ∧ ∃ n, w' = w.drewN n := by
  obtain ⟨A1, c1, rfl, hl1⟩ := h1.form
  obtain ⟨A2, c2, rfl, hl2⟩ := h2.form
  by_cases hlen : a.length = b.length
  · have HL : Hid (a.length = b.length) := hlen
    have e1 := lt_eq hlen
    clear hlen
    go_enter Tryd.func40, Tryd.ntmps40
    go_wp2
    go_loopg [5, 13] a.length (fun g i5 i13 wr => ∃ k : Nat, g = a.length - k ∧ k ≤ a.length ∧ i13 = .int .i64 k ∧ Hid (a.take k = b.take k) ∧ ∃ n, wr = w.drewN n)
    case atStart => exact ⟨0, rfl, by omega, rfl, rfl, quiet_refl w⟩
    case round =>
      obtain ⟨k, rfl, hk, rfl, ht, hq0⟩ := hrel
      have hb := quiet_below hq0
      have hq : Hid (∃ n, wr = w.drewN n) := hq0
      clear hq0
      by_cases hlt : k < a.length
      · obtain ⟨b1, o1, x, rfl, hx, q1⟩ := h1.cell hb hlt
        obtain ⟨b2, o2, y, rfl, hy, q2⟩ := h2.cell hb (k := k) (by have := HL.out; omega)
        have hlt2 : (k : Int) < b.length := by have := HL.out; omega
        have HX : Hid (a[k]? = some x) := hx
        have HY : Hid (b[k]? = some y) := hy
        clear hx hy
        by_cases hxy : x = y
        · have e2 := ne_no hxy
          have HE : Hid (x = y) := hxy
          clear hxy
          go_wp2
          go_quiet (fail)
          go_wp2
          go_roundg (a.length - (k + 1))
          case measure => omega
          case rel => exact ⟨k + 1, rfl, by omega, by go_num, take_eq ht.out HX.out HY.out HE.out, quiet_next hq _⟩
        · have e2 := ne_yes hxy
          go_wp2
          go_quiet (fail)
          go_wp2
          go_ret
          exact ⟨ret_b (eqB_no (take_ne HX.out HY.out hxy)).symm, quiet_next hq _⟩
      · go_wp2
        go_ret
        exact ⟨ret_b (eqB_yes (take_all HL.out hlt ht.out)).symm, hq.out⟩
  · have e1 := lt_ne hlen
    go_enter Tryd.func40, Tryd.ntmps40
    go_wp2
    go_ret
    exact ⟨ret_b (eqB_no (len_ne hlen)).symm, quiet_refl _⟩

set_option maxHeartbeats 400000 in
theorem refI (ok ok' : Nat → Prop) (w : World) (v1 v2 : Value) (a b : List Int) (h1 : Ints ok w v1 a) (h2 : Ints ok' w v2 b) :
    Calls Tryd.prog 34 #[v1, v2] w fun e w' => e = .returned (.bool (eqB a b)) ∧ ∃ n, w' = w.drewN n := by
  obtain ⟨A1, c1, rfl, hl1⟩ := h1.form
  obtain ⟨A2, c2, rfl, hl2⟩ := h2.form
  by_cases hlen : a.length = b.length
  · have HL : Hid (a.length = b.length) := hlen
    have e1 := lt_eq hlen
    clear hlen
    go_enter Tryd.func34, Tryd.ntmps34
    go_wp2
    go_loopg [5] a.length (fun g i5 wr => ∃ k : Nat, g = a.length - k ∧ k ≤ a.length ∧ i5 = .int .i64 k ∧ Hid (a.take k = b.take k) ∧ ∃ n, wr = w.drewN n)
    case atStart => exact ⟨0, rfl, by omega, rfl, rfl, quiet_refl w⟩
    case round =>
      obtain ⟨k, rfl, hk, rfl, ht, hq0⟩ := hrel
      have hb := quiet_below hq0
      have hq : Hid (∃ n, wr = w.drewN n) := hq0
      clear hq0
      by_cases hlt : k < a.length
      · obtain ⟨b1, o1, x, rfl, hx, q1⟩ := h1.cell hb hlt
        obtain ⟨b2, o2, y, rfl, hy, q2⟩ := h2.cell hb (k := k) (by have := HL.out; omega)
        have hlt2 : (k : Int) < b.length := by have := HL.out; omega
        have HX : Hid (a[k]? = some x) := hx
        have HY : Hid (b[k]? = some y) := hy
        clear hx hy
        by_cases hxy : x = y
        · have e2 := ne_no hxy
          have HE : Hid (x = y) := hxy
          clear hxy
          go_wp2
          go_quiet (fail)
          go_wp2
          go_roundg (a.length - (k + 1))
          case measure => omega
          case rel => exact ⟨k + 1, rfl, by omega, by go_num, take_eq ht.out HX.out HY.out HE.out, quiet_next hq _⟩
        · have e2 := ne_yes hxy
          go_wp2
          go_quiet (fail)
          go_wp2
          go_ret
          exact ⟨ret_b (eqB_no (take_ne HX.out HY.out hxy)).symm, quiet_next hq _⟩
      · go_wp2
        go_ret
        exact ⟨ret_b (eqB_yes (take_all HL.out hlt ht.out)).symm, hq.out⟩
  · have e1 := lt_ne hlen
    go_enter Tryd.func34, Tryd.ntmps34
    go_wp2
    go_ret
    exact ⟨ret_b (eqB_no (len_ne hlen)).symm, quiet_refl _⟩

set_option maxHeartbeats 400000 in
theorem alikeI (ok ok' : Nat → Prop) (w : World) (v1 v2 : Value) (a b : List Int) (h1 : Ints ok w v1 a) (h2 : Ints ok' w v2 b) :
    Calls Tryd.prog 19 #[v1, v2] w fun e w' => e = .returned (.bool (eqB a b)) ∧ ∃ n, w' = w.drewN n := by
  obtain ⟨A1, c1, rfl, hl1⟩ := h1.form
  obtain ⟨A2, c2, rfl, hl2⟩ := h2.form
  by_cases hlen : a.length = b.length
  · have HL : Hid (a.length = b.length) := hlen
    have e1 := lt_eq hlen
    clear hlen
    go_enter Tryd.func19, Tryd.ntmps19
    go_wp2
    go_loopg [5] a.length (fun g i5 wr => ∃ k : Nat, g = a.length - k ∧ k ≤ a.length ∧ i5 = .int .i64 k ∧ Hid (a.take k = b.take k) ∧ ∃ n, wr = w.drewN n)
    case atStart => exact ⟨0, rfl, by omega, rfl, rfl, quiet_refl w⟩
    case round =>
      obtain ⟨k, rfl, hk, rfl, ht, hq0⟩ := hrel
      have hb := quiet_below hq0
      have hq : Hid (∃ n, wr = w.drewN n) := hq0
      clear hq0
      by_cases hlt : k < a.length
      · obtain ⟨b1, o1, x, rfl, hx, q1⟩ := h1.cell hb hlt
        obtain ⟨b2, o2, y, rfl, hy, q2⟩ := h2.cell hb (k := k) (by have := HL.out; omega)
        have hlt2 : (k : Int) < b.length := by have := HL.out; omega
        have HX : Hid (a[k]? = some x) := hx
        have HY : Hid (b[k]? = some y) := hy
        clear hx hy
        by_cases hxy : x = y
        · have e2 := ne_no hxy
          have HE : Hid (x = y) := hxy
          clear hxy
          go_wp2
          go_quiet (fail)
          go_wp2
          go_roundg (a.length - (k + 1))
          case measure => omega
          case rel => exact ⟨k + 1, rfl, by omega, by go_num, take_eq ht.out HX.out HY.out HE.out, quiet_next hq _⟩
        · have e2 := ne_yes hxy
          go_wp2
          go_quiet (fail)
          go_wp2
          go_ret
          exact ⟨ret_b (eqB_no (take_ne HX.out HY.out hxy)).symm, quiet_next hq _⟩
      · go_wp2
        go_ret
        exact ⟨ret_b (eqB_yes (take_all HL.out hlt ht.out)).symm, hq.out⟩
  · have e1 := lt_ne hlen
    go_enter Tryd.func19, Tryd.ntmps19
    go_wp2
    go_ret
    exact ⟨ret_b (eqB_no (len_ne hlen)).symm, quiet_refl _⟩

set_option maxHeartbeats 400000 in
theorem equalC (ok ok' : Nat → Prop) (w : World) (v1 v2 : Value) (a b : List PIns) (h1 : Code ok w v1 a) (h2 : Code ok' w v2 b) :
    Calls Tryd.prog 46 #[v1, v2] w fun e w' => e = .returned (.bool (eqB a b)) ∧ ∃ n, w' = w.drewN n := by
  obtain ⟨A1, c1, rfl, hl1⟩ := h1.form
  obtain ⟨A2, c2, rfl, hl2⟩ := h2.form
  by_cases hlen : a.length = b.length
  · have HL : Hid (a.length = b.length) := hlen
    have e1 := lt_eq hlen
    clear hlen
    go_enter Tryd.func46, Tryd.ntmps46
    go_wp2
    go_loopg [5, 13] a.length (fun g i5 i13 wr => ∃ k : Nat, g = a.length - k ∧ k ≤ a.length ∧ i13 = .int .i64 k ∧ Hid (a.take k = b.take k) ∧ ∃ n, wr = w.drewN n)
    case atStart => exact ⟨0, rfl, by omega, rfl, rfl, quiet_refl w⟩
    case round =>
      obtain ⟨k, rfl, hk, rfl, ht, hq0⟩ := hrel
      have hb := quiet_below hq0
      have hq : Hid (∃ n, wr = w.drewN n) := hq0
      clear hq0
      by_cases hlt : k < a.length
      · obtain ⟨b1, o1, x, rfl, hx, q1, q1'⟩ := h1.cell hb hlt
        obtain ⟨b2, o2, y, rfl, hy, q2, q2'⟩ := h2.cell hb (k := k) (by have := HL.out; omega)
        have hlt2 : (k : Int) < b.length := by have := HL.out; omega
        have HX : Hid (a[k]? = some x) := hx
        have HY : Hid (b[k]? = some y) := hy
        clear hx hy
        obtain ⟨x1, x2⟩ := x
        obtain ⟨y1, y2⟩ := y
        dsimp only at q1 q1' q2 q2'
        by_cases hxy : x1 = y1 ∧ x2 = y2
        · obtain ⟨rfl, rfl⟩ := hxy
          go_wp2
          go_quiet (fail)
          go_wp2
          go_roundg (a.length - (k + 1))
          case measure => omega
          case rel => exact ⟨k + 1, rfl, by omega, by go_num, take_eq ht.out HX.out HY.out rfl, quiet_next hq _⟩
        · have hxy' : PIns.mk x1 x2 ≠ PIns.mk y1 y2 := fun e => hxy (by injection e with a b; exact ⟨a, b⟩)
          by_cases h3 : x1 = y1
          · have h4 : (x2 == y2) = false := by simp; exact fun e => hxy ⟨h3, e⟩
            subst h3
            have HN : Hid (PIns.mk x1 x2 ≠ PIns.mk x1 y2) := hxy'
            clear hxy hxy'
            go_wp2
            go_quiet (fail)
            go_wp2
            go_ret
            exact ⟨ret_b (eqB_no (take_ne HX.out HY.out HN.out)).symm, quiet_next hq _⟩
          · have h4 : (x1 == y1) = false := by simp; exact h3
            have HN : Hid (PIns.mk x1 x2 ≠ PIns.mk y1 y2) := hxy'
            clear hxy hxy'
            go_wp2
            go_quiet (fail)
            go_wp2
            go_ret
            exact ⟨ret_b (eqB_no (take_ne HX.out HY.out HN.out)).symm, quiet_next hq _⟩
      · go_wp2
        go_ret
        exact ⟨ret_b (eqB_yes (take_all HL.out hlt ht.out)).symm, hq.out⟩
  · have e1 := lt_ne hlen
    go_enter Tryd.func46, Tryd.ntmps46
    go_wp2
    go_ret
    exact ⟨ret_b (eqB_no (len_ne hlen)).symm, quiet_refl _⟩

set_option maxHeartbeats 400000 in
theorem refC (ok ok' : Nat → Prop) (w : World) (v1 v2 : Value) (a b : List PIns) (h1 : Code ok w v1 a) (h2 : Code ok' w v2 b) :
    Calls Tryd.prog 33 #[v1, v2] w fun e w' => e = .returned (.bool (eqB a b)) ∧ ∃ n, w' = w.drewN n := by
  obtain ⟨A1, c1, rfl, hl1⟩ := h1.form
  obtain ⟨A2, c2, rfl, hl2⟩ := h2.form
  by_cases hlen : a.length = b.length
  · have HL : Hid (a.length = b.length) := hlen
    have e1 := lt_eq hlen
    clear hlen
    go_enter Tryd.func33, Tryd.ntmps33
    go_wp2
    go_loopg [5] a.length (fun g i5 wr => ∃ k : Nat, g = a.length - k ∧ k ≤ a.length ∧ i5 = .int .i64 k ∧ Hid (a.take k = b.take k) ∧ ∃ n, wr = w.drewN n)
    case atStart => exact ⟨0, rfl, by omega, rfl, rfl, quiet_refl w⟩
    case round =>
      obtain ⟨k, rfl, hk, rfl, ht, hq0⟩ := hrel
      have hb := quiet_below hq0
      have hq : Hid (∃ n, wr = w.drewN n) := hq0
      clear hq0
      by_cases hlt : k < a.length
      · obtain ⟨b1, o1, x, rfl, hx, q1, q1'⟩ := h1.cell hb hlt
        obtain ⟨b2, o2, y, rfl, hy, q2, q2'⟩ := h2.cell hb (k := k) (by have := HL.out; omega)
        have hlt2 : (k : Int) < b.length := by have := HL.out; omega
        have HX : Hid (a[k]? = some x) := hx
        have HY : Hid (b[k]? = some y) := hy
        clear hx hy
        obtain ⟨x1, x2⟩ := x
        obtain ⟨y1, y2⟩ := y
        dsimp only at q1 q1' q2 q2'
        by_cases hxy : x1 = y1 ∧ x2 = y2
        · obtain ⟨rfl, rfl⟩ := hxy
          go_wp2
          go_quiet (fail)
          go_wp2
          go_roundg (a.length - (k + 1))
          case measure => omega
          case rel => exact ⟨k + 1, rfl, by omega, by go_num, take_eq ht.out HX.out HY.out rfl, quiet_next hq _⟩
        · have hxy' : PIns.mk x1 x2 ≠ PIns.mk y1 y2 := fun e => hxy (by injection e with a b; exact ⟨a, b⟩)
          by_cases h3 : x1 = y1
          · have h4 : (x2 == y2) = false := by simp; exact fun e => hxy ⟨h3, e⟩
            subst h3
            have HN : Hid (PIns.mk x1 x2 ≠ PIns.mk x1 y2) := hxy'
            clear hxy hxy'
            go_wp2
            go_quiet (fail)
            go_wp2
            go_ret
            exact ⟨ret_b (eqB_no (take_ne HX.out HY.out HN.out)).symm, quiet_next hq _⟩
          · have h4 : (x1 == y1) = false := by simp; exact h3
            have HN : Hid (PIns.mk x1 x2 ≠ PIns.mk y1 y2) := hxy'
            clear hxy hxy'
            go_wp2
            go_quiet (fail)
            go_wp2
            go_ret
            exact ⟨ret_b (eqB_no (take_ne HX.out HY.out HN.out)).symm, quiet_next hq _⟩
      · go_wp2
        go_ret
        exact ⟨ret_b (eqB_yes (take_all HL.out hlt ht.out)).symm, hq.out⟩
  · have e1 := lt_ne hlen
    go_enter Tryd.func33, Tryd.ntmps33
    go_wp2
    go_ret
    exact ⟨ret_b (eqB_no (len_ne hlen)).symm, quiet_refl _⟩

end Go.Proofs.YtlpeiiejkpkpjaaDoor
