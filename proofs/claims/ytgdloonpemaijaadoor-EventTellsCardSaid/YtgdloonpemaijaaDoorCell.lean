/-
  Cells of lists, and small facts. No conditions.
-/
import Derived.Test.YtgdloonpemaijaaDoorMem
import Derived.Deep.QuietTactic
import Derived.BigQuiet
import Derived.Deep.LoopGhost
namespace Go.Proofs.YtgdloonpemaijaaDoor
open Go.RowKit
theorem Ints.cell {ok : Nat → Prop} {w wr : World} {A : Option Addr} {n c : Nat} {l : List Int} (h : Ints ok w (.slice A n c) l) (hb : Below w.heap.size w wr) {k : Nat} (hk : k < l.length) :
    ∃ b o x, A = some ⟨b, o, none⟩ ∧ l[k]? = some x ∧ wr.cell? ⟨b, o + k, none⟩ = some (.int .i64 x) := by
  obtain ⟨x, hx⟩ := at_lt hk
  obtain ⟨b, o, rfl, _, hlt, hc⟩ := h.at (by omega)
  refine ⟨b, o, x, rfl, hx, (hb.cell (p := ⟨b, o + k, none⟩) hlt).trans ?_⟩
  have := hc k x hx
  rwa [Nat.mul_one] at this
theorem Code.cell {ok : Nat → Prop} {w wr : World} {A : Option Addr} {n c : Nat} {l : List PIns} (h : Code ok w (.slice A n c) l) (hb : Below w.heap.size w wr) {k : Nat} (hk : k < l.length) :
    ∃ b o x, A = some ⟨b, o, none⟩ ∧ l[k]? = some x ∧ wr.cell? ⟨b, o + k * 2, none⟩ = some (.int .i64 x.op) ∧ wr.cell? ⟨b, o + k * 2 + 1, none⟩ = some (.int .i64 x.a) := by
  obtain ⟨x, hx⟩ := at_lt hk
  obtain ⟨b, o, rfl, _, hlt, hc⟩ := h.at (by omega)
  exact ⟨b, o, x, rfl, hx, (hb.cell (p := ⟨b, o + k * 2, none⟩) hlt).trans (hc k x hx).1, (hb.cell (p := ⟨b, o + k * 2 + 1, none⟩) hlt).trans (hc k x hx).2⟩
theorem ret_b {a b : Bool} (h : a = b) : Ending.returned (.bool a) = .returned (.bool b) := by rw [h]
theorem lt_ne {a b : Nat} (h : a ≠ b) : ((a : Int) != (b : Int)) = true := by simp; omega
theorem lt_eq {a b : Nat} (h : a = b) : ((a : Int) != (b : Int)) = false := by simp [h]
theorem ne_no {a b : Int} (h : a = b) : (a != b) = false := by simp [h]
theorem ne_yes {a b : Int} (h : a ≠ b) : (a != b) = true := by simp [h]
theorem quiet_below {w w' : World} (h : ∃ n, w' = w.drewN n) : Below w.heap.size w w' := by obtain ⟨n, rfl⟩ := h; exact bDrewN (bRefl w) n
theorem quiet_next {w wr : World} (h : ∃ n, wr = w.drewN n) (m : Nat) : ∃ n, wr.drewN m = w.drewN n := by obtain ⟨n, rfl⟩ := h; exact ⟨n + m, by rw [World.drewN_drewN]⟩
theorem quiet_refl (w : World) : ∃ n, w = w.drewN n := ⟨0, rfl⟩
theorem Hnds.cell {out inn : Nat → Prop} {w wr : World} {A : Option Addr} {n c : Nat} {l : List PHnd} (h : Hnds out inn w (.slice A n c) l) (hb : Below w.heap.size w wr) {k : Nat} (hk : k < l.length) :
    ∃ b o x v, A = some ⟨b, o, none⟩ ∧ l[k]? = some x ∧ b < wr.heap.size ∧ wr.cell? ⟨b, o + k * 2, none⟩ = some (.int .i64 x.args) ∧ wr.cell? ⟨b, o + k * 2 + 1, none⟩ = some v ∧ Code inn wr v x.code := by
  obtain ⟨x, hx⟩ := at_lt hk
  obtain ⟨b, o, rfl, _, hlt, hc⟩ := h.at (by omega)
  obtain ⟨h1, v, h2, h3⟩ := hc k x hx
  exact ⟨b, o, x, v, rfl, hx, Nat.lt_of_lt_of_le hlt hb.size, (hb.cell (p := ⟨b, _, none⟩) hlt).trans h1, (hb.cell (p := ⟨b, _, none⟩) hlt).trans h2, h3.below hb⟩
theorem Acts.cell {out inn : Nat → Prop} {w wr : World} {A : Option Addr} {n c : Nat} {l : List PAct} (h : Acts out inn w (.slice A n c) l) (hb : Below w.heap.size w wr) {k : Nat} (hk : k < l.length) :
    ∃ b o x v, A = some ⟨b, o, none⟩ ∧ l[k]? = some x ∧ b < wr.heap.size ∧ wr.cell? ⟨b, o + k * 4, none⟩ = some v ∧ wr.cell? ⟨b, o + k * 4 + 1, none⟩ = some (.int .i64 x.cap) ∧ wr.cell? ⟨b, o + k * 4 + 2, none⟩ = some (.int .i64 x.timer) ∧ wr.cell? ⟨b, o + k * 4 + 3, none⟩ = some (.bool x.armed) ∧ Ints inn wr v x.regs := by
  obtain ⟨x, hx⟩ := at_lt hk
  obtain ⟨b, o, rfl, _, hlt, hc⟩ := h.at (by omega)
  obtain ⟨⟨v, h1, h2⟩, h3, h4, h5⟩ := hc k x hx
  exact ⟨b, o, x, v, rfl, hx, Nat.lt_of_lt_of_le hlt hb.size, (hb.cell (p := ⟨b, _, none⟩) hlt).trans h1, (hb.cell (p := ⟨b, _, none⟩) hlt).trans h3, (hb.cell (p := ⟨b, _, none⟩) hlt).trans h4, (hb.cell (p := ⟨b, _, none⟩) hlt).trans h5, h2.below hb⟩
theorem Ntes.cell {out inn : Nat → Prop} {w wr : World} {A : Option Addr} {n c : Nat} {l : List PNte} (h : Ntes out inn w (.slice A n c) l) (hb : Below w.heap.size w wr) {k : Nat} (hk : k < l.length) :
    ∃ b o x v, A = some ⟨b, o, none⟩ ∧ l[k]? = some x ∧ b < wr.heap.size ∧ wr.cell? ⟨b, o + k * 3, none⟩ = some (.int .i64 x.to) ∧ wr.cell? ⟨b, o + k * 3 + 1, none⟩ = some (.int .i64 x.hd) ∧ wr.cell? ⟨b, o + k * 3 + 2, none⟩ = some v ∧ Ints inn wr v x.args := by
  obtain ⟨x, hx⟩ := at_lt hk
  obtain ⟨b, o, rfl, _, hlt, hc⟩ := h.at (by omega)
  obtain ⟨h1, h2, v, h3, h4⟩ := hc k x hx
  exact ⟨b, o, x, v, rfl, hx, Nat.lt_of_lt_of_le hlt hb.size, (hb.cell (p := ⟨b, _, none⟩) hlt).trans h1, (hb.cell (p := ⟨b, _, none⟩) hlt).trans h2, (hb.cell (p := ⟨b, _, none⟩) hlt).trans h3, h4.below hb⟩
theorem undrew {W w1 : World} (h : Below W.drew.heap.size W.drew w1) : Below W.heap.size W w1 := ⟨h.os, h.tape, h.output, h.size, h.block⟩
theorem u_step {w W w1 : World} {x : Obj} (hW : Below (w.heap.size + 1) (w.alloc x) W) (cl : Below W.heap.size W w1) : Below (w.heap.size + 1) (w.alloc x) w1 := hW.trans (cl.mono (by have := hW.size; simpa using this))
theorem u_alloc {w W : World} {x : Obj} (hW : Below (w.heap.size + 1) (w.alloc x) W) (y : Obj) : Below (w.heap.size + 1) (w.alloc x) (W.alloc y) := hW.alloc (by have := hW.size; simpa using this) y
theorem heap_new (w : World) (o : Obj) : (w.alloc o).heap[w.heap.size]? = some o := by show (w.heap.push o)[w.heap.size]? = _; simp
set_option maxHeartbeats 400000 in
theorem alikeI (ok ok' : Nat → Prop) (w : World) (v1 v2 : Value) (a b : List Int) (h1 : Ints ok w v1 a) (h2 : Ints ok' w v2 b) :
    Calls Tryd.prog 43 #[v1, v2] w fun e w' => e = .returned (.bool (eqB a b)) ∧ ∃ n, w' = w.drewN n := by
  obtain ⟨A1, c1, rfl, hl1⟩ := h1.form
  obtain ⟨A2, c2, rfl, hl2⟩ := h2.form
  by_cases hlen : a.length = b.length
  · have HL : Hid (a.length = b.length) := hlen
    have e1 := lt_eq hlen
    clear hlen
    go_enter Tryd.func43, Tryd.ntmps43
    go_wp2
    go_loopg [5] a.length (fun g i5 wr => ∃ k : Nat, g = a.length - k ∧ k ≤ a.length ∧ i5 = .int .i64 k ∧ Hid (a.take k = b.take k) ∧ ∃ n, wr = w.drewN n)
    case atStart => exact ⟨0, rfl, by omega, rfl, rfl, quiet_refl w⟩
    case round =>
      obtain ⟨k, rfl, hk, rfl, ht, hq0⟩ := hrel
      have hb := quiet_below hq0
      have hq : Hid (∃ n, wr = w.drewN n) := hq0
      clear hq0
      by_cases hlt : k < a.length
      · obtain ⟨b1, o1, x, rfl, hx, q1⟩ := h1.cell hb hlt
        obtain ⟨b2, o2, y, rfl, hy, q2⟩ := h2.cell hb (k := k) (by have := HL.out; omega)
        have hlt2 : (k : Int) < b.length := by have := HL.out; omega
        have HX : Hid (a[k]? = some x) := hx
        have HY : Hid (b[k]? = some y) := hy
        clear hx hy
        by_cases hxy : x = y
        · have e2 := ne_no hxy
          have HE : Hid (x = y) := hxy
          clear hxy
          go_wp2
          go_quiet (fail)
          go_wp2
          go_roundg (a.length - (k + 1))
          case measure => omega
          case rel => exact ⟨k + 1, rfl, by omega, by go_num, take_eq ht.out HX.out HY.out HE.out, quiet_next hq _⟩
        · have e2 := ne_yes hxy
          go_wp2
          go_quiet (fail)
          go_wp2
          go_ret
          exact ⟨ret_b (eqB_no (take_ne HX.out HY.out hxy)).symm, quiet_next hq _⟩
      · go_wp2
        go_ret
        exact ⟨ret_b (eqB_yes (take_all HL.out hlt ht.out)).symm, hq.out⟩
  · have e1 := lt_ne hlen
    go_enter Tryd.func43, Tryd.ntmps43
    go_wp2
    go_ret
    exact ⟨ret_b (eqB_no (len_ne hlen)).symm, quiet_refl _⟩
end Go.Proofs.YtgdloonpemaijaaDoor
