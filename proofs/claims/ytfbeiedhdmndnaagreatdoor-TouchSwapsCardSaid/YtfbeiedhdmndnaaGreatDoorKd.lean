/-
 A walk of events in memory (StepWalks): the world in a box, the events done in a row of the call's own. No conditions.
-/
import Derived.Test.YtfbeiedhdmndnaaGreatDoorKc
namespace Go.Proofs.YtfbeiedhdmndnaaGreatDoor
open Go.RowKit

theorem all_next {α : Type} {l : List α} {k : Nat} {x : α} {P : α → Prop} (h : ∀ y ∈ l.take k, P y) (hx : l[k]? = some x) (hp : P x) : ∀ y ∈ l.take (k + 1), P y := by
 rw [List.take_add_one, hx]
 intro y hy
 simp only [Option.toList_some, List.mem_append, List.mem_singleton] at hy
 rcases hy with hy | rfl
 ·exact h y hy
 ·exact hp

set_option maxHeartbeats 4000000 in
theorem small_any (w : World) (v : Value) (p : PPrg) (h : PrgV w v p) :
  Calls Tryz.prog 9 #[v] w fun e w' => e = .returned (.bool (small p)) ∧ Below w.heap.size w w' := by
 obtain ⟨va, vb, vc, rfl, h1, h2, h3⟩ := h
 obtain ⟨A1, c1, rfl, hl1⟩ := h1.form
 obtain ⟨A2, c2, rfl, hl2⟩ := h2.form
 obtain ⟨A3, c3, rfl, hl3⟩ := h3.form
 have HB : ∀ (x : Obj), Below w.heap.size w (w.alloc x) := fun x => bAlloc (bRefl w) x
 by_cases s1 : p.hs.length ≤ 18
 ·by_cases s2 : p.acs.length ≤ 10
  ·by_cases s3 : p.bs.length ≤ 18
   ·go_enter Tryz.func9, Tryz.ntmps9
    go_wp2
    go_loopg [3] p.hs.length (fun g i3 wr => ∃ k : Nat, g = p.hs.length - k ∧ k ≤ p.hs.length ∧ i3 = .int .i64 k ∧ Hid (∀ y ∈ p.hs.take k, y.code.length ≤ 70) ∧ Below (w.heap.size + 1) (w.alloc (.cells #[.slice A1 p.hs.length c1, .slice A2 p.acs.length c2, .slice A3 p.bs.length c3, .int .i64 p.fuel] 26)) wr)
    case atStart => exact ⟨0, rfl, by omega, rfl, fun y hy => by simp at hy, Below.refl _ _⟩
    case round =>
     skip
     obtain ⟨k, rfl, hk, rfl, hal, hb⟩ := hrel
     obtain ⟨hb', hcb, hz⟩ := boxed hb
     by_cases hlt : k < p.hs.length
     ·obtain ⟨b1, o1, x, v1, rfl, hx, hz1, q1, q2, hv1⟩ := h1.cell hb' hlt
      obtain ⟨V1, n1, rfl, hvl⟩ := hv1.form
      have HX : Hid (p.hs[k]? = some x) := hx
      clear hx hv1
      by_cases q : x.code.length ≤ 70
      ·go_wp2
       go_roundg (p.hs.length - (k + 1))
       case measure => omega
       case rel => exact ⟨k + 1, rfl, by omega, by go_num, all_next hal.out HX.out q, hb⟩
      ·have HR : Hid (small p = false) := decide_eq_false (fun h => q (h.2.2.2.1 x (List.mem_of_getElem? HX.out)))
       go_wp2
       go_ret
       exact ⟨ret_b HR.out.symm, hb'⟩
     ·have HA0 : Hid (∀ y ∈ p.hs, y.code.length ≤ 70) := by
       have := hal.out
       rwa [List.take_of_length_le (by omega)] at this
      clear hal
      go_wp2
      go_loopg [4] p.acs.length (fun g i4 wr => ∃ k : Nat, g = p.acs.length - k ∧ k ≤ p.acs.length ∧ i4 = .int .i64 k ∧ Hid (∀ y ∈ p.acs.take k, y.regs.length ≤ 10) ∧ Below (w.heap.size + 1) (w.alloc (.cells #[.slice A1 p.hs.length c1, .slice A2 p.acs.length c2, .slice A3 p.bs.length c3, .int .i64 p.fuel] 26)) wr)
      case atStart => exact ⟨0, rfl, by omega, rfl, fun y hy => by simp at hy, hb⟩
      case round =>
       clear hb hb' hcb hz
       obtain ⟨k, rfl, hk, rfl, hal, hb⟩ := hrel
       obtain ⟨hb', hcb, hz⟩ := boxed hb
       by_cases hlt : k < p.acs.length
       ·obtain ⟨b1, o1, x, v1, rfl, hx, hz1, q1, q2, q3, q4, hv1⟩ := h2.cell hb' hlt
        obtain ⟨V1, n1, rfl, hvl⟩ := hv1.form
        have HX : Hid (p.acs[k]? = some x) := hx
        clear hx hv1
        by_cases q : x.regs.length ≤ 10
        ·go_wp2
         go_roundg (p.acs.length - (k + 1))
         case measure => omega
         case rel => exact ⟨k + 1, rfl, by omega, by go_num, all_next hal.out HX.out q, hb⟩
        ·have HR : Hid (small p = false) := decide_eq_false (fun h => q (h.2.2.2.2.1 x (List.mem_of_getElem? HX.out)))
         go_wp2
         go_ret
         exact ⟨ret_b HR.out.symm, hb'⟩
       ·have HA1 : Hid (∀ y ∈ p.acs, y.regs.length ≤ 10) := by
         have := hal.out
         rwa [List.take_of_length_le (by omega)] at this
        clear hal
        go_wp2
        go_loopg [5] p.bs.length (fun g i5 wr => ∃ k : Nat, g = p.bs.length - k ∧ k ≤ p.bs.length ∧ i5 = .int .i64 k ∧ Hid (∀ y ∈ p.bs.take k, y.args.length ≤ 6) ∧ Below (w.heap.size + 1) (w.alloc (.cells #[.slice A1 p.hs.length c1, .slice A2 p.acs.length c2, .slice A3 p.bs.length c3, .int .i64 p.fuel] 26)) wr)
        case atStart => exact ⟨0, rfl, by omega, rfl, fun y hy => by simp at hy, hb⟩
        case round =>
         clear hb hb' hcb hz
         obtain ⟨k, rfl, hk, rfl, hal, hb⟩ := hrel
         obtain ⟨hb', hcb, hz⟩ := boxed hb
         by_cases hlt : k < p.bs.length
         ·obtain ⟨b1, o1, x, v1, rfl, hx, hz1, q1, q2, q3, hv1⟩ := h3.cell hb' hlt
          obtain ⟨V1, n1, rfl, hvl⟩ := hv1.form
          have HX : Hid (p.bs[k]? = some x) := hx
          clear hx hv1
          by_cases q : x.args.length ≤ 6
          ·go_wp2
           go_roundg (p.bs.length - (k + 1))
           case measure => omega
           case rel => exact ⟨k + 1, rfl, by omega, by go_num, all_next hal.out HX.out q, hb⟩
          ·have HR : Hid (small p = false) := decide_eq_false (fun h => q (h.2.2.2.2.2 x (List.mem_of_getElem? HX.out)))
           go_wp2
           go_ret
           exact ⟨ret_b HR.out.symm, hb'⟩
         ·have HA2 : Hid (∀ y ∈ p.bs, y.args.length ≤ 6) := by
           have := hal.out
           rwa [List.take_of_length_le (by omega)] at this
          clear hal
          go_wp2
          go_ret
          exact ⟨ret_b (decide_eq_true ⟨s1, s2, s3, HA0.out, HA1.out, HA2.out⟩).symm, hb'⟩
   ·have HR : Hid (small p = false) := decide_eq_false (fun h => s3 h.2.2.1)
    go_enter Tryz.func9, Tryz.ntmps9
    go_wp2
    go_ret
    exact ⟨ret_b HR.out.symm, HB _⟩
  ·have HR : Hid (small p = false) := decide_eq_false (fun h => s2 h.2.1)
   go_enter Tryz.func9, Tryz.ntmps9
   go_wp2
   go_ret
   exact ⟨ret_b HR.out.symm, HB _⟩
 ·have HR : Hid (small p = false) := decide_eq_false (fun h => s1 h.1)
  go_enter Tryz.func9, Tryz.ntmps9
  go_wp2
  go_ret
  exact ⟨ret_b HR.out.symm, HB _⟩
/-- Between two rounds: the world in a box; the events done. -/
structure WS (wP : World) (p : PPrg) (bu : PBud) (l : List PEv) (v : Value) (wr : World) : Prop where
 wy : WY p bu l
 bw : ∃ a m, wr.heap[wP.heap.size]? = some (.cells #[a, m, .int .i64 (goP p (startP p) l l.length).used.drop, .int .i64 (goP p (startP p) l l.length).used.dup, .int .i64 (goP p (startP p) l l.length).used.time, .int .i64 (goP p (startP p) l l.length).used.crash] 32) ∧ WldA (fun b => b ≠ wP.heap.size) wr (wVal (goP p (startP p) l l.length).used a m) (goP p (startP p) l l.length)
 en : EN wP wr v l
theorem EN.box {wP wr : World} {v : Value} {l : List PEv} {cs : Array Value} {bo : Nat} (h : EN wP wr v l) (hb : wr.heap[bo]? = some (.cells cs 32)) : v.ownBlock ≠ some bo := by
 obtain ⟨⟨_, h2⟩, _⟩ := h
 rcases h2 with ⟨rfl, _⟩ | ⟨g, cap, cur, rfl, _, hh, _⟩
 ·exact fun e => by cases e
 ·intro e
  have e' : g = bo := Option.some.inj e
  subst e'
  rw [hh] at hb
  cases hb
theorem WldA.grown {ok : Nat → Prop} {w w' : World} {row : Option Nat} {v : Value} {x : PWld} (h : WldA ok w v x) (hg : w.grownBy w' row) (hr : ∀ b, ok b → row ≠ some b) : WldA ok w' v x :=
 h.same ⟨hg.size, fun b hb hlt => hg.block b hlt fun e => hr b hb e.symm⟩
/-- A round ends: the next world is stored, the event has been appended. -/
theorem WS.next {wP wb : World} {p : PPrg} {bu : PBud} {l : List PEv} {e : PEv} {v' a m : Value} {x' : PWld} {cs : Array Value} (wy : WY p bu (l ++ [e])) (hx : goP p (startP p) (l ++ [e]) (l ++ [e]).length = x')
  (hbx : wb.heap[wP.heap.size]? = some (.cells cs 32)) (hcs : cs.size = 6) (en : EN wP wb v' (l ++ [e])) (hw : WldA (fun b => b ≠ wP.heap.size) wb (wVal x'.used a m) x') :
  WS wP p bu (l ++ [e]) v' (put6 wb wP.heap.size a m (.int .i64 x'.used.drop) (.int .i64 x'.used.dup) (.int .i64 x'.used.time) (.int .i64 x'.used.crash)) := by
 have hS : Same (fun d => d ≠ wP.heap.size) wb (put6 wb wP.heap.size a m (.int .i64 x'.used.drop) (.int .i64 x'.used.dup) (.int .i64 x'.used.time) (.int .i64 x'.used.crash)) := put6_same
 obtain ⟨c0, c1, c2, c3, c4, c5, rfl⟩ : ∃ c0 c1 c2 c3 c4 c5, cs = #[c0, c1, c2, c3, c4, c5] := by
  obtain ⟨ls⟩ := cs
  match ls, hcs with
  | [c0, c1, c2, c3, c4, c5], _ => exact ⟨c0, c1, c2, c3, c4, c5, rfl⟩
 refine ⟨wy, ⟨a, m, ?_, ?_⟩, ?_⟩
 ·rw [hx]; exact put6_heap hbx
 ·rw [hx]; exact hw.same hS
 ·exact ⟨own_block en.own fun g hg hlt => hS.block g (fun e => en.box hbx (by rw [hg, e])) hlt, put6_below en.low (Nat.le_refl _)⟩
theorem WS.below {wP wr wa : World} {p : PPrg} {bu : PBud} {l : List PEv} {v : Value} (h : WS wP p bu l v wr) (hb : Below wr.heap.size wr wa) : WS wP p bu l v wa :=
 let ⟨a, m, h1, h2⟩ := h.bw
 ⟨h.wy, ⟨a, m, boxAt h1 hb, h2.below hb⟩, h.en.below hb⟩
end Go.Proofs.YtfbeiedhdmndnaaGreatDoor
