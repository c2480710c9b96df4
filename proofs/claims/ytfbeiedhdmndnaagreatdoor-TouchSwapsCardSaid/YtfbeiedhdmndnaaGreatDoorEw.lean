/-
 Which worlds the laws look at (gavottealike.World, Mail). No conditions.
-/
import Derived.Test.YtfbeiedhdmndnaaGreatDoorPk14
namespace Go.Proofs.YtfbeiedhdmndnaaGreatDoor
open Go.RowKit
def SmallM (l : List PMsg) : Prop := l.length ≤ 50 ∧ ∀ m ∈ l, m.nt.args.length ≤ 6
instance (l : List PMsg) : Decidable (SmallM l) := by unfold SmallM; infer_instance
def SmallW (x : PWld) : Prop := x.acts.length ≤ 10 ∧ SmallM x.mail ∧ ∀ a ∈ x.acts, a.regs.length ≤ 10
instance (x : PWld) : Decidable (SmallW x) := by unfold SmallW; infer_instance
set_option maxHeartbeats 1000000 in
theorem aMail_any (w : World) (v : Value) (l : List PMsg) (h : Msgs anyB anyB w v l) : Calls Tryz.prog 35 #[v] w fun e w' => e = .returned (.bool (decide (SmallM l))) ∧ w' = w := by
 obtain ⟨A, c, rfl, _⟩ := h.form
 go_enter Tryz.func35, Tryz.ntmps35
 go_wp2
 go_loopg [3] l.length (fun g i3 wr => ∃ k : Nat, g = l.length - k ∧ k ≤ l.length ∧ k ≤ 60 ∧ i3 = .int .i64 (k : Int) ∧ wr = w ∧ Hid (∀ j m, j < k → l[j]? = some m → m.nt.args.length ≤ 6))
 case atStart => exact ⟨0, rfl, by omega, by omega, rfl, rfl, fun j m hj => by omega⟩
 case round =>
  obtain ⟨k, rfl, hk, hk6, rfl, rfl, ht⟩ := hrel
  by_cases hlt : k < l.length
  ·have hltI : (k : Int) < l.length := by omega
   have hltd : decide ((k : Int) < (l.length : Int)) = true := decide_eq_true hltI
   by_cases h60 : k < 60
   ·have h60d : decide ((k : Int) < 60) = true := decide_eq_true (by omega)
    obtain ⟨b, o, m, v1, rfl, hx, hz, q1, q2, q3, q4, q5, q6, hv⟩ := h.cell (bRefl wr) hlt
    obtain ⟨A1, c1, rfl, _⟩ := hv.form
    have HX := hid_mk hx
    clear hx hv
    by_cases h6 : 6 < m.nt.args.length
    ·have h6d : decide ((6 : Int) < (m.nt.args.length : Int)) = true := decide_eq_true (by omega)
     have HR : Hid (¬ SmallM l) := fun hs => by have := hs.2 m (List.mem_of_getElem? HX.out); omega
     clear h6
     go_wp2
     go_ret
     exact ⟨ret_b (decide_eq_false HR.out).symm, rfl⟩
    ·have h6d : decide ((6 : Int) < (m.nt.args.length : Int)) = false := decide_eq_false (by omega)
     have H6 : Hid (m.nt.args.length ≤ 6) := by show _ ≤ _; omega
     clear h6
     go_wp2
     go_roundg (l.length - (k + 1))
     case measure => omega
     case rel => exact ⟨k + 1, rfl, by omega, by omega, by first | rfl | go_num, rfl, fun j y hj hy => by
       by_cases ej : j = k
       ·subst ej; have := HX.out; rw [hy] at this; cases this; exact H6.out
       ·exact ht.out j y (by omega) hy⟩
   ·have h60d : decide ((k : Int) < 60) = false := decide_eq_false (by omega)
    have HR : Hid (¬ SmallM l) := fun hs => by have := hs.1; omega
    have h50d : decide ((l.length : Int) ≤ 50) = false := decide_eq_false (by omega)
    clear h60
    go_wp2
    go_ret
    exact ⟨ret_b (decide_eq_false HR.out).symm, rfl⟩
  ·obtain rfl : k = l.length := by omega
   have hltd : decide ((l.length : Int) < (l.length : Int)) = false := decide_eq_false (by omega)
   have HR : Hid (decide ((l.length : Int) ≤ 50) = decide (SmallM l)) := by
    show _ = _
    by_cases h5 : l.length ≤ 50
    ·rw [decide_eq_true (show (l.length : Int) ≤ 50 by omega), decide_eq_true]
     refine ⟨h5, fun m hm => ?_⟩
     obtain ⟨j, hj⟩ := List.getElem?_of_mem hm
     exact ht.out j m (List.getElem?_eq_some_iff.1 hj).1 hj
    ·rw [decide_eq_false (show ¬ (l.length : Int) ≤ 50 by omega), decide_eq_false]
     exact fun hs => h5 hs.1
   clear hlt
   go_wp2
   go_ret
   exact ⟨ret_b HR.out, rfl⟩
set_option maxHeartbeats 1000000 in
theorem aWorld_any (w : World) (v : Value) (x : PWld) (h : WldV w v x) : Calls Tryz.prog 10 #[v] w fun e w' => e = .returned (.bool (decide (SmallW x))) ∧ Below w.heap.size w w' := by
 obtain ⟨va, vm, rfl, g1, g2⟩ := h
 obtain ⟨B1, d1, rfl, _⟩ := g1.form
 obtain ⟨B2, d2, rfl, _⟩ := g2.form
 have HG2 := hid_mk g2
 have HG1 := hid_mk g1
 have k1 := heap_new w (.cells #[.slice B1 x.acts.length d1, .slice B2 x.mail.length d2, .int .i64 x.used.drop, .int .i64 x.used.dup, .int .i64 x.used.time, .int .i64 x.used.crash] 32)
 have HB : Hid (Below w.heap.size w (w.alloc (.cells #[.slice B1 x.acts.length d1, .slice B2 x.mail.length d2, .int .i64 x.used.drop, .int .i64 x.used.dup, .int .i64 x.used.time, .int .i64 x.used.crash] 32))) := bAlloc (bRefl _) _
 clear g1 g2
 by_cases ha : 10 < x.acts.length
 ·have had : decide ((10 : Int) < (x.acts.length : Int)) = true := decide_eq_true (by omega)
  have HR : Hid (¬ SmallW x) := fun hs => by have := hs.1; omega
  clear ha k1
  go_enter Tryz.func10, Tryz.ntmps10
  go_wp2
  go_ret
  exact ⟨ret_b (decide_eq_false HR.out).symm, HB.out⟩
 ·have had : decide ((10 : Int) < (x.acts.length : Int)) = false := decide_eq_false (by omega)
  have HA : Hid (x.acts.length ≤ 10) := by show _ ≤ _; omega
  clear ha
  by_cases hm : SmallM x.mail
  ·have hmd : decide (SmallM x.mail) = true := decide_eq_true hm
   have HM := hid_mk hm
   clear hm
   obtain ⟨x0, x1, x2, x3, x4, x5⟩ := blk6 k1
   go_enter Tryz.func10, Tryz.ntmps10
   go_wp2_with (first | (go_at_call 35; refine (aMail_any _ _ x.mail (HG2.out.below (by exact bAlloc (bRefl _) _))).mono ?_; rintro e w2 ⟨rfl, rfl⟩))
   generalize (w.alloc (.cells #[.slice B1 x.acts.length d1, .slice B2 x.mail.length d2, .int .i64 x.used.drop, .int .i64 x.used.dup, .int .i64 x.used.time, .int .i64 x.used.crash] 32)) = w1 at k1 HB x0 x1 x2 x3 x4 x5 ⊢
   go_loopg [3] x.acts.length (fun g i3 wr => ∃ k : Nat, g = x.acts.length - k ∧ k ≤ x.acts.length ∧ i3 = .int .i64 (k : Int) ∧ wr = w1 ∧ Hid (∀ j a, j < k → x.acts[j]? = some a → a.regs.length ≤ 10))
   case atStart => exact ⟨0, rfl, by omega, rfl, rfl, fun j a hj => by omega⟩
   case round =>
    obtain ⟨k, rfl, hk, rfl, rfl, ht⟩ := hrel
    by_cases hlt : k < x.acts.length
    ·have hltI : (k : Int) < x.acts.length := by omega
     obtain ⟨b, o, a, v1, rfl, hx, hz, q1, q2, q3, q4, q5, hv⟩ := HG1.out.cell HB.out hlt
     obtain ⟨A1, c1, rfl, _⟩ := hv.form
     have HX := hid_mk hx
     clear hx hv
     by_cases h6 : 10 < a.regs.length
     ·have h6d : decide ((10 : Int) < (a.regs.length : Int)) = true := decide_eq_true (by omega)
      have HR : Hid (¬ SmallW x) := fun hs => by have := hs.2.2 a (List.mem_of_getElem? HX.out); omega
      clear h6
      go_wp2
      go_ret
      exact ⟨ret_b (decide_eq_false HR.out).symm, HB.out⟩
     ·have h6d : decide ((10 : Int) < (a.regs.length : Int)) = false := decide_eq_false (by omega)
      have H6 : Hid (a.regs.length ≤ 10) := by show _ ≤ _; omega
      clear h6
      go_wp2
      go_roundg (x.acts.length - (k + 1))
      case measure => omega
      case rel => exact ⟨k + 1, rfl, by omega, by first | rfl | go_num, rfl, fun j y hj hy => by
        by_cases ej : j = k
        ·subst ej; have := HX.out; rw [hy] at this; cases this; exact H6.out
        ·exact ht.out j y (by omega) hy⟩
    ·obtain rfl : k = x.acts.length := by omega
     have HR : Hid (SmallW x) := ⟨HA.out, HM.out, fun a ha => by
      obtain ⟨j, hj⟩ := List.getElem?_of_mem ha
      exact ht.out j a (List.getElem?_eq_some_iff.1 hj).1 hj⟩
     clear hlt
     go_wp2
     go_ret
     exact ⟨ret_b (decide_eq_true HR.out).symm, HB.out⟩
  ·have hmd : decide (SmallM x.mail) = false := decide_eq_false hm
   have HR : Hid (¬ SmallW x) := fun hs => hm hs.2.1
   clear hm
   obtain ⟨x0, x1, x2, x3, x4, x5⟩ := blk6 k1
   go_enter Tryz.func10, Tryz.ntmps10
   go_wp2_with (first | (go_at_call 35; refine (aMail_any _ _ x.mail (HG2.out.below (by exact bAlloc (bRefl _) _))).mono ?_; rintro e w2 ⟨rfl, rfl⟩))
   go_ret
   exact ⟨ret_b (decide_eq_false HR.out).symm, HB.out⟩
end Go.Proofs.YtfbeiedhdmndnaaGreatDoor
