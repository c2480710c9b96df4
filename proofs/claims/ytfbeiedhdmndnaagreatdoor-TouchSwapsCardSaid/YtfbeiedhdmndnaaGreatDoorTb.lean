/-
 The numbers of a list, each once, the least first: what touch.rising answers, in memory of its own; whether two lists have a number in common (P12.1). Condition: the lists are not too great.
-/
import Derived.Test.YtfbeiedhdmndnaaGreatDoorTa
import Derived.Test.YtfbeiedhdmndnaaGreatDoorTsh
import Derived.Test.YtfbeiedhdmndnaaGreatDoorRz
import Derived.Lib.OwnBridge
namespace Go.Proofs.YtfbeiedhdmndnaaGreatDoor
open Go.RowKit
attribute [local go_sem ↓] Go.wp_at_zero Go.wp_at_succ
abbrev eI : Int → Value := Value.int .i64
theorem bGrow {w0 w : World} {os : Array Obj} (h : Below w0.heap.size w0 w) : Below w0.heap.size w0 (Sort.grow w os) :=
 ⟨h.os, h.tape, h.output, by have := h.size; rw [Sort.size_grow]; omega, fun k hk => (Sort.heap_grow_old w os (by have := h.size; omega)).trans (h.block k hk)⟩
/-- What the library's sort leaves, and what its Compact leaves of that. -/
theorem ris_mid {w0 w1 : World} {g n cap nn : Nat} {os : Array Obj} {l : List Int} (ho : OwnIV w0.heap.size w1 (.slice (some ⟨g, 0, none⟩) n cap) l) (hb : Below w0.heap.size w0 w1) (hn : n = l.length) :
  Sort.Holds eI (Sort.grow (Sort.putRow eI (Sort.ahead w1 nn) g 0 (l.mergeSort fun x y => decide (x ≤ y)).toArray) os) g 0 (l.mergeSort fun x y => decide (x ≤ y)).toArray ∧
  ∀ q, OwnIV w0.heap.size (Sort.putRow eI (Sort.ahead (Sort.grow (Sort.putRow eI (Sort.ahead w1 nn) g 0 (l.mergeSort fun x y => decide (x ≤ y)).toArray) os) q) g 0 (risI l ++ List.replicate (l.length - (risI l).length) 0).toArray) (.slice (some ⟨g, 0, none⟩) (risI l).length cap) (risI l) ∧
   Below w0.heap.size w0 (Sort.putRow eI (Sort.ahead (Sort.grow (Sort.putRow eI (Sort.ahead w1 nn) g 0 (l.mergeSort fun x y => decide (x ≤ y)).toArray) os) q) g 0 (risI l ++ List.replicate (l.length - (risI l).length) 0).toArray) := by
 subst hn
 have hnn : (Value.slice (some ⟨g, 0, none⟩) l.length cap) ≠ .slice none 0 0 := fun e => by cases e
 have ho' : w1.ownsRow w0.heap.size 3 1 (.slice (some ⟨g, 0, none⟩) l.length cap) l.length (l.map eI) := ho
 obtain ⟨g', cap', e, hbg, hgl, _, _, _, hH⟩ := Lib.holds_of_ownsRow ho' hnn
 cases e
 have hl2 : (l.mergeSort fun x y => decide (x ≤ y)).length = l.length := List.length_mergeSort l
 have hle : (risI l).length ≤ l.length := by
  have := Lib.compact_length_le (l.mergeSort fun x y => decide (x ≤ y))
  unfold risI; omega
 have hp := Lib.ownsRow_putRow (q := nn) (k := l.length) ho' hl2 (Nat.le_refl _)
 rw [List.take_of_length_le (by omega)] at hp
 have hz : (Sort.putRow eI (Sort.ahead w1 nn) g 0 (l.mergeSort fun x y => decide (x ≤ y)).toArray).heap.size = w1.heap.size := by simp [Sort.putRow, Sort.mapBlock, Sort.ahead]
 have hg2 : (Sort.grow (Sort.putRow eI (Sort.ahead w1 nn) g 0 (l.mergeSort fun x y => decide (x ≤ y)).toArray) os).ownsRow w0.heap.size 3 1 (.slice (some ⟨g, 0, none⟩) l.length cap) l.length ((l.mergeSort fun x y => decide (x ≤ y)).map eI) :=
  own_block hp fun k hk _ => Sort.heap_grow_old _ os (by rw [hz]; have : g = k := Option.some.inj hk; omega)
 refine ⟨Sort.holds_grow eI _ os g 0 _ (by rw [hz]; exact hgl) (Sort.holds_putRow eI _ g 0 _ _ (Sort.holds_ahead eI w1 nn g 0 _ hH) (by simp)), fun q => ⟨?_, Lib.below_putRow (bGrow (Lib.below_putRow hb hbg)) hbg⟩⟩
 have hc := Lib.ownsRow_putRow (q := q) (k := (risI l).length) (ys := risI l ++ List.replicate (l.length - (risI l).length) 0) hg2 (by simp; omega) hle
 rw [List.take_left] at hc
 exact hc
theorem sort_at (w : World) (g cap : Nat) (l : List Int) (n : Nat) (hn : n = l.length) (hH : Sort.Holds eI w g 0 l.toArray) (hg : g < w.heap.size) (hl : l.length ≤ 100000) :
  Calls Tryz.prog 94 #[.slice (some ⟨g, 0, none⟩) n cap] w fun e w' => e = .returned (.tuple #[]) ∧ ∃ nn os, w' = Sort.grow (Sort.putRow eI (Sort.ahead w nn) g 0 (l.mergeSort fun x y => decide (x ≤ y)).toArray) os := by
 subst hn
 exact Any.slices_Sort_int Tryz.laysSort g 0 cap l w hH hg (by omega)
theorem sort_none (w : World) (a : Option Addr) (cap : Nat) : Calls Tryz.prog 94 #[.slice a 0 cap] w fun e w' => e = .returned (.tuple #[]) ∧ w' = w := Any.slices_Sort_int_none Tryz.laysSort a cap w
theorem comp_at (w : World) (g cap n : Nat) (zs : List Int) (hn : n = zs.length) (hH : Sort.Holds eI w g 0 zs.toArray) (hl : zs.length ≤ 100000) (hcap : zs.length ≤ cap) :
  Calls Tryz.prog 95 #[.slice (some ⟨g, 0, none⟩) n cap] w fun e w' => e = .returned (.slice (some ⟨g, 0, none⟩) (Lib.compact zs).length cap) ∧ ∃ q, w' = Sort.putRow eI (Sort.ahead w q) g 0 (Lib.compact zs ++ List.replicate (zs.length - (Lib.compact zs).length) 0).toArray := by
 subst hn
 exact Any.slices_Compact_int Tryz.laysCompact g 0 cap zs w hH (by omega) hcap
theorem comp_none (w : World) (a : Option Addr) (cap : Nat) : Calls Tryz.prog 95 #[.slice a 0 cap] w fun e w' => e = .returned (.slice a 0 cap) ∧ w' = w := Any.slices_Compact_int_empty Tryz.laysCompact a cap w
theorem ris_nil : risI [] = [] := by unfold risI; simp [Lib.compact, Lib.compactUpTo]
theorem nilIV (base : Nat) (w : World) : OwnIV base w (.slice none 0 0) [] := ⟨rfl, Or.inl ⟨rfl, rfl⟩⟩
set_option maxHeartbeats 2000000 in
theorem rising_any (ok : Nat → Prop) (w : World) (v : Value) (l : List Int) (h : Ints ok w v l) (hl : l.length ≤ 100000) :
  Calls Tryz.prog 64 #[v] w fun e w' => ∃ v', e = .returned v' ∧ OwnIV w.heap.size w' v' (risI l) ∧ Below w.heap.size w w' := by
 obtain ⟨A, c, rfl, _⟩ := h.form
 have HI := hid_mk h
 clear h
 by_cases h0 : l = []
 ·subst h0
  go_enter Tryz.func64, Tryz.ntmps64
  go_wp2_with (first
   | (at_builtin; refine appIV (base := w.heap.size) (a := []) rfl _ _ rfl (nilIV _ _) rfl rfl HI.out (by simp) (Nat.le_refl _) ?_; rintro A1 c1 W hia; simp only [List.nil_append, List.length_nil, Nat.zero_add] at hia ⊢; have HO := hid_mk hia.1; have HB : Hid (Below w.heap.size w W) := (bRefl w).grown hia.2.1 (Nat.le_refl _) (fun j hj => by cases hj); clear hia)
   | (go_at_call 94; refine (sort_none _ _ _).mono ?_; rintro e w2 ⟨rfl, hw2⟩; obtain rfl := hw2)
   | (go_at_call 95; refine (comp_none _ _ _).mono ?_; rintro e w3 ⟨rfl, hw3⟩; obtain rfl := hw3))
  go_ret
  refine ⟨_, rfl, ?_, HB.out⟩
  rw [ris_nil]
  exact HO.out
 ·have HN : Hid (l ≠ []) := h0
  clear h0
  go_enter Tryz.func64, Tryz.ntmps64
  go_wp2_with (first
   | (at_builtin; refine appIV (base := w.heap.size) (a := []) rfl _ _ rfl (nilIV _ _) rfl rfl HI.out (by simp; omega) (Nat.le_refl _) ?_; rintro A1 c1 W hia; simp only [List.nil_append, List.length_nil, Nat.zero_add] at hia ⊢; have HO := hid_mk hia.1; have HB : Hid (Below w.heap.size w W) := (bRefl w).grown hia.2.1 (Nat.le_refl _) (fun j hj => by cases hj); clear hia; obtain ⟨x0, hx0⟩ := at_lt (l := l) (k := 0) (List.length_pos_iff.2 HN.out); obtain ⟨g, hA, hbg, hgl, -, -, hcap⟩ := HO.out.cell hx0; subst hA; clear hx0 x0; have hH : Sort.Holds eI W g 0 l.toArray := (by obtain ⟨g', cap', e, _, _, _, _, _, hH⟩ := Lib.holds_of_ownsRow (enc := eI) HO.out (fun e => by cases e); cases e; exact hH); have hcs := hid_mk (sort_at W g c1 l l.length rfl hH hgl hl); clear hH)
   | (go_at_call 94; refine hcs.out.mono ?_; rintro e w2 ⟨rfl, nn, os, hw2⟩; have HM := hid_mk (ris_mid (nn := nn) (os := os) HO.out HB.out rfl); rw [← hw2] at HM; have hcc := hid_mk (comp_at w2 g c1 l.length (l.mergeSort fun x y => decide (x ≤ y)) (List.length_mergeSort l).symm HM.out.1 (by rw [List.length_mergeSort]; exact hl) (by rw [List.length_mergeSort]; exact hcap)); clear hw2)
   | (go_at_call 95; refine hcc.out.mono ?_; rintro e w3 ⟨rfl, q, hw3⟩; rw [List.length_mergeSort] at hw3; have HQ := hid_mk (HM.out.2 q); rw [show risI l = Lib.compact (l.mergeSort fun x y => decide (x ≤ y)) from rfl, ← hw3] at HQ; clear hw3))
  go_ret
  exact ⟨_, rfl, HQ.out.1, HQ.out.2⟩
end Go.Proofs.YtfbeiedhdmndnaaGreatDoor
