/-
 Whether two lists have a number in common: what touch.Meets answers (P12.1). Condition: the lists are not too great.
-/
import Derived.Test.YtfbeiedhdmndnaaGreatDoorTb
namespace Go.Proofs.YtfbeiedhdmndnaaGreatDoor
open Go.RowKit
/-- Two rising lists, gone through side by side. -/
def mt : List Int → List Int → Bool
 | [], _ => false
 | _ :: _, [] => false
 | x :: a, y :: b => if x = y then true else if x < y then mt a (y :: b) else mt (x :: a) b
termination_by a b => a.length + b.length
theorem mt_iff : ∀ (n : Nat) (a b : List Int), a.length + b.length = n → a.Pairwise (fun x y => x < y) → b.Pairwise (fun x y => x < y) → (mt a b = true ↔ ∃ v, v ∈ a ∧ v ∈ b) := by
 intro n
 induction n using Nat.strongRecOn with
 | _ n ih =>
  intro a b hn ha hb
  match a, b with
  | [], b => unfold mt; simp
  | x :: a, [] => unfold mt; simp
  | x :: a, y :: b =>
   rw [List.pairwise_cons] at ha hb
   unfold mt
   by_cases e : x = y
   ·rw [if_pos e]
    simp only [true_iff]
    exact ⟨x, List.mem_cons_self .., by rw [e]; exact List.mem_cons_self ..⟩
   ·rw [if_neg e]
    by_cases hl : x < y
    ·rw [if_pos hl, ih _ (by simp at hn ⊢; omega) a (y :: b) rfl ha.2 (List.pairwise_cons.2 hb)]
     constructor
     ·rintro ⟨v, h1, h2⟩; exact ⟨v, List.mem_cons_of_mem _ h1, h2⟩
     ·rintro ⟨v, h1, h2⟩
      rcases List.mem_cons.1 h1 with rfl | h1
      ·rcases List.mem_cons.1 h2 with h2 | h2
       ·exact absurd h2 e
       ·have := hb.1 v h2; omega
      ·exact ⟨v, h1, h2⟩
    ·rw [if_neg hl, ih _ (by simp at hn ⊢; omega) (x :: a) b rfl (List.pairwise_cons.2 ha) hb.2]
     constructor
     ·rintro ⟨v, h1, h2⟩; exact ⟨v, h1, List.mem_cons_of_mem _ h2⟩
     ·rintro ⟨v, h1, h2⟩
      rcases List.mem_cons.1 h2 with rfl | h2
      ·rcases List.mem_cons.1 h1 with h1 | h1
       ·exact absurd h1.symm e
       ·have := ha.1 v h1; omega
      ·exact ⟨v, h1, h2⟩
theorem mt_meet (a b : List Int) : mt (risI a) (risI b) = meetB a b := by
 rw [Bool.eq_iff_iff, mt_iff _ _ _ rfl (ris_lt a) (ris_lt b), meet_iff]
 simp only [ris_mem]
def subI (A : Option Addr) (c : Nat) : Option Addr := if c = 1 then A else Option.map (fun x => x.add 1) A
theorem subI_rule (A : Option Addr) (c : Nat) : (if c = 1 then A else Option.map (fun x => x.add 1) A) = subI A c := rfl
theorem subI_rule2 (b o c : Nat) : (if c = 1 then some (⟨b, o, none⟩ : Addr) else some ⟨b, o + 1, none⟩) = subI (some ⟨b, o, none⟩) c := by unfold subI; simp [Addr.add]
theorem Ints.dropS {ok : Nat → Prop} {w : World} {A : Option Addr} {n c : Nat} {x : Int} {l : List Int} (h : Ints ok w (.slice A n c) (x :: l)) : Ints ok w (.slice (subI A c) l.length (c - 1)) l := by
 obtain ⟨A', c', e, hl, hc, hr⟩ := h
 cases e
 rw [List.length_cons] at hl hc
 refine ⟨_, _, rfl, by omega, by omega, ?_⟩
 by_cases h0 : l = []
 ·exact Or.inl h0
 ·right
  rcases hr with hr | ⟨b, o, rfl, hb, hz, hk⟩
  ·cases hr
  ·refine ⟨b, o + 1, ?_, hb, hz, fun k y hy => ?_⟩
   ·have : l.length ≠ 0 := fun e => h0 (List.length_eq_zero_iff.1 e)
    unfold subI; rw [if_neg (by omega)]; simp [Addr.add]
   ·have := hk (k + 1) y (by simpa using hy)
    rwa [show o + (k + 1) * 1 = o + 1 + k * 1 by omega] at this
theorem Ints.head {ok : Nat → Prop} {w : World} {A : Option Addr} {n c : Nat} {x : Int} {l : List Int} (h : Ints ok w (.slice A n c) (x :: l)) : ∃ b o, A = some ⟨b, o, none⟩ ∧ b < w.heap.size ∧ w.cell? ⟨b, o, none⟩ = some (.int .i64 x) ∧ l.length + 1 ≤ c := by
 obtain ⟨A', c', e, hl, hc, hr⟩ := h
 cases e
 rw [List.length_cons] at hl hc
 rcases hr with hr | ⟨b, o, rfl, hb, hz, hk⟩
 ·cases hr
 ·exact ⟨b, o, rfl, hz, by have := hk 0 x rfl; simpa [rInt] using this, hc⟩
attribute [local go_sem ↓] Go.wp_at_zero Go.wp_at_succ subI_rule
attribute [local go_sem] subI_rule2
set_option maxHeartbeats 2000000 in
theorem meets_any (ok ok' : Nat → Prop) (w : World) (v1 v2 : Value) (a b : List Int) (h1 : Ints ok w v1 a) (h2 : Ints ok' w v2 b) (ha : a.length ≤ 100000) (hb : b.length ≤ 100000) :
  Calls Tryz.prog 55 #[v1, v2] w fun e w' => e = .returned (.bool (meetB a b)) ∧ Below w.heap.size w w' := by
 have H1 := hid_mk h1
 have H2 := hid_mk h2
 obtain ⟨A1, c1, rfl, _⟩ := h1.form
 obtain ⟨A2, c2, rfl, _⟩ := h2.form
 clear h1 h2
 have HR : Hid (mt (risI a) (risI b) = meetB a b) := mt_meet a b
 have hla : (risI a).length ≤ 100000 := by
  have := Lib.compact_length_le (a.mergeSort fun x y => decide (x ≤ y))
  rw [List.length_mergeSort] at this
  unfold risI; omega
 have hlb : (risI b).length ≤ 100000 := by
  have := Lib.compact_length_le (b.mergeSort fun x y => decide (x ≤ y))
  rw [List.length_mergeSort] at this
  unfold risI; omega
 go_enter Tryz.func55, Tryz.ntmps55
 go_wp2_with fail
 refine (rising_any ok _ _ a H1.out ha).mono ?_
 rintro e w1 ⟨v1, rfl, ho1, hb1⟩
 have HI1 : Hid (Ints anyB w1 v1 (risI a)) := (ho1.ints (by omega)).any
 have HB1 := hid_mk hb1
 clear ho1 hb1
 go_wp2_with fail
 refine (rising_any ok' _ _ b (H2.out.below HB1.out) hb).mono ?_
 rintro e w2 ⟨v2, rfl, ho2, hb2⟩
 have HI2 : Hid (Ints anyB w2 v2 (risI b)) := (ho2.ints (by omega)).any
 have HI1' : Hid (Ints anyB w2 v1 (risI a)) := HI1.out.below hb2
 have HB2 := hid_mk (bTrans HB1.out hb2)
 clear ho2 hb2
 generalize risI a = xs0 at *
 generalize risI b = ys0 at *
 obtain ⟨A3, c3, rfl, _⟩ := HI1'.out.form
 obtain ⟨A4, c4, rfl, _⟩ := HI2.out.form
 go_wp2
 go_loopg [5, 6] (xs0.length + ys0.length) (fun g i5 i6 wr => ∃ (xs ys : List Int) (A B : Option Addr) (ca cb : Nat), g = xs.length + ys.length ∧ i5 = .slice A xs.length ca ∧ i6 = .slice B ys.length cb ∧ xs.length ≤ 100000 ∧ ys.length ≤ 100000 ∧ Hid (Ints anyB wr (.slice A xs.length ca) xs) ∧ Hid (Ints anyB wr (.slice B ys.length cb) ys) ∧ Hid (mt xs ys = meetB a b) ∧ Hid (Below w.heap.size w wr))
 case atStart => exact ⟨xs0, ys0, A3, A4, c3, c4, rfl, rfl, rfl, hla, hlb, HI1', HI2, HR, HB2⟩
 case round =>
  obtain ⟨xs, ys, A, B, ca, cb, rfl, rfl, rfl, lx, ly, HX, HY, HM, HB⟩ := hrel
  match xs, ys with
  | [], ys =>
   go_wp2
   go_ret
   exact ⟨by rw [← HM.out]; unfold mt; rfl, HB.out⟩
  | x :: xs, [] =>
   go_wp2
   go_ret
   exact ⟨by rw [← HM.out]; unfold mt; rfl, HB.out⟩
  | x :: xs, y :: ys =>
   obtain ⟨b1, o1, rfl, z1, k1, q1⟩ := HX.out.head
   obtain ⟨b2, o2, rfl, z2, k2, q2⟩ := HY.out.head
   have HX2 := hid_mk HX.out.dropS
   have HY2 := hid_mk HY.out.dropS
   by_cases e : x = y
   ·have HR2 : Hid (meetB a b = true) := by show _ = _; rw [← HM.out]; unfold mt; rw [if_pos e]
    have e1 : (x == y) = true := beq_iff_eq.2 e
    clear e
    go_wp2_with fail
    go_region
    go_wp2
    go_ret
    exact ⟨ret_b HR2.out.symm, HB.out.drew⟩
   ·have e1 : (x == y) = false := beq_eq_false_iff_ne.2 e
    have HY3 := hid_mk (HY.out.below ((bRefl wr).drew.drew))
    have HX3 := hid_mk (HX.out.below ((bRefl wr).drew.drew))
    have HX4 := hid_mk (HX2.out.below ((bRefl wr).drew.drew))
    have HY4 := hid_mk (HY2.out.below ((bRefl wr).drew.drew))
    have HB2 := hid_mk HB.out.drew.drew
    by_cases hl : x < y
    ·have HM2 : Hid (mt xs (y :: ys) = meetB a b) := by show _ = _; rw [← HM.out]; conv => rhs; unfold mt; rw [if_neg e, if_pos hl]
     clear e
     go_wp2_with fail
     go_region
     go_wp2_with fail
     go_region
     go_wp2
     go_roundg (xs.length + (y :: ys).length)
     case measure => simp
     case rel => exact ⟨xs, y :: ys, _, _, _, _, rfl, rfl, rfl, by simp at lx; omega, ly, HX4, HY3, HM2, HB2⟩
    ·have HM2 : Hid (mt (x :: xs) ys = meetB a b) := by show _ = _; rw [← HM.out]; conv => rhs; unfold mt; rw [if_neg e, if_neg hl]
     clear e
     go_wp2_with fail
     go_region
     go_wp2_with fail
     go_region
     go_wp2
     go_roundg ((x :: xs).length + ys.length)
     case measure => simp
     case rel => exact ⟨x :: xs, ys, _, _, _, _, rfl, rfl, rfl, lx, by simp at ly; omega, HX3, HY4, HM2, HB2⟩
end Go.Proofs.YtfbeiedhdmndnaaGreatDoor
