/-
 awake of chapter 12's laws answers true.
-/
import Derived.Test.YtfbeiedhdmndnaaGreatDoorUf
namespace Go.Proofs.YtfbeiedhdmndnaaGreatDoor
open Go.RowKit
attribute [local go_sem ↓] Go.wp_at_zero Go.wp_at_succ
theorem ints_lit3 {w : World} {B : Nat} {a b c : Int} (h : w.heap[B]? = some (.cells #[.int .i64 a, .int .i64 b, .int .i64 c] 3)) : Ints anyB w (.slice (some ⟨B, 0, none⟩) 3 3) [a, b, c] := by
 refine ⟨_, 3, rfl, by simp, by simp, Or.inr ⟨B, 0, rfl, trivial, (Array.getElem?_eq_some_iff.1 h).1, fun j y hy => ?_⟩⟩
 match j, hy with
 | 0, hy => cases hy; show World.cell? _ _ = _; rw [cell_of_row _ _ _ _ _ _ h]; rfl
 | 1, hy => cases hy; show World.cell? _ _ = _; rw [cell_of_row _ _ _ _ _ _ h]; rfl
 | 2, hy => cases hy; show World.cell? _ _ = _; rw [cell_of_row _ _ _ _ _ _ h]; rfl
theorem wpAnyH_go {P : Program} {md : Region.Mode} {ops : Array Oper} {Q : Exit → Act → World → Prop} {S : World → Prop} {f f' : Nat} {l l' : Array Bool} {a : Act} {w : World} (h : wpAnyH P md ops Q S f' l' a w) (e' : f = f') (e : l = l') : wpAnyH P md ops Q S f l a w := e' ▸ e ▸ h
set_option maxHeartbeats 4000000 in
set_option maxRecDepth 100000 in
theorem tawake_any (W : World) (ht : Tab W) : Calls Tryz.prog 21 #[] W fun e w' => e = .returned (.bool true) ∧ Below W.heap.size W w' := by
 have HT := hid_mk ht
 have HB0 : Hid (Below W.heap.size W (W.alloc (.cells #[.int .i64 (-1), .int .i64 2, .int .i64 1] 3))) := bAlloc (bRefl _) _
 clear ht
 go_enter Tryz.func21, Tryz.ntmps21
 go_wp2_with fail
 refine (net_any anyB _ _ aL (ints_lit3 (heap_new _ _)) (by decide)).mono ?_
 rintro e w1 ⟨v1, rfl, ⟨p1, p2, p3, rfl, hp1, hp2, hp3⟩, hb1⟩
 obtain ⟨A1, c1, rfl, _⟩ := hp1.form
 obtain ⟨A2, c2, rfl, _⟩ := hp2.form
 obtain ⟨A3, c3, rfl, _⟩ := hp3.form
 have HP1 : Hid (PrgV w1 (.agg #[.slice A1 (netP aL).hs.length c1, .slice A2 (netP aL).acs.length c2, .slice A3 (netP aL).bs.length c3, .int .i64 20]) (netP aL)) := ⟨_, _, _, rfl, hp1, hp2, hp3⟩
 have HB1 := hid_mk (bTrans HB0.out hb1)
 clear hp1 hp2 hp3 hb1
 generalize (netP aL).hs.length = n1 at HP1 ⊢
 generalize (netP aL).acs.length = n2 at HP1 ⊢
 generalize (netP aL).bs.length = n3 at HP1 ⊢
 rw [show (netP aL).fuel = 20 from rfl]
 have HB2 : Hid (Below w1.heap.size w1 (w1.alloc (.cells #[.slice A1 n1 c1, .slice A2 n2 c2, .slice A3 n3 c3, .int .i64 20] 26))) := bAlloc (bRefl _) _
 have HK1 : Hid ((w1.alloc (.cells #[.slice A1 n1 c1, .slice A2 n2 c2, .slice A3 n3 c3, .int .i64 20] 26)).heap[w1.heap.size]? = some (.cells #[.slice A1 n1 c1, .slice A2 n2 c2, .slice A3 n3 c3, .int .i64 20] 26)) := heap_new _ _
 go_wp2_with fail
 generalize (w1.alloc (.cells #[.slice A1 n1 c1, .slice A2 n2 c2, .slice A3 n3 c3, .int .i64 20] 26)) = w2 at HB2 HK1 ⊢
 have HP2 := hid_mk (HP1.out.below HB2.out)
 have HB3 := hid_mk (bTrans HB1.out HB2.out)
 refine (start_yes w2 _ (netP aL) (HT.out.below HB3.out) HP2.out (net_small (l := aL) (by decide)) (net_fc (l := aL) (by decide))).mono ?_
 rw [net_start (l := aL) (by decide)]
 rintro e w3 ⟨a3, m3, lo3, hi3, rfl, hwn3, hb3⟩
 obtain ⟨B1, d1, rfl⟩ := hwn3.acts.form
 obtain ⟨B2, d2, rfl, _⟩ := hwn3.mail.form
 have HX := hid_mk (hwn3.wld awSm)
 have HK3 := hid_mk (boxAt HK1.out hb3)
 have HP3 := hid_mk (HP2.out.below hb3)
 have HB4 := hid_mk (bTrans HB3.out hb3)
 clear hb3 hwn3
 generalize (netW aL).acts.length = n4 at HX ⊢
 generalize (netW aL).mail.length = n5 at HX ⊢
 rw [show (netW aL).used = ⟨0, 0, 0, 0⟩ from rfl] at HX ⊢
 have HK4 : Hid ((w3.alloc (.cells #[.slice B1 n4 d1, .slice B2 n5 d2, .int .i64 0, .int .i64 0, .int .i64 0, .int .i64 0] 32)).heap[w3.heap.size]? = some (.cells #[.slice B1 n4 d1, .slice B2 n5 d2, .int .i64 0, .int .i64 0, .int .i64 0, .int .i64 0] 32)) := heap_new _ _
 have HB5 : Hid (Below w3.heap.size w3 (w3.alloc (.cells #[.slice B1 n4 d1, .slice B2 n5 d2, .int .i64 0, .int .i64 0, .int .i64 0, .int .i64 0] 32))) := bAlloc (bRefl _) _
 have HZ : Hid (w1.heap.size < w3.heap.size) := (Array.getElem?_eq_some_iff.1 HK3.out).1
 obtain ⟨e0, e1, e2, e3⟩ := blk4 HK3.out
 go_wp2_with fail
 generalize (w3.alloc (.cells #[.slice B1 n4 d1, .slice B2 n5 d2, .int .i64 0, .int .i64 0, .int .i64 0, .int .i64 0] 32)) = w4 at HB5 HK4 ⊢
 have HB6 := hid_mk (bTrans HB4.out HB5.out)
 have HA : Hid (AW w4 w1.heap.size w3.heap.size (.slice A1 n1 c1) (.slice A2 n2 c2) (.slice A3 n3 c3) (.slice B1 n4 d1) (.slice B2 n5 d2)) := ⟨HT.out.below HB6.out, HP3.out.below HB5.out, HX.out.below HB5.out, boxAt HK3.out HB5.out, HK4.out⟩
 refine wp_region_held_drew (S := AwS w1.heap.size w3.heap.size (.slice A1 n1 c1) (.slice A2 n2 c2) (.slice A3 n3 c3) (.slice B1 n4 d1) (.slice B2 n5 d2)) (by kernel_rfl) (HA.out.s (bRefl _).drew) (fun hHeld => ?_)
 refine wpAnyH_go (aw0 HA (fun t w hb => ?_) (fun c a a' w e h => ?_) (bRefl _).drew hHeld) (by kernel_rfl) (by kernel_rfl)
 ·have HB7 := hid_mk (bTrans HB6.out hb)
  clear hb
  go_wp2
  go_ret
  exact ⟨rfl, HB7.out⟩
 ·have h' : a.defers = [] ∧ _ := h
  exact ⟨e.trans h'.1, h'.2⟩
end Go.Proofs.YtfbeiedhdmndnaaGreatDoor
