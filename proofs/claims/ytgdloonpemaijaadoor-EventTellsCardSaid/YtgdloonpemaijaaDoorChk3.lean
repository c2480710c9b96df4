/-
  What Check answers of a program: P3.1's first that holds. Condition: the table of the instructions is in the world.
-/
import Derived.Test.YtgdloonpemaijaaDoorChk2
namespace Go.Proofs.YtgdloonpemaijaaDoor
open Go.RowKit

/-- What is behind a box that the call made. -/
theorem boxed {w wr : World} {x : Obj} (hb : Below (w.heap.size + 1) (w.alloc x) wr) :
    Below w.heap.size w wr ∧ (∀ o, wr.cell? ⟨w.heap.size, o, none⟩ = (w.alloc x).cell? ⟨w.heap.size, o, none⟩) ∧ w.heap.size < wr.heap.size :=
  ⟨bTrans (bAlloc (bRefl w) x) (by simpa using hb), fun o => hb.cell (p := ⟨w.heap.size, o, none⟩) (Nat.lt_succ_self _), by have := hb.size; simp at this; omega⟩
theorem boxed_next {w wr w1 : World} {x y : Obj} (hb : Below (w.heap.size + 1) (w.alloc x) wr) (hb1 : Below (wr.alloc y).heap.size (wr.alloc y) w1) : Below (w.heap.size + 1) (w.alloc x) w1 := by
  have hz : w.heap.size + 1 ≤ wr.heap.size := by have := hb.size; simpa using this
  exact hb.trans (((Below.refl _ _).alloc hz _).trans (hb1.mono (by simp; omega)))

theorem scan0 {α : Type} (f : α → Int) (l : List α) : scan f (l.drop 0) = scan f l := rfl

set_option maxHeartbeats 2000000 in
theorem check_any (w : World) (v : Value) (p : PPrg) (ht : Tab w) (h : PrgV w v p) :
    Calls Tryd.prog 86 #[v] w fun e w' => e = .returned (.int .i64 (chk p)) ∧ Below w.heap.size w w' := by
  obtain ⟨va, vb, vc, rfl, h1, h2, h3⟩ := h
  obtain ⟨A1, c1, rfl, hl1⟩ := h1.form
  obtain ⟨A2, c2, rfl, hl2⟩ := h2.form
  obtain ⟨A3, c3, rfl, hl3⟩ := h3.form
  have HP : Hid (PrgV w (.agg #[.slice A1 p.hs.length c1, .slice A2 p.acs.length c2, .slice A3 p.bs.length c3, .int .i64 p.fuel]) p) := ⟨_, _, _, rfl, h1, h2, h3⟩
  have HT : Hid (Tab w) := ht
  clear ht
  have HB : ∀ (x : Obj), Below w.heap.size w (w.alloc x) := fun x => bAlloc (bRefl w) x
  by_cases e0 : chkC p = 0
  · have hn : p.hs.length ≤ 16 := by
      unfold chkC at e0
      by_cases h : p.hs.length ≤ 16 ∧ p.acs.length ≤ 8 ∧ p.bs.length ≤ 16
      · exact h.1
      · rw [if_neg h] at e0; simp at e0
    have e0' := ne0_no e0
    have HC : Hid (chk p = if scan (chkH p.hs.length) p.hs = 0 then (if scan (chkA p.hs) p.acs = 0 then scan (chkN p.acs.length p.hs) p.bs else scan (chkA p.hs) p.acs) else scan (chkH p.hs.length) p.hs) := by unfold chk; rw [if_pos e0]; rfl
    clear e0
    go_enter Tryd.func86, Tryd.ntmps86
    go_wp2_with (go_at_call 116; refine (counts_any _ _ p (HP.out.below (by exact HB _))).mono ?_; rintro e w0 ⟨rfl, hb0⟩; have hc0 := bcell hb0)
    go_loopg [5, 6, 21] p.hs.length (fun g i5 i6 i21 wr => ∃ k : Nat, g = p.hs.length - k ∧ k ≤ p.hs.length ∧ i21 = .int .i64 k ∧ Hid (scan (chkH p.hs.length) (p.hs.drop k) = scan (chkH p.hs.length) p.hs) ∧ Below (w.heap.size + 1) (w.alloc (.cells #[.slice A1 p.hs.length c1, .slice A2 p.acs.length c2, .slice A3 p.bs.length c3, .int .i64 p.fuel] 26)) wr)
    case atStart => exact ⟨0, rfl, by omega, rfl, rfl, by simpa using hb0⟩
    case round =>
      obtain ⟨k, rfl, hk, rfl, hsc, hb⟩ := hrel
      obtain ⟨hb', hcb, hz⟩ := boxed hb
      by_cases hlt : k < p.hs.length
      · obtain ⟨b1, o1, x, v1, rfl, hx, hz1, q1, q2, hv1⟩ := h1.cell hb' hlt
        obtain ⟨V1, n1, rfl, _⟩ := hv1.form
        have HS : Hid (scan (chkH p.hs.length) (p.hs.drop k) = if chkH p.hs.length x = 0 then scan (chkH p.hs.length) (p.hs.drop (k + 1)) else chkH p.hs.length x) := scan_step hx
        clear hx
        by_cases he : chkH p.hs.length x = 0
        · have he' := ne0_no he
          have HE : Hid (chkH p.hs.length x = 0) := he
          clear he
          go_wp2_with (go_at_call 117; refine (hnd_any _ _ x _ (HT.out.below (by exact bAlloc hb' _)) ⟨_, rfl, (hv1.below (by exact bAlloc (bRefl _) _)).any⟩ (by omega) (by omega)).mono ?_; rintro e w1 ⟨rfl, hb1⟩)
          go_roundg (p.hs.length - (k + 1))
          case measure => omega
          case rel => exact ⟨k + 1, rfl, by omega, by go_num, by rw [← hsc.out, HS.out, if_pos HE.out]; rfl, boxed_next hb hb1⟩
        · have he' := ne0_yes he
          have HE : Hid (chkH p.hs.length x = chk p) := by
            have e1 : scan (chkH p.hs.length) p.hs = chkH p.hs.length x := by rw [← hsc.out, HS.out, if_neg he]
            rw [HC.out, e1, if_neg he]; rfl
          clear he
          go_wp2_with (go_at_call 117; refine (hnd_any _ _ x _ (HT.out.below (by exact bAlloc hb' _)) ⟨_, rfl, (hv1.below (by exact bAlloc (bRefl _) _)).any⟩ (by omega) (by omega)).mono ?_; rintro e w1 ⟨rfl, hb1⟩)
          go_ret
          exact ⟨ret_int HE.out, bTrans (bAlloc hb' _) hb1⟩
      · have HD : Hid (chk p = if scan (chkA p.hs) p.acs = 0 then scan (chkN p.acs.length p.hs) p.bs else scan (chkA p.hs) p.acs) := by
          rw [HC.out, if_pos (by rw [← hsc.out, scan_end hlt])]; rfl
        clear hsc HC
        go_wp2
        go_loopg [8, 9, 37] p.acs.length (fun g i8 i9 i37 wr => ∃ k : Nat, g = p.acs.length - k ∧ k ≤ p.acs.length ∧ i37 = .int .i64 k ∧ Hid (scan (chkA p.hs) (p.acs.drop k) = scan (chkA p.hs) p.acs) ∧ Below (w.heap.size + 1) (w.alloc (.cells #[.slice A1 p.hs.length c1, .slice A2 p.acs.length c2, .slice A3 p.bs.length c3, .int .i64 p.fuel] 26)) wr)
        case atStart => exact ⟨0, rfl, by omega, rfl, rfl, hb⟩
        case round =>
          clear hb hb' hcb hz
          obtain ⟨k2, rfl, hk2, rfl, hsc, hb⟩ := hrel
          obtain ⟨hb', hcb, hz⟩ := boxed hb
          by_cases hlt2 : k2 < p.acs.length
          · obtain ⟨b1, o1, x, v1, rfl, hx, hz1, q1, q2, q3, q4, hv1⟩ := h2.cell hb' hlt2
            obtain ⟨V1, n1, rfl, _⟩ := hv1.form
            have HS : Hid (scan (chkA p.hs) (p.acs.drop k2) = if chkA p.hs x = 0 then scan (chkA p.hs) (p.acs.drop (k2 + 1)) else chkA p.hs x) := scan_step hx
            clear hx
            by_cases he : chkA p.hs x = 0
            · have he' := ne0_no he
              have HE : Hid (chkA p.hs x = 0) := he
              clear he
              go_wp2_with (go_at_call 118; refine (act_any _ _ _ x _ ⟨_, rfl, (hv1.below (by exact bAlloc (bRefl _) _)).any⟩ (h1.below (by exact bAlloc hb' _))).mono ?_; rintro e w1 ⟨rfl, hb1⟩)
              go_roundg (p.acs.length - (k2 + 1))
              case measure => omega
              case rel => exact ⟨k2 + 1, rfl, by omega, by go_num, by rw [← hsc.out, HS.out, if_pos HE.out]; rfl, boxed_next hb hb1⟩
            · have he' := ne0_yes he
              have HE : Hid (chkA p.hs x = chk p) := by
                have e1 : scan (chkA p.hs) p.acs = chkA p.hs x := by rw [← hsc.out, HS.out, if_neg he]
                rw [HD.out, e1, if_neg he]; rfl
              clear he
              go_wp2_with (go_at_call 118; refine (act_any _ _ _ x _ ⟨_, rfl, (hv1.below (by exact bAlloc (bRefl _) _)).any⟩ (h1.below (by exact bAlloc hb' _))).mono ?_; rintro e w1 ⟨rfl, hb1⟩)
              go_ret
              exact ⟨ret_int HE.out, bTrans (bAlloc hb' _) hb1⟩
          · have HF : Hid (chk p = scan (chkN p.acs.length p.hs) p.bs) := by
              rw [HD.out, if_pos (by rw [← hsc.out, scan_end hlt2])]; rfl
            clear hsc HD
            go_wp2
            go_loopg [11, 12, 52] p.bs.length (fun g i11 i12 i52 wr => ∃ k : Nat, g = p.bs.length - k ∧ k ≤ p.bs.length ∧ i52 = .int .i64 k ∧ Hid (scan (chkN p.acs.length p.hs) (p.bs.drop k) = scan (chkN p.acs.length p.hs) p.bs) ∧ Below (w.heap.size + 1) (w.alloc (.cells #[.slice A1 p.hs.length c1, .slice A2 p.acs.length c2, .slice A3 p.bs.length c3, .int .i64 p.fuel] 26)) wr)
            case atStart => exact ⟨0, rfl, by omega, rfl, rfl, hb⟩
            case round =>
              clear hb hb' hcb hz
              obtain ⟨k3, rfl, hk3, rfl, hsc, hb⟩ := hrel
              obtain ⟨hb', hcb, hz⟩ := boxed hb
              by_cases hlt3 : k3 < p.bs.length
              · obtain ⟨b1, o1, x, v1, rfl, hx, hz1, q1, q2, q3, hv1⟩ := h3.cell hb' hlt3
                obtain ⟨V1, n1, rfl, _⟩ := hv1.form
                have HS : Hid (scan (chkN p.acs.length p.hs) (p.bs.drop k3) = if chkN p.acs.length p.hs x = 0 then scan (chkN p.acs.length p.hs) (p.bs.drop (k3 + 1)) else chkN p.acs.length p.hs x) := scan_step hx
                clear hx
                by_cases he : chkN p.acs.length p.hs x = 0
                · have he' := ne0_no he
                  have HE : Hid (chkN p.acs.length p.hs x = 0) := he
                  clear he
                  go_wp2_with (go_at_call 119; refine (nte_any _ _ _ x p ⟨_, rfl, (hv1.below (by exact bAlloc (bRefl _) _)).any⟩ (HP.out.below (by exact bAlloc hb' _))).mono ?_; rintro e w1 ⟨rfl, hb1⟩)
                  go_roundg (p.bs.length - (k3 + 1))
                  case measure => omega
                  case rel => exact ⟨k3 + 1, rfl, by omega, by go_num, by rw [← hsc.out, HS.out, if_pos HE.out]; rfl, boxed_next hb hb1⟩
                · have he' := ne0_yes he
                  have HE : Hid (chkN p.acs.length p.hs x = chk p) := by
                    rw [HF.out, ← hsc.out, HS.out, if_neg he]; rfl
                  clear he
                  go_wp2_with (go_at_call 119; refine (nte_any _ _ _ x p ⟨_, rfl, (hv1.below (by exact bAlloc (bRefl _) _)).any⟩ (HP.out.below (by exact bAlloc hb' _))).mono ?_; rintro e w1 ⟨rfl, hb1⟩)
                  go_ret
                  exact ⟨ret_int HE.out, bTrans (bAlloc hb' _) hb1⟩
              · go_wp2
                go_ret
                exact ⟨ret_int (by rw [HF.out, ← hsc.out, scan_end hlt3]), hb'⟩
  · have e0' := ne0_yes e0
    have HC : Hid (chkC p = chk p) := by unfold chk; rw [if_neg e0]; rfl
    clear e0
    go_enter Tryd.func86, Tryd.ntmps86
    go_wp2_with (go_at_call 116; refine (counts_any _ _ p (HP.out.below (by exact HB _))).mono ?_; rintro e w0 ⟨rfl, hb0⟩)
    go_ret
    exact ⟨ret_int HC.out, bTrans (HB _) hb0⟩
end Go.Proofs.YtgdloonpemaijaaDoor
