/-
  What the reference's Depths and CheckFlow answer of a program: the same. Condition: for Depths, Check takes the program.
-/
import Derived.Test.YtgdloonpemaijaaDoorRDep
import Derived.Test.YtgdloonpemaijaaDoorRef2
namespace Go.Proofs.YtgdloonpemaijaaDoor
open Go.RowKit
attribute [local go_sem ↓] Go.wp_at_zero Go.wp_at_succ

set_option maxHeartbeats 2000000 in
set_option maxRecDepth 100000 in
theorem rdepths_any (w : World) (v : Value) (p : PPrg) (h : Int) (hp : PrgV w v p) (hc0 : chk p = 0) :
    Calls Tryd.prog 89 #[v, .int .i64 h] w fun e w' => ∃ u, e = .returned (.tuple #[u, .int .i64 (fm p h), .int .i64 (fe p h)]) ∧ Ints anyB w' u (fl p h) ∧ Below w.heap.size w w' := by
  by_cases g0 : 0 ≤ h
  · by_cases g1 : h < p.hs.length
    · obtain ⟨k, rfl⟩ := Int.eq_ofNat_of_zero_le g0
      exact rdepths_in w v p k hp hc0 (by omega)
    · have HE : Hid (fe p h = 7 ∧ fl p h = [] ∧ fm p h = -1) := by
        have h1 : fe p h = 7 := by unfold fe; rw [if_pos hc0, if_neg (fun x => g1 x.2)]
        exact ⟨h1, by unfold fl; rw [if_pos hc0, if_neg (fun x => g1 x.2)], by unfold fm; rw [if_neg (by rw [h1]; decide)]⟩
      obtain ⟨va, vb, vc, rfl, h1, h2, h3⟩ := hp
      obtain ⟨A1, c1, rfl, hl1⟩ := h1.form
      obtain ⟨A2, c2, rfl, hl2⟩ := h2.form
      obtain ⟨A3, c3, rfl, hl3⟩ := h3.form
      clear h1 h2 h3 hc0
      go_enter Tryd.func89, Tryd.ntmps89
      go_wp2
      go_ret3
      exact ⟨_, by rw [HE.out.1, HE.out.2.2]; rfl, by rw [HE.out.2.1]; exact sl0, bAlloc (bRefl w) _⟩
  · have HE : Hid (fe p h = 7 ∧ fl p h = [] ∧ fm p h = -1) := by
      have h1 : fe p h = 7 := by unfold fe; rw [if_pos hc0, if_neg (fun x => g0 x.1)]
      exact ⟨h1, by unfold fl; rw [if_pos hc0, if_neg (fun x => g0 x.1)], by unfold fm; rw [if_neg (by rw [h1]; decide)]⟩
    obtain ⟨va, vb, vc, rfl, h1, h2, h3⟩ := hp
    obtain ⟨A1, c1, rfl, hl1⟩ := h1.form
    obtain ⟨A2, c2, rfl, hl2⟩ := h2.form
    obtain ⟨A3, c3, rfl, hl3⟩ := h3.form
    clear h1 h2 h3 hc0
    go_enter Tryd.func89, Tryd.ntmps89
    go_wp2
    go_ret3
    exact ⟨_, by rw [HE.out.1, HE.out.2.2]; rfl, by rw [HE.out.2.1]; exact sl0, bAlloc (bRefl w) _⟩

set_option maxHeartbeats 4000000 in
theorem rflow_any (w : World) (v : Value) (p : PPrg) (hp : PrgV w v p) :
    Calls Tryd.prog 48 #[v] w fun e w' => e = .returned (.int .i64 (fc p)) ∧ Below w.heap.size w w' := by
  have HP : Hid (PrgV w v p) := hp
  obtain ⟨va, vb, vc, rfl, h1, h2, h3⟩ := hp
  obtain ⟨A1, c1, rfl, hl1⟩ := h1.form
  obtain ⟨A2, c2, rfl, hl2⟩ := h2.form
  obtain ⟨A3, c3, rfl, hl3⟩ := h3.form
  have HB : ∀ (x : Obj), Below w.heap.size w (w.alloc x) := fun x => bAlloc (bRefl w) x
  clear h1 h2 h3
  have HC : Hid ((chk p = 0 → scan (fun h => de p.hs h.code) (p.hs.drop 0) = fc p) ∧ (chk p ≠ 0 → chk p = fc p)) := by
    unfold fc
    exact ⟨fun h => by rw [if_pos h]; rfl, fun h => by rw [if_neg h]⟩
  go_enter Tryd.func48, Tryd.ntmps48
  go_wp2_with (go_at_call 88; refine (rcheck_any _ _ p (HP.out.below (by exact HB _))).mono ?_; rintro e w0 ⟨rfl, hb0⟩; have hc0 := bcell hb0)
  go_loopg [3, 4] p.hs.length (fun g i3 i4 wr => ∃ (k : Nat) (e : Int), g = p.hs.length - k ∧ k ≤ p.hs.length ∧ i4 = .int .i64 k ∧ i3 = .int .i64 e ∧ Hid ((e = 0 → chk p = 0 ∧ scan (fun h => de p.hs h.code) (p.hs.drop k) = fc p) ∧ (e ≠ 0 → e = fc p)) ∧ Below (w.heap.size + 1) (w.alloc (.cells #[.slice A1 p.hs.length c1, .slice A2 p.acs.length c2, .slice A3 p.bs.length c3, .int .i64 p.fuel] 26)) wr)
  case atStart => exact ⟨0, chk p, rfl, by omega, rfl, rfl, ⟨fun h => ⟨h, HC.out.1 h⟩, HC.out.2⟩, by simpa using hb0⟩
  case round =>
    clear HC hc0 hb0
    obtain ⟨k, e, rfl, hk, rfl, rfl, hsc, hb⟩ := hrel
    obtain ⟨hb', hcb, hz⟩ := boxed hb
    by_cases he : e = 0
    · have he' := int_eq he
      obtain ⟨x0, x1⟩ := hsc.out.1 he
      have HS0 : Hid (chk p = 0) := x0
      have HS1 : Hid (scan (fun h => de p.hs h.code) (p.hs.drop k) = fc p) := x1
      clear x0 x1 hsc
      by_cases hlt : k < p.hs.length
      · obtain ⟨x, hx⟩ := at_lt hlt
        have HE : Hid (fe p k = de p.hs x.code) := by unfold fe; rw [if_pos HS0.out, if_pos ⟨by omega, by omega⟩, fcode_at hx]; rfl
        have HS : Hid (scan (fun h => de p.hs h.code) (p.hs.drop k) = if de p.hs x.code = 0 then scan (fun h => de p.hs h.code) (p.hs.drop (k + 1)) else de p.hs x.code) := scan_step hx
        clear hx he
        go_wp2_with (go_at_call 89; refine (rdepths_any _ _ p _ (HP.out.below (by exact hb')) HS0.out).mono ?_; rintro e' w2 ⟨u, rfl, hu, hb2⟩; obtain ⟨Au, cu, rfl, hul⟩ := hu.form)
        go_roundg (p.hs.length - (k + 1))
        case measure => omega
        case rel =>
          refine ⟨k + 1, fe p k, rfl, by omega, by go_num, rfl, ⟨fun h => ⟨HS0.out, ?_⟩, fun h => ?_⟩, u_step hb hb2⟩
          · rw [← HS1.out, HS.out, if_pos (by rw [← HE.out]; exact h)]
          · rw [← HS1.out, HS.out, if_neg (by rw [← HE.out]; exact h)]; exact HE.out
      · clear he
        have HR : Hid (e = fc p) := by rw [← HS1.out, scan_end hlt]; exact beq_iff_eq.1 he'
        go_wp2
        go_ret
        exact ⟨ret_int HR.out, hb'⟩
    · have he' := int_ne he
      have HR : Hid (e = fc p) := hsc.out.2 he
      clear he hsc
      by_cases hlt : k < p.hs.length
      · go_wp2
        go_ret
        exact ⟨ret_int HR.out, hb'⟩
      · go_wp2
        go_ret
        exact ⟨ret_int HR.out, hb'⟩
end Go.Proofs.YtgdloonpemaijaaDoor
