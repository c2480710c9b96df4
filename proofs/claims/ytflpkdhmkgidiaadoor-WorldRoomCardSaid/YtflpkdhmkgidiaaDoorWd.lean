/-
  world.Same. No conditions.
-/
import Derived.Test.YtflpkdhmkgidiaaDoorW5
namespace Go.Proofs.YtflpkdhmkgidiaaDoor
open Go.RowKit
theorem eqB_loc (a b : PLoc) : eqB a b = ((a.armed == b.armed) && ((a.down == b.down) && ((a.sent == b.sent) && ((a.over == b.over) && eqB a.regs b.regs)))) := by
  obtain ⟨r, p, q, s, t⟩ := a
  obtain ⟨r', p', q', s', t'⟩ := b
  unfold eqB
  rw [Bool.eq_iff_iff]; simp
  constructor
  · rintro ⟨h1, h2, h3, h4, h5⟩; exact ⟨h2, h3, h4, h5, h1⟩
  · rintro ⟨h2, h3, h4, h5, h1⟩; exact ⟨h1, h2, h3, h4, h5⟩
set_option maxHeartbeats 2000000 in
set_option maxRecDepth 100000 in
theorem sameLoc_any (w : World) (v1 v2 : Value) (a b : PLoc) (h1 : LocV anyB w v1 a) (h2 : LocV anyB w v2 b) :
    Calls Tryd.prog 46 #[v1, v2] w fun e w' => e = .returned (.bool (eqB a b)) ∧ Below w.heap.size w w' := by
  obtain ⟨c1, rfl, h1⟩ := h1
  obtain ⟨c2, rfl, h2⟩ := h2
  obtain ⟨A1, d1, rfl, _⟩ := h1.form
  obtain ⟨A2, d2, rfl, _⟩ := h2.form
  have HE := hid_mk (eqB_loc a b)
  have HB : ∀ (x y : Obj), Below w.heap.size w ((w.alloc x).alloc y) := fun x y => bAlloc (bAlloc (bRefl w) x) y
  cases e1 : (a.armed == b.armed) with
  | false =>
    have HR : Hid (false = eqB a b) := by show _ = _; rw [HE.out, e1]; rfl
    go_enter Tryd.func46, Tryd.ntmps46
    go_wp2
    go_ret
    exact ⟨ret_b HR.out, HB _ _⟩
  | true =>
    cases e2 : (a.down == b.down) with
    | false =>
      have HR : Hid (false = eqB a b) := by show _ = _; rw [HE.out, e1, e2]; rfl
      go_enter Tryd.func46, Tryd.ntmps46
      go_wp2
      go_ret
      exact ⟨ret_b HR.out, HB _ _⟩
    | true =>
      cases e3 : (a.sent == b.sent) with
      | false =>
        have HR : Hid (false = eqB a b) := by show _ = _; rw [HE.out, e1, e2, e3]; rfl
        go_enter Tryd.func46, Tryd.ntmps46
        go_wp2
        go_ret
        exact ⟨ret_b HR.out, HB _ _⟩
      | true =>
        cases e4 : (a.over == b.over) with
        | false =>
          have HR : Hid (false = eqB a b) := by show _ = _; rw [HE.out, e1, e2, e3, e4]; rfl
          go_enter Tryd.func46, Tryd.ntmps46
          go_wp2
          go_ret
          exact ⟨ret_b HR.out, HB _ _⟩
        | true =>
          have HR : Hid (eqB a.regs b.regs = eqB a b) := by show _ = _; rw [HE.out, e1, e2, e3, e4]; simp
          go_enter Tryd.func46, Tryd.ntmps46
          go_wp2_with (go_at_call 75; refine (eqI anyB anyB _ _ _ a.regs b.regs (h1.below (by exact HB _ _)) (h2.below (by exact HB _ _))).mono ?_; rintro e w2 ⟨rfl, hb2⟩)
          go_ret
          exact ⟨ret_b HR.out, bTrans (HB _ _) (quiet_below hb2)⟩
set_option maxHeartbeats 4000000 in
theorem equalL_any (w : World) (v1 v2 : Value) (a b : List PLoc) (h1 : Locs anyB anyB w v1 a) (h2 : Locs anyB anyB w v2 b) :
    Calls Tryd.prog 45 #[v1, v2, .func (.func 46) #[] #[]] w fun e w' => e = .returned (.bool (eqB a b)) ∧ Below w.heap.size w w' := by
  obtain ⟨A1, c1, rfl, hl1⟩ := h1.form
  obtain ⟨A2, c2, rfl, hl2⟩ := h2.form
  by_cases hlen : a.length = b.length
  · have HL : Hid (a.length = b.length) := hlen
    have e1 := lt_eq hlen
    clear hlen
    go_enter Tryd.func45, Tryd.ntmps45
    go_wp2
    go_loopg [7, 8, 9, 17] a.length (fun g i7 i8 i9 i17 wr => ∃ k : Nat, g = a.length - k ∧ k ≤ a.length ∧ i17 = .int .i64 k ∧ Hid (a.take k = b.take k) ∧ Below w.heap.size w wr)
    case atStart => exact ⟨0, rfl, by omega, rfl, rfl, bRefl w⟩
    case round =>
      obtain ⟨k, rfl, hk, rfl, ht, hb⟩ := hrel
      by_cases hlt : k < a.length
      · obtain ⟨b1, o1, x, v1, rfl, hx, hz1, q1, q2, q3, q4, q5, hv1⟩ := h1.cell hb hlt
        obtain ⟨b2, o2, y, v2, rfl, hy, hz2, s1, s2, s3, s4, s5, hv2⟩ := h2.cell hb (k := k) (by have := HL.out; omega)
        obtain ⟨V1, n1, rfl, _⟩ := hv1.form
        obtain ⟨V2, n2, rfl, _⟩ := hv2.form
        have hlt2 : (k : Int) < b.length := by have := HL.out; omega
        have HX : Hid (a[k]? = some x) := hx
        have HY : Hid (b[k]? = some y) := hy
        have HB : Hid (Below w.heap.size w wr) := hb
        clear hx hy hb
        by_cases hxy : x = y
        · have e2 := eqB_yes hxy
          have HE : Hid (x = y) := hxy
          clear hxy
          go_wp2_with (go_at_call 46; refine (sameLoc_any _ _ _ x y ⟨_, rfl, hv1.below (by exact bAlloc (bAlloc (bRefl _) _) _)⟩ ⟨_, rfl, hv2.below (by exact bAlloc (bAlloc (bRefl _) _) _)⟩).mono ?_; rintro e w' ⟨rfl, hb1⟩)
          go_roundg (a.length - (k + 1))
          case measure => omega
          case rel => exact ⟨k + 1, rfl, by omega, by go_num, take_eq ht.out HX.out HY.out HE.out, bTrans HB.out (bTrans (bAlloc (bAlloc (bRefl _) _) _) hb1)⟩
        · have e2 := eqB_no hxy
          have HE : Hid (x ≠ y) := hxy
          clear hxy
          go_wp2_with (go_at_call 46; refine (sameLoc_any _ _ _ x y ⟨_, rfl, hv1.below (by exact bAlloc (bAlloc (bRefl _) _) _)⟩ ⟨_, rfl, hv2.below (by exact bAlloc (bAlloc (bRefl _) _) _)⟩).mono ?_; rintro e w' ⟨rfl, hb1⟩)
          go_ret
          exact ⟨ret_b (eqB_no (take_ne HX.out HY.out HE.out)).symm, bTrans HB.out (bTrans (bAlloc (bAlloc (bRefl _) _) _) hb1)⟩
      · go_wp2
        go_ret
        exact ⟨ret_b (eqB_yes (take_all HL.out hlt ht.out)).symm, hb⟩
  · have e1 := lt_ne hlen
    go_enter Tryd.func45, Tryd.ntmps45
    go_wp2
    go_ret
    exact ⟨ret_b (eqB_no (len_ne hlen)).symm, bRefl _⟩
theorem gU : Tryd.prog.eqGuardType Tryd.prog.depth 32 = false := by kernel_rfl
theorem eqU (a b : PBud) (w : World) : (Op.equalIn 10000 32 (uVal a) (uVal b)).run Tryd.prog w = .ok (eqB a b) w := by
  have u3 := Tryd.underlying3
  have a3 := Tryd.isAgg3
  have z3 := Tryd.sizeOf3
  have hS : Tryd.prog.underlying 32 = some (.struct (Tryd.prog.fieldsOf 32)) := by kernel_rfl
  have hp : Tryd.prog.stoodInHeld 32 = false := by kernel_rfl
  obtain ⟨f, n, c, d⟩ := a
  obtain ⟨f', n', c', d'⟩ := b
  unfold eqB
  rw [show (10000 : Nat) = 9999 + 1 from rfl, run_equalIn_agg w 9999 32 _ _ hS hp]
  simp only [Program.fieldsOf, Tryd.underlying32]
  go_simp
  by_cases h1 : f = f' <;> by_cases h2 : n = n' <;> by_cases h3 : c = c' <;> by_cases h4 : d = d' <;> simp [h1, h2, h3, h4]
theorem eq8 (f n c d f' n' c' d' : Int) (w : World) : (Op.equalIn 10000 32 (.agg #[.int .i64 f, .int .i64 n, .int .i64 c, .int .i64 d]) (.agg #[.int .i64 f', .int .i64 n', .int .i64 c', .int .i64 d'])).run Tryd.prog w = .ok (eqB (⟨f, n, c, d⟩ : PBud) ⟨f', n', c', d'⟩) w := eqU ⟨f, n, c, d⟩ ⟨f', n', c', d'⟩ w
attribute [local go_sem ↓] eq8
theorem eqB_wld (a b : PWld) : eqB a b = (eqB a.acts b.acts && (eqB a.mail b.mail && eqB (⟨a.used.drop, a.used.dup, a.used.time, a.used.crash⟩ : PBud) ⟨b.used.drop, b.used.dup, b.used.time, b.used.crash⟩)) := by
  obtain ⟨r, p, ⟨q0, q1, q2, q3⟩⟩ := a
  obtain ⟨r', p', ⟨s0, s1, s2, s3⟩⟩ := b
  unfold eqB
  rw [Bool.eq_iff_iff]; simp
set_option maxHeartbeats 2000000 in
set_option maxRecDepth 100000 in
theorem sameW_any (w : World) (v1 v2 : Value) (a b : PWld) (h1 : WldV w v1 a) (h2 : WldV w v2 b) :
    Calls Tryd.prog 18 #[v1, v2] w fun e w' => e = .returned (.bool (eqB a b)) ∧ Below w.heap.size w w' := by
  obtain ⟨va, vm, rfl, h1, h3⟩ := h1
  obtain ⟨vb, vn, rfl, h2, h4⟩ := h2
  obtain ⟨A1, d1, rfl, _⟩ := h1.form
  obtain ⟨A2, d2, rfl, _⟩ := h2.form
  obtain ⟨A3, d3, rfl, _⟩ := h3.form
  obtain ⟨A4, d4, rfl, _⟩ := h4.form
  have HE := hid_mk (eqB_wld a b)
  have hgU := gU
  have HB : ∀ (x y : Obj), Below w.heap.size w ((w.alloc x).alloc y) := fun x y => bAlloc (bAlloc (bRefl w) x) y
  have H1 := hid_mk h1
  have H2 := hid_mk h2
  have H3 := hid_mk h3
  have H4 := hid_mk h4
  clear h1 h2 h3 h4
  cases e1 : eqB a.acts b.acts with
  | false =>
    have HR : Hid (false = eqB a b) := by show _ = _; rw [HE.out, e1]; rfl
    go_enter Tryd.func18, Tryd.ntmps18
    go_wp2_with (first
      | (go_at_call 45; refine (equalL_any _ _ _ a.acts b.acts (H1.out.below (by exact HB _ _)) (H2.out.below (by exact HB _ _))).mono ?_; rintro e w2 ⟨rfl, hb2⟩))
    go_ret
    exact ⟨ret_b HR.out, bTrans (HB _ _) hb2⟩
  | true =>
    cases e2 : eqB a.mail b.mail with
    | false =>
      have HR : Hid (false = eqB a b) := by show _ = _; rw [HE.out, e1, e2]; rfl
      go_enter Tryd.func18, Tryd.ntmps18
      go_wp2_with (first
        | (go_at_call 45; refine (equalL_any _ _ _ a.acts b.acts (H1.out.below (by exact HB _ _)) (H2.out.below (by exact HB _ _))).mono ?_; rintro e w2 ⟨rfl, hb2⟩; have hc2 := bcell hb2; have HB2 := hid_mk (bTrans (HB _ _) hb2); clear hb2)
        | (go_at_call 47; refine (same_any _ _ _ a.mail b.mail (H3.out.below HB2.out) (H4.out.below HB2.out)).mono ?_; rintro e w3 ⟨rfl, hb3⟩))
      go_ret
      exact ⟨ret_b HR.out, bTrans HB2.out hb3⟩
    | true =>
      have HR : Hid (eqB (⟨a.used.drop, a.used.dup, a.used.time, a.used.crash⟩ : PBud) ⟨b.used.drop, b.used.dup, b.used.time, b.used.crash⟩ = eqB a b) := by show _ = _; rw [HE.out, e1, e2]; simp
      go_enter Tryd.func18, Tryd.ntmps18
      go_wp2_with (first
        | (go_at_call 45; refine (equalL_any _ _ _ a.acts b.acts (H1.out.below (by exact HB _ _)) (H2.out.below (by exact HB _ _))).mono ?_; rintro e w2 ⟨rfl, hb2⟩; have hc2 := bcell hb2; have hz2 := hb2.size; have hz3 : w.heap.size + 1 < w2.heap.size := (by simp at hz2; omega); have hz4 : w.heap.size < w2.heap.size := (by omega); have HB2 := hid_mk (bTrans (HB _ _) hb2); clear hb2 hz2)
        | (go_at_call 47; refine (same_any _ _ _ a.mail b.mail (H3.out.below HB2.out) (H4.out.below HB2.out)).mono ?_; rintro e w3 ⟨rfl, hb3⟩; have hc3 := bcell hb3))
      go_ret
      exact ⟨ret_b HR.out, bTrans HB2.out hb3⟩
end Go.Proofs.YtflpkdhmkgidiaaDoor
