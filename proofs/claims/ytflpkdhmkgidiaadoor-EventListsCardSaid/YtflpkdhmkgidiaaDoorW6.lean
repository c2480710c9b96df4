/-
  world.Copy: another one, in new memory. Condition: the world is not too great.
-/
import Derived.Test.YtflpkdhmkgidiaaDoorW5
namespace Go.Proofs.YtflpkdhmkgidiaaDoor
open Go.RowKit
set_option maxHeartbeats 4000000 in
set_option maxRecDepth 100000 in
theorem copyW_any (w : World) (v : Value) (x : PWld) (h : WldV w v x) (hs : SmW x) :
    Calls Tryd.prog 16 #[v] w fun e w' => ∃ a m lo hi, e = .returned (wVal x.used a m) ∧ WN w.heap.size lo hi w' a m x ∧ Below w.heap.size w w' := by
  obtain ⟨va, vm, rfl, h1, h2⟩ := h
  obtain ⟨A1, c1, rfl, hl1⟩ := h1.form
  obtain ⟨A2, c2, rfl, hl2⟩ := h2.form
  have HS := hid_mk hs
  have s1 : x.acts.length ≤ 1000 := by have := hs.n; omega
  clear hs
  go_enter Tryd.func16, Tryd.ntmps16
  go_wp2
  go_cut [3] (fun i3 wc => ∃ bo lo hi a m, i3 = .pointer (some ⟨bo, 0, none⟩) ∧ CW w x bo lo hi a m wc)
  case first =>
    have H1 := hid_mk h1.ltIn
    have H2 := hid_mk h2
    have hA := (two_new w (.cells #[.slice A1 x.acts.length c1, .slice A2 x.mail.length c2, .int .i64 x.used.drop, .int .i64 x.used.dup, .int .i64 x.used.time, .int .i64 x.used.crash] 34) (.cells #[.slice none 0 0, .slice none 0 0, .int .i64 0, .int .i64 0, .int .i64 0, .int .i64 0] 34))
    have HL : Below w.heap.size w ((w.alloc (.cells #[.slice A1 x.acts.length c1, .slice A2 x.mail.length c2, .int .i64 x.used.drop, .int .i64 x.used.dup, .int .i64 x.used.time, .int .i64 x.used.crash] 34)).alloc (.cells #[.slice none 0 0, .slice none 0 0, .int .i64 0, .int .i64 0, .int .i64 0, .int .i64 0] 34)) := bAlloc (bAlloc (bRefl _) _) _
    generalize ((w.alloc (.cells #[.slice A1 x.acts.length c1, .slice A2 x.mail.length c2, .int .i64 x.used.drop, .int .i64 x.used.dup, .int .i64 x.used.time, .int .i64 x.used.crash] 34)).alloc (.cells #[.slice none 0 0, .slice none 0 0, .int .i64 0, .int .i64 0, .int .i64 0, .int .i64 0] 34)) = w0 at hA HL ⊢
    obtain ⟨p0, p1, p2, p3, p4, p5⟩ := blk6 hA.1
    have hz0 : w.heap.size < w0.heap.size := by have := hA.2.2; omega
    have hbb := HL
    have nn : ¬ w.heap.size = w0.heap.size := by omega
    have nn' : ¬ w0.heap.size = w.heap.size := by omega
    have hz0' : w.heap.size < w0.heap.size + 1 := by omega
    have HR0 := hid_mk hA.2.1
    have HZ0 := hid_mk hA.2.2
    clear h1 h2 hA
    go_region_held3 (fun w' => w'.cell? ⟨w.heap.size, 0, none⟩ = some (.slice A1 x.acts.length c1) ∧ w'.cell? ⟨w.heap.size, 1, none⟩ = some (.slice A2 x.mail.length c2) ∧ w'.cell? ⟨w.heap.size, 2, none⟩ = some (.int .i64 x.used.drop) ∧ w'.cell? ⟨w.heap.size, 3, none⟩ = some (.int .i64 x.used.dup) ∧ w'.cell? ⟨w.heap.size, 4, none⟩ = some (.int .i64 x.used.time) ∧ w'.cell? ⟨w.heap.size, 5, none⟩ = some (.int .i64 x.used.crash)) (go_keep)
      (first
        | (go_at_call 43; refine (freshL_any anyB (fun b => b < w.heap.size) _ _ x.acts (H1.out.below (by first | exact hbb | exact hbb.drew | exact bAlloc hbb _ | exact (bAlloc hbb _).drew | exact bAlloc hbb.drew _)) s1).mono ?_; rintro e w1 ⟨u1, rfl, lf, hb1⟩; obtain ⟨D1, e1, rfl, hd1, hd2⟩ := lf; obtain ⟨hc1, hf1, hy1⟩ := (by first | exact olds (undrew hb1) | exact olds hb1); have hj1 := hb1.size; have HF1 := hid_mk (show LF _ _ _ _ _ from ⟨D1, e1, rfl, hd1, hd2⟩); have HB1 := hid_mk hb1; replace hbb := bTrans (by first | exact hbb | exact hbb.drew | exact bAlloc hbb _ | exact (bAlloc hbb _).drew | exact bAlloc hbb.drew _) hb1; have x1 : w.heap.size < w1.heap.size := (by (try simp at hj1); omega); have n1 : ¬ w.heap.size = w1.heap.size := (by omega); have x1' : w.heap.size < w1.heap.size + 1 := (by omega); have n1' : ¬ w1.heap.size = w.heap.size := (by omega); clear hd1 hd2 hb1)
        | (go_at_call 44; refine (copy_any _ _ x.mail (H2.out.below (by first | exact hbb | exact hbb.drew | exact bAlloc hbb _ | exact (bAlloc hbb _).drew | exact bAlloc hbb.drew _)) (by have := HS.out.mail; omega) HS.out.args).mono ?_; rintro e w2 ⟨u2, rfl, mf, hb2⟩; obtain ⟨D2, e2, rfl, _⟩ := mf.form; obtain ⟨hc2, hf2, hy2⟩ := (by first | exact olds (undrew hb2) | exact olds hb2); have hj2 := hb2.size; have HM2 := hid_mk mf.within; have HB2 := hid_mk hb2; replace hbb := bTrans (by first | exact hbb | exact hbb.drew | exact bAlloc hbb _ | exact (bAlloc hbb _).drew | exact bAlloc hbb.drew _) hb2; have x2 : w.heap.size < w2.heap.size := (by (try simp at hj2); omega); have n2 : ¬ w.heap.size = w2.heap.size := (by omega); have x2' : w.heap.size < w2.heap.size + 1 := (by omega); have n2' : ¬ w2.heap.size = w.heap.size := (by omega); clear mf hb2))
    all_goals (go_wp2_with fail; go_meet)
    all_goals first
      | with_reducible exact ⟨_, _, _, _, _, rfl, way_a HL HR0.out HZ0.out HF1.out HB1.out HM2.out HB2.out⟩
      | with_reducible exact ⟨_, _, _, _, _, rfl, way_b HL HR0.out HZ0.out HF1.out HB1.out HM2.out HB2.out⟩
      | with_reducible exact ⟨_, _, _, _, _, rfl, way_c HL HR0.out HZ0.out HF1.out HB1.out HM2.out HB2.out⟩
  case rest =>
    obtain ⟨bo, lo, hi, a, m, rfl, hcw⟩ := hcut
    obtain ⟨A, c, rfl, hck⟩ := hcw.start
    obtain ⟨B, d, rfl, _⟩ := hck.lm.form
    clear h1 h2 hcw
    obtain ⟨o0, o1, o2, o3, o4, o5⟩ := blk6 hck.box
    go_wp2
    go_loopg [4, 17] x.acts.length (fun g i4 i17 wr => ∃ k : Nat, g = x.acts.length - k ∧ i17 = .int .i64 k ∧ CK w x bo lo hi k A c (.slice B x.mail.length d) wr)
    case atStart => exact ⟨0, rfl, rfl, hck⟩
    case round =>
      clear hck o0 o1 o2 o3 o4 o5
      obtain ⟨k, rfl, rfl, ck⟩ := hrel
      obtain ⟨o0, o1, o2, o3, o4, o5⟩ := blk6 ck.box
      have hbo : bo < wr.heap.size := (Array.getElem?_eq_some_iff.1 ck.box).1
      by_cases hlt : k < x.acts.length
      · obtain ⟨y, hy⟩ := at_lt hlt
        obtain ⟨g, rfl, hg, hgb, hr⟩ : ∃ g, A = some ⟨g, 0, none⟩ ∧ Qa (w.heap.size + 2) lo hi g ∧ g ≠ bo ∧ LR g (fun j b => b ≠ g ∧ (j < k → Qa (w.heap.size + 2) lo hi b)) wr x.acts := by
          rcases ck.la with ⟨e, _⟩ | h
          · rw [e] at hlt; simp at hlt
          · exact h
        obtain ⟨⟨v, r0, r0'⟩, r1, r2, r3, r4⟩ := hr.rd k y hy
        obtain ⟨V, n, rfl, _⟩ := r0'.form
        have hfz : ∀ o, wr.frozen? ⟨g, o, none⟩ = false := hr.frozen
        have hgl : g < wr.heap.size := hr.lt
        have hsm : y.regs.length ≤ 1000 := HS.out.regs y (List.mem_of_getElem? hy)
        have CKk := hid_mk ck
        have HY := hid_mk hy
        have HV := hid_mk r0'
        clear ck hy r0' hr hg
        go_wp2
        go_region_with (go_at_call 35; refine (freshI_any _ _ _ y.regs (HV.out.below (by first | exact (bRefl _).drew | exact bRefl _)) hsm).mono ?_; rintro e w1 ⟨D1, m1, rfl, hi1, hb1⟩; obtain ⟨hc1, hf1, hy1⟩ := olds (undrew hb1))
        all_goals
          go_wp2
          go_roundg (x.acts.length - (k + 1))
          case measure => omega
          case rel => exact ⟨k + 1, rfl, by go_num, CKk.out.next HY.out hi1 hb1⟩
      · have HW := hid_mk (ck.done hlt)
        have HLo := hid_mk ck.low
        obtain ⟨y0, y1, y2, y3, y4, y5⟩ := blk6 ck.res
        have fz : ∀ o, wr.frozen? ⟨w.heap.size + 1, o, none⟩ = false := fun o => heap_frozen ck.res
        have HRs := hid_mk ck.res
        clear ck
        go_wp2
        refine bodyPost_ret (v := wVal x.used (.slice A x.acts.length c) (.slice B x.mail.length d)) (by simp [results, Tryd.results16, go_sem, y0, y1, y2, y3, y4, y5]) rfl ⟨_, _, lo, hi, rfl, (HW.out.far put6_same (by omega)).mono (by omega), put6_below HLo.out (by omega)⟩
end Go.Proofs.YtflpkdhmkgidiaaDoor
