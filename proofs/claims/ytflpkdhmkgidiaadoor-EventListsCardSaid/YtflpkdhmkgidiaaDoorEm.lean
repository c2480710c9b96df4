/-
  All that is listed may happen, each once, in order, and nothing else (EventLists). Conditions: numbers of 64 bits; the table of the instructions is in the world.
-/
import Derived.Test.YtflpkdhmkgidiaaDoorEl
import Derived.Test.YtflpkdhmkgidiaaDoorSmall
namespace Go.Proofs.YtflpkdhmkgidiaaDoor
open Go.RowKit
attribute [local go_sem ↓] eq10
theorem EN.ev {W wr : World} {l : List PEv} {g n c i : Nat} {e : PEv} (h : EN W wr (.slice (some ⟨g, 0, none⟩) n c) l) (hi : l[i]? = some e) :
    wr.cell? ⟨g, i * 5, none⟩ = some (.int .i64 e.kind) ∧ wr.cell? ⟨g, i * 5 + 1, none⟩ = some (.int .i64 e.id.f) ∧ wr.cell? ⟨g, i * 5 + 2, none⟩ = some (.int .i64 e.id.n) ∧ wr.cell? ⟨g, i * 5 + 3, none⟩ = some (.int .i64 e.id.c) ∧ wr.cell? ⟨g, i * 5 + 4, none⟩ = some (.int .i64 e.who) := by
  have key : ∀ j, j < 5 → ((l.map erow).flatten)[i * 5 + j]? = (erow e)[j]? := fun j hj => by
    rw [flat_at _ (erow_len l) i j hj, List.getElem?_map, hi]; rfl
  exact ⟨h.cell (j := i * 5) (by rw [show i * 5 = i * 5 + 0 from rfl, key 0 (by decide)]; rfl), h.cell (by rw [key 1 (by decide)]; rfl), h.cell (by rw [key 2 (by decide)]; rfl), h.cell (by rw [key 3 (by decide)]; rfl), h.cell (by rw [key 4 (by decide)]; rfl)⟩
theorem x0_wld (w : World) : WldV w (wVal ⟨0, 0, 0, 0⟩ (.slice none 0 0) (.slice none 0 0)) ⟨[], [], ⟨0, 0, 0, 0⟩⟩ := ⟨_, _, rfl, ⟨none, 0, rfl, by simp, by simp, Or.inl rfl⟩, msgs_nil w⟩
theorem x0_en {p : PPrg} (h : fc p ≠ 0) (b : PBud) (x : PWld) : enabP p b x = [] := enabP_no (by unfold fitsP chkW; rw [decide_eq_false h]; simp)
set_option maxHeartbeats 16000000 in
set_option maxRecDepth 100000 in
theorem elist_big (W : World) (vp vm : Value) (p : PPrg) (bu : PBud) (ms : List PEv) (ht : Tab W) (hp : PrgV W vp p) (hm : Evs anyB W vm ms) (hs : ¬ Small p) : Calls Tryd.prog 7 #[vp, uVal bu, vm] W fun e w' => e = .returned (.bool true) ∧ Below W.heap.size W w' := by
  have HP := hid_mk hp
  have HT := hid_mk ht
  have HM := hid_mk hm
  obtain ⟨vh, vb, vc, rfl, h1, h2, h3⟩ := hp
  obtain ⟨A1, c1, rfl, _⟩ := h1.form
  obtain ⟨A2, c2, rfl, _⟩ := h2.form
  obtain ⟨A3, c3, rfl, _⟩ := h3.form
  obtain ⟨Am, cm, rfl, _⟩ := hm.form
  have hsm : small p = false := decide_eq_false hs
  clear hs
  clear h1 h2 h3 hm ht
  have HBA : Hid (∀ X Y, Below W.heap.size W ((W.alloc X).alloc Y)) := fun _ _ => bAlloc (bAlloc (bRefl _) _) _
  go_enter Tryd.func7, Tryd.ntmps7
  go_wp2_with (first
    | (go_at_call 20; refine (small_any _ _ p (HP.out.below (by exact HBA.out _ _))).mono ?_; rintro e w2 ⟨rfl, hb2⟩; have HB2 := hid_mk (bTrans (HBA.out _ _) hb2); clear hb2)
    | (go_at_call 22; refine (ewake_any _ (HT.out.below HB2.out)).mono ?_; rintro e w3 ⟨rfl, hb3⟩))
  go_ret
  exact ⟨rfl, bTrans HB2.out hb3⟩
set_option maxHeartbeats 16000000 in
set_option maxRecDepth 100000 in
theorem elist_long (W : World) (vp vm : Value) (p : PPrg) (bu : PBud) (ms : List PEv) (ht : Tab W) (hp : PrgV W vp p) (hm : Evs anyB W vm ms) (hs : Small p) (hl : 40 < ms.length) : Calls Tryd.prog 7 #[vp, uVal bu, vm] W fun e w' => e = .returned (.bool true) ∧ Below W.heap.size W w' := by
  have HP := hid_mk hp
  have HT := hid_mk ht
  have HM := hid_mk hm
  obtain ⟨vh, vb, vc, rfl, h1, h2, h3⟩ := hp
  obtain ⟨A1, c1, rfl, _⟩ := h1.form
  obtain ⟨A2, c2, rfl, _⟩ := h2.form
  obtain ⟨A3, c3, rfl, _⟩ := h3.form
  obtain ⟨Am, cm, rfl, _⟩ := hm.form
  have hsm : small p = true := decide_eq_true hs
  have hln : decide ((40 : Int) < (ms.length : Int)) = true := decide_eq_true (by omega)
  clear hs hl
  clear h1 h2 h3 hm ht
  have HBA : Hid (∀ X Y, Below W.heap.size W ((W.alloc X).alloc Y)) := fun _ _ => bAlloc (bAlloc (bRefl _) _) _
  go_enter Tryd.func7, Tryd.ntmps7
  go_wp2_with (first
    | (go_at_call 20; refine (small_any _ _ p (HP.out.below (by exact HBA.out _ _))).mono ?_; rintro e w2 ⟨rfl, hb2⟩; have HB2 := hid_mk (bTrans (HBA.out _ _) hb2); clear hb2)
    | (go_at_call 22; refine (ewake_any _ (HT.out.below HB2.out)).mono ?_; rintro e w3 ⟨rfl, hb3⟩))
  go_ret
  exact ⟨rfl, bTrans HB2.out hb3⟩
set_option maxHeartbeats 16000000 in
set_option maxRecDepth 100000 in
theorem elist_no (W : World) (vp vm : Value) (p : PPrg) (bu : PBud) (ms : List PEv) (ht : Tab W) (hp : PrgV W vp p) (hm : Evs anyB W vm ms) (hs : Small p) (hl : ms.length ≤ 40) (hf : fc p ≠ 0) : Calls Tryd.prog 7 #[vp, uVal bu, vm] W fun e w' => e = .returned (.bool true) ∧ Below W.heap.size W w' := by
  have HP := hid_mk hp
  have HT := hid_mk ht
  have HM := hid_mk hm
  obtain ⟨vh, vb, vc, rfl, h1, h2, h3⟩ := hp
  obtain ⟨A1, c1, rfl, _⟩ := h1.form
  obtain ⟨A2, c2, rfl, _⟩ := h2.form
  obtain ⟨A3, c3, rfl, _⟩ := h3.form
  obtain ⟨Am, cm, rfl, _⟩ := hm.form
  have hsm : small p = true := decide_eq_true hs
  have hln : decide ((40 : Int) < (ms.length : Int)) = false := decide_eq_false (by omega)
  have hfn := ne0_yes hf
  have HF := hid_mk hf
  clear hs hl hf
  clear h1 h2 h3 hm ht
  have HBA : Hid (∀ X Y, Below W.heap.size W ((W.alloc X).alloc Y)) := fun _ _ => bAlloc (bAlloc (bRefl _) _) _
  go_enter Tryd.func7, Tryd.ntmps7
  go_wp2_with fail
  have k0 : ((W.alloc (.cells #[.slice A1 p.hs.length c1, .slice A2 p.acs.length c2, .slice A3 p.bs.length c3, .int .i64 p.fuel] 27)).alloc (.cells #[.int .i64 bu.drop, .int .i64 bu.dup, .int .i64 bu.time, .int .i64 bu.crash] 32)).heap[W.heap.size]? = some (.cells #[.slice A1 p.hs.length c1, .slice A2 p.acs.length c2, .slice A3 p.bs.length c3, .int .i64 p.fuel] 27) := boxAt (heap_new W (.cells #[.slice A1 p.hs.length c1, .slice A2 p.acs.length c2, .slice A3 p.bs.length c3, .int .i64 p.fuel] 27)) (bAlloc (bRefl _) _)
  have k1 : ((W.alloc (.cells #[.slice A1 p.hs.length c1, .slice A2 p.acs.length c2, .slice A3 p.bs.length c3, .int .i64 p.fuel] 27)).alloc (.cells #[.int .i64 bu.drop, .int .i64 bu.dup, .int .i64 bu.time, .int .i64 bu.crash] 32)).heap[W.heap.size + 1]? = some (.cells #[.int .i64 bu.drop, .int .i64 bu.dup, .int .i64 bu.time, .int .i64 bu.crash] 32) := heap_new2 (by simp)
  have HL := hid_mk (HBA.out (.cells #[.slice A1 p.hs.length c1, .slice A2 p.acs.length c2, .slice A3 p.bs.length c3, .int .i64 p.fuel] 27) (.cells #[.int .i64 bu.drop, .int .i64 bu.dup, .int .i64 bu.time, .int .i64 bu.crash] 32))
  generalize ((W.alloc (.cells #[.slice A1 p.hs.length c1, .slice A2 p.acs.length c2, .slice A3 p.bs.length c3, .int .i64 p.fuel] 27)).alloc (.cells #[.int .i64 bu.drop, .int .i64 bu.dup, .int .i64 bu.time, .int .i64 bu.crash] 32)) = w1 at k0 k1 HL ⊢
  refine (small_any _ _ p (HP.out.below HL.out)).mono ?_
  rintro e w2 ⟨rfl, hb2⟩
  replace k0 := boxAt k0 hb2
  replace k1 := boxAt k1 hb2
  have HL2 := hid_mk (bTrans HL.out hb2)
  clear hb2 HBA HL
  obtain ⟨p0, p1, p2, p3⟩ := blk4 k0
  go_wp2_with fail
  refine (start_no _ _ p (HT.out.below HL2.out) (HP.out.below HL2.out) HF.out).mono ?_
  rintro e w3 ⟨rfl, hb3⟩
  replace k0 := boxAt k0 hb3
  replace k1 := boxAt k1 hb3
  have HL3 := hid_mk (bTrans HL2.out hb3)
  clear hb3 p0 p1 p2 p3
  have r0 := fun X => boxAt k0 (bAlloc (bRefl _) X)
  have r1 := fun X => boxAt k1 (bAlloc (bRefl _) X)
  have q0 := fun X => (blk4 (r0 X)).1
  have q1 := fun X => (blk4 (r0 X)).2.1
  have q2 := fun X => (blk4 (r0 X)).2.2.1
  have q3 := fun X => (blk4 (r0 X)).2.2.2
  have s0 := fun X => (blk4 (r1 X)).1
  have s1 := fun X => (blk4 (r1 X)).2.1
  have s2 := fun X => (blk4 (r1 X)).2.2.1
  have s3 := fun X => (blk4 (r1 X)).2.2.2
  have HL4 : Hid (∀ X, Below W.heap.size W (w3.alloc X)) := fun X => bAlloc HL3.out X
  clear k0 k1 r0 r1
  go_wp2_with (first
    | (go_at_call 26; refine (enab_any _ _ _ p bu ⟨[], [], ⟨0, 0, 0, 0⟩⟩ (HT.out.below (by exact HL4.out _)) (HP.out.below (by exact HL4.out _)) (x0_wld _) (by decide) (by decide)).mono ?_; rintro e w5 ⟨v5, rfl, hen⟩; rw [x0_en HF.out] at hen; obtain ⟨A5, c5, rfl⟩ := hen.form; have HB5 := hid_mk (bTrans (HL4.out _) hen.low); clear hen)
    | (go_at_call 22; refine (ewake_any _ (HT.out.below HB5.out)).mono ?_; rintro e w6 ⟨rfl, hb6⟩))
  go_ret
  exact ⟨rfl, bTrans HB5.out hb6⟩
set_option maxHeartbeats 16000000 in
set_option maxRecDepth 100000 in
theorem elist_yes (W : World) (vp vm : Value) (p : PPrg) (bu : PBud) (ms : List PEv) (ht : Tab W) (hp : PrgV W vp p) (hm : Evs anyB W vm ms) (hs : Small p) (hr : RgP p) (hl : ms.length ≤ 40) (hf : fc p = 0) : Calls Tryd.prog 7 #[vp, uVal bu, vm] W fun e w' => e = .returned (.bool true) ∧ Below W.heap.size W w' := by
  have HP := hid_mk hp
  have HT := hid_mk ht
  have HM := hid_mk hm
  obtain ⟨vh, vb, vc, rfl, h1, h2, h3⟩ := hp
  obtain ⟨A1, c1, rfl, _⟩ := h1.form
  obtain ⟨A2, c2, rfl, _⟩ := h2.form
  obtain ⟨A3, c3, rfl, _⟩ := h3.form
  obtain ⟨Am, cm, rfl, _⟩ := hm.form
  have hsm : small p = true := decide_eq_true hs
  have hln : decide ((40 : Int) < (ms.length : Int)) = false := decide_eq_false (by omega)
  have HLM := hid_mk hl
  have HF := hid_mk hf
  have HS := hid_mk hs
  have HSX := hid_mk (start_ok hf hr hs).2
  have HU0 := hid_mk (start_inv (chk_parts (fc_chk hf))).used
  clear hs hl hf hr
  clear h1 h2 h3 hm ht
  have HBA : Hid (∀ X Y, Below W.heap.size W ((W.alloc X).alloc Y)) := fun _ _ => bAlloc (bAlloc (bRefl _) _) _
  go_enter Tryd.func7, Tryd.ntmps7
  go_wp2_with fail
  have k0 : ((W.alloc (.cells #[.slice A1 p.hs.length c1, .slice A2 p.acs.length c2, .slice A3 p.bs.length c3, .int .i64 p.fuel] 27)).alloc (.cells #[.int .i64 bu.drop, .int .i64 bu.dup, .int .i64 bu.time, .int .i64 bu.crash] 32)).heap[W.heap.size]? = some (.cells #[.slice A1 p.hs.length c1, .slice A2 p.acs.length c2, .slice A3 p.bs.length c3, .int .i64 p.fuel] 27) := boxAt (heap_new W (.cells #[.slice A1 p.hs.length c1, .slice A2 p.acs.length c2, .slice A3 p.bs.length c3, .int .i64 p.fuel] 27)) (bAlloc (bRefl _) _)
  have k1 : ((W.alloc (.cells #[.slice A1 p.hs.length c1, .slice A2 p.acs.length c2, .slice A3 p.bs.length c3, .int .i64 p.fuel] 27)).alloc (.cells #[.int .i64 bu.drop, .int .i64 bu.dup, .int .i64 bu.time, .int .i64 bu.crash] 32)).heap[W.heap.size + 1]? = some (.cells #[.int .i64 bu.drop, .int .i64 bu.dup, .int .i64 bu.time, .int .i64 bu.crash] 32) := heap_new2 (by simp)
  have HL := hid_mk (HBA.out (.cells #[.slice A1 p.hs.length c1, .slice A2 p.acs.length c2, .slice A3 p.bs.length c3, .int .i64 p.fuel] 27) (.cells #[.int .i64 bu.drop, .int .i64 bu.dup, .int .i64 bu.time, .int .i64 bu.crash] 32))
  generalize ((W.alloc (.cells #[.slice A1 p.hs.length c1, .slice A2 p.acs.length c2, .slice A3 p.bs.length c3, .int .i64 p.fuel] 27)).alloc (.cells #[.int .i64 bu.drop, .int .i64 bu.dup, .int .i64 bu.time, .int .i64 bu.crash] 32)) = w1 at k0 k1 HL ⊢
  refine (small_any _ _ p (HP.out.below HL.out)).mono ?_
  rintro e w2 ⟨rfl, hb2⟩
  replace k0 := boxAt k0 hb2
  replace k1 := boxAt k1 hb2
  have HL2 := hid_mk (bTrans HL.out hb2)
  clear hb2 HBA HL
  obtain ⟨p0, p1, p2, p3⟩ := blk4 k0
  go_wp2_with fail
  refine (start_yes _ _ p (HT.out.below HL2.out) (HP.out.below HL2.out) HS.out HF.out).mono ?_
  generalize startP p = X at HSX HU0 ⊢
  rintro e w3 ⟨aw, mw, lo, hi, rfl, hwn, hb3⟩
  rw [HU0.out]
  obtain ⟨Aw, cw, rfl⟩ := hwn.acts.form
  obtain ⟨Bw, dw, rfl, _⟩ := hwn.mail.form
  replace k0 := boxAt k0 hb3
  replace k1 := boxAt k1 hb3
  have HL3 := hid_mk (bTrans HL2.out hb3)
  have HX3 := hid_mk (wldU HU0.out (hwn.wld HSX.out))
  clear hb3 p0 p1 p2 p3 hwn
  have r0 := fun X => boxAt k0 (bAlloc (bRefl _) X)
  have r1 := fun X => boxAt k1 (bAlloc (bRefl _) X)
  have q0 := fun X => (blk4 (r0 X)).1
  have q1 := fun X => (blk4 (r0 X)).2.1
  have q2 := fun X => (blk4 (r0 X)).2.2.1
  have q3 := fun X => (blk4 (r0 X)).2.2.2
  have s0 := fun X => (blk4 (r1 X)).1
  have s1 := fun X => (blk4 (r1 X)).2.1
  have s2 := fun X => (blk4 (r1 X)).2.2.1
  have s3 := fun X => (blk4 (r1 X)).2.2.2
  clear r0 r1
  go_wp2_with fail
  have hb4 : Below w3.heap.size w3 (w3.alloc (.cells #[.slice Aw X.acts.length cw, .slice Bw X.mail.length dw, .int .i64 0, .int .i64 0, .int .i64 0, .int .i64 0] 34)) := bAlloc (bRefl _) _
  have k2 := heap_new w3 (.cells #[.slice Aw X.acts.length cw, .slice Bw X.mail.length dw, .int .i64 0, .int .i64 0, .int .i64 0, .int .i64 0] 34)
  replace k0 := boxAt k0 hb4
  replace k1 := boxAt k1 hb4
  have HL4 := hid_mk (bTrans HL3.out hb4)
  have hx4 := HX3.out.below hb4
  clear q0 q1 q2 q3 s0 s1 s2 s3 HX3
  generalize (w3.alloc (.cells #[.slice Aw X.acts.length cw, .slice Bw X.mail.length dw, .int .i64 0, .int .i64 0, .int .i64 0, .int .i64 0] 34)) = w4 at k0 k1 k2 HL4 hx4 ⊢
  clear hb4
  refine (enab_any _ _ _ p bu X (HT.out.below HL4.out) (HP.out.below HL4.out) hx4 (by have := HSX.out.mail; omega) (by have := HSX.out.n; omega)).mono ?_
  rintro e w5 ⟨v5, rfl, hen⟩
  have HDEC : Hid (∀ e, isP p bu X e = decide (e ∈ enabP p bu X)) := isP_dec p bu X
  have HPW := hid_mk (enab_pw p bu X)
  have HLE : Hid (mayB bu = false → (enabP p bu X).length = 0) := fun h => by rw [enab_may h]; rfl
  have hLB : (enabP p bu X).length ≤ 6000 := by
    cases hf' : fitsP p bu X with
    | false => rw [enabP_no hf']; simp
    | true =>
      rw [enabP_yes hf']
      have h1 := enQ_len (leftB bu X.used) X 2
      have h2 := HSX.out.mail
      have h3 := HSX.out.n
      omega
  generalize enabP p bu X = L at *
  obtain ⟨A6, c6, rfl⟩ := hen.form
  have HB5 := hid_mk (bTrans HL4.out hen.low)
  have HT5 := hid_mk (HT.out.below HB5.out)
  have HP5 := hid_mk (HP.out.below HB5.out)
  have HX5 := hid_mk (hx4.below hen.low)
  have HMS := hid_mk (HM.out.below HB5.out)
  have HK0 := hid_mk (boxAt k0 hen.low)
  have HK1 := hid_mk (boxAt k1 hen.low)
  have HK2 := hid_mk (boxAt k2 hen.low)
  have HEN := hid_mk hen
  have hmsb : ms.length ≤ 40 := HLM.out
  have HSA : Hid (∀ w', Below w5.heap.size w5 w' → w'.cell? ⟨W.heap.size, 0, none⟩ = some (.slice A1 p.hs.length c1) ∧ w'.cell? ⟨W.heap.size, 1, none⟩ = some (.slice A2 p.acs.length c2) ∧ w'.cell? ⟨W.heap.size, 2, none⟩ = some (.slice A3 p.bs.length c3) ∧ w'.cell? ⟨W.heap.size, 3, none⟩ = some (.int .i64 p.fuel) ∧ w'.cell? ⟨W.heap.size + 1, 0, none⟩ = some (.int .i64 bu.drop) ∧ w'.cell? ⟨W.heap.size + 1, 1, none⟩ = some (.int .i64 bu.dup) ∧ w'.cell? ⟨W.heap.size + 1, 2, none⟩ = some (.int .i64 bu.time) ∧ w'.cell? ⟨W.heap.size + 1, 3, none⟩ = some (.int .i64 bu.crash) ∧ w'.cell? ⟨w3.heap.size, 0, none⟩ = some (.slice Aw X.acts.length cw) ∧ w'.cell? ⟨w3.heap.size, 1, none⟩ = some (.slice Bw X.mail.length dw) ∧ w'.cell? ⟨w3.heap.size, 2, none⟩ = some (.int .i64 0) ∧ w'.cell? ⟨w3.heap.size, 3, none⟩ = some (.int .i64 0) ∧ w'.cell? ⟨w3.heap.size, 4, none⟩ = some (.int .i64 0) ∧ w'.cell? ⟨w3.heap.size, 5, none⟩ = some (.int .i64 0)) := fun w' hb => by
    obtain ⟨a0, a1, a2, a3⟩ := blk4 (boxAt HK0.out hb)
    obtain ⟨b0, b1, b2, b3⟩ := blk4 (boxAt HK1.out hb)
    obtain ⟨d0, d1, d2, d3, d4, d5⟩ := blk6 (boxAt HK2.out hb)
    exact ⟨a0, a1, a2, a3, b0, b1, b2, b3, d0, d1, d2, d3, d4, d5⟩
  clear k0 k1 k2 hx4 hen
  go_wp2
  go_loopg [10] L.length (fun g i10 wr => ∃ i : Nat, g = L.length - i ∧ i ≤ L.length ∧ i10 = .int .i64 (i : Int) ∧ Below w5.heap.size w5 wr)
  case atStart => exact ⟨0, rfl, by omega, rfl, bRefl _⟩
  case round =>
    obtain ⟨i, rfl, hi, rfl, hbw⟩ := hrel
    by_cases hlt : i < L.length
    · obtain ⟨ev, he⟩ := at_lt hlt
      obtain ⟨g6, c6', he6, _, hg6⟩ := HEN.out.blk (by omega)
      cases he6
      have hltI : (i : Int) < L.length := by omega
      have HHR : isP p bu X ⟨ev.kind, ⟨ev.id.f, ev.id.n, ev.id.c⟩, ev.who⟩ = true := by rw [HDEC.out]; exact decide_eq_true (List.mem_of_getElem? he)
      have hbb : Below wr.heap.size wr wr := bRefl _
      have HE := hid_mk he
      clear he
      by_cases h0 : i = 0
      · subst h0
        have hgt : decide ((0 : Int) < ((0 : Nat) : Int)) = false := by decide
        have HS1 : Hid (∀ w', Below wr.heap.size wr w' → w'.cell? ⟨W.heap.size, 0, none⟩ = some (.slice A1 p.hs.length c1) ∧ w'.cell? ⟨W.heap.size, 1, none⟩ = some (.slice A2 p.acs.length c2) ∧ w'.cell? ⟨W.heap.size, 2, none⟩ = some (.slice A3 p.bs.length c3) ∧ w'.cell? ⟨W.heap.size, 3, none⟩ = some (.int .i64 p.fuel) ∧ w'.cell? ⟨W.heap.size + 1, 0, none⟩ = some (.int .i64 bu.drop) ∧ w'.cell? ⟨W.heap.size + 1, 1, none⟩ = some (.int .i64 bu.dup) ∧ w'.cell? ⟨W.heap.size + 1, 2, none⟩ = some (.int .i64 bu.time) ∧ w'.cell? ⟨W.heap.size + 1, 3, none⟩ = some (.int .i64 bu.crash) ∧ w'.cell? ⟨w3.heap.size, 0, none⟩ = some (.slice Aw X.acts.length cw) ∧ w'.cell? ⟨w3.heap.size, 1, none⟩ = some (.slice Bw X.mail.length dw) ∧ w'.cell? ⟨w3.heap.size, 2, none⟩ = some (.int .i64 0) ∧ w'.cell? ⟨w3.heap.size, 3, none⟩ = some (.int .i64 0) ∧ w'.cell? ⟨w3.heap.size, 4, none⟩ = some (.int .i64 0) ∧ w'.cell? ⟨w3.heap.size, 5, none⟩ = some (.int .i64 0) ∧ w'.cell? ⟨g6, 0, none⟩ = some (.int .i64 ev.kind) ∧ w'.cell? ⟨g6, 1, none⟩ = some (.int .i64 ev.id.f) ∧ w'.cell? ⟨g6, 2, none⟩ = some (.int .i64 ev.id.n) ∧ w'.cell? ⟨g6, 3, none⟩ = some (.int .i64 ev.id.c) ∧ w'.cell? ⟨g6, 4, none⟩ = some (.int .i64 ev.who)) := fun w' hb => by
          obtain ⟨a0, a1, a2, a3, a4, a5, a6, a7, a8, a9, aa, ab, ac, ad⟩ := HSA.out w' (bTrans hbw hb)
          obtain ⟨e0, e1, e2, e3, e4⟩ := (HEN.out.below (bTrans hbw hb)).ev HE.out
          rw [Nat.zero_mul] at e0 e1 e2 e3 e4
          exact ⟨a0, a1, a2, a3, a4, a5, a6, a7, a8, a9, aa, ab, ac, ad, e0, e1, e2, e3, e4⟩
        obtain ⟨y0, y1, y2, y3, y4, y5, y6, y7, y8, y9, ya, yb, yc, yd, e0, e1, e2, e3, e4⟩ := HS1.out wr hbb
        go_wp2_with fail
        refine wp_region_held_drew (S := fun w' => w'.cell? ⟨W.heap.size, 0, none⟩ = some (.slice A1 p.hs.length c1) ∧ w'.cell? ⟨W.heap.size, 1, none⟩ = some (.slice A2 p.acs.length c2) ∧ w'.cell? ⟨W.heap.size, 2, none⟩ = some (.slice A3 p.bs.length c3) ∧ w'.cell? ⟨W.heap.size, 3, none⟩ = some (.int .i64 p.fuel) ∧ w'.cell? ⟨W.heap.size + 1, 0, none⟩ = some (.int .i64 bu.drop) ∧ w'.cell? ⟨W.heap.size + 1, 1, none⟩ = some (.int .i64 bu.dup) ∧ w'.cell? ⟨W.heap.size + 1, 2, none⟩ = some (.int .i64 bu.time) ∧ w'.cell? ⟨W.heap.size + 1, 3, none⟩ = some (.int .i64 bu.crash) ∧ w'.cell? ⟨w3.heap.size, 0, none⟩ = some (.slice Aw X.acts.length cw) ∧ w'.cell? ⟨w3.heap.size, 1, none⟩ = some (.slice Bw X.mail.length dw) ∧ w'.cell? ⟨w3.heap.size, 2, none⟩ = some (.int .i64 0) ∧ w'.cell? ⟨w3.heap.size, 3, none⟩ = some (.int .i64 0) ∧ w'.cell? ⟨w3.heap.size, 4, none⟩ = some (.int .i64 0) ∧ w'.cell? ⟨w3.heap.size, 5, none⟩ = some (.int .i64 0) ∧ w'.cell? ⟨g6, 0, none⟩ = some (.int .i64 ev.kind) ∧ w'.cell? ⟨g6, 1, none⟩ = some (.int .i64 ev.id.f) ∧ w'.cell? ⟨g6, 2, none⟩ = some (.int .i64 ev.id.n) ∧ w'.cell? ⟨g6, 3, none⟩ = some (.int .i64 ev.id.c) ∧ w'.cell? ⟨g6, 4, none⟩ = some (.int .i64 ev.who)) (by kernel_rfl) ?_ (fun hHeld => ?_)
        · exact HS1.out _ (by first | exact hbb | exact hbb.drew)
        refine wpAnyH_take (i := 0) (oi := { dst := some 49, op := Go.Op.load 27 (Go.Operand.tmp 3), type := 27, pos := "law.go:51", after := #[], guard := none }) (v := ?_) rfl (by kernel_rfl) (by kernel_rfl) (by kernel_rfl) (fun _ _ _ h => h) (Or.inl ⟨by rfl, ?_⟩) (by assumption) ?_
        rotate_left
        · intro w hSw
          try dsimp only at hSw
          go_simp
          try with_reducible rfl
        try simp only [Act.put, List.setIfInBounds_toArray, List.set_cons_zero, List.set_cons_succ]
        refine wpAnyH_take (i := 1) (oi := { dst := some 50, op := Go.Op.load 32 (Go.Operand.tmp 4), type := 32, pos := "law.go:51", after := #[], guard := none }) (v := ?_) rfl (by kernel_rfl) (by kernel_rfl) (by kernel_rfl) (fun _ _ _ h => h) (Or.inl ⟨by rfl, ?_⟩) (by assumption) ?_
        rotate_left
        · intro w hSw
          try dsimp only at hSw
          go_simp
          try with_reducible rfl
        try simp only [Act.put, List.setIfInBounds_toArray, List.set_cons_zero, List.set_cons_succ]
        refine wpAnyH_take (i := 2) (oi := { dst := some 51, op := Go.Op.load 34 (Go.Operand.tmp 7), type := 34, pos := "law.go:51", after := #[], guard := none }) (v := ?_) rfl (by kernel_rfl) (by kernel_rfl) (by kernel_rfl) (fun _ _ _ h => h) (Or.inl ⟨by rfl, ?_⟩) (by assumption) ?_
        rotate_left
        · intro w hSw
          try dsimp only at hSw
          go_simp
          try with_reducible rfl
        try simp only [Act.put, List.setIfInBounds_toArray, List.set_cons_zero, List.set_cons_succ]
        refine wpAnyH_take (i := 3) (oi := { dst := some 52, op := Go.Op.move (Go.Operand.tmp 9), type := 61, pos := "law.go:51", after := #[], guard := none }) (v := ?_) rfl (by kernel_rfl) (by kernel_rfl) (by kernel_rfl) (fun _ _ _ h => h) (Or.inl ⟨by rfl, ?_⟩) (by assumption) ?_
        rotate_left
        · intro w hSw
          try dsimp only at hSw
          go_simp
          try with_reducible rfl
        try simp only [Act.put, List.setIfInBounds_toArray, List.set_cons_zero, List.set_cons_succ]
        refine wpAnyH_take (i := 4) (oi := { dst := some 53, op := Go.Op.move (Go.Operand.tmp 10), type := 3, pos := "law.go:51", after := #[], guard := none }) (v := ?_) rfl (by kernel_rfl) (by kernel_rfl) (by kernel_rfl) (fun _ _ _ h => h) (Or.inl ⟨by rfl, ?_⟩) (by assumption) ?_
        rotate_left
        · intro w hSw
          try dsimp only at hSw
          go_simp
          try with_reducible rfl
        try simp only [Act.put, List.setIfInBounds_toArray, List.set_cons_zero, List.set_cons_succ]
        refine wpAnyH_take (i := 5) (oi := { dst := some 54, op := Go.Op.indexAddr 61 (Go.Operand.tmp 52) (Go.Operand.tmp 53), type := 0, pos := "law.go:51", after := #[{ on := 3, ground := Go.Ground.data }, { on := 4, ground := Go.Ground.data }], guard := none }) (v := ?_) rfl (by kernel_rfl) (by kernel_rfl) (by kernel_rfl) (fun _ _ _ h => h) (Or.inl ⟨by rfl, ?_⟩) (by assumption) ?_
        rotate_left
        · intro w hSw
          try dsimp only at hSw
          go_simp
          try with_reducible rfl
        try simp only [Act.put, List.setIfInBounds_toArray, List.set_cons_zero, List.set_cons_succ]
        refine wpAnyH_take (i := 6) (oi := { dst := some 55, op := Go.Op.load 56 (Go.Operand.tmp 54), type := 56, pos := "law.go:51", after := #[{ on := 5, ground := Go.Ground.data }], guard := none }) (v := ?_) rfl (by kernel_rfl) (by kernel_rfl) (by kernel_rfl) (fun _ _ _ h => h) (Or.inl ⟨by rfl, ?_⟩) (by assumption) ?_
        rotate_left
        · intro w hSw
          try dsimp only at hSw
          go_simp
          try with_reducible rfl
        try simp only [Act.put, List.setIfInBounds_toArray, List.set_cons_zero, List.set_cons_succ]
        refine wpAnyH_ready (rs := [7]) (by kernel_rfl) (by simp) ?_
        refine AllReadyH.cons (o := { dst := some 56, op := Go.Op.call { callee := Go.Callee.value (Go.Operand.func 23), args := #[Go.Operand.tmp 49, Go.Operand.tmp 50, Go.Operand.tmp 51, Go.Operand.tmp 55], argTypes := #[27, 32, 34, 56] }, type := 4, pos := "law.go:51", after := #[{ on := 0, ground := Go.Ground.data }, { on := 1, ground := Go.Ground.data }, { on := 2, ground := Go.Ground.data }, { on := 6, ground := Go.Ground.data }], guard := none }) rfl (fun K hK => ?_) AllReadyH.nil
        go_simp
        (go_at_call 23; refine (is_5 _ _ _ p bu X _ _ _ _ _ (HT5.out.below (bTrans hbw (by first | exact hbb | exact hbb.drew))) (HP5.out.below (bTrans hbw (by first | exact hbb | exact hbb.drew))) (HX5.out.below (bTrans hbw (by first | exact hbb | exact hbb.drew)))).mono ?_; rintro e w7 ⟨rfl, hb7⟩; replace hbb := bTrans (by first | exact hbb | exact hbb.drew) hb7; clear hb7)
        try (go_wp2_with fail)
        refine hK.out _ _ ?_ (fun hHeld => ?_)
        · exact HS1.out _ (by first | exact hbb | exact hbb.drew)
        clear hK K
        try simp only [Act.put, List.setIfInBounds_toArray, List.set_cons_zero, List.set_cons_succ]
        refine wpAnyH_take (i := 8) (oi := { dst := some 57, op := Go.Op.unOp Go.UnOp.not 4 (Go.Operand.tmp 56), type := 4, pos := "law.go:51", after := #[{ on := 7, ground := Go.Ground.data }], guard := none }) (v := ?_) rfl (by kernel_rfl) (by kernel_rfl) (by kernel_rfl) (fun _ _ _ h => h) (Or.inl ⟨by rfl, ?_⟩) (by assumption) ?_
        rotate_left
        · intro w hSw
          try dsimp only at hSw
          go_simp
          try with_reducible rfl
        try simp only [Act.put, List.setIfInBounds_toArray, List.set_cons_zero, List.set_cons_succ]
        refine wpAnyH_take (i := 9) (oi := { dst := some 58, op := Go.Op.move (Go.Operand.tmp 57), type := 4, pos := "law.go:51", after := #[{ on := 8, ground := Go.Ground.data }, { on := 7, ground := Go.Ground.chain }], guard := none }) (v := ?_) rfl (by kernel_rfl) (by kernel_rfl) (by kernel_rfl) (fun _ _ _ h => h) (Or.inl ⟨by rfl, ?_⟩) (by assumption) ?_
        rotate_left
        · intro w hSw
          try dsimp only at hSw
          go_simp
          try with_reducible rfl
        try simp only [Act.put, List.setIfInBounds_toArray, List.set_cons_zero, List.set_cons_succ]
        refine wpAnyH_take (i := 10) (oi := { dst := some 59, op := Go.Op.move (Go.Operand.tmp 10), type := 3, pos := "law.go:51", after := #[{ on := 9, ground := Go.Ground.guard }], guard := some (9, false) }) (v := ?_) rfl (by kernel_rfl) (by kernel_rfl) (by kernel_rfl) (fun _ _ _ h => h) (Or.inl ⟨by rfl, ?_⟩) (by assumption) ?_
        rotate_left
        · intro w hSw
          try dsimp only at hSw
          go_simp
          try with_reducible rfl
        try simp only [Act.put, List.setIfInBounds_toArray, List.set_cons_zero, List.set_cons_succ]
        refine wpAnyH_take (i := 11) (oi := { dst := some 60, op := Go.Op.binOp Go.BinOp.gtr 3 (Go.Operand.tmp 59) (Go.Operand.const (Go.Value.int Go.IntKind.i64 0)) 3, type := 4, pos := "law.go:51", after := #[{ on := 10, ground := Go.Ground.data }, { on := 9, ground := Go.Ground.guard }], guard := some (9, false) }) (v := ?_) rfl (by kernel_rfl) (by kernel_rfl) (by kernel_rfl) (fun _ _ _ h => h) (Or.inl ⟨by rfl, ?_⟩) (by assumption) ?_
        rotate_left
        · intro w hSw
          try dsimp only at hSw
          go_simp
          try with_reducible rfl
        try simp only [Act.put, List.setIfInBounds_toArray, List.set_cons_zero, List.set_cons_succ]
        refine wpAnyH_take (i := 12) (oi := { dst := some 61, op := Go.Op.move (Go.Operand.tmp 60), type := 4, pos := "law.go:51", after := #[{ on := 11, ground := Go.Ground.data }, { on := 9, ground := Go.Ground.chain }, { on := 9, ground := Go.Ground.guard }], guard := some (9, false) }) (v := ?_) rfl (by kernel_rfl) (by kernel_rfl) (by kernel_rfl) (fun _ _ _ h => h) (Or.inl ⟨by rfl, ?_⟩) (by assumption) ?_
        rotate_left
        · intro w hSw
          try dsimp only at hSw
          go_simp
          try with_reducible rfl
        try simp only [Act.put, List.setIfInBounds_toArray, List.set_cons_zero, List.set_cons_succ]
        refine wpAnyH_take (i := 13) (oi := { dst := some 62, op := Go.Op.move (Go.Operand.tmp 9), type := 61, pos := "law.go:51", after := #[{ on := 12, ground := Go.Ground.guard }], guard := some (12, true) }) (v := undef) rfl (by kernel_rfl) (by kernel_rfl) (by kernel_rfl) (fun _ _ _ h => h) (Or.inr ⟨by rfl, rfl⟩) (by assumption) ?_
        try simp only [Act.put, List.setIfInBounds_toArray, List.set_cons_zero, List.set_cons_succ]
        refine wpAnyH_take (i := 14) (oi := { dst := some 63, op := Go.Op.move (Go.Operand.tmp 10), type := 3, pos := "law.go:51", after := #[{ on := 12, ground := Go.Ground.guard }], guard := some (12, true) }) (v := undef) rfl (by kernel_rfl) (by kernel_rfl) (by kernel_rfl) (fun _ _ _ h => h) (Or.inr ⟨by rfl, rfl⟩) (by assumption) ?_
        try simp only [Act.put, List.setIfInBounds_toArray, List.set_cons_zero, List.set_cons_succ]
        refine wpAnyH_take (i := 15) (oi := { dst := some 64, op := Go.Op.binOp Go.BinOp.sub 3 (Go.Operand.tmp 63) (Go.Operand.const (Go.Value.int Go.IntKind.i64 1)) 3, type := 3, pos := "law.go:51", after := #[{ on := 14, ground := Go.Ground.data }, { on := 12, ground := Go.Ground.guard }], guard := some (12, true) }) (v := undef) rfl (by kernel_rfl) (by kernel_rfl) (by kernel_rfl) (fun _ _ _ h => h) (Or.inr ⟨by rfl, rfl⟩) (by assumption) ?_
        try simp only [Act.put, List.setIfInBounds_toArray, List.set_cons_zero, List.set_cons_succ]
        refine wpAnyH_take (i := 16) (oi := { dst := some 65, op := Go.Op.indexAddr 61 (Go.Operand.tmp 62) (Go.Operand.tmp 64), type := 0, pos := "law.go:51", after := #[{ on := 13, ground := Go.Ground.data }, { on := 15, ground := Go.Ground.data }, { on := 12, ground := Go.Ground.guard }], guard := some (12, true) }) (v := undef) rfl (by kernel_rfl) (by kernel_rfl) (by kernel_rfl) (fun _ _ _ h => h) (Or.inr ⟨by rfl, rfl⟩) (by assumption) ?_
        try simp only [Act.put, List.setIfInBounds_toArray, List.set_cons_zero, List.set_cons_succ]
        refine wpAnyH_take (i := 17) (oi := { dst := some 66, op := Go.Op.load 56 (Go.Operand.tmp 65), type := 56, pos := "law.go:51", after := #[{ on := 16, ground := Go.Ground.data }, { on := 12, ground := Go.Ground.guard }], guard := some (12, true) }) (v := undef) rfl (by kernel_rfl) (by kernel_rfl) (by kernel_rfl) (fun _ _ _ h => h) (Or.inr ⟨by rfl, rfl⟩) (by assumption) ?_
        try simp only [Act.put, List.setIfInBounds_toArray, List.set_cons_zero, List.set_cons_succ]
        refine wpAnyH_take (i := 18) (oi := { dst := some 67, op := Go.Op.move (Go.Operand.tmp 9), type := 61, pos := "law.go:51", after := #[{ on := 12, ground := Go.Ground.guard }], guard := some (12, true) }) (v := undef) rfl (by kernel_rfl) (by kernel_rfl) (by kernel_rfl) (fun _ _ _ h => h) (Or.inr ⟨by rfl, rfl⟩) (by assumption) ?_
        try simp only [Act.put, List.setIfInBounds_toArray, List.set_cons_zero, List.set_cons_succ]
        refine wpAnyH_take (i := 19) (oi := { dst := some 68, op := Go.Op.move (Go.Operand.tmp 10), type := 3, pos := "law.go:51", after := #[{ on := 12, ground := Go.Ground.guard }], guard := some (12, true) }) (v := undef) rfl (by kernel_rfl) (by kernel_rfl) (by kernel_rfl) (fun _ _ _ h => h) (Or.inr ⟨by rfl, rfl⟩) (by assumption) ?_
        try simp only [Act.put, List.setIfInBounds_toArray, List.set_cons_zero, List.set_cons_succ]
        refine wpAnyH_take (i := 20) (oi := { dst := some 69, op := Go.Op.indexAddr 61 (Go.Operand.tmp 67) (Go.Operand.tmp 68), type := 0, pos := "law.go:51", after := #[{ on := 18, ground := Go.Ground.data }, { on := 19, ground := Go.Ground.data }, { on := 12, ground := Go.Ground.guard }], guard := some (12, true) }) (v := undef) rfl (by kernel_rfl) (by kernel_rfl) (by kernel_rfl) (fun _ _ _ h => h) (Or.inr ⟨by rfl, rfl⟩) (by assumption) ?_
        try simp only [Act.put, List.setIfInBounds_toArray, List.set_cons_zero, List.set_cons_succ]
        refine wpAnyH_take (i := 21) (oi := { dst := some 70, op := Go.Op.load 56 (Go.Operand.tmp 69), type := 56, pos := "law.go:51", after := #[{ on := 20, ground := Go.Ground.data }, { on := 12, ground := Go.Ground.guard }], guard := some (12, true) }) (v := undef) rfl (by kernel_rfl) (by kernel_rfl) (by kernel_rfl) (fun _ _ _ h => h) (Or.inr ⟨by rfl, rfl⟩) (by assumption) ?_
        try simp only [Act.put, List.setIfInBounds_toArray, List.set_cons_zero, List.set_cons_succ]
        refine wpAnyH_ready (rs := [22]) (by kernel_rfl) (by simp) ?_
        refine AllReadyH.cons (o := { dst := some 71, op := Go.Op.call { callee := Go.Callee.value (Go.Operand.func 32), args := #[Go.Operand.tmp 66, Go.Operand.tmp 70], argTypes := #[56, 56] }, type := 4, pos := "law.go:51", after := #[{ on := 17, ground := Go.Ground.data }, { on := 21, ground := Go.Ground.data }, { on := 12, ground := Go.Ground.chain }, { on := 12, ground := Go.Ground.guard }], guard := some (12, true) }) rfl (fun K hK => ?_) AllReadyH.nil
        go_simp
        refine hK.out _ _ ?_ (fun hHeld => ?_)
        · exact HS1.out _ (by first | exact hbb | exact hbb.drew)
        clear hK K
        try simp only [Act.put, List.setIfInBounds_toArray, List.set_cons_zero, List.set_cons_succ]
        refine wpAnyH_take (i := 23) (oi := { dst := some 72, op := Go.Op.unOp Go.UnOp.not 4 (Go.Operand.tmp 71), type := 4, pos := "law.go:51", after := #[{ on := 22, ground := Go.Ground.data }, { on := 12, ground := Go.Ground.guard }], guard := some (12, true) }) (v := undef) rfl (by kernel_rfl) (by kernel_rfl) (by kernel_rfl) (fun _ _ _ h => h) (Or.inr ⟨by rfl, rfl⟩) (by assumption) ?_
        try simp only [Act.put, List.setIfInBounds_toArray, List.set_cons_zero, List.set_cons_succ]
        refine wpAnyH_take (i := 24) (oi := { dst := some 73, op := Go.Op.pick (Go.Operand.tmp 61) (Go.Operand.tmp 72) (Go.Operand.const (Go.Value.bool false)), type := 4, pos := "law.go:51", after := #[{ on := 12, ground := Go.Ground.data }, { on := 23, ground := Go.Ground.data }, { on := 9, ground := Go.Ground.guard }], guard := some (9, false) }) (v := ?_) rfl (by kernel_rfl) (by kernel_rfl) (by kernel_rfl) (fun _ _ _ h => h) (Or.inl ⟨by rfl, ?_⟩) (by assumption) ?_
        rotate_left
        · intro w hSw
          try dsimp only at hSw
          go_simp
          try with_reducible rfl
        try simp only [Act.put, List.setIfInBounds_toArray, List.set_cons_zero, List.set_cons_succ]
        refine wpAnyH_take (i := 25) (oi := { dst := some 74, op := Go.Op.pick (Go.Operand.tmp 58) (Go.Operand.const (Go.Value.bool true)) (Go.Operand.tmp 73), type := 4, pos := "law.go:51", after := #[{ on := 9, ground := Go.Ground.data }, { on := 24, ground := Go.Ground.data }], guard := none }) (v := ?_) rfl (by kernel_rfl) (by kernel_rfl) (by kernel_rfl) (fun _ _ _ h => h) (Or.inl ⟨by rfl, ?_⟩) (by assumption) ?_
        rotate_left
        · intro w hSw
          try dsimp only at hSw
          go_simp
          try with_reducible rfl
        try simp only [Act.put, List.setIfInBounds_toArray, List.set_cons_zero, List.set_cons_succ]
        refine wpAnyH_done (by kernel_rfl) ?_ _
        go_wp2_with fail
        go_roundg (L.length - (0 + 1))
        case measure => omega
        case rel => exact ⟨0 + 1, rfl, by omega, by first | rfl | go_num, bTrans hbw (by first | exact hbb | exact hbb.drew)⟩
      · obtain ⟨k, rfl⟩ : ∃ k, i = k + 1 := ⟨i - 1, by omega⟩
        obtain ⟨e', he'⟩ := at_lt (l := L) (k := k) (by omega)
        have HB := pw_at HPW.out he' HE.out
        have HE' := hid_mk he'
        have hgt : decide ((0 : Int) < ((k + 1 : Nat) : Int)) = true := decide_eq_true (by omega)
        obtain ⟨j, hj⟩ : ∃ j : Nat, k + 1 = j := ⟨_, rfl⟩
        have hsub : wrap64 ((j : Int) - 1) = (k : Int) := by rw [IntWalk.wrap64_in _ ⟨by omega, by omega⟩]; omega
        have hsub2 : IntKind.i64.wrap ((j : Int) - 1) = (k : Int) := by rw [IntKind.wrap_i64]; omega
        have hk0 : (0 : Int) ≤ k := by omega
        have hkl : (k : Int) < L.length := by omega
        have hklN : k < L.length := by omega
        rw [hj] at HE hlt hltI hgt hi ⊢
        have hgtN : decide (0 < j) = true := decide_eq_true (by omega)
        have hj0 : 0 < j := by omega
        have HJ := hid_mk hj
        clear he' h0 hj
        have HS1 : Hid (∀ w', Below wr.heap.size wr w' → w'.cell? ⟨W.heap.size, 0, none⟩ = some (.slice A1 p.hs.length c1) ∧ w'.cell? ⟨W.heap.size, 1, none⟩ = some (.slice A2 p.acs.length c2) ∧ w'.cell? ⟨W.heap.size, 2, none⟩ = some (.slice A3 p.bs.length c3) ∧ w'.cell? ⟨W.heap.size, 3, none⟩ = some (.int .i64 p.fuel) ∧ w'.cell? ⟨W.heap.size + 1, 0, none⟩ = some (.int .i64 bu.drop) ∧ w'.cell? ⟨W.heap.size + 1, 1, none⟩ = some (.int .i64 bu.dup) ∧ w'.cell? ⟨W.heap.size + 1, 2, none⟩ = some (.int .i64 bu.time) ∧ w'.cell? ⟨W.heap.size + 1, 3, none⟩ = some (.int .i64 bu.crash) ∧ w'.cell? ⟨w3.heap.size, 0, none⟩ = some (.slice Aw X.acts.length cw) ∧ w'.cell? ⟨w3.heap.size, 1, none⟩ = some (.slice Bw X.mail.length dw) ∧ w'.cell? ⟨w3.heap.size, 2, none⟩ = some (.int .i64 0) ∧ w'.cell? ⟨w3.heap.size, 3, none⟩ = some (.int .i64 0) ∧ w'.cell? ⟨w3.heap.size, 4, none⟩ = some (.int .i64 0) ∧ w'.cell? ⟨w3.heap.size, 5, none⟩ = some (.int .i64 0) ∧ w'.cell? ⟨g6, j * 5, none⟩ = some (.int .i64 ev.kind) ∧ w'.cell? ⟨g6, j * 5 + 1, none⟩ = some (.int .i64 ev.id.f) ∧ w'.cell? ⟨g6, j * 5 + 2, none⟩ = some (.int .i64 ev.id.n) ∧ w'.cell? ⟨g6, j * 5 + 3, none⟩ = some (.int .i64 ev.id.c) ∧ w'.cell? ⟨g6, j * 5 + 4, none⟩ = some (.int .i64 ev.who) ∧ w'.cell? ⟨g6, k * 5, none⟩ = some (.int .i64 e'.kind) ∧ w'.cell? ⟨g6, k * 5 + 1, none⟩ = some (.int .i64 e'.id.f) ∧ w'.cell? ⟨g6, k * 5 + 2, none⟩ = some (.int .i64 e'.id.n) ∧ w'.cell? ⟨g6, k * 5 + 3, none⟩ = some (.int .i64 e'.id.c) ∧ w'.cell? ⟨g6, k * 5 + 4, none⟩ = some (.int .i64 e'.who)) := fun w' hb => by
          obtain ⟨a0, a1, a2, a3, a4, a5, a6, a7, a8, a9, aa, ab, ac, ad⟩ := HSA.out w' (bTrans hbw hb)
          obtain ⟨e0, e1, e2, e3, e4⟩ := (HEN.out.below (bTrans hbw hb)).ev HE.out
          obtain ⟨f0, f1, f2, f3, f4⟩ := (HEN.out.below (bTrans hbw hb)).ev HE'.out
          exact ⟨a0, a1, a2, a3, a4, a5, a6, a7, a8, a9, aa, ab, ac, ad, e0, e1, e2, e3, e4, f0, f1, f2, f3, f4⟩
        obtain ⟨y0, y1, y2, y3, y4, y5, y6, y7, y8, y9, ya, yb, yc, yd, e0, e1, e2, e3, e4, f0, f1, f2, f3, f4⟩ := HS1.out wr hbb
        go_wp2_with fail
        refine wp_region_held_drew (S := fun w' => w'.cell? ⟨W.heap.size, 0, none⟩ = some (.slice A1 p.hs.length c1) ∧ w'.cell? ⟨W.heap.size, 1, none⟩ = some (.slice A2 p.acs.length c2) ∧ w'.cell? ⟨W.heap.size, 2, none⟩ = some (.slice A3 p.bs.length c3) ∧ w'.cell? ⟨W.heap.size, 3, none⟩ = some (.int .i64 p.fuel) ∧ w'.cell? ⟨W.heap.size + 1, 0, none⟩ = some (.int .i64 bu.drop) ∧ w'.cell? ⟨W.heap.size + 1, 1, none⟩ = some (.int .i64 bu.dup) ∧ w'.cell? ⟨W.heap.size + 1, 2, none⟩ = some (.int .i64 bu.time) ∧ w'.cell? ⟨W.heap.size + 1, 3, none⟩ = some (.int .i64 bu.crash) ∧ w'.cell? ⟨w3.heap.size, 0, none⟩ = some (.slice Aw X.acts.length cw) ∧ w'.cell? ⟨w3.heap.size, 1, none⟩ = some (.slice Bw X.mail.length dw) ∧ w'.cell? ⟨w3.heap.size, 2, none⟩ = some (.int .i64 0) ∧ w'.cell? ⟨w3.heap.size, 3, none⟩ = some (.int .i64 0) ∧ w'.cell? ⟨w3.heap.size, 4, none⟩ = some (.int .i64 0) ∧ w'.cell? ⟨w3.heap.size, 5, none⟩ = some (.int .i64 0) ∧ w'.cell? ⟨g6, j * 5, none⟩ = some (.int .i64 ev.kind) ∧ w'.cell? ⟨g6, j * 5 + 1, none⟩ = some (.int .i64 ev.id.f) ∧ w'.cell? ⟨g6, j * 5 + 2, none⟩ = some (.int .i64 ev.id.n) ∧ w'.cell? ⟨g6, j * 5 + 3, none⟩ = some (.int .i64 ev.id.c) ∧ w'.cell? ⟨g6, j * 5 + 4, none⟩ = some (.int .i64 ev.who) ∧ w'.cell? ⟨g6, k * 5, none⟩ = some (.int .i64 e'.kind) ∧ w'.cell? ⟨g6, k * 5 + 1, none⟩ = some (.int .i64 e'.id.f) ∧ w'.cell? ⟨g6, k * 5 + 2, none⟩ = some (.int .i64 e'.id.n) ∧ w'.cell? ⟨g6, k * 5 + 3, none⟩ = some (.int .i64 e'.id.c) ∧ w'.cell? ⟨g6, k * 5 + 4, none⟩ = some (.int .i64 e'.who)) (by kernel_rfl) ?_ (fun hHeld => ?_)
        · exact HS1.out _ (by first | exact hbb | exact hbb.drew)
        refine wpAnyH_take (i := 0) (oi := { dst := some 49, op := Go.Op.load 27 (Go.Operand.tmp 3), type := 27, pos := "law.go:51", after := #[], guard := none }) (v := ?_) rfl (by kernel_rfl) (by kernel_rfl) (by kernel_rfl) (fun _ _ _ h => h) (Or.inl ⟨by rfl, ?_⟩) (by assumption) ?_
        rotate_left
        · intro w hSw
          try dsimp only at hSw
          go_simp
          try with_reducible rfl
        try simp only [Act.put, List.setIfInBounds_toArray, List.set_cons_zero, List.set_cons_succ]
        refine wpAnyH_take (i := 1) (oi := { dst := some 50, op := Go.Op.load 32 (Go.Operand.tmp 4), type := 32, pos := "law.go:51", after := #[], guard := none }) (v := ?_) rfl (by kernel_rfl) (by kernel_rfl) (by kernel_rfl) (fun _ _ _ h => h) (Or.inl ⟨by rfl, ?_⟩) (by assumption) ?_
        rotate_left
        · intro w hSw
          try dsimp only at hSw
          go_simp
          try with_reducible rfl
        try simp only [Act.put, List.setIfInBounds_toArray, List.set_cons_zero, List.set_cons_succ]
        refine wpAnyH_take (i := 2) (oi := { dst := some 51, op := Go.Op.load 34 (Go.Operand.tmp 7), type := 34, pos := "law.go:51", after := #[], guard := none }) (v := ?_) rfl (by kernel_rfl) (by kernel_rfl) (by kernel_rfl) (fun _ _ _ h => h) (Or.inl ⟨by rfl, ?_⟩) (by assumption) ?_
        rotate_left
        · intro w hSw
          try dsimp only at hSw
          go_simp
          try with_reducible rfl
        try simp only [Act.put, List.setIfInBounds_toArray, List.set_cons_zero, List.set_cons_succ]
        refine wpAnyH_take (i := 3) (oi := { dst := some 52, op := Go.Op.move (Go.Operand.tmp 9), type := 61, pos := "law.go:51", after := #[], guard := none }) (v := ?_) rfl (by kernel_rfl) (by kernel_rfl) (by kernel_rfl) (fun _ _ _ h => h) (Or.inl ⟨by rfl, ?_⟩) (by assumption) ?_
        rotate_left
        · intro w hSw
          try dsimp only at hSw
          go_simp
          try with_reducible rfl
        try simp only [Act.put, List.setIfInBounds_toArray, List.set_cons_zero, List.set_cons_succ]
        refine wpAnyH_take (i := 4) (oi := { dst := some 53, op := Go.Op.move (Go.Operand.tmp 10), type := 3, pos := "law.go:51", after := #[], guard := none }) (v := ?_) rfl (by kernel_rfl) (by kernel_rfl) (by kernel_rfl) (fun _ _ _ h => h) (Or.inl ⟨by rfl, ?_⟩) (by assumption) ?_
        rotate_left
        · intro w hSw
          try dsimp only at hSw
          go_simp
          try with_reducible rfl
        try simp only [Act.put, List.setIfInBounds_toArray, List.set_cons_zero, List.set_cons_succ]
        refine wpAnyH_take (i := 5) (oi := { dst := some 54, op := Go.Op.indexAddr 61 (Go.Operand.tmp 52) (Go.Operand.tmp 53), type := 0, pos := "law.go:51", after := #[{ on := 3, ground := Go.Ground.data }, { on := 4, ground := Go.Ground.data }], guard := none }) (v := ?_) rfl (by kernel_rfl) (by kernel_rfl) (by kernel_rfl) (fun _ _ _ h => h) (Or.inl ⟨by rfl, ?_⟩) (by assumption) ?_
        rotate_left
        · intro w hSw
          try dsimp only at hSw
          go_simp
          try with_reducible rfl
        try simp only [Act.put, List.setIfInBounds_toArray, List.set_cons_zero, List.set_cons_succ]
        refine wpAnyH_take (i := 6) (oi := { dst := some 55, op := Go.Op.load 56 (Go.Operand.tmp 54), type := 56, pos := "law.go:51", after := #[{ on := 5, ground := Go.Ground.data }], guard := none }) (v := ?_) rfl (by kernel_rfl) (by kernel_rfl) (by kernel_rfl) (fun _ _ _ h => h) (Or.inl ⟨by rfl, ?_⟩) (by assumption) ?_
        rotate_left
        · intro w hSw
          try dsimp only at hSw
          go_simp
          try with_reducible rfl
        try simp only [Act.put, List.setIfInBounds_toArray, List.set_cons_zero, List.set_cons_succ]
        refine wpAnyH_ready (rs := [7]) (by kernel_rfl) (by simp) ?_
        refine AllReadyH.cons (o := { dst := some 56, op := Go.Op.call { callee := Go.Callee.value (Go.Operand.func 23), args := #[Go.Operand.tmp 49, Go.Operand.tmp 50, Go.Operand.tmp 51, Go.Operand.tmp 55], argTypes := #[27, 32, 34, 56] }, type := 4, pos := "law.go:51", after := #[{ on := 0, ground := Go.Ground.data }, { on := 1, ground := Go.Ground.data }, { on := 2, ground := Go.Ground.data }, { on := 6, ground := Go.Ground.data }], guard := none }) rfl (fun K hK => ?_) AllReadyH.nil
        go_simp
        (go_at_call 23; refine (is_5 _ _ _ p bu X _ _ _ _ _ (HT5.out.below (bTrans hbw (by first | exact hbb | exact hbb.drew))) (HP5.out.below (bTrans hbw (by first | exact hbb | exact hbb.drew))) (HX5.out.below (bTrans hbw (by first | exact hbb | exact hbb.drew)))).mono ?_; rintro e w7 ⟨rfl, hb7⟩; replace hbb := bTrans (by first | exact hbb | exact hbb.drew) hb7; clear hb7)
        try (go_wp2_with fail)
        refine hK.out _ _ ?_ (fun hHeld => ?_)
        · exact HS1.out _ (by first | exact hbb | exact hbb.drew)
        clear hK K
        try simp only [Act.put, List.setIfInBounds_toArray, List.set_cons_zero, List.set_cons_succ]
        refine wpAnyH_take (i := 8) (oi := { dst := some 57, op := Go.Op.unOp Go.UnOp.not 4 (Go.Operand.tmp 56), type := 4, pos := "law.go:51", after := #[{ on := 7, ground := Go.Ground.data }], guard := none }) (v := ?_) rfl (by kernel_rfl) (by kernel_rfl) (by kernel_rfl) (fun _ _ _ h => h) (Or.inl ⟨by rfl, ?_⟩) (by assumption) ?_
        rotate_left
        · intro w hSw
          try dsimp only at hSw
          go_simp
          try with_reducible rfl
        try simp only [Act.put, List.setIfInBounds_toArray, List.set_cons_zero, List.set_cons_succ]
        refine wpAnyH_take (i := 9) (oi := { dst := some 58, op := Go.Op.move (Go.Operand.tmp 57), type := 4, pos := "law.go:51", after := #[{ on := 8, ground := Go.Ground.data }, { on := 7, ground := Go.Ground.chain }], guard := none }) (v := ?_) rfl (by kernel_rfl) (by kernel_rfl) (by kernel_rfl) (fun _ _ _ h => h) (Or.inl ⟨by rfl, ?_⟩) (by assumption) ?_
        rotate_left
        · intro w hSw
          try dsimp only at hSw
          go_simp
          try with_reducible rfl
        try simp only [Act.put, List.setIfInBounds_toArray, List.set_cons_zero, List.set_cons_succ]
        refine wpAnyH_take (i := 10) (oi := { dst := some 59, op := Go.Op.move (Go.Operand.tmp 10), type := 3, pos := "law.go:51", after := #[{ on := 9, ground := Go.Ground.guard }], guard := some (9, false) }) (v := ?_) rfl (by kernel_rfl) (by kernel_rfl) (by kernel_rfl) (fun _ _ _ h => h) (Or.inl ⟨by rfl, ?_⟩) (by assumption) ?_
        rotate_left
        · intro w hSw
          try dsimp only at hSw
          go_simp
          try with_reducible rfl
        try simp only [Act.put, List.setIfInBounds_toArray, List.set_cons_zero, List.set_cons_succ]
        refine wpAnyH_take (i := 11) (oi := { dst := some 60, op := Go.Op.binOp Go.BinOp.gtr 3 (Go.Operand.tmp 59) (Go.Operand.const (Go.Value.int Go.IntKind.i64 0)) 3, type := 4, pos := "law.go:51", after := #[{ on := 10, ground := Go.Ground.data }, { on := 9, ground := Go.Ground.guard }], guard := some (9, false) }) (v := ?_) rfl (by kernel_rfl) (by kernel_rfl) (by kernel_rfl) (fun _ _ _ h => h) (Or.inl ⟨by rfl, ?_⟩) (by assumption) ?_
        rotate_left
        · intro w hSw
          try dsimp only at hSw
          go_simp
          try with_reducible rfl
        try simp only [Act.put, List.setIfInBounds_toArray, List.set_cons_zero, List.set_cons_succ]
        refine wpAnyH_take (i := 12) (oi := { dst := some 61, op := Go.Op.move (Go.Operand.tmp 60), type := 4, pos := "law.go:51", after := #[{ on := 11, ground := Go.Ground.data }, { on := 9, ground := Go.Ground.chain }, { on := 9, ground := Go.Ground.guard }], guard := some (9, false) }) (v := ?_) rfl (by kernel_rfl) (by kernel_rfl) (by kernel_rfl) (fun _ _ _ h => h) (Or.inl ⟨by rfl, ?_⟩) (by assumption) ?_
        rotate_left
        · intro w hSw
          try dsimp only at hSw
          go_simp
          try with_reducible rfl
        try simp only [Act.put, List.setIfInBounds_toArray, List.set_cons_zero, List.set_cons_succ]
        refine wpAnyH_take (i := 13) (oi := { dst := some 62, op := Go.Op.move (Go.Operand.tmp 9), type := 61, pos := "law.go:51", after := #[{ on := 12, ground := Go.Ground.guard }], guard := some (12, true) }) (v := ?_) rfl (by kernel_rfl) (by kernel_rfl) (by kernel_rfl) (fun _ _ _ h => h) (Or.inl ⟨by rfl, ?_⟩) (by assumption) ?_
        rotate_left
        · intro w hSw
          try dsimp only at hSw
          go_simp
          try with_reducible rfl
        try simp only [Act.put, List.setIfInBounds_toArray, List.set_cons_zero, List.set_cons_succ]
        refine wpAnyH_take (i := 14) (oi := { dst := some 63, op := Go.Op.move (Go.Operand.tmp 10), type := 3, pos := "law.go:51", after := #[{ on := 12, ground := Go.Ground.guard }], guard := some (12, true) }) (v := ?_) rfl (by kernel_rfl) (by kernel_rfl) (by kernel_rfl) (fun _ _ _ h => h) (Or.inl ⟨by rfl, ?_⟩) (by assumption) ?_
        rotate_left
        · intro w hSw
          try dsimp only at hSw
          go_simp
          try with_reducible rfl
        try simp only [Act.put, List.setIfInBounds_toArray, List.set_cons_zero, List.set_cons_succ]
        refine wpAnyH_take (i := 15) (oi := { dst := some 64, op := Go.Op.binOp Go.BinOp.sub 3 (Go.Operand.tmp 63) (Go.Operand.const (Go.Value.int Go.IntKind.i64 1)) 3, type := 3, pos := "law.go:51", after := #[{ on := 14, ground := Go.Ground.data }, { on := 12, ground := Go.Ground.guard }], guard := some (12, true) }) (v := ?_) rfl (by kernel_rfl) (by kernel_rfl) (by kernel_rfl) (fun _ _ _ h => h) (Or.inl ⟨by rfl, ?_⟩) (by assumption) ?_
        rotate_left
        · intro w hSw
          try dsimp only at hSw
          go_simp
          try with_reducible rfl
        try simp only [Act.put, List.setIfInBounds_toArray, List.set_cons_zero, List.set_cons_succ]
        refine wpAnyH_take (i := 16) (oi := { dst := some 65, op := Go.Op.indexAddr 61 (Go.Operand.tmp 62) (Go.Operand.tmp 64), type := 0, pos := "law.go:51", after := #[{ on := 13, ground := Go.Ground.data }, { on := 15, ground := Go.Ground.data }, { on := 12, ground := Go.Ground.guard }], guard := some (12, true) }) (v := ?_) rfl (by kernel_rfl) (by kernel_rfl) (by kernel_rfl) (fun _ _ _ h => h) (Or.inl ⟨by rfl, ?_⟩) (by assumption) ?_
        rotate_left
        · intro w hSw
          try dsimp only at hSw
          go_simp
          try with_reducible rfl
        try simp only [Act.put, List.setIfInBounds_toArray, List.set_cons_zero, List.set_cons_succ]
        refine wpAnyH_take (i := 17) (oi := { dst := some 66, op := Go.Op.load 56 (Go.Operand.tmp 65), type := 56, pos := "law.go:51", after := #[{ on := 16, ground := Go.Ground.data }, { on := 12, ground := Go.Ground.guard }], guard := some (12, true) }) (v := ?_) rfl (by kernel_rfl) (by kernel_rfl) (by kernel_rfl) (fun _ _ _ h => h) (Or.inl ⟨by rfl, ?_⟩) (by assumption) ?_
        rotate_left
        · intro w hSw
          try dsimp only at hSw
          go_simp
          try with_reducible rfl
        try simp only [Act.put, List.setIfInBounds_toArray, List.set_cons_zero, List.set_cons_succ]
        refine wpAnyH_take (i := 18) (oi := { dst := some 67, op := Go.Op.move (Go.Operand.tmp 9), type := 61, pos := "law.go:51", after := #[{ on := 12, ground := Go.Ground.guard }], guard := some (12, true) }) (v := ?_) rfl (by kernel_rfl) (by kernel_rfl) (by kernel_rfl) (fun _ _ _ h => h) (Or.inl ⟨by rfl, ?_⟩) (by assumption) ?_
        rotate_left
        · intro w hSw
          try dsimp only at hSw
          go_simp
          try with_reducible rfl
        try simp only [Act.put, List.setIfInBounds_toArray, List.set_cons_zero, List.set_cons_succ]
        refine wpAnyH_take (i := 19) (oi := { dst := some 68, op := Go.Op.move (Go.Operand.tmp 10), type := 3, pos := "law.go:51", after := #[{ on := 12, ground := Go.Ground.guard }], guard := some (12, true) }) (v := ?_) rfl (by kernel_rfl) (by kernel_rfl) (by kernel_rfl) (fun _ _ _ h => h) (Or.inl ⟨by rfl, ?_⟩) (by assumption) ?_
        rotate_left
        · intro w hSw
          try dsimp only at hSw
          go_simp
          try with_reducible rfl
        try simp only [Act.put, List.setIfInBounds_toArray, List.set_cons_zero, List.set_cons_succ]
        refine wpAnyH_take (i := 20) (oi := { dst := some 69, op := Go.Op.indexAddr 61 (Go.Operand.tmp 67) (Go.Operand.tmp 68), type := 0, pos := "law.go:51", after := #[{ on := 18, ground := Go.Ground.data }, { on := 19, ground := Go.Ground.data }, { on := 12, ground := Go.Ground.guard }], guard := some (12, true) }) (v := ?_) rfl (by kernel_rfl) (by kernel_rfl) (by kernel_rfl) (fun _ _ _ h => h) (Or.inl ⟨by rfl, ?_⟩) (by assumption) ?_
        rotate_left
        · intro w hSw
          try dsimp only at hSw
          go_simp
          try with_reducible rfl
        try simp only [Act.put, List.setIfInBounds_toArray, List.set_cons_zero, List.set_cons_succ]
        refine wpAnyH_take (i := 21) (oi := { dst := some 70, op := Go.Op.load 56 (Go.Operand.tmp 69), type := 56, pos := "law.go:51", after := #[{ on := 20, ground := Go.Ground.data }, { on := 12, ground := Go.Ground.guard }], guard := some (12, true) }) (v := ?_) rfl (by kernel_rfl) (by kernel_rfl) (by kernel_rfl) (fun _ _ _ h => h) (Or.inl ⟨by rfl, ?_⟩) (by assumption) ?_
        rotate_left
        · intro w hSw
          try dsimp only at hSw
          go_simp
          try with_reducible rfl
        try simp only [Act.put, List.setIfInBounds_toArray, List.set_cons_zero, List.set_cons_succ]
        refine wpAnyH_ready (rs := [22]) (by kernel_rfl) (by simp) ?_
        refine AllReadyH.cons (o := { dst := some 71, op := Go.Op.call { callee := Go.Callee.value (Go.Operand.func 32), args := #[Go.Operand.tmp 66, Go.Operand.tmp 70], argTypes := #[56, 56] }, type := 4, pos := "law.go:51", after := #[{ on := 17, ground := Go.Ground.data }, { on := 21, ground := Go.Ground.data }, { on := 12, ground := Go.Ground.chain }, { on := 12, ground := Go.Ground.guard }], guard := some (12, true) }) rfl (fun K hK => ?_) AllReadyH.nil
        go_simp
        (go_at_call 32; refine (rbefore_any e' ev _).mono ?_; rintro e w8 ⟨rfl, hb8⟩; replace hbb := bTrans (by first | exact hbb | exact hbb.drew) hb8; clear hb8)
        try (go_wp2_with fail)
        refine hK.out _ _ ?_ (fun hHeld => ?_)
        · exact HS1.out _ (by first | exact hbb | exact hbb.drew)
        clear hK K
        try simp only [Act.put, List.setIfInBounds_toArray, List.set_cons_zero, List.set_cons_succ]
        refine wpAnyH_take (i := 23) (oi := { dst := some 72, op := Go.Op.unOp Go.UnOp.not 4 (Go.Operand.tmp 71), type := 4, pos := "law.go:51", after := #[{ on := 22, ground := Go.Ground.data }, { on := 12, ground := Go.Ground.guard }], guard := some (12, true) }) (v := ?_) rfl (by kernel_rfl) (by kernel_rfl) (by kernel_rfl) (fun _ _ _ h => h) (Or.inl ⟨by rfl, ?_⟩) (by assumption) ?_
        rotate_left
        · intro w hSw
          try dsimp only at hSw
          go_simp
          try with_reducible rfl
        try simp only [Act.put, List.setIfInBounds_toArray, List.set_cons_zero, List.set_cons_succ]
        refine wpAnyH_take (i := 24) (oi := { dst := some 73, op := Go.Op.pick (Go.Operand.tmp 61) (Go.Operand.tmp 72) (Go.Operand.const (Go.Value.bool false)), type := 4, pos := "law.go:51", after := #[{ on := 12, ground := Go.Ground.data }, { on := 23, ground := Go.Ground.data }, { on := 9, ground := Go.Ground.guard }], guard := some (9, false) }) (v := ?_) rfl (by kernel_rfl) (by kernel_rfl) (by kernel_rfl) (fun _ _ _ h => h) (Or.inl ⟨by rfl, ?_⟩) (by assumption) ?_
        rotate_left
        · intro w hSw
          try dsimp only at hSw
          go_simp
          try with_reducible rfl
        try simp only [Act.put, List.setIfInBounds_toArray, List.set_cons_zero, List.set_cons_succ]
        refine wpAnyH_take (i := 25) (oi := { dst := some 74, op := Go.Op.pick (Go.Operand.tmp 58) (Go.Operand.const (Go.Value.bool true)) (Go.Operand.tmp 73), type := 4, pos := "law.go:51", after := #[{ on := 9, ground := Go.Ground.data }, { on := 24, ground := Go.Ground.data }], guard := none }) (v := ?_) rfl (by kernel_rfl) (by kernel_rfl) (by kernel_rfl) (fun _ _ _ h => h) (Or.inl ⟨by rfl, ?_⟩) (by assumption) ?_
        rotate_left
        · intro w hSw
          try dsimp only at hSw
          go_simp
          try with_reducible rfl
        try simp only [Act.put, List.setIfInBounds_toArray, List.set_cons_zero, List.set_cons_succ]
        refine wpAnyH_done (by kernel_rfl) ?_ _
        go_wp2_with fail
        go_roundg (L.length - (j + 1))
        case measure => have := HJ.out; omega
        case rel => exact ⟨j + 1, rfl, by omega, by first | rfl | go_num, bTrans hbw (by first | exact hbb | exact hbb.drew)⟩
    · obtain rfl : i = L.length := by omega
      obtain ⟨wo, hwo⟩ : ∃ wo, wo = wr := ⟨wr, rfl⟩
      subst hwo
      have HBO := hid_mk hbw
      clear hbw
      go_wp2
      go_loopg [11, 12, 13] ms.length (fun g i11 i12 i13 wr => ∃ i : Nat, g = ms.length - i ∧ i ≤ ms.length ∧ i11 = .int .i64 (i : Int) ∧ Below w5.heap.size w5 wr)
      case atStart => exact ⟨0, rfl, by omega, rfl, HBO.out⟩
      case round =>
        obtain ⟨i, rfl, hi, rfl, hbw⟩ := hrel
        by_cases hlt : i < ms.length
        · obtain ⟨y, hy⟩ := at_lt hlt
          obtain ⟨bm, om, hAm, _, hmlt, hmc⟩ := HMS.out.at (by omega)
          cases hAm
          have HY : Hid (∀ w', Below w5.heap.size w5 w' → w'.cell? ⟨bm, om + i * 5, none⟩ = some (.int .i64 y.kind) ∧ w'.cell? ⟨bm, om + i * 5 + 1, none⟩ = some (.int .i64 y.id.f) ∧ w'.cell? ⟨bm, om + i * 5 + 2, none⟩ = some (.int .i64 y.id.n) ∧ w'.cell? ⟨bm, om + i * 5 + 3, none⟩ = some (.int .i64 y.id.c) ∧ w'.cell? ⟨bm, om + i * 5 + 4, none⟩ = some (.int .i64 y.who)) := fun w' hb => by
            obtain ⟨h1, h2, h3, h4, h5⟩ := hmc i y hy
            exact ⟨(hb.cell (p := ⟨bm, _, none⟩) hmlt).trans h1, (hb.cell (p := ⟨bm, _, none⟩) hmlt).trans h2, (hb.cell (p := ⟨bm, _, none⟩) hmlt).trans h3, (hb.cell (p := ⟨bm, _, none⟩) hmlt).trans h4, (hb.cell (p := ⟨bm, _, none⟩) hmlt).trans h5⟩
          have hltI : (i : Int) < ms.length := by omega
          have HBW := hid_mk hbw
          obtain ⟨wo2, hwo2⟩ : ∃ wo2, wo2 = wr := ⟨wr, rfl⟩
          subst hwo2
          clear hmc hy hbw
          go_wp2
          go_loopg [12, 13] L.length (fun g i12 i13 wr => ∃ k : Nat, g = L.length - k ∧ k ≤ L.length ∧ i13 = .int .i64 (k : Int) ∧ i12 = .bool (inK L y k) ∧ Below w5.heap.size w5 wr)
          case atStart => exact ⟨0, rfl, by omega, rfl, by rw [inK_0], HBW.out⟩
          case round =>
            obtain ⟨k, rfl, hk, rfl, rfl, hbw⟩ := hrel
            have hbb : Below wr.heap.size wr wr := bRefl _
            by_cases hlk : k < L.length
            · obtain ⟨ev, he⟩ := at_lt hlk
              obtain ⟨g6, c6', he6, _, hg6⟩ := HEN.out.blk (by omega)
              cases he6
              have hlkI : (k : Int) < L.length := by omega
              have HST := hid_mk (inK_step (y := y) he)
              have HE := hid_mk he
              clear he
              have HS1 : Hid (∀ w', Below wr.heap.size wr w' → w'.cell? ⟨g6, k * 5, none⟩ = some (.int .i64 ev.kind) ∧ w'.cell? ⟨g6, k * 5 + 1, none⟩ = some (.int .i64 ev.id.f) ∧ w'.cell? ⟨g6, k * 5 + 2, none⟩ = some (.int .i64 ev.id.n) ∧ w'.cell? ⟨g6, k * 5 + 3, none⟩ = some (.int .i64 ev.id.c) ∧ w'.cell? ⟨g6, k * 5 + 4, none⟩ = some (.int .i64 ev.who) ∧ w'.cell? ⟨bm, om + i * 5, none⟩ = some (.int .i64 y.kind) ∧ w'.cell? ⟨bm, om + i * 5 + 1, none⟩ = some (.int .i64 y.id.f) ∧ w'.cell? ⟨bm, om + i * 5 + 2, none⟩ = some (.int .i64 y.id.n) ∧ w'.cell? ⟨bm, om + i * 5 + 3, none⟩ = some (.int .i64 y.id.c) ∧ w'.cell? ⟨bm, om + i * 5 + 4, none⟩ = some (.int .i64 y.who)) := fun w' hb => by
                obtain ⟨e0, e1, e2, e3, e4⟩ := (HEN.out.below (bTrans hbw hb)).ev HE.out
                obtain ⟨f0, f1, f2, f3, f4⟩ := HY.out w' (bTrans hbw hb)
                exact ⟨e0, e1, e2, e3, e4, f0, f1, f2, f3, f4⟩
              obtain ⟨e0, e1, e2, e3, e4, f0, f1, f2, f3, f4⟩ := HS1.out wr hbb
              cases hin : inK L y k with
              | true =>
                rw [hin] at HST
                clear hin
                go_wp2_with fail
                refine wp_region_held_drew (S := fun w' => w'.cell? ⟨g6, k * 5, none⟩ = some (.int .i64 ev.kind) ∧ w'.cell? ⟨g6, k * 5 + 1, none⟩ = some (.int .i64 ev.id.f) ∧ w'.cell? ⟨g6, k * 5 + 2, none⟩ = some (.int .i64 ev.id.n) ∧ w'.cell? ⟨g6, k * 5 + 3, none⟩ = some (.int .i64 ev.id.c) ∧ w'.cell? ⟨g6, k * 5 + 4, none⟩ = some (.int .i64 ev.who) ∧ w'.cell? ⟨bm, om + i * 5, none⟩ = some (.int .i64 y.kind) ∧ w'.cell? ⟨bm, om + i * 5 + 1, none⟩ = some (.int .i64 y.id.f) ∧ w'.cell? ⟨bm, om + i * 5 + 2, none⟩ = some (.int .i64 y.id.n) ∧ w'.cell? ⟨bm, om + i * 5 + 3, none⟩ = some (.int .i64 y.id.c) ∧ w'.cell? ⟨bm, om + i * 5 + 4, none⟩ = some (.int .i64 y.who)) (by kernel_rfl) ?_ (fun hHeld => ?_)
                · exact HS1.out _ (by first | exact hbb | exact hbb.drew)
                refine wpAnyH_take (i := 0) (oi := { dst := some 87, op := Go.Op.move (Go.Operand.tmp 12), type := 4, pos := "law.go:58", after := #[], guard := none }) (v := ?_) rfl (by kernel_rfl) (by kernel_rfl) (by kernel_rfl) (fun _ _ _ h => h) (Or.inl ⟨by rfl, ?_⟩) (by assumption) ?_
                rotate_left
                · intro w hSw
                  try dsimp only at hSw
                  go_simp
                  try with_reducible rfl
                try simp only [Act.put, List.setIfInBounds_toArray, List.set_cons_zero, List.set_cons_succ]
                refine wpAnyH_take (i := 1) (oi := { dst := some 88, op := Go.Op.move (Go.Operand.tmp 87), type := 4, pos := "law.go:58", after := #[{ on := 0, ground := Go.Ground.data }], guard := none }) (v := ?_) rfl (by kernel_rfl) (by kernel_rfl) (by kernel_rfl) (fun _ _ _ h => h) (Or.inl ⟨by rfl, ?_⟩) (by assumption) ?_
                rotate_left
                · intro w hSw
                  try dsimp only at hSw
                  go_simp
                  try with_reducible rfl
                try simp only [Act.put, List.setIfInBounds_toArray, List.set_cons_zero, List.set_cons_succ]
                refine wpAnyH_take (i := 2) (oi := { dst := some 89, op := Go.Op.move (Go.Operand.tmp 9), type := 61, pos := "law.go:58", after := #[{ on := 1, ground := Go.Ground.guard }], guard := some (1, false) }) (v := undef) rfl (by kernel_rfl) (by kernel_rfl) (by kernel_rfl) (fun _ _ _ h => h) (Or.inr ⟨by rfl, rfl⟩) (by assumption) ?_
                try simp only [Act.put, List.setIfInBounds_toArray, List.set_cons_zero, List.set_cons_succ]
                refine wpAnyH_take (i := 3) (oi := { dst := some 90, op := Go.Op.move (Go.Operand.tmp 13), type := 3, pos := "law.go:58", after := #[{ on := 1, ground := Go.Ground.guard }], guard := some (1, false) }) (v := undef) rfl (by kernel_rfl) (by kernel_rfl) (by kernel_rfl) (fun _ _ _ h => h) (Or.inr ⟨by rfl, rfl⟩) (by assumption) ?_
                try simp only [Act.put, List.setIfInBounds_toArray, List.set_cons_zero, List.set_cons_succ]
                refine wpAnyH_take (i := 4) (oi := { dst := some 91, op := Go.Op.indexAddr 61 (Go.Operand.tmp 89) (Go.Operand.tmp 90), type := 0, pos := "law.go:58", after := #[{ on := 2, ground := Go.Ground.data }, { on := 3, ground := Go.Ground.data }, { on := 1, ground := Go.Ground.guard }], guard := some (1, false) }) (v := undef) rfl (by kernel_rfl) (by kernel_rfl) (by kernel_rfl) (fun _ _ _ h => h) (Or.inr ⟨by rfl, rfl⟩) (by assumption) ?_
                try simp only [Act.put, List.setIfInBounds_toArray, List.set_cons_zero, List.set_cons_succ]
                refine wpAnyH_take (i := 5) (oi := { dst := some 92, op := Go.Op.load 56 (Go.Operand.tmp 91), type := 56, pos := "law.go:58", after := #[{ on := 4, ground := Go.Ground.data }, { on := 1, ground := Go.Ground.guard }], guard := some (1, false) }) (v := undef) rfl (by kernel_rfl) (by kernel_rfl) (by kernel_rfl) (fun _ _ _ h => h) (Or.inr ⟨by rfl, rfl⟩) (by assumption) ?_
                try simp only [Act.put, List.setIfInBounds_toArray, List.set_cons_zero, List.set_cons_succ]
                refine wpAnyH_take (i := 6) (oi := { dst := some 93, op := Go.Op.move (Go.Operand.tmp 2), type := 61, pos := "law.go:58", after := #[{ on := 1, ground := Go.Ground.guard }], guard := some (1, false) }) (v := undef) rfl (by kernel_rfl) (by kernel_rfl) (by kernel_rfl) (fun _ _ _ h => h) (Or.inr ⟨by rfl, rfl⟩) (by assumption) ?_
                try simp only [Act.put, List.setIfInBounds_toArray, List.set_cons_zero, List.set_cons_succ]
                refine wpAnyH_take (i := 7) (oi := { dst := some 94, op := Go.Op.move (Go.Operand.tmp 11), type := 3, pos := "law.go:58", after := #[{ on := 1, ground := Go.Ground.guard }], guard := some (1, false) }) (v := undef) rfl (by kernel_rfl) (by kernel_rfl) (by kernel_rfl) (fun _ _ _ h => h) (Or.inr ⟨by rfl, rfl⟩) (by assumption) ?_
                try simp only [Act.put, List.setIfInBounds_toArray, List.set_cons_zero, List.set_cons_succ]
                refine wpAnyH_take (i := 8) (oi := { dst := some 95, op := Go.Op.indexAddr 61 (Go.Operand.tmp 93) (Go.Operand.tmp 94), type := 0, pos := "law.go:58", after := #[{ on := 6, ground := Go.Ground.data }, { on := 7, ground := Go.Ground.data }, { on := 1, ground := Go.Ground.guard }], guard := some (1, false) }) (v := undef) rfl (by kernel_rfl) (by kernel_rfl) (by kernel_rfl) (fun _ _ _ h => h) (Or.inr ⟨by rfl, rfl⟩) (by assumption) ?_
                try simp only [Act.put, List.setIfInBounds_toArray, List.set_cons_zero, List.set_cons_succ]
                refine wpAnyH_take (i := 9) (oi := { dst := some 96, op := Go.Op.load 56 (Go.Operand.tmp 95), type := 56, pos := "law.go:58", after := #[{ on := 8, ground := Go.Ground.data }, { on := 1, ground := Go.Ground.guard }], guard := some (1, false) }) (v := undef) rfl (by kernel_rfl) (by kernel_rfl) (by kernel_rfl) (fun _ _ _ h => h) (Or.inr ⟨by rfl, rfl⟩) (by assumption) ?_
                try simp only [Act.put, List.setIfInBounds_toArray, List.set_cons_zero, List.set_cons_succ]
                refine wpAnyH_take (i := 10) (oi := { dst := some 97, op := Go.Op.binOp Go.BinOp.eql 56 (Go.Operand.tmp 92) (Go.Operand.tmp 96) 56, type := 4, pos := "law.go:58", after := #[{ on := 5, ground := Go.Ground.data }, { on := 9, ground := Go.Ground.data }, { on := 1, ground := Go.Ground.guard }], guard := some (1, false) }) (v := undef) rfl (by kernel_rfl) (by kernel_rfl) (by kernel_rfl) (fun _ _ _ h => h) (Or.inr ⟨by rfl, rfl⟩) (by assumption) ?_
                try simp only [Act.put, List.setIfInBounds_toArray, List.set_cons_zero, List.set_cons_succ]
                refine wpAnyH_take (i := 11) (oi := { dst := some 98, op := Go.Op.pick (Go.Operand.tmp 88) (Go.Operand.const (Go.Value.bool true)) (Go.Operand.tmp 97), type := 4, pos := "law.go:58", after := #[{ on := 1, ground := Go.Ground.data }, { on := 10, ground := Go.Ground.data }], guard := none }) (v := ?_) rfl (by kernel_rfl) (by kernel_rfl) (by kernel_rfl) (fun _ _ _ h => h) (Or.inl ⟨by rfl, ?_⟩) (by assumption) ?_
                rotate_left
                · intro w hSw
                  try dsimp only at hSw
                  go_simp
                  try with_reducible rfl
                try simp only [Act.put, List.setIfInBounds_toArray, List.set_cons_zero, List.set_cons_succ]
                refine wpAnyH_take (i := 12) (oi := { dst := some 12, op := Go.Op.assign (Go.Operand.tmp 98), type := 4, pos := "law.go:58", after := #[{ on := 11, ground := Go.Ground.data }, { on := 1, ground := Go.Ground.chain }, { on := 0, ground := Go.Ground.phase }, { on := 1, ground := Go.Ground.phase }, { on := 2, ground := Go.Ground.phase }, { on := 3, ground := Go.Ground.phase }, { on := 4, ground := Go.Ground.phase }, { on := 5, ground := Go.Ground.phase }, { on := 6, ground := Go.Ground.phase }, { on := 7, ground := Go.Ground.phase }, { on := 8, ground := Go.Ground.phase }, { on := 9, ground := Go.Ground.phase }, { on := 10, ground := Go.Ground.phase }, { on := 11, ground := Go.Ground.phase }], guard := none }) (v := ?_) rfl (by kernel_rfl) (by kernel_rfl) (by kernel_rfl) (fun _ _ _ h => h) (Or.inl ⟨by rfl, ?_⟩) (by assumption) ?_
                rotate_left
                · intro w hSw
                  try dsimp only at hSw
                  go_simp
                  try with_reducible rfl
                try simp only [Act.put, List.setIfInBounds_toArray, List.set_cons_zero, List.set_cons_succ]
                refine wpAnyH_done (by kernel_rfl) ?_ _
                go_wp2_with fail
                go_roundg (L.length - (k + 1))
                case measure => omega
                case rel => exact ⟨k + 1, rfl, by omega, by first | rfl | go_num, by rw [HST.out]; rfl, bTrans hbw (by first | exact hbb | exact hbb.drew)⟩
              | false =>
                rw [hin] at HST
                clear hin
                obtain ⟨zz, hzz⟩ : ∃ zz, sameE ⟨ev.kind, ⟨ev.id.f, ev.id.n, ev.id.c⟩, ev.who⟩ ⟨y.kind, ⟨y.id.f, y.id.n, y.id.c⟩, y.who⟩ = zz := ⟨_, rfl⟩
                have HZZ : Hid (inK L y (k + 1) = zz) := by show _ = _; rw [HST.out, ← hzz]; rfl
                go_wp2_with fail
                refine wp_region_held_drew (S := fun w' => w'.cell? ⟨g6, k * 5, none⟩ = some (.int .i64 ev.kind) ∧ w'.cell? ⟨g6, k * 5 + 1, none⟩ = some (.int .i64 ev.id.f) ∧ w'.cell? ⟨g6, k * 5 + 2, none⟩ = some (.int .i64 ev.id.n) ∧ w'.cell? ⟨g6, k * 5 + 3, none⟩ = some (.int .i64 ev.id.c) ∧ w'.cell? ⟨g6, k * 5 + 4, none⟩ = some (.int .i64 ev.who) ∧ w'.cell? ⟨bm, om + i * 5, none⟩ = some (.int .i64 y.kind) ∧ w'.cell? ⟨bm, om + i * 5 + 1, none⟩ = some (.int .i64 y.id.f) ∧ w'.cell? ⟨bm, om + i * 5 + 2, none⟩ = some (.int .i64 y.id.n) ∧ w'.cell? ⟨bm, om + i * 5 + 3, none⟩ = some (.int .i64 y.id.c) ∧ w'.cell? ⟨bm, om + i * 5 + 4, none⟩ = some (.int .i64 y.who)) (by kernel_rfl) ?_ (fun hHeld => ?_)
                · exact HS1.out _ (by first | exact hbb | exact hbb.drew)
                refine wpAnyH_take (i := 0) (oi := { dst := some 87, op := Go.Op.move (Go.Operand.tmp 12), type := 4, pos := "law.go:58", after := #[], guard := none }) (v := ?_) rfl (by kernel_rfl) (by kernel_rfl) (by kernel_rfl) (fun _ _ _ h => h) (Or.inl ⟨by rfl, ?_⟩) (by assumption) ?_
                rotate_left
                · intro w hSw
                  try dsimp only at hSw
                  go_simp
                  try with_reducible rfl
                try simp only [Act.put, List.setIfInBounds_toArray, List.set_cons_zero, List.set_cons_succ]
                refine wpAnyH_take (i := 1) (oi := { dst := some 88, op := Go.Op.move (Go.Operand.tmp 87), type := 4, pos := "law.go:58", after := #[{ on := 0, ground := Go.Ground.data }], guard := none }) (v := ?_) rfl (by kernel_rfl) (by kernel_rfl) (by kernel_rfl) (fun _ _ _ h => h) (Or.inl ⟨by rfl, ?_⟩) (by assumption) ?_
                rotate_left
                · intro w hSw
                  try dsimp only at hSw
                  go_simp
                  try with_reducible rfl
                try simp only [Act.put, List.setIfInBounds_toArray, List.set_cons_zero, List.set_cons_succ]
                refine wpAnyH_take (i := 2) (oi := { dst := some 89, op := Go.Op.move (Go.Operand.tmp 9), type := 61, pos := "law.go:58", after := #[{ on := 1, ground := Go.Ground.guard }], guard := some (1, false) }) (v := ?_) rfl (by kernel_rfl) (by kernel_rfl) (by kernel_rfl) (fun _ _ _ h => h) (Or.inl ⟨by rfl, ?_⟩) (by assumption) ?_
                rotate_left
                · intro w hSw
                  try dsimp only at hSw
                  go_simp
                  try with_reducible rfl
                try simp only [Act.put, List.setIfInBounds_toArray, List.set_cons_zero, List.set_cons_succ]
                refine wpAnyH_take (i := 3) (oi := { dst := some 90, op := Go.Op.move (Go.Operand.tmp 13), type := 3, pos := "law.go:58", after := #[{ on := 1, ground := Go.Ground.guard }], guard := some (1, false) }) (v := ?_) rfl (by kernel_rfl) (by kernel_rfl) (by kernel_rfl) (fun _ _ _ h => h) (Or.inl ⟨by rfl, ?_⟩) (by assumption) ?_
                rotate_left
                · intro w hSw
                  try dsimp only at hSw
                  go_simp
                  try with_reducible rfl
                try simp only [Act.put, List.setIfInBounds_toArray, List.set_cons_zero, List.set_cons_succ]
                refine wpAnyH_take (i := 4) (oi := { dst := some 91, op := Go.Op.indexAddr 61 (Go.Operand.tmp 89) (Go.Operand.tmp 90), type := 0, pos := "law.go:58", after := #[{ on := 2, ground := Go.Ground.data }, { on := 3, ground := Go.Ground.data }, { on := 1, ground := Go.Ground.guard }], guard := some (1, false) }) (v := ?_) rfl (by kernel_rfl) (by kernel_rfl) (by kernel_rfl) (fun _ _ _ h => h) (Or.inl ⟨by rfl, ?_⟩) (by assumption) ?_
                rotate_left
                · intro w hSw
                  try dsimp only at hSw
                  go_simp
                  try with_reducible rfl
                try simp only [Act.put, List.setIfInBounds_toArray, List.set_cons_zero, List.set_cons_succ]
                refine wpAnyH_take (i := 5) (oi := { dst := some 92, op := Go.Op.load 56 (Go.Operand.tmp 91), type := 56, pos := "law.go:58", after := #[{ on := 4, ground := Go.Ground.data }, { on := 1, ground := Go.Ground.guard }], guard := some (1, false) }) (v := ?_) rfl (by kernel_rfl) (by kernel_rfl) (by kernel_rfl) (fun _ _ _ h => h) (Or.inl ⟨by rfl, ?_⟩) (by assumption) ?_
                rotate_left
                · intro w hSw
                  try dsimp only at hSw
                  go_simp
                  try with_reducible rfl
                try simp only [Act.put, List.setIfInBounds_toArray, List.set_cons_zero, List.set_cons_succ]
                refine wpAnyH_take (i := 6) (oi := { dst := some 93, op := Go.Op.move (Go.Operand.tmp 2), type := 61, pos := "law.go:58", after := #[{ on := 1, ground := Go.Ground.guard }], guard := some (1, false) }) (v := ?_) rfl (by kernel_rfl) (by kernel_rfl) (by kernel_rfl) (fun _ _ _ h => h) (Or.inl ⟨by rfl, ?_⟩) (by assumption) ?_
                rotate_left
                · intro w hSw
                  try dsimp only at hSw
                  go_simp
                  try with_reducible rfl
                try simp only [Act.put, List.setIfInBounds_toArray, List.set_cons_zero, List.set_cons_succ]
                refine wpAnyH_take (i := 7) (oi := { dst := some 94, op := Go.Op.move (Go.Operand.tmp 11), type := 3, pos := "law.go:58", after := #[{ on := 1, ground := Go.Ground.guard }], guard := some (1, false) }) (v := ?_) rfl (by kernel_rfl) (by kernel_rfl) (by kernel_rfl) (fun _ _ _ h => h) (Or.inl ⟨by rfl, ?_⟩) (by assumption) ?_
                rotate_left
                · intro w hSw
                  try dsimp only at hSw
                  go_simp
                  try with_reducible rfl
                try simp only [Act.put, List.setIfInBounds_toArray, List.set_cons_zero, List.set_cons_succ]
                refine wpAnyH_take (i := 8) (oi := { dst := some 95, op := Go.Op.indexAddr 61 (Go.Operand.tmp 93) (Go.Operand.tmp 94), type := 0, pos := "law.go:58", after := #[{ on := 6, ground := Go.Ground.data }, { on := 7, ground := Go.Ground.data }, { on := 1, ground := Go.Ground.guard }], guard := some (1, false) }) (v := ?_) rfl (by kernel_rfl) (by kernel_rfl) (by kernel_rfl) (fun _ _ _ h => h) (Or.inl ⟨by rfl, ?_⟩) (by assumption) ?_
                rotate_left
                · intro w hSw
                  try dsimp only at hSw
                  go_simp
                  try with_reducible rfl
                try simp only [Act.put, List.setIfInBounds_toArray, List.set_cons_zero, List.set_cons_succ]
                refine wpAnyH_take (i := 9) (oi := { dst := some 96, op := Go.Op.load 56 (Go.Operand.tmp 95), type := 56, pos := "law.go:58", after := #[{ on := 8, ground := Go.Ground.data }, { on := 1, ground := Go.Ground.guard }], guard := some (1, false) }) (v := ?_) rfl (by kernel_rfl) (by kernel_rfl) (by kernel_rfl) (fun _ _ _ h => h) (Or.inl ⟨by rfl, ?_⟩) (by assumption) ?_
                rotate_left
                · intro w hSw
                  try dsimp only at hSw
                  go_simp
                  try with_reducible rfl
                try simp only [Act.put, List.setIfInBounds_toArray, List.set_cons_zero, List.set_cons_succ]
                refine wpAnyH_take (i := 10) (oi := { dst := some 97, op := Go.Op.binOp Go.BinOp.eql 56 (Go.Operand.tmp 92) (Go.Operand.tmp 96) 56, type := 4, pos := "law.go:58", after := #[{ on := 5, ground := Go.Ground.data }, { on := 9, ground := Go.Ground.data }, { on := 1, ground := Go.Ground.guard }], guard := some (1, false) }) (v := ?_) rfl (by kernel_rfl) (by kernel_rfl) (by kernel_rfl) (fun _ _ _ h => h) (Or.inl ⟨by rfl, ?_⟩) (by assumption) ?_
                rotate_left
                · intro w hSw
                  try dsimp only at hSw
                  go_simp
                  try with_reducible rfl
                try simp only [Act.put, List.setIfInBounds_toArray, List.set_cons_zero, List.set_cons_succ]
                refine wpAnyH_take (i := 11) (oi := { dst := some 98, op := Go.Op.pick (Go.Operand.tmp 88) (Go.Operand.const (Go.Value.bool true)) (Go.Operand.tmp 97), type := 4, pos := "law.go:58", after := #[{ on := 1, ground := Go.Ground.data }, { on := 10, ground := Go.Ground.data }], guard := none }) (v := ?_) rfl (by kernel_rfl) (by kernel_rfl) (by kernel_rfl) (fun _ _ _ h => h) (Or.inl ⟨by rfl, ?_⟩) (by assumption) ?_
                rotate_left
                · intro w hSw
                  try dsimp only at hSw
                  go_simp
                  try with_reducible rfl
                try simp only [Act.put, List.setIfInBounds_toArray, List.set_cons_zero, List.set_cons_succ]
                refine wpAnyH_take (i := 12) (oi := { dst := some 12, op := Go.Op.assign (Go.Operand.tmp 98), type := 4, pos := "law.go:58", after := #[{ on := 11, ground := Go.Ground.data }, { on := 1, ground := Go.Ground.chain }, { on := 0, ground := Go.Ground.phase }, { on := 1, ground := Go.Ground.phase }, { on := 2, ground := Go.Ground.phase }, { on := 3, ground := Go.Ground.phase }, { on := 4, ground := Go.Ground.phase }, { on := 5, ground := Go.Ground.phase }, { on := 6, ground := Go.Ground.phase }, { on := 7, ground := Go.Ground.phase }, { on := 8, ground := Go.Ground.phase }, { on := 9, ground := Go.Ground.phase }, { on := 10, ground := Go.Ground.phase }, { on := 11, ground := Go.Ground.phase }], guard := none }) (v := ?_) rfl (by kernel_rfl) (by kernel_rfl) (by kernel_rfl) (fun _ _ _ h => h) (Or.inl ⟨by rfl, ?_⟩) (by assumption) ?_
                rotate_left
                · intro w hSw
                  try dsimp only at hSw
                  go_simp
                  try with_reducible rfl
                try simp only [Act.put, List.setIfInBounds_toArray, List.set_cons_zero, List.set_cons_succ]
                refine wpAnyH_done (by kernel_rfl) ?_ _
                go_wp2_with fail
                go_roundg (L.length - (k + 1))
                case measure => omega
                case rel => exact ⟨k + 1, rfl, by omega, by first | rfl | go_num, by rw [HZZ.out], bTrans hbw (by first | exact hbb | exact hbb.drew)⟩
            · obtain rfl : k = L.length := by omega
              have HIN := hid_mk (inK_all L y)
              have HHR0 := hid_mk (HDEC.out ⟨y.kind, ⟨y.id.f, y.id.n, y.id.c⟩, y.who⟩)
              have HS1 : Hid (∀ w', Below wr.heap.size wr w' → w'.cell? ⟨W.heap.size, 0, none⟩ = some (.slice A1 p.hs.length c1) ∧ w'.cell? ⟨W.heap.size, 1, none⟩ = some (.slice A2 p.acs.length c2) ∧ w'.cell? ⟨W.heap.size, 2, none⟩ = some (.slice A3 p.bs.length c3) ∧ w'.cell? ⟨W.heap.size, 3, none⟩ = some (.int .i64 p.fuel) ∧ w'.cell? ⟨W.heap.size + 1, 0, none⟩ = some (.int .i64 bu.drop) ∧ w'.cell? ⟨W.heap.size + 1, 1, none⟩ = some (.int .i64 bu.dup) ∧ w'.cell? ⟨W.heap.size + 1, 2, none⟩ = some (.int .i64 bu.time) ∧ w'.cell? ⟨W.heap.size + 1, 3, none⟩ = some (.int .i64 bu.crash) ∧ w'.cell? ⟨w3.heap.size, 0, none⟩ = some (.slice Aw X.acts.length cw) ∧ w'.cell? ⟨w3.heap.size, 1, none⟩ = some (.slice Bw X.mail.length dw) ∧ w'.cell? ⟨w3.heap.size, 2, none⟩ = some (.int .i64 0) ∧ w'.cell? ⟨w3.heap.size, 3, none⟩ = some (.int .i64 0) ∧ w'.cell? ⟨w3.heap.size, 4, none⟩ = some (.int .i64 0) ∧ w'.cell? ⟨w3.heap.size, 5, none⟩ = some (.int .i64 0) ∧ w'.cell? ⟨bm, om + i * 5, none⟩ = some (.int .i64 y.kind) ∧ w'.cell? ⟨bm, om + i * 5 + 1, none⟩ = some (.int .i64 y.id.f) ∧ w'.cell? ⟨bm, om + i * 5 + 2, none⟩ = some (.int .i64 y.id.n) ∧ w'.cell? ⟨bm, om + i * 5 + 3, none⟩ = some (.int .i64 y.id.c) ∧ w'.cell? ⟨bm, om + i * 5 + 4, none⟩ = some (.int .i64 y.who)) := fun w' hb => by
                obtain ⟨a0, a1, a2, a3, a4, a5, a6, a7, a8, a9, aa, ab, ac, ad⟩ := HSA.out w' (bTrans hbw hb)
                obtain ⟨f0, f1, f2, f3, f4⟩ := HY.out w' (bTrans hbw hb)
                exact ⟨a0, a1, a2, a3, a4, a5, a6, a7, a8, a9, aa, ab, ac, ad, f0, f1, f2, f3, f4⟩
              obtain ⟨y0, y1, y2, y3, y4, y5, y6, y7, y8, y9, ya, yb, yc, yd, f0, f1, f2, f3, f4⟩ := HS1.out wr hbb
              cases hin : inK L y L.length with
              | true =>
                have HHR : isP p bu X ⟨y.kind, ⟨y.id.f, y.id.n, y.id.c⟩, y.who⟩ = true := by rw [HHR0.out, ← hin, HIN.out]
                clear hin
                go_wp2_with fail
                refine wp_region_held_drew (S := fun w' => w'.cell? ⟨W.heap.size, 0, none⟩ = some (.slice A1 p.hs.length c1) ∧ w'.cell? ⟨W.heap.size, 1, none⟩ = some (.slice A2 p.acs.length c2) ∧ w'.cell? ⟨W.heap.size, 2, none⟩ = some (.slice A3 p.bs.length c3) ∧ w'.cell? ⟨W.heap.size, 3, none⟩ = some (.int .i64 p.fuel) ∧ w'.cell? ⟨W.heap.size + 1, 0, none⟩ = some (.int .i64 bu.drop) ∧ w'.cell? ⟨W.heap.size + 1, 1, none⟩ = some (.int .i64 bu.dup) ∧ w'.cell? ⟨W.heap.size + 1, 2, none⟩ = some (.int .i64 bu.time) ∧ w'.cell? ⟨W.heap.size + 1, 3, none⟩ = some (.int .i64 bu.crash) ∧ w'.cell? ⟨w3.heap.size, 0, none⟩ = some (.slice Aw X.acts.length cw) ∧ w'.cell? ⟨w3.heap.size, 1, none⟩ = some (.slice Bw X.mail.length dw) ∧ w'.cell? ⟨w3.heap.size, 2, none⟩ = some (.int .i64 0) ∧ w'.cell? ⟨w3.heap.size, 3, none⟩ = some (.int .i64 0) ∧ w'.cell? ⟨w3.heap.size, 4, none⟩ = some (.int .i64 0) ∧ w'.cell? ⟨w3.heap.size, 5, none⟩ = some (.int .i64 0) ∧ w'.cell? ⟨bm, om + i * 5, none⟩ = some (.int .i64 y.kind) ∧ w'.cell? ⟨bm, om + i * 5 + 1, none⟩ = some (.int .i64 y.id.f) ∧ w'.cell? ⟨bm, om + i * 5 + 2, none⟩ = some (.int .i64 y.id.n) ∧ w'.cell? ⟨bm, om + i * 5 + 3, none⟩ = some (.int .i64 y.id.c) ∧ w'.cell? ⟨bm, om + i * 5 + 4, none⟩ = some (.int .i64 y.who)) (by kernel_rfl) ?_ (fun hHeld => ?_)
                · exact HS1.out _ (by first | exact hbb | exact hbb.drew)
                refine wpAnyH_take (i := 0) (oi := { dst := some 99, op := Go.Op.load 27 (Go.Operand.tmp 3), type := 27, pos := "law.go:60", after := #[], guard := none }) (v := ?_) rfl (by kernel_rfl) (by kernel_rfl) (by kernel_rfl) (fun _ _ _ h => h) (Or.inl ⟨by rfl, ?_⟩) (by assumption) ?_
                rotate_left
                · intro w hSw
                  try dsimp only at hSw
                  go_simp
                  try with_reducible rfl
                try simp only [Act.put, List.setIfInBounds_toArray, List.set_cons_zero, List.set_cons_succ]
                refine wpAnyH_take (i := 1) (oi := { dst := some 100, op := Go.Op.load 32 (Go.Operand.tmp 4), type := 32, pos := "law.go:60", after := #[], guard := none }) (v := ?_) rfl (by kernel_rfl) (by kernel_rfl) (by kernel_rfl) (fun _ _ _ h => h) (Or.inl ⟨by rfl, ?_⟩) (by assumption) ?_
                rotate_left
                · intro w hSw
                  try dsimp only at hSw
                  go_simp
                  try with_reducible rfl
                try simp only [Act.put, List.setIfInBounds_toArray, List.set_cons_zero, List.set_cons_succ]
                refine wpAnyH_take (i := 2) (oi := { dst := some 101, op := Go.Op.load 34 (Go.Operand.tmp 7), type := 34, pos := "law.go:60", after := #[], guard := none }) (v := ?_) rfl (by kernel_rfl) (by kernel_rfl) (by kernel_rfl) (fun _ _ _ h => h) (Or.inl ⟨by rfl, ?_⟩) (by assumption) ?_
                rotate_left
                · intro w hSw
                  try dsimp only at hSw
                  go_simp
                  try with_reducible rfl
                try simp only [Act.put, List.setIfInBounds_toArray, List.set_cons_zero, List.set_cons_succ]
                refine wpAnyH_take (i := 3) (oi := { dst := some 102, op := Go.Op.move (Go.Operand.tmp 2), type := 61, pos := "law.go:60", after := #[], guard := none }) (v := ?_) rfl (by kernel_rfl) (by kernel_rfl) (by kernel_rfl) (fun _ _ _ h => h) (Or.inl ⟨by rfl, ?_⟩) (by assumption) ?_
                rotate_left
                · intro w hSw
                  try dsimp only at hSw
                  go_simp
                  try with_reducible rfl
                try simp only [Act.put, List.setIfInBounds_toArray, List.set_cons_zero, List.set_cons_succ]
                refine wpAnyH_take (i := 4) (oi := { dst := some 103, op := Go.Op.move (Go.Operand.tmp 11), type := 3, pos := "law.go:60", after := #[], guard := none }) (v := ?_) rfl (by kernel_rfl) (by kernel_rfl) (by kernel_rfl) (fun _ _ _ h => h) (Or.inl ⟨by rfl, ?_⟩) (by assumption) ?_
                rotate_left
                · intro w hSw
                  try dsimp only at hSw
                  go_simp
                  try with_reducible rfl
                try simp only [Act.put, List.setIfInBounds_toArray, List.set_cons_zero, List.set_cons_succ]
                refine wpAnyH_take (i := 5) (oi := { dst := some 104, op := Go.Op.indexAddr 61 (Go.Operand.tmp 102) (Go.Operand.tmp 103), type := 0, pos := "law.go:60", after := #[{ on := 3, ground := Go.Ground.data }, { on := 4, ground := Go.Ground.data }], guard := none }) (v := ?_) rfl (by kernel_rfl) (by kernel_rfl) (by kernel_rfl) (fun _ _ _ h => h) (Or.inl ⟨by rfl, ?_⟩) (by assumption) ?_
                rotate_left
                · intro w hSw
                  try dsimp only at hSw
                  go_simp
                  try with_reducible rfl
                try simp only [Act.put, List.setIfInBounds_toArray, List.set_cons_zero, List.set_cons_succ]
                refine wpAnyH_take (i := 6) (oi := { dst := some 105, op := Go.Op.load 56 (Go.Operand.tmp 104), type := 56, pos := "law.go:60", after := #[{ on := 5, ground := Go.Ground.data }], guard := none }) (v := ?_) rfl (by kernel_rfl) (by kernel_rfl) (by kernel_rfl) (fun _ _ _ h => h) (Or.inl ⟨by rfl, ?_⟩) (by assumption) ?_
                rotate_left
                · intro w hSw
                  try dsimp only at hSw
                  go_simp
                  try with_reducible rfl
                try simp only [Act.put, List.setIfInBounds_toArray, List.set_cons_zero, List.set_cons_succ]
                refine wpAnyH_take (i := 8) (oi := { dst := some 107, op := Go.Op.move (Go.Operand.tmp 12), type := 4, pos := "law.go:60", after := #[], guard := none }) (v := ?_) rfl (by kernel_rfl) (by kernel_rfl) (by kernel_rfl) (fun _ _ _ h => h) (Or.inl ⟨by rfl, ?_⟩) (by assumption) ?_
                rotate_left
                · intro w hSw
                  try dsimp only at hSw
                  go_simp
                  try with_reducible rfl
                try simp only [Act.put, List.setIfInBounds_toArray, List.set_cons_zero, List.set_cons_succ]
                refine wpAnyH_ready (rs := [7]) (by kernel_rfl) (by simp) ?_
                refine AllReadyH.cons (o := { dst := some 106, op := Go.Op.call { callee := Go.Callee.value (Go.Operand.func 23), args := #[Go.Operand.tmp 99, Go.Operand.tmp 100, Go.Operand.tmp 101, Go.Operand.tmp 105], argTypes := #[27, 32, 34, 56] }, type := 4, pos := "law.go:60", after := #[{ on := 0, ground := Go.Ground.data }, { on := 1, ground := Go.Ground.data }, { on := 2, ground := Go.Ground.data }, { on := 6, ground := Go.Ground.data }], guard := none }) rfl (fun K hK => ?_) AllReadyH.nil
                go_simp
                (go_at_call 23; refine (is_5 _ _ _ p bu X _ _ _ _ _ (HT5.out.below (bTrans hbw (by first | exact hbb | exact hbb.drew))) (HP5.out.below (bTrans hbw (by first | exact hbb | exact hbb.drew))) (HX5.out.below (bTrans hbw (by first | exact hbb | exact hbb.drew)))).mono ?_; rintro e w7 ⟨rfl, hb7⟩; replace hbb := bTrans (by first | exact hbb | exact hbb.drew) hb7; clear hb7)
                try (go_wp2_with fail)
                refine hK.out _ _ ?_ (fun hHeld => ?_)
                · exact HS1.out _ (by first | exact hbb | exact hbb.drew)
                clear hK K
                try simp only [Act.put, List.setIfInBounds_toArray, List.set_cons_zero, List.set_cons_succ]
                refine wpAnyH_take (i := 9) (oi := { dst := some 108, op := Go.Op.binOp Go.BinOp.neq 4 (Go.Operand.tmp 106) (Go.Operand.tmp 107) 4, type := 4, pos := "law.go:60", after := #[{ on := 7, ground := Go.Ground.data }, { on := 8, ground := Go.Ground.data }], guard := none }) (v := ?_) rfl (by kernel_rfl) (by kernel_rfl) (by kernel_rfl) (fun _ _ _ h => h) (Or.inl ⟨by rfl, ?_⟩) (by assumption) ?_
                rotate_left
                · intro w hSw
                  try dsimp only at hSw
                  go_simp
                  try with_reducible rfl
                try simp only [Act.put, List.setIfInBounds_toArray, List.set_cons_zero, List.set_cons_succ]
                refine wpAnyH_done (by kernel_rfl) ?_ _
                go_wp2_with fail
                go_roundg (ms.length - (i + 1))
                case measure => omega
                case rel => exact ⟨i + 1, rfl, by omega, by first | rfl | go_num, bTrans hbw (by first | exact hbb | exact hbb.drew)⟩
              | false =>
                have HHR : isP p bu X ⟨y.kind, ⟨y.id.f, y.id.n, y.id.c⟩, y.who⟩ = false := by rw [HHR0.out, ← hin, HIN.out]
                clear hin
                go_wp2_with fail
                refine wp_region_held_drew (S := fun w' => w'.cell? ⟨W.heap.size, 0, none⟩ = some (.slice A1 p.hs.length c1) ∧ w'.cell? ⟨W.heap.size, 1, none⟩ = some (.slice A2 p.acs.length c2) ∧ w'.cell? ⟨W.heap.size, 2, none⟩ = some (.slice A3 p.bs.length c3) ∧ w'.cell? ⟨W.heap.size, 3, none⟩ = some (.int .i64 p.fuel) ∧ w'.cell? ⟨W.heap.size + 1, 0, none⟩ = some (.int .i64 bu.drop) ∧ w'.cell? ⟨W.heap.size + 1, 1, none⟩ = some (.int .i64 bu.dup) ∧ w'.cell? ⟨W.heap.size + 1, 2, none⟩ = some (.int .i64 bu.time) ∧ w'.cell? ⟨W.heap.size + 1, 3, none⟩ = some (.int .i64 bu.crash) ∧ w'.cell? ⟨w3.heap.size, 0, none⟩ = some (.slice Aw X.acts.length cw) ∧ w'.cell? ⟨w3.heap.size, 1, none⟩ = some (.slice Bw X.mail.length dw) ∧ w'.cell? ⟨w3.heap.size, 2, none⟩ = some (.int .i64 0) ∧ w'.cell? ⟨w3.heap.size, 3, none⟩ = some (.int .i64 0) ∧ w'.cell? ⟨w3.heap.size, 4, none⟩ = some (.int .i64 0) ∧ w'.cell? ⟨w3.heap.size, 5, none⟩ = some (.int .i64 0) ∧ w'.cell? ⟨bm, om + i * 5, none⟩ = some (.int .i64 y.kind) ∧ w'.cell? ⟨bm, om + i * 5 + 1, none⟩ = some (.int .i64 y.id.f) ∧ w'.cell? ⟨bm, om + i * 5 + 2, none⟩ = some (.int .i64 y.id.n) ∧ w'.cell? ⟨bm, om + i * 5 + 3, none⟩ = some (.int .i64 y.id.c) ∧ w'.cell? ⟨bm, om + i * 5 + 4, none⟩ = some (.int .i64 y.who)) (by kernel_rfl) ?_ (fun hHeld => ?_)
                · exact HS1.out _ (by first | exact hbb | exact hbb.drew)
                refine wpAnyH_take (i := 0) (oi := { dst := some 99, op := Go.Op.load 27 (Go.Operand.tmp 3), type := 27, pos := "law.go:60", after := #[], guard := none }) (v := ?_) rfl (by kernel_rfl) (by kernel_rfl) (by kernel_rfl) (fun _ _ _ h => h) (Or.inl ⟨by rfl, ?_⟩) (by assumption) ?_
                rotate_left
                · intro w hSw
                  try dsimp only at hSw
                  go_simp
                  try with_reducible rfl
                try simp only [Act.put, List.setIfInBounds_toArray, List.set_cons_zero, List.set_cons_succ]
                refine wpAnyH_take (i := 1) (oi := { dst := some 100, op := Go.Op.load 32 (Go.Operand.tmp 4), type := 32, pos := "law.go:60", after := #[], guard := none }) (v := ?_) rfl (by kernel_rfl) (by kernel_rfl) (by kernel_rfl) (fun _ _ _ h => h) (Or.inl ⟨by rfl, ?_⟩) (by assumption) ?_
                rotate_left
                · intro w hSw
                  try dsimp only at hSw
                  go_simp
                  try with_reducible rfl
                try simp only [Act.put, List.setIfInBounds_toArray, List.set_cons_zero, List.set_cons_succ]
                refine wpAnyH_take (i := 2) (oi := { dst := some 101, op := Go.Op.load 34 (Go.Operand.tmp 7), type := 34, pos := "law.go:60", after := #[], guard := none }) (v := ?_) rfl (by kernel_rfl) (by kernel_rfl) (by kernel_rfl) (fun _ _ _ h => h) (Or.inl ⟨by rfl, ?_⟩) (by assumption) ?_
                rotate_left
                · intro w hSw
                  try dsimp only at hSw
                  go_simp
                  try with_reducible rfl
                try simp only [Act.put, List.setIfInBounds_toArray, List.set_cons_zero, List.set_cons_succ]
                refine wpAnyH_take (i := 3) (oi := { dst := some 102, op := Go.Op.move (Go.Operand.tmp 2), type := 61, pos := "law.go:60", after := #[], guard := none }) (v := ?_) rfl (by kernel_rfl) (by kernel_rfl) (by kernel_rfl) (fun _ _ _ h => h) (Or.inl ⟨by rfl, ?_⟩) (by assumption) ?_
                rotate_left
                · intro w hSw
                  try dsimp only at hSw
                  go_simp
                  try with_reducible rfl
                try simp only [Act.put, List.setIfInBounds_toArray, List.set_cons_zero, List.set_cons_succ]
                refine wpAnyH_take (i := 4) (oi := { dst := some 103, op := Go.Op.move (Go.Operand.tmp 11), type := 3, pos := "law.go:60", after := #[], guard := none }) (v := ?_) rfl (by kernel_rfl) (by kernel_rfl) (by kernel_rfl) (fun _ _ _ h => h) (Or.inl ⟨by rfl, ?_⟩) (by assumption) ?_
                rotate_left
                · intro w hSw
                  try dsimp only at hSw
                  go_simp
                  try with_reducible rfl
                try simp only [Act.put, List.setIfInBounds_toArray, List.set_cons_zero, List.set_cons_succ]
                refine wpAnyH_take (i := 5) (oi := { dst := some 104, op := Go.Op.indexAddr 61 (Go.Operand.tmp 102) (Go.Operand.tmp 103), type := 0, pos := "law.go:60", after := #[{ on := 3, ground := Go.Ground.data }, { on := 4, ground := Go.Ground.data }], guard := none }) (v := ?_) rfl (by kernel_rfl) (by kernel_rfl) (by kernel_rfl) (fun _ _ _ h => h) (Or.inl ⟨by rfl, ?_⟩) (by assumption) ?_
                rotate_left
                · intro w hSw
                  try dsimp only at hSw
                  go_simp
                  try with_reducible rfl
                try simp only [Act.put, List.setIfInBounds_toArray, List.set_cons_zero, List.set_cons_succ]
                refine wpAnyH_take (i := 6) (oi := { dst := some 105, op := Go.Op.load 56 (Go.Operand.tmp 104), type := 56, pos := "law.go:60", after := #[{ on := 5, ground := Go.Ground.data }], guard := none }) (v := ?_) rfl (by kernel_rfl) (by kernel_rfl) (by kernel_rfl) (fun _ _ _ h => h) (Or.inl ⟨by rfl, ?_⟩) (by assumption) ?_
                rotate_left
                · intro w hSw
                  try dsimp only at hSw
                  go_simp
                  try with_reducible rfl
                try simp only [Act.put, List.setIfInBounds_toArray, List.set_cons_zero, List.set_cons_succ]
                refine wpAnyH_take (i := 8) (oi := { dst := some 107, op := Go.Op.move (Go.Operand.tmp 12), type := 4, pos := "law.go:60", after := #[], guard := none }) (v := ?_) rfl (by kernel_rfl) (by kernel_rfl) (by kernel_rfl) (fun _ _ _ h => h) (Or.inl ⟨by rfl, ?_⟩) (by assumption) ?_
                rotate_left
                · intro w hSw
                  try dsimp only at hSw
                  go_simp
                  try with_reducible rfl
                try simp only [Act.put, List.setIfInBounds_toArray, List.set_cons_zero, List.set_cons_succ]
                refine wpAnyH_ready (rs := [7]) (by kernel_rfl) (by simp) ?_
                refine AllReadyH.cons (o := { dst := some 106, op := Go.Op.call { callee := Go.Callee.value (Go.Operand.func 23), args := #[Go.Operand.tmp 99, Go.Operand.tmp 100, Go.Operand.tmp 101, Go.Operand.tmp 105], argTypes := #[27, 32, 34, 56] }, type := 4, pos := "law.go:60", after := #[{ on := 0, ground := Go.Ground.data }, { on := 1, ground := Go.Ground.data }, { on := 2, ground := Go.Ground.data }, { on := 6, ground := Go.Ground.data }], guard := none }) rfl (fun K hK => ?_) AllReadyH.nil
                go_simp
                (go_at_call 23; refine (is_5 _ _ _ p bu X _ _ _ _ _ (HT5.out.below (bTrans hbw (by first | exact hbb | exact hbb.drew))) (HP5.out.below (bTrans hbw (by first | exact hbb | exact hbb.drew))) (HX5.out.below (bTrans hbw (by first | exact hbb | exact hbb.drew)))).mono ?_; rintro e w7 ⟨rfl, hb7⟩; replace hbb := bTrans (by first | exact hbb | exact hbb.drew) hb7; clear hb7)
                try (go_wp2_with fail)
                refine hK.out _ _ ?_ (fun hHeld => ?_)
                · exact HS1.out _ (by first | exact hbb | exact hbb.drew)
                clear hK K
                try simp only [Act.put, List.setIfInBounds_toArray, List.set_cons_zero, List.set_cons_succ]
                refine wpAnyH_take (i := 9) (oi := { dst := some 108, op := Go.Op.binOp Go.BinOp.neq 4 (Go.Operand.tmp 106) (Go.Operand.tmp 107) 4, type := 4, pos := "law.go:60", after := #[{ on := 7, ground := Go.Ground.data }, { on := 8, ground := Go.Ground.data }], guard := none }) (v := ?_) rfl (by kernel_rfl) (by kernel_rfl) (by kernel_rfl) (fun _ _ _ h => h) (Or.inl ⟨by rfl, ?_⟩) (by assumption) ?_
                rotate_left
                · intro w hSw
                  try dsimp only at hSw
                  go_simp
                  try with_reducible rfl
                try simp only [Act.put, List.setIfInBounds_toArray, List.set_cons_zero, List.set_cons_succ]
                refine wpAnyH_done (by kernel_rfl) ?_ _
                go_wp2_with fail
                go_roundg (ms.length - (i + 1))
                case measure => omega
                case rel => exact ⟨i + 1, rfl, by omega, by first | rfl | go_num, bTrans hbw (by first | exact hbb | exact hbb.drew)⟩
        · obtain rfl : i = ms.length := by omega
          obtain ⟨y0, y1, y2, y3, y4, y5, y6, y7, y8, y9, ya, yb, yc, yd⟩ := HSA.out wr hbw
          cases hmay : mayB bu with
          | true =>
            go_wp2_with (first
              | (go_at_call 30; refine (may_any _ bu).mono ?_; rintro e w8 ⟨rfl, hb8⟩)
              | (go_at_call 22; refine (ewake_any _ (HT5.out.below (bTrans hbw hb8))).mono ?_; rintro e w9 ⟨rfl, hb9⟩))
            go_ret
            exact ⟨rfl, bTrans HB5.out (bTrans (bTrans hbw hb8) hb9)⟩
          | false =>
            have hl0 : ((L.length : Int) == 0) = true := by rw [HLE.out hmay]; rfl
            go_wp2_with (first
              | (go_at_call 30; refine (may_any _ bu).mono ?_; rintro e w8 ⟨rfl, hb8⟩)
              | (go_at_call 22; refine (ewake_any _ (HT5.out.below (bTrans hbw hb8))).mono ?_; rintro e w9 ⟨rfl, hb9⟩))
            go_ret
            exact ⟨rfl, bTrans HB5.out (bTrans (bTrans hbw hb8) hb9)⟩
theorem elist_any (W : World) (vp vm : Value) (p : PPrg) (bu : PBud) (ms : List PEv) (ht : Tab W) (hp : PrgV W vp p) (hr : RgP p) (hm : Evs anyB W vm ms) : Calls Tryd.prog 7 #[vp, uVal bu, vm] W fun e w' => e = .returned (.bool true) ∧ Below W.heap.size W w' := by
  by_cases hs : Small p
  · by_cases hl : ms.length ≤ 40
    · by_cases hf : fc p = 0
      · exact elist_yes W vp vm p bu ms ht hp hm hs hr hl hf
      · exact elist_no W vp vm p bu ms ht hp hm hs hl hf
    · exact elist_long W vp vm p bu ms ht hp hm hs (by omega)
  · exact elist_big W vp vm p bu ms ht hp hm hs
end Go.Proofs.YtflpkdhmkgidiaaDoor
