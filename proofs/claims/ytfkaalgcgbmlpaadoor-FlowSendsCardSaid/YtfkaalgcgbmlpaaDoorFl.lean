/-
  What Depths, Most and Check answer of a program. Condition: the table of the instructions is in the world.
-/
import Derived.Test.YtfkaalgcgbmlpaaDoorWalk
import Derived.Test.YtfkaalgcgbmlpaaDoorChk3
namespace Go.Proofs.YtfkaalgcgbmlpaaDoor
open Go.RowKit
attribute [local go_sem ↓] Go.wp_at_zero Go.wp_at_succ

theorem scan_zero {α : Type} {f : α → Int} : ∀ {l : List α}, scan f l = 0 → ∀ x ∈ l, f x = 0
  | [], _, x, hx => by cases hx
  | y :: r, h, x, hx => by
    unfold scan at h
    by_cases e : f y = 0
    · rw [if_pos e] at h
      rcases List.mem_cons.1 hx with rfl | hx
      · exact e
      · exact scan_zero h x hx
    · rw [if_neg e] at h; exact absurd h e
theorem okI_of {hs : List PHnd} {n : Nat} {args : Int} {i : PIns} (h : chkI n args hs.length i = 0) : OkI hs n i := by
  have hv : vl i.op = true := by
    cases e : vl i.op with
    | true => rfl
    | false => rw [← chkI_bad e] at h; cases h
  refine ⟨hv, fun e => ?_, fun e => ?_⟩
  · have ho : opd i.op = 4 := by rcases e with e | e <;> (rw [e]; decide)
    rw [← chkI_4 hv ho] at h
    unfold unl inB at h
    by_cases hr : 0 ≤ i.a ∧ i.a ≤ n
    · exact hr
    · rw [decide_eq_false hr] at h; simp at h
  · have ho : opd i.op = 5 := by rw [e]; decide
    rw [← chkI_5 hv ho] at h
    unfold unl inB at h
    by_cases hr : 0 ≤ i.a ∧ i.a ≤ (hs.length : Int) - 1
    · omega
    · rw [decide_eq_false hr] at h; simp at h
theorem chk_hs {p : PPrg} (h : chk p = 0) : ∀ x ∈ p.hs, chkH p.hs.length x = 0 := by
  unfold chk at h
  by_cases e0 : chkC p = 0
  · rw [if_pos e0] at h
    by_cases e1 : scan (chkH p.hs.length) p.hs = 0
    · exact scan_zero e1
    · rw [if_neg e1] at h; exact absurd h e1
  · rw [if_neg e0] at h; exact absurd h e0
theorem chkH_parts {hs : List PHnd} {x : PHnd} (h : chkH hs.length x = 0) : (0 ≤ x.args ∧ x.args ≤ 4) ∧ x.code.length ≤ 64 ∧ ∀ i ∈ x.code, OkI hs x.code.length i := by
  unfold chkH at h
  by_cases e0 : 0 ≤ x.args ∧ x.args ≤ 4
  · rw [if_pos e0] at h
    by_cases e1 : x.code.length ≤ 64
    · rw [if_pos e1] at h
      exact ⟨e0, e1, fun i hi => okI_of (scan_zero h i hi)⟩
    · rw [if_neg e1] at h; cases h
  · rw [if_neg e0] at h; cases h
theorem chk_ok {p : PPrg} (h : chk p = 0) : OkH p.hs ∧ ∀ x ∈ p.hs, x.code.length ≤ 64 ∧ ∀ i ∈ x.code, OkI p.hs x.code.length i :=
  ⟨fun x hx => (chkH_parts (chk_hs h x hx)).1, fun x hx => (chkH_parts (chk_hs h x hx)).2⟩

/-- P4.1: Depths' error, and its depths; Most; Check. -/
def fcode (p : PPrg) (h : Int) : List PIns := ((p.hs[h.toNat]?).map (·.code)).getD []
noncomputable def fe (p : PPrg) (h : Int) : Int := if chk p = 0 then (if 0 ≤ h ∧ h < p.hs.length then de p.hs (fcode p h) else 7) else chk p
noncomputable def fl (p : PPrg) (h : Int) : List Int := if chk p = 0 then (if 0 ≤ h ∧ h < p.hs.length then dl p.hs (fcode p h) else []) else []
noncomputable def fm (p : PPrg) (h : Int) : Int := if fe p h = 0 then mxl (fl p h) else -1
noncomputable def fc (p : PPrg) : Int := if chk p = 0 then scan (fun h => de p.hs h.code) p.hs else chk p
theorem fcode_at {p : PPrg} {k : Nat} {x : PHnd} (h : p.hs[k]? = some x) : fcode p (k : Int) = x.code := by unfold fcode; rw [Int.toNat_natCast, h]; rfl

set_option maxHeartbeats 4000000 in
set_option maxRecDepth 100000 in
theorem depths_any (w : World) (v : Value) (p : PPrg) (h : Int) (ht : Tab w) (hp : PrgV w v p) :
    Calls Tryd.prog 11 #[v, .int .i64 h] w fun e w' => ∃ u, e = .returned (.tuple #[u, .int .i64 (fe p h)]) ∧ Ints (fun b => w.heap.size ≤ b) w' u (fl p h) ∧ Below w.heap.size w w' := by
  obtain ⟨va, vb, vc, rfl, h1, h2, h3⟩ := hp
  obtain ⟨A1, c1, rfl, hl1⟩ := h1.form
  obtain ⟨A2, c2, rfl, hl2⟩ := h2.form
  obtain ⟨A3, c3, rfl, hl3⟩ := h3.form
  have HP : Hid (PrgV w (.agg #[.slice A1 p.hs.length c1, .slice A2 p.acs.length c2, .slice A3 p.bs.length c3, .int .i64 p.fuel]) p) := ⟨_, _, _, rfl, h1, h2, h3⟩
  have HT : Hid (Tab w) := ht
  have HB : ∀ (x : Obj), Below w.heap.size w (w.alloc x) := fun x => bAlloc (bRefl w) x
  clear ht h2 h3
  by_cases e0 : chk p = 0
  · have e0' := ne0_no e0
    have HO : Hid (OkH p.hs ∧ ∀ x ∈ p.hs, x.code.length ≤ 64 ∧ ∀ i ∈ x.code, OkI p.hs x.code.length i) := chk_ok e0
    by_cases g0 : 0 ≤ h
    · by_cases g1 : h < p.hs.length
      · have HE : Hid (fe p h = de p.hs (fcode p h) ∧ fl p h = dl p.hs (fcode p h)) := by
          unfold fe fl; rw [if_pos e0, if_pos ⟨g0, g1⟩, if_pos e0, if_pos ⟨g0, g1⟩]; exact ⟨rfl, rfl⟩
        obtain ⟨k, rfl⟩ := Int.eq_ofNat_of_zero_le g0
        obtain ⟨b1, o1, x, v1, rfl, hx, hz1, q1, q2, hv1⟩ := h1.cell (bRefl w) (k := k) (by omega)
        obtain ⟨V1, n1, rfl, _⟩ := hv1.form
        have HE2 : Hid (fe p k = de p.hs x.code ∧ fl p k = dl p.hs x.code) := by have := HE.out; rw [fcode_at hx] at this; exact this
        have HX : Hid (x ∈ p.hs) := List.mem_of_getElem? hx
        have hz2 : b1 < w.heap.size + 1 := by omega
        clear hx e0 HE
        go_enter Tryd.func11, Tryd.ntmps11
        go_wp2_with (go_at_call 19; refine (check_any _ _ p (HT.out.below (by exact HB _)) (HP.out.below (by exact HB _))).mono ?_; rintro e w1 ⟨rfl, hb1⟩; have hc1 := bcell hb1)
        have hz3 : b1 < w1.heap.size := by have := hb1.size; simp at this; omega
        have hz4 : w.heap.size < w1.heap.size := by have := hb1.size; simp at this; omega
        have HB1 : Hid (Below w.heap.size w w1) := bTrans (HB _) hb1
        go_region_held3 (fun w' => w'.cell? ⟨w.heap.size, 0, none⟩ = some (.slice (some ⟨b1, o1, none⟩) p.hs.length c1) ∧ w'.cell? ⟨b1, o1 + k * 2 + 1, none⟩ = some (.slice V1 x.code.length n1)) (go_keep)
          (first | (go_at_call 20; refine (walk_any _ _ _ x.code p.hs (HT.out.below (by first | exact HB1.out | exact HB1.out.drew)) ((hv1.below (by first | exact HB1.out | exact HB1.out.drew)).any) (h1.below (by first | exact HB1.out | exact HB1.out.drew)) HO.out.1 (HO.out.2 x HX.out).2 (HO.out.2 x HX.out).1).mono ?_; rintro e w2 ⟨u, rfl, hu, hb2⟩; have hc2 := bcell (undrew hb2); obtain ⟨Au, cu, rfl, hul⟩ := hu.form))
        all_goals (go_wp2; go_ret2; exact ⟨_, by rw [HE2.out.1]; rfl, by rw [HE2.out.2]; exact hu.up (fun b hb => Nat.le_trans HB1.out.size (by exact hb)), bTrans HB1.out (undrew hb2)⟩)
      · have HE : Hid (fe p h = 7 ∧ fl p h = []) := by
          unfold fe fl; rw [if_pos e0, if_neg (fun x => g1 x.2), if_pos e0, if_neg (fun x => g1 x.2)]; exact ⟨rfl, rfl⟩
        clear e0
        go_enter Tryd.func11, Tryd.ntmps11
        go_wp2_with (go_at_call 19; refine (check_any _ _ p (HT.out.below (by exact HB _)) (HP.out.below (by exact HB _))).mono ?_; rintro e w1 ⟨rfl, hb1⟩; have hc1 := bcell hb1)
        go_ret2
        exact ⟨_, by rw [HE.out.1]; rfl, by rw [HE.out.2]; exact sl0, bTrans (HB _) hb1⟩
    · have HE : Hid (fe p h = 7 ∧ fl p h = []) := by
        unfold fe fl; rw [if_pos e0, if_neg (fun x => g0 x.1), if_pos e0, if_neg (fun x => g0 x.1)]; exact ⟨rfl, rfl⟩
      clear e0
      go_enter Tryd.func11, Tryd.ntmps11
      go_wp2_with (go_at_call 19; refine (check_any _ _ p (HT.out.below (by exact HB _)) (HP.out.below (by exact HB _))).mono ?_; rintro e w1 ⟨rfl, hb1⟩; have hc1 := bcell hb1)
      go_ret2
      exact ⟨_, by rw [HE.out.1]; rfl, by rw [HE.out.2]; exact sl0, bTrans (HB _) hb1⟩
  · have e0' := ne0_yes e0
    have HE : Hid (fe p h = chk p ∧ fl p h = []) := by
      unfold fe fl; rw [if_neg e0, if_neg e0]; exact ⟨rfl, rfl⟩
    clear e0
    go_enter Tryd.func11, Tryd.ntmps11
    go_wp2_with (go_at_call 19; refine (check_any _ _ p (HT.out.below (by exact HB _)) (HP.out.below (by exact HB _))).mono ?_; rintro e w1 ⟨rfl, hb1⟩; have hc1 := bcell hb1)
    go_ret2
    exact ⟨_, by rw [HE.out.1]; rfl, by rw [HE.out.2]; exact sl0, bTrans (HB _) hb1⟩
end Go.Proofs.YtfkaalgcgbmlpaaDoor
