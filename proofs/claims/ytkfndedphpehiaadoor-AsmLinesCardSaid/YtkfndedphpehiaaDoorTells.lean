/-
  The first law of chapter 5: what each input gives. Conditions: numbers of 64 bits; the variables are there.
-/
import Derived.Test.YtkfndedphpehiaaDoorAw
namespace Go.Proofs.YtkfndedphpehiaaDoor
open Go.RowKit
attribute [local go_sem ↓] Go.wp_at_zero Go.wp_at_succ

theorem line_len_pos {i : PIns} {l : List UInt8} (h : line i = l) (hl : l ≠ []) : 0 < (line i).length := by rw [h]; exact List.length_pos_iff.2 hl
theorem txtO_len : ∀ {c : List PIns} {t : List UInt8}, txtO c = some t → c.length ≤ t.length
  | [], t, _ => by simp
  | i :: r, t, h => by
    unfold txtO at h
    by_cases e : line i = []
    · rw [if_pos e] at h; cases h
    · rw [if_neg e] at h
      cases hx : txtO r with
      | none => rw [hx] at h; cases h
      | some u =>
        rw [hx] at h
        cases h
        have := txtO_len hx
        simp; omega
theorem pc_len (s : List UInt8) (h : s.length ≤ 1000000) : (pc s).length ≤ 1000000 := by
  unfold pc
  cases hp : prs s with
  | none => simp
  | some c => exact Nat.le_trans (txtO_len (txt_prs _ (Nat.le_refl _) hp).1) h
theorem pc_rg (s : List UInt8) : ∀ i ∈ pc s, RgI i := by
  unfold pc
  cases hp : prs s with
  | none => intro i hi; simp at hi
  | some c => exact (txt_prs _ (Nat.le_refl _) hp).2

/-- What the law holds while it asks: the code, what was read twice, the instruction. -/
structure TE (ok : Nat → Prop) (w : World) (v : Value) (c : List PIns) (v1 v2 : Value) (r : List PIns) (i : PIns) (wr : World) : Prop where
  low : Below w.heap.size w wr
  env : Env wr
  cd : Code ok wr v c
  x : Code anyB wr v1 r
  y : Code anyB wr v2 r
  k0 : wr.heap[w.heap.size]? = some (.cells #[.int .i64 i.op, .int .i64 i.a] 24 (0, 0))
theorem TE.below {ok : Nat → Prop} {w : World} {v : Value} {c : List PIns} {v1 v2 : Value} {r : List PIns} {i : PIns} {wr w' : World} (h : TE ok w v c v1 v2 r i wr) (hb : Below wr.heap.size wr w') : TE ok w v c v1 v2 r i w' :=
  ⟨bTrans h.low hb, h.env.below hb, h.cd.below hb, h.x.below hb, h.y.below hb, (hb.block _ (Array.getElem?_eq_some_iff.1 h.k0).1).trans h.k0⟩

set_option maxHeartbeats 2000000 in
set_option maxRecDepth 100000 in
theorem tells_any (ok : Nat → Prop) (w : World) (v : Value) (c : List PIns) (s : List UInt8) (i : PIns) (hr : ∀ i ∈ c, RgI i) (hi : Rg i.a) (h1 : Code ok w v c) (hs : s.length ≤ 9223372036854775807) (he : Env w) :
    Calls Tryd.prog 3 #[v, .string (bs s), .agg #[.int .i64 i.op, .int .i64 i.a]] w fun e w' => e = .returned (.bool true) ∧ Below w.heap.size w w' := by
  obtain ⟨A1, c1, rfl, hl1⟩ := h1.form
  have hz : (bs s).size = s.length := bs_size s
  have HB : ∀ (x : Obj), Below w.heap.size w (w.alloc x) := fun x => bAlloc (bRefl w) x
  have HE : Hid (Env w) := he
  have HR : Hid (∀ i ∈ c, RgI i) := hr
  have HI : Hid (Rg i.a) := hi
  clear he hr hi
  by_cases hg : c.length ≤ 100 ∧ s.length ≤ 1000
  · obtain ⟨hg1, hg2⟩ := hg
    go_enter Tryd.func3, Tryd.ntmps3
    go_wp2_with fail
    refine (parse_any _ s (by omega) (HE.out.below (HB _))).mono ?_
    rintro e w1 ⟨v1, rfl, p1⟩
    obtain ⟨B1, d1, rfl⟩ := p1.form
    go_wp2_with fail
    refine (rparse_any _ s (by omega)).mono ?_
    rintro e w2 ⟨v2, rfl, p2⟩
    obtain ⟨B2, d2, rfl⟩ := p2.form
    have hl2 : Below w.heap.size w w2 := bTrans (bTrans (HB _) p1.low) p2.low
    have hpc : (pc s).length ≤ 1000000 := pc_len s (by omega)
    have hT : TE ok w (.slice A1 c.length c1) c (.slice B1 (pc s).length d1) (.slice B2 (pc s).length d2) (pc s) i w2 :=
      ⟨hl2, HE.out.below hl2, h1.below hl2, (p1.below p2.low).cd hpc, p2.cd hpc, (p2.low.block _ (by have := p1.low.size; simp at this; omega)).trans ((p1.low.block _ (by simp)).trans (heap_new w _))⟩
    have hTd := hT.below (bRefl w2).drew
    have hz2 : w.heap.size < w2.heap.size := (Array.getElem?_eq_some_iff.1 hT.k0).1
    have HC : Hid (c.length ≤ 10000) := by show _ ≤ _; omega
    obtain ⟨q0, q1, _, _⟩ := blk_facts hT.k0
    have eself := eqC_self (pc s)
    clear p1 p2 hl2 h1 hpc
    go_wp2_with fail
    go_region_held3 (fun w' => w'.cell? ⟨w.heap.size, 0, none⟩ = some (.int .i64 i.op) ∧ w'.cell? ⟨w.heap.size, 1, none⟩ = some (.int .i64 i.a)) (go_keep)
      (first
        | (go_at_call 10; refine (text_any ok _ _ c HC.out HR.out (by first | exact hTd.cd | exact hT.cd) (by first | exact hTd.env | exact hT.env)).mono ?_; rintro e w3 ⟨rfl, hb3⟩; replace hT := (by first | exact hT.below hb3 | exact hTd.below hb3); have hc3 := blk_facts hT.k0; have hz3 := (Array.getElem?_eq_some_iff.1 hT.k0).1)
        | (go_at_call 11; refine (rtext_any ok _ _ c HC.out HR.out (by first | exact hTd.cd | exact hT.cd)).mono ?_; rintro e w3 ⟨rfl, hb3⟩; replace hT := (by first | exact hT.below hb3 | exact hTd.below hb3); have hc3 := blk_facts hT.k0; have hz3 := (Array.getElem?_eq_some_iff.1 hT.k0).1)
        | (go_at_call 12; refine (refC anyB anyB _ _ _ (pc s) (pc s) (by first | exact hTd.x | exact hT.x) (by first | exact hTd.y | exact hT.y)).mono ?_; rw [eself]; rintro e w3 ⟨rfl, hq3⟩; have hb3 := quiet_below hq3; replace hT := (by first | exact hT.below hb3 | exact hTd.below hb3); have hc3 := blk_facts hT.k0; have hz3 := (Array.getElem?_eq_some_iff.1 hT.k0).1)
        | (go_at_call 13; refine (line_any _ i HI.out (by first | exact hTd.env | exact hT.env)).mono ?_; rintro e w3 ⟨rfl, hb3⟩; replace hT := (by first | exact hT.below hb3 | exact hTd.below hb3); have hc3 := blk_facts hT.k0; have hz3 := (Array.getElem?_eq_some_iff.1 hT.k0).1)
        | (go_at_call 14; refine (rline_any _ i HI.out).mono ?_; rintro e w3 ⟨rfl, hb3⟩; replace hT := (by first | exact hT.below hb3 | exact hTd.below hb3); have hc3 := blk_facts hT.k0; have hz3 := (Array.getElem?_eq_some_iff.1 hT.k0).1)
        | (go_at_call 7; refine (awake_any _ (by first | exact hTd.env | exact hT.env)).mono ?_; rintro e w3 ⟨rfl, hb3⟩; replace hT := (by first | exact hT.below hb3 | exact hTd.below hb3); have hc3 := blk_facts hT.k0; have hz3 := (Array.getElem?_eq_some_iff.1 hT.k0).1))
    all_goals
      go_wp2_with fail
      go_ret
      exact ⟨rfl, hT.low⟩
  · by_cases hg1 : c.length ≤ 100
    · have hg2 : 1000 < s.length := by omega
      go_enter Tryd.func3, Tryd.ntmps3
      go_wp2_with (go_at_call 7; refine (awake_any _ (HE.out.below (HB _))).mono ?_; rintro e w3 ⟨rfl, hb3⟩)
      go_ret
      exact ⟨rfl, bTrans (HB _) hb3⟩
    · go_enter Tryd.func3, Tryd.ntmps3
      go_wp2_with (go_at_call 7; refine (awake_any _ (HE.out.below (HB _))).mono ?_; rintro e w3 ⟨rfl, hb3⟩)
      go_ret
      exact ⟨rfl, bTrans (HB _) hb3⟩
end Go.Proofs.YtkfndedphpehiaaDoor
