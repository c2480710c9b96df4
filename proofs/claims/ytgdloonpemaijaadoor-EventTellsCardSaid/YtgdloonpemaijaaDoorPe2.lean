/-
  world.Start. Conditions: the table of the instructions is in the world; the program is not too great. When a list is the depths, asked of it place by place; when there are none, asked of a way. No conditions. The program of two actors that the laws make. Condition: notes are few. world.Same. No conditions. What the fixed examples of chapter 9 come to, plainly. No conditions. Messages put in and taken out, as plain lists: they stay in order; what is there. No conditions.
-/
import Derived.Test.YtgdloonpemaijaaDoorPe1
import Derived.Test.YtgdloonpemaijaaDoorW3
import Derived.Deep.RegionLaw
import Derived.Test.YtgdloonpemaijaaDoorFPlain
import Derived.Test.YtgdloonpemaijaaDoorW5
namespace Go.Proofs.YtgdloonpemaijaaDoor
open Go.RowKit
/-- A local's cells. -/
def lrow (m : PLoc) (u : Value) : List Value := [u, .bool m.armed, .int .i64 m.down, .int .i64 m.sent, .int .i64 m.over]
/-- Locals in a row of the call's own; each one's registers elsewhere, in blocks of which P says yes. -/
structure LT (P : Nat → Prop) (base : Nat) (w : World) (v : Value) (l : List PLoc) (us : List Value) : Prop where
  own : w.ownsRow base 29 5 v l.length ((List.zipWith lrow l us).flatten)
  len : us.length = l.length
  rd : ∀ (k : Nat) (n : PLoc) (u : Value), l[k]? = some n → us[k]? = some u → Ints (fun b => P b ∧ v.ownBlock ≠ some b) w u n.regs
section
variable {P : Nat → Prop} {base : Nat} {w w1 w' : World} {v : Value} {l : List PLoc} {us : List Value}
theorem LT.same (h : LT P base w v l us) (hz : w.heap.size ≤ w'.heap.size) (hs : ∀ b, b < w.heap.size → P b ∨ v.ownBlock = some b → w'.heap[b]? = w.heap[b]?) : LT P base w' v l us :=
  ⟨own_block h.own fun g hg hlt => hs g hlt (Or.inr hg), h.len, fun k n u hn hu => (h.rd k n u hn hu).same ⟨hz, fun b hb hlt => hs b hlt (Or.inl hb.1)⟩⟩
theorem LT.below (h : LT P base w v l us) (hb : Below w.heap.size w w') : LT P base w' v l us := h.same hb.size fun b hlt _ => hb.block b hlt
theorem LT.form (h : LT P base w v l us) : ∃ A c, v = .slice A l.length c := by
  obtain ⟨h1, h2⟩ := h.own
  rcases h2 with ⟨rfl, h2⟩ | ⟨g, cap, cur, rfl, _⟩
  · exact ⟨none, 0, by rw [h2]⟩
  · exact ⟨_, cap, rfl⟩
theorem LT.nil (P : Nat → Prop) (base : Nat) (w : World) : LT P base w (.slice none 0 0) [] [] :=
  ⟨⟨rfl, Or.inl ⟨rfl, rfl⟩⟩, rfl, fun k n u hn => by simp at hn⟩
theorem zip_lenL : ∀ (l : List PLoc) (us : List Value), ∀ e ∈ List.zipWith lrow l us, e.length = 5
  | [], _, e, he => by simp at he
  | _ :: _, [], e, he => by simp at he
  | n :: l, u :: us, e, he => by
    rw [List.zipWith_cons_cons, List.mem_cons] at he
    rcases he with rfl | he
    · rfl
    · exact zip_lenL l us e he
/-- Locals ms (their registers at xs) are appended. -/
theorem LT.push {g cap m : Nat} {ms : List PLoc} {xs : List Value} (h : LT P base w v l us) (hm : ms.length = m) (hx : xs.length = ms.length)
    (ho : w'.ownsRow base 29 5 (.slice (some ⟨g, 0, none⟩) (l.length + m) cap) (l.length + m) ((List.zipWith lrow l us).flatten ++ (List.zipWith lrow ms xs).flatten))
    (hg : w.grownBy w' v.ownBlock) (hat : v.ownBlock = some g ∨ g = w.heap.size) (hu : ∀ (k : Nat) (n : PLoc) (u : Value), ms[k]? = some n → xs[k]? = some u → Ints (fun b => P b ∧ v.ownBlock ≠ some b) w u n.regs) :
    LT P base w' (.slice (some ⟨g, 0, none⟩) (l.length + m) cap) (l ++ ms) (us ++ xs) := by
  have hge : ∀ b, (Value.slice (some ⟨g, 0, none⟩) (l.length + m) cap).ownBlock = some b → b = g := fun b hb => (Option.some.inj hb).symm
  have key : ∀ (n : PLoc) (u : Value), Ints (fun b => P b ∧ v.ownBlock ≠ some b) w u n.regs → Ints (fun b => P b ∧ (Value.slice (some ⟨g, 0, none⟩) (l.length + m) cap).ownBlock ≠ some b) w' u n.regs := fun n u h1 =>
    h1.lt.imp (fun b hb => ⟨hb.1.1, fun e => by
      have := hge b e
      subst this
      rcases hat with hat | hat
      · exact hb.1.2 hat
      · have := hb.2; omega⟩) hg.size fun b o x hb hlt hr => (World.cell?_of_block (w := w) (hg.block b hlt (fun e => hb.1.2 e.symm))).trans hr
  refine ⟨?_, by simp [h.len, hx], fun k n' u' hn hu' => ?_⟩
  · rw [List.length_append, hm, List.zipWith_append (by rw [h.len]), List.flatten_append]
    exact ho
  · by_cases hk : k < l.length
    · rw [List.getElem?_append_left hk] at hn
      rw [List.getElem?_append_left (by rw [h.len]; exact hk)] at hu'
      exact key _ _ (h.rd k n' u' hn hu')
    · rw [List.getElem?_append_right (by omega)] at hn
      rw [List.getElem?_append_right (by rw [h.len]; omega), h.len] at hu'
      exact key _ _ (hu _ n' u' hn hu')
theorem LT.locs (h : LT P base w v l us) (hl : l.length ≤ 1000000) : Locs (fun b => base ≤ b ∧ v.ownBlock = some b) P w v l := by
  obtain ⟨h1, h2⟩ := h.own
  rcases h2 with ⟨rfl, h2⟩ | ⟨g, cap, cur, rfl, hb, hh, h3, h4, h5, h6⟩
  · have : l = [] := by cases l with | nil => rfl | cons _ _ => simp at h2
    subst this; exact ⟨_, _, rfl, by simp, by simp, Or.inl rfl⟩
  · refine ⟨_, cap, rfl, by omega, h3, Or.inr ⟨g, 0, rfl, ⟨hb, rfl⟩, (Array.getElem?_eq_some_iff.1 hh).1, fun k n hn => ?_⟩⟩
    have hk := (List.getElem?_eq_some_iff.1 hn).1
    obtain ⟨u, hu⟩ := at_lt (l := us) (k := k) (by rw [h.len]; exact hk)
    have hz : (List.zipWith lrow l us)[k]? = some (lrow n u) := by rw [List.getElem?_zipWith, hn, hu]
    have hcell : ∀ j, j < l.length * 5 → w.cell? ⟨g, j, none⟩ = ((List.zipWith lrow l us).flatten)[j]? := fun j hj => by
      rw [cell_of_row _ _ _ _ _ _ hh, ← h6, List.getElem?_take, if_pos hj]; simp
    have hc : ∀ j, j < 5 → w.cell? ⟨g, 0 + k * 5 + j, none⟩ = (lrow n u)[j]? := fun j hj => by
      rw [Nat.zero_add, hcell _ (by omega), flat_at _ (zip_lenL l us) k j hj, hz]; rfl
    exact ⟨⟨u, hc 0 (by omega), (h.rd k n u hn hu).weak fun b hb => hb.1⟩, hc 1 (by omega), hc 2 (by omega), hc 3 (by omega), hc 4 (by omega)⟩
end
/-- Between two rounds of Start. -/
structure SS (N bw : Nat) (l : List PLoc) (v : Value) (wr : World) : Prop where
  box : wr.heap[bw]? = some (.cells #[v, .slice none 0 0, .int .i64 0, .int .i64 0, .int .i64 0, .int .i64 0] 44)
  lt : ∃ us, LT (fun b => N ≤ b ∧ b ≠ bw) N wr v l us
  nb : v.ownBlock ≠ some bw
  le : N ≤ bw
theorem SS.below {N bw : Nat} {l : List PLoc} {v : Value} {w w' : World} (h : SS N bw l v w) (hb : Below w.heap.size w w') : SS N bw l v w' := ⟨boxAt h.box hb, let ⟨us, hu⟩ := h.lt; ⟨us, hu.below hb⟩, h.nb, h.le⟩
theorem SS.next {N bw gn cn : Nat} {l : List PLoc} {us : List Value} {v u : Value} {x : PLoc} {wr w2 w3 : World} (h : SS N bw l v wr) (hl : LT (fun b => N ≤ b ∧ b ≠ bw) N wr v l us) (hN : N ≤ wr.heap.size) (hb : Below wr.heap.size wr w2) (hu : Ints (fun b => wr.heap.size ≤ b) w2 u x.regs)
    (ho : w3.ownsRow N 29 5 (.slice (some ⟨gn, 0, none⟩) (l.length + 1) cn) (l.length + 1) ((List.zipWith lrow l us).flatten ++ lrow x u)) (hg : (w2.alloc (.cells #[u, .bool x.armed, .int .i64 x.down, .int .i64 x.sent, .int .i64 x.over] 29)).grownBy w3 v.ownBlock) (hat : v.ownBlock = some gn ∨ gn = w2.heap.size + 1) :
    SS N bw (l ++ [x]) (.slice (some ⟨gn, 0, none⟩) (l.length + 1) cn) (w3.setCell ⟨bw, 0, none⟩ (.slice (some ⟨gn, 0, none⟩) (l.length + 1) cn)) := by
  have hbl : bw < wr.heap.size := (Array.getElem?_eq_some_iff.1 h.box).1
  have hz := hb.size
  have hB : Below wr.heap.size wr (w2.alloc (.cells #[u, .bool x.armed, .int .i64 x.down, .int .i64 x.sent, .int .i64 x.over] 29)) := bAlloc hb _
  have hvb : ∀ b, v.ownBlock = some b → b < wr.heap.size := fun b e => (own_lt hl.own e).2
  have hgb : gn ≠ bw := by
    rintro rfl
    rcases hat with e | e
    · exact h.nb e
    · omega
  have key := (hl.below hB).push (ms := [x]) (xs := [u]) (m := 1) rfl rfl (by simpa using ho) hg (hat.imp id fun e => by rw [e]; simp) (fun k n u' hn hu' => by
    cases k with
    | zero =>
      simp at hn hu'
      subst hn hu'
      exact (Ints.weak hu.lt fun b (hb : wr.heap.size ≤ b ∧ b < w2.heap.size) => ⟨⟨by omega, by omega⟩, fun e => by have := hvb b e; omega⟩).below (bAlloc (bRefl _) _)
    | succ k => simp at hn)
  have hS : Same (fun d => d ≠ bw) w3 (w3.setCell ⟨bw, 0, none⟩ (.slice (some ⟨gn, 0, none⟩) (l.length + 1) cn)) := setCell_same fun _ h => h
  have hbox3 : w3.heap[bw]? = some (.cells #[v, .slice none 0 0, .int .i64 0, .int .i64 0, .int .i64 0, .int .i64 0] 44) := by
    rw [hg.block bw (by simp; omega) (fun e => h.nb e.symm)]
    exact boxAt h.box hB
  refine ⟨(setCell_heap hbox3).trans (by simp), ⟨us ++ [u], key.same hS.size fun b hlt hb => hS.block b ?_ hlt⟩, fun e => hgb (Option.some.inj e), h.le⟩
  rcases hb with hb | hb
  · exact hb.2
  · intro e; exact hgb ((Option.some.inj hb).trans e)
theorem SS.low {N bw gn cn : Nat} {l : List PLoc} {us : List Value} {v u : Value} {x : PLoc} {w1 wr w2 w3 : World} (h : SS N bw l v wr) (hl : LT (fun b => N ≤ b ∧ b ≠ bw) N wr v l us) (hN : N ≤ w1.heap.size) (hw : Below N w1 wr) (hb : Below wr.heap.size wr w2)
    (hg : (w2.alloc (.cells #[u, .bool x.armed, .int .i64 x.down, .int .i64 x.sent, .int .i64 x.over] 29)).grownBy w3 v.ownBlock) : Below N w1 (w3.setCell ⟨bw, 0, none⟩ (.slice (some ⟨gn, 0, none⟩) (l.length + 1) cn)) := by
  have hz := hw.size
  have hB : Below wr.heap.size wr (w2.alloc (.cells #[u, .bool x.armed, .int .i64 x.down, .int .i64 x.sent, .int .i64 x.over] 29)) := bAlloc hb _
  have h1 : Below N w1 (w2.alloc (.cells #[u, .bool x.armed, .int .i64 x.down, .int .i64 x.sent, .int .i64 x.over] 29)) := hw.trans (hB.mono (by omega))
  exact (h1.grown hg (by have := h1.size; omega) (fun k hk => (own_lt hl.own hk).1)).setCell (p := ⟨bw, 0, none⟩) h.le _
section
attribute [local go_sem ↓] Go.wp_at_zero Go.wp_at_succ
def loc0 (a : PAct) : PLoc := ⟨a.regs, a.armed, 0, 0, 0⟩
def startL (p : PPrg) : List PLoc := p.acs.map loc0
def startW (p : PPrg) : PWld := ⟨startL p, [], ⟨0, 0, 0, 0⟩⟩
/-- A program's start. -/
def startP (p : PPrg) : PWld := sendP p (startW p) (-1) p.bs
theorem infoL5 : (Tryd.prog.info? 29).map (fun i => (i.zero, i.size, i.bytes)) = some (some (.agg #[.slice none 0 0, .bool false, .int .i64 0, .int .i64 0, .int .i64 0]), 5, 56) := by kernel_rfl
theorem ss_next {N bw gn cn : Nat} {l : List PLoc} {us : List Value} {v u : Value} {ac : PAct} {w1 wr wa w2 w3 : World} (h : SS N bw l v wr) (hl : LT (fun b => N ≤ b ∧ b ≠ bw) N wr v l us) (hN : N = w1.heap.size) (hw : Below w1.heap.size w1 wr) (hba : Below wr.heap.size wr wa) (hb : Below wa.heap.size wa w2) (hu : Ints (fun b => wa.drew.heap.size ≤ b) w2 u ac.regs)
    (ho : w3.ownsRow N 29 5 (.slice (some ⟨gn, 0, none⟩) (l.length + 1) cn) (l.length + 1) ((List.zipWith lrow l us).flatten ++ [u, .bool ac.armed, .int .i64 0, .int .i64 0, .int .i64 0])) (hg : (w2.alloc (.cells #[u, .bool ac.armed, .int .i64 0, .int .i64 0, .int .i64 0] 29)).grownBy w3 v.ownBlock) (hat : v.ownBlock = some gn ∨ gn = w2.heap.size + 1) :
    SS N bw (l ++ [loc0 ac]) (.slice (some ⟨gn, 0, none⟩) (l.length + 1) cn) (w3.setCell ⟨bw, 0, none⟩ (.slice (some ⟨gn, 0, none⟩) (l.length + 1) cn)) ∧ Below w1.heap.size w1 (w3.setCell ⟨bw, 0, none⟩ (.slice (some ⟨gn, 0, none⟩) (l.length + 1) cn)) := by
  subst hN
  have hz := hw.size
  have hz2 := hba.size
  exact ⟨SS.next (x := loc0 ac) (h.below hba) (hl.below hba) (by omega) hb hu ho hg hat, SS.low (x := loc0 ac) (h.below hba) (hl.below hba) (Nat.le_refl _) (bTrans hw hba) hb hg⟩
theorem startL_at {p : PPrg} {k : Nat} {a : PAct} (h : p.acs[k]? = some a) : (startL p).take (k + 1) = (startL p).take k ++ [loc0 a] := by
  rw [List.take_add_one]; unfold startL; rw [List.getElem?_map, h]; rfl
theorem startL_len (p : PPrg) : (startL p).length = p.acs.length := by simp [startL]
theorem startSm {p : PPrg} (h : Small p) : SmW (startW p) := by
  obtain ⟨h1, h2, h3, h4, h5, h6⟩ := h
  refine ⟨?_, ?_, Nat.zero_le _, fun m hm => by cases hm⟩
  · show (startL p).length ≤ 100; rw [startL_len]; omega
  · intro a ha
    obtain ⟨b, hb, rfl⟩ := List.mem_map.1 (show a ∈ p.acs.map loc0 from ha)
    have := h5 b hb
    show b.regs.length ≤ 1000; omega
theorem msgs_nil (w : World) : Msgs anyB anyB w (.slice none 0 0) [] := ⟨none, 0, rfl, by simp, by simp, Or.inl rfl⟩
set_option maxHeartbeats 4000000 in
set_option maxRecDepth 100000 in
theorem start_yes (W : World) (vp : Value) (p : PPrg) (ht : Tab W) (hp : PrgV W vp p) (hs : Small p) (he : fc p = 0) :
    Calls Tryd.prog 21 #[vp] W fun e w' => ∃ a m lo hi, e = .returned (.tuple #[wVal (startP p).used a m, .int .i64 0]) ∧ WN W.heap.size lo hi w' a m (startP p) ∧ Below W.heap.size W w' := by
  have HP := hid_mk hp
  have HT := hid_mk ht
  have HS := hid_mk hs
  obtain ⟨i0, hi0, hz0, hz1, hz2⟩ := info_parts infoL5
  obtain ⟨vh, vb, vc, rfl, h1, h2, h3⟩ := hp
  obtain ⟨A1, c1, rfl, hl1⟩ := h1.form
  obtain ⟨A2, c2, rfl, hl2⟩ := h2.form
  obtain ⟨A3, c3, rfl, hl3⟩ := h3.form
  have e1 := ne0_no he
  have HBoot := hid_mk h3
  obtain ⟨w1, hw1⟩ := new_one (W.alloc (.cells #[.slice A1 p.hs.length c1, .slice A2 p.acs.length c2, .slice A3 p.bs.length c3, .int .i64 p.fuel] 26)) (.cells #[.slice none 0 0, .slice none 0 0, .int .i64 0, .int .i64 0, .int .i64 0, .int .i64 0] 44)
  have hA := two_new W (.cells #[.slice A1 p.hs.length c1, .slice A2 p.acs.length c2, .slice A3 p.bs.length c3, .int .i64 p.fuel] 26) (.cells #[.slice none 0 0, .slice none 0 0, .int .i64 0, .int .i64 0, .int .i64 0, .int .i64 0] 44)
  have HL : Hid (Below W.heap.size W ((W.alloc (.cells #[.slice A1 p.hs.length c1, .slice A2 p.acs.length c2, .slice A3 p.bs.length c3, .int .i64 p.fuel] 26)).alloc (.cells #[.slice none 0 0, .slice none 0 0, .int .i64 0, .int .i64 0, .int .i64 0, .int .i64 0] 44))) := bAlloc (bAlloc (bRefl _) _) _
  have HL1 : Hid (Below W.heap.size W w1) := by rw [hw1]; exact HL.out
  rw [← hw1] at hA
  have HA1 := hid_mk hA.1
  have HA2 := hid_mk hA.2.1
  have HZ := hid_mk hA.2.2
  have HW1 := hid_mk hw1
  clear h1 h3 he ht hA hw1 hs
  go_enter Tryd.func21, Tryd.ntmps21
  go_wp2_with (first
    | (go_at_call 46; refine (fcheck_any _ _ p (HT.out.below (by exact HL.out)) (HP.out.below (by exact HL.out))).mono ?_; rw [← HW1.out]; rintro e w2 ⟨rfl, hb2⟩; obtain ⟨k0, k1, k2, k3⟩ := blk4 (boxAt HA1.out hb2); have hz := hb2.size; have hzz := HZ.out; have z1 : W.heap.size < w2.heap.size := (by omega); have HB2 := hid_mk hb2; clear hb2 hz hzz))
  have HSS : Hid (SS w1.heap.size w2.heap.size [] (.slice none 0 0) (w2.alloc (.cells #[.slice none 0 0, .slice none 0 0, .int .i64 0, .int .i64 0, .int .i64 0, .int .i64 0] 44))) := ⟨heap_new _ _, ⟨[], ⟨⟨rfl, Or.inl ⟨rfl, rfl⟩⟩, rfl, fun k n u hn => by simp at hn⟩⟩, (fun e => by cases e), HB2.out.size⟩
  have HLW : Hid (Below w1.heap.size w1 (w2.alloc (.cells #[.slice none 0 0, .slice none 0 0, .int .i64 0, .int .i64 0, .int .i64 0, .int .i64 0] 44))) := bAlloc HB2.out _
  clear k0 k1 k2 k3 z1
  go_loopg [7, 17] p.acs.length (fun g i7 i17 wr => ∃ k : Nat, g = p.acs.length - k ∧ k ≤ p.acs.length ∧ i17 = .int .i64 k ∧ (∃ v, SS w1.heap.size w2.heap.size ((startL p).take k) v wr) ∧ Below w1.heap.size w1 wr)
  case atStart => exact ⟨0, rfl, by omega, rfl, ⟨_, HSS.out⟩, HLW.out⟩
  case round =>
    obtain ⟨k, rfl, hk, rfl, ⟨v, ss⟩, hb⟩ := hrel
    have hbw : Below W.heap.size W wr := bTrans HL1.out hb
    by_cases hlt : k < p.acs.length
    · obtain ⟨b2, o2, ac, v2, rfl, ha, hzb, s1, s2, s3, s4, hv2⟩ := h2.cell hbw hlt
      obtain ⟨V2, n2, rfl, _⟩ := hv2.form
      have hsm : ac.regs.length ≤ 1000 := by have := HS.out.2.2.2.2.1 ac (List.mem_of_getElem? ha); omega
      have HTk := hid_mk (startL_at ha)
      have hlen : ((startL p).take k).length ≤ 10 := by rw [List.length_take]; have := startL_len p; have := HS.out.2.1; omega
      have HLn := hid_mk hlen
      clear ha hlen
      generalize (startL p).take k = l at *
      obtain ⟨us, hlt'⟩ := ss.lt
      obtain ⟨A9, c9, rfl⟩ := hlt'.form
      have hbl : w2.heap.size < wr.heap.size := (Array.getElem?_eq_some_iff.1 ss.box).1
      have hN1 : w1.heap.size ≤ wr.heap.size := hb.size
      have hnb := ss.nb
      have HSS2 := hid_mk ss
      have HLT := hid_mk hlt'
      have HB := hid_mk hb
      clear ss hlt' hb hbw
      go_wp2_with fail
      have hAB : (wr.alloc (.cells #[.slice V2 ac.regs.length n2, .int .i64 ac.cap, .int .i64 ac.timer, .bool ac.armed] 83)).heap[wr.heap.size]? = some (.cells #[.slice V2 ac.regs.length n2, .int .i64 ac.cap, .int .i64 ac.timer, .bool ac.armed] 83) := heap_new _ _
      have HLr : Hid (Below wr.heap.size wr (wr.alloc (.cells #[.slice V2 ac.regs.length n2, .int .i64 ac.cap, .int .i64 ac.timer, .bool ac.armed] 83))) := bAlloc (bRefl _) _
      generalize (wr.alloc (.cells #[.slice V2 ac.regs.length n2, .int .i64 ac.cap, .int .i64 ac.timer, .bool ac.armed] 83)) = wa at hAB HLr ⊢
      obtain ⟨t0, t1, t2, t3⟩ := blk4 hAB
      have hbx := boxAt HSS2.out.box HLr.out
      obtain ⟨u0, u1, u2, u3, u4, u5⟩ := blk6 hbx
      have fz : ∀ o, wa.frozen? ⟨w2.heap.size, o, none⟩ = false := fun o => heap_frozen hbx
      have zr : wr.heap.size < wa.heap.size := (Array.getElem?_eq_some_iff.1 hAB).1
      have zw : w2.heap.size < wa.heap.size := by omega
      have HBX := hid_mk hbx
      clear hAB s1 s2 s3 s4 hbx
      go_region_law ((first
        | (refine step_append_lies _ (by rfl) _ _ 39 (by rfl) w1.heap.size 29 i0 _ 5 56 Tryd.underlying39 hi0 hz0 hz1 hz2 rfl (by decide) (.slice A9 l.length c9) l.length _ (by rfl) HOWN.out ⟨w5.heap.size, 0, none⟩ 1 1 [.slice D1 ac.regs.length m1, .bool ac.armed, .int .i64 0, .int .i64 0, .int .i64 0] (by rfl) rfl HNEWS.out HONE.out (by decide) HM1.out HM2.out HM3.out (w5.heap.size + 1) HM4.out ?_; intro gn cn w6 hown hgr hat hgl2; obtain ⟨f0, f1⟩ := HFACTS.out w6 hgr; have HOW := hid_mk hown; have HGR := hid_mk hgr; have HAT := hid_mk hat; clear hown hgr hat hgl2)
        | (go_simp; go_at_call 54; refine (freshI_any _ _ _ ac.regs (hv2.below (by first | exact HLr.out | exact HLr.out.drew)) hsm).mono ?_; rintro e w5 ⟨D1, m1, rfl, hi1, hb1⟩; have HI1 := hid_mk hi1; have HB5 := hid_mk (undrew hb1); have hc5 := bcell (undrew hb1); have y5 := (undrew hb1).size; have yw : w2.heap.size < w5.heap.size := (by omega); have nw : ¬ w2.heap.size = w5.heap.size := (by omega); have nw' : ¬ w5.heap.size = w2.heap.size := (by omega); have yr : wr.heap.size < w5.heap.size := (by omega); have nr : ¬ wr.heap.size = w5.heap.size := (by omega); have nr' : ¬ w5.heap.size = wr.heap.size := (by omega); have HOWN : Hid ((w5.alloc (.cells #[.slice D1 ac.regs.length m1, .bool ac.armed, .int .i64 0, .int .i64 0, .int .i64 0] 29)).ownsRow w1.heap.size 29 5 (.slice A9 l.length c9) l.length ((List.zipWith lrow l us).flatten)) := (HLT.out.below (bTrans HLr.out (bAlloc HB5.out _))).own; have HNEWS : Hid (∀ j u, [.slice D1 ac.regs.length m1, .bool ac.armed, .int .i64 0, .int .i64 0, .int .i64 0][j]? = some u → (w5.alloc (.cells #[.slice D1 ac.regs.length m1, .bool ac.armed, .int .i64 0, .int .i64 0, .int .i64 0] 29)).cell? ((⟨w5.heap.size, 0, none⟩ : Addr).add j) = some u) := World.news_of_block (heap_new w5 _); have HONE : Hid (∀ u ∈ [Value.slice D1 ac.regs.length m1, .bool ac.armed, .int .i64 0, .int .i64 0, .int .i64 0], u.oneCell' = true) := (fun u hu => by simp at hu; rcases hu with rfl | rfl | rfl <;> rfl); have HM1 : Hid (l.length + 1 ≤ maxLen) := (by show _ ≤ _; have := HLn.out; unfold maxLen; omega); have HM2 : Hid ((l.length + 1) * 56 ≤ 140737488355328) := (by show _ ≤ _; have := HLn.out; omega); have HM3 : Hid (w1.heap.size ≤ (w5.alloc (.cells #[.slice D1 ac.regs.length m1, .bool ac.armed, .int .i64 0, .int .i64 0, .int .i64 0] 29)).heap.size) := (by show _ ≤ _; simp; omega); have HM4 : Hid ((w5.alloc (.cells #[.slice D1 ac.regs.length m1, .bool ac.armed, .int .i64 0, .int .i64 0, .int .i64 0] 29)).heap.size = w5.heap.size + 1) := (by show _ = _; simp); have HFACTS : Hid (∀ w6, (w5.alloc (.cells #[.slice D1 ac.regs.length m1, .bool ac.armed, .int .i64 0, .int .i64 0, .int .i64 0] 29)).grownBy w6 (Value.slice A9 l.length c9).ownBlock → w6.cell? ⟨w2.heap.size, 0, none⟩ = some (.slice A9 l.length c9) ∧ ∀ o, w6.frozen? ⟨w2.heap.size, o, none⟩ = false) := (fun w6 hgr => by have hk : w6.heap[w2.heap.size]? = _ := (hgr.block w2.heap.size (by simp; omega) (fun e => hnb e.symm)).trans (boxAt HBX.out (bAlloc HB5.out _)); exact ⟨(blk6 hk).1, fun o => heap_frozen hk⟩); clear hi1 hb1)))
      all_goals
        go_wp2
        go_roundg (p.acs.length - (k + 1))
        case measure => omega
        case rel =>
          have key := ss_next HSS2.out HLT.out rfl HB.out HLr.out HB5.out HI1.out HOW.out HGR.out HAT.out
          rw [← HTk.out] at key
          exact ⟨k + 1, rfl, by omega, by go_num, ⟨_, key.1⟩, key.2⟩
    · obtain rfl : k = p.acs.length := by omega
      have hall : (startL p).take p.acs.length = startL p := List.take_of_length_le (by rw [startL_len]; exact Nat.le_refl _)
      rw [hall] at ss
      obtain ⟨us, hlt'⟩ := ss.lt
      obtain ⟨A9, c9, rfl⟩ := hlt'.form
      obtain ⟨k0, k1, k2, k3⟩ := blk4 (boxAt HA1.out hb)
      obtain ⟨u0, u1, u2, u3, u4, u5⟩ := blk6 ss.box
      have HWl : Hid (WldV wr (wVal (startW p).used (.slice A9 (startL p).length c9) (.slice none 0 0)) (startW p)) := ⟨_, _, rfl, (hlt'.locs (by rw [startL_len]; have := HS.out.2.1; omega)).any2, msgs_nil wr⟩
      have HB := hid_mk hb
      have HBw := hid_mk hbw
      have HR := hid_mk (boxAt HA2.out hb)
      clear ss hlt' hb hbw hall
      go_wp2_with (first
        | (go_at_call 55; refine (send_any _ _ _ _ p (startW p) (-1) p.bs (HP.out.below (by exact HBw.out)) HWl.out (startSm HS.out) (HBoot.out.below HBw.out) (by have := HS.out.2.2.1; omega) (fun n hn => by have := HS.out.2.2.2.2.2 n hn; omega)).mono ?_; rintro e w4 ⟨a4, m4, lo4, hi4, rfl, hwn, hb4⟩; obtain ⟨A', c', rfl⟩ := hwn.acts.form; obtain ⟨B', d', rfl, _⟩ := hwn.mail.form; obtain ⟨r0, r1, r2, r3, r4, r5⟩ := blk6 (boxAt HR.out hb4); have fz : ∀ o, w4.frozen? ⟨W.heap.size + 1, o, none⟩ = false := fun o => heap_frozen (boxAt HR.out hb4); have HWN := hid_mk hwn; have HB4 := hid_mk hb4; clear hwn hb4))
      have hz9 := HB.out.size
      have hz8 := HZ.out
      exact bodyPost_ret (v := .tuple #[wVal (sendP p (startW p) (-1) p.bs).used (.slice A' (sendP p (startW p) (-1) p.bs).acts.length c') (.slice B' (sendP p (startW p) (-1) p.bs).mail.length d'), .int .i64 0]) (by simp [results, Tryd.results21, go_sem, r0, r1, r2, r3, r4, r5]) rfl ⟨_, _, lo4, hi4, rfl, (HWN.out.far (rb := W.heap.size + 1) put6_same (by omega)).mono (by omega), put6_below (bTrans HBw.out HB4.out) (by omega)⟩
end
end Go.Proofs.YtgdloonpemaijaaDoor
namespace Go.Proofs.YtgdloonpemaijaaDoor

def closedAt (hs : List PHnd) (code : List PIns) (l : List Int) (k : Nat) : Bool :=
  match l[k]?, code[k]? with
  | some d, some i => if 0 ≤ d then decide (okI hs i d) && (nxt i k).all (fun j => l[j]? == some (lft hs i d)) else true
  | _, _ => true
/-- Place k (not the first) is not reached, or is from the place pr, ahead of it. -/
def soundAt (code : List PIns) (l : List Int) (k pr : Nat) : Bool :=
  l[k]? == some (-1) || (decide (pr < k) && (match l[pr]?, code[pr]? with
    | some d, some i => decide (0 ≤ d) && (nxt i pr).contains k
    | _, _ => false))
def goodB (hs : List PHnd) (code : List PIns) (l : List Int) (pr : Nat → Nat) : Bool :=
  l.length == code.length + 1 && l[0]? == some 0 && (List.range code.length).all (closedAt hs code l) && (List.range code.length).all (fun k => soundAt code l (k + 1) (pr (k + 1)))

section
variable {hs : List PHnd} {code : List PIns} {l : List Int}
theorem closedAt_dn {k : Nat} (h : closedAt hs code l k = true) : Dn hs code l k := by
  intro d i hd h0 hi
  unfold closedAt at h
  rw [hd, hi] at h
  simp only [if_pos h0, Bool.and_eq_true, decide_eq_true_eq, List.all_eq_true, beq_iff_eq] at h
  exact ⟨h.1, fun j hj => h.2 j hj⟩
theorem goodB_good {pr : Nat → Nat} (h : goodB hs code l pr = true) : Good hs code l := by
  unfold goodB at h
  simp only [Bool.and_eq_true, beq_iff_eq, List.all_eq_true, List.mem_range] at h
  obtain ⟨⟨⟨h1, h2⟩, h3⟩, h4⟩ := h
  have cl : ∀ k, Dn hs code l k := fun k => by
    by_cases hk : k < code.length
    · exact closedAt_dn (h3 k hk)
    · intro d i _ _ hi
      rw [List.getElem?_eq_none (by omega)] at hi; cases hi
  refine ⟨⟨h1, h2, fun k => ?_⟩, cl⟩
  induction k using Nat.strongRecOn with
  | _ k ih =>
    intro d hd
    match k, ih, hd with
    | 0, _, hd => rw [h2] at hd; cases hd; exact Or.inr .start
    | k + 1, ih, hd =>
      have hk : k < code.length := by have := (List.getElem?_eq_some_iff.1 hd).1; omega
      have hs := h4 k hk
      unfold soundAt at hs
      rw [Bool.or_eq_true, Bool.and_eq_true, beq_iff_eq, decide_eq_true_eq] at hs
      rcases hs with hs | ⟨hlt, hs⟩
      · rw [hd] at hs; exact Or.inl (Option.some.inj hs)
      · generalize hpr : pr (k + 1) = r at hlt hs
        cases hx : l[r]? with
        | none => rw [hx] at hs; simp at hs
        | some x =>
          cases hy : code[r]? with
          | none => rw [hx, hy] at hs; simp at hs
          | some i =>
            rw [hx, hy] at hs
            simp only [Bool.and_eq_true, decide_eq_true_eq, List.contains_iff_mem] at hs
            obtain ⟨h0, hm⟩ := hs
            obtain ⟨ho, hn⟩ := cl r x i hx h0 hy
            have hr : Rch _ code r x := (ih r hlt x hx).resolve_left (by omega)
            have e := hn _ hm
            rw [hd] at e
            rw [Option.some.inj e]
            exact Or.inr (.step hr hy ho hm)

/-- Along a way: where it ends, and with how many numbers. -/
def way (hs : List PHnd) (code : List PIns) : Nat → Int → List Nat → Option (Nat × Int)
  | k, d, [] => some (k, d)
  | k, d, j :: r =>
    match code[k]? with
    | some i => if okI hs i d ∧ j ∈ nxt i k then way hs code j (lft hs i d) r else none
    | none => none
end

/-- A program of one handler. -/
def hP (code : List PIns) : PPrg := ⟨[⟨0, code⟩], [⟨[0], 0, -1, false⟩], [], 100⟩
end Go.Proofs.YtgdloonpemaijaaDoor
namespace Go.Proofs.YtgdloonpemaijaaDoor
open Go.RowKit
/-- A note's cells. -/
def ntrow (m : PNte) (u : Value) : List Value := [.int .i64 m.to, .int .i64 m.hd, u]
/-- Notes in a row of the call's own; each one's arguments elsewhere, in blocks of which P says yes. -/
structure NR (P : Nat → Prop) (base : Nat) (w : World) (v : Value) (l : List PNte) (us : List Value) : Prop where
  own : w.ownsRow base 54 3 v l.length ((List.zipWith ntrow l us).flatten)
  len : us.length = l.length
  rd : ∀ (k : Nat) (n : PNte) (u : Value), l[k]? = some n → us[k]? = some u → Ints (fun b => P b ∧ v.ownBlock ≠ some b) w u n.args
section
variable {P : Nat → Prop} {base : Nat} {w w1 w' : World} {v : Value} {l : List PNte} {us : List Value}
theorem NR.same (h : NR P base w v l us) (hz : w.heap.size ≤ w'.heap.size) (hs : ∀ b, b < w.heap.size → P b ∨ v.ownBlock = some b → w'.heap[b]? = w.heap[b]?) : NR P base w' v l us :=
  ⟨own_block h.own fun g hg hlt => hs g hlt (Or.inr hg), h.len, fun k n u hn hu => (h.rd k n u hn hu).same ⟨hz, fun b hb hlt => hs b hlt (Or.inl hb.1)⟩⟩
theorem NR.below (h : NR P base w v l us) (hb : Below w.heap.size w w') : NR P base w' v l us := h.same hb.size fun b hlt _ => hb.block b hlt
theorem NR.form (h : NR P base w v l us) : ∃ A c, v = .slice A l.length c := by
  obtain ⟨h1, h2⟩ := h.own
  rcases h2 with ⟨rfl, h2⟩ | ⟨g, cap, cur, rfl, _⟩
  · exact ⟨none, 0, by rw [h2]⟩
  · exact ⟨_, cap, rfl⟩
theorem NR.nil (P : Nat → Prop) (base : Nat) (w : World) : NR P base w (.slice none 0 0) [] [] :=
  ⟨⟨rfl, Or.inl ⟨rfl, rfl⟩⟩, rfl, fun k n u hn => by simp at hn⟩
theorem zip_lenN : ∀ (l : List PNte) (us : List Value), ∀ e ∈ List.zipWith ntrow l us, e.length = 3
  | [], _, e, he => by simp at he
  | _ :: _, [], e, he => by simp at he
  | n :: l, u :: us, e, he => by
    rw [List.zipWith_cons_cons, List.mem_cons] at he
    rcases he with rfl | he
    · rfl
    · exact zip_lenN l us e he
/-- Notes ms (their arguments at xs) are appended. -/
theorem NR.push {g cap m : Nat} {ms : List PNte} {xs : List Value} (h : NR P base w v l us) (hm : ms.length = m) (hx : xs.length = ms.length)
    (ho : w'.ownsRow base 54 3 (.slice (some ⟨g, 0, none⟩) (l.length + m) cap) (l.length + m) ((List.zipWith ntrow l us).flatten ++ (List.zipWith ntrow ms xs).flatten))
    (hg : w.grownBy w' v.ownBlock) (hat : v.ownBlock = some g ∨ g = w.heap.size) (hu : ∀ (k : Nat) (n : PNte) (u : Value), ms[k]? = some n → xs[k]? = some u → Ints (fun b => P b ∧ v.ownBlock ≠ some b) w u n.args) :
    NR P base w' (.slice (some ⟨g, 0, none⟩) (l.length + m) cap) (l ++ ms) (us ++ xs) := by
  have hge : ∀ b, (Value.slice (some ⟨g, 0, none⟩) (l.length + m) cap).ownBlock = some b → b = g := fun b hb => (Option.some.inj hb).symm
  have key : ∀ (n : PNte) (u : Value), Ints (fun b => P b ∧ v.ownBlock ≠ some b) w u n.args → Ints (fun b => P b ∧ (Value.slice (some ⟨g, 0, none⟩) (l.length + m) cap).ownBlock ≠ some b) w' u n.args := fun n u h1 =>
    h1.lt.imp (fun b hb => ⟨hb.1.1, fun e => by
      have := hge b e
      subst this
      rcases hat with hat | hat
      · exact hb.1.2 hat
      · have := hb.2; omega⟩) hg.size fun b o x hb hlt hr => (World.cell?_of_block (w := w) (hg.block b hlt (fun e => hb.1.2 e.symm))).trans hr
  refine ⟨?_, by simp [h.len, hx], fun k n' u' hn hu' => ?_⟩
  · rw [List.length_append, hm, List.zipWith_append (by rw [h.len]), List.flatten_append]
    exact ho
  · by_cases hk : k < l.length
    · rw [List.getElem?_append_left hk] at hn
      rw [List.getElem?_append_left (by rw [h.len]; exact hk)] at hu'
      exact key _ _ (h.rd k n' u' hn hu')
    · rw [List.getElem?_append_right (by omega)] at hn
      rw [List.getElem?_append_right (by rw [h.len]; omega), h.len] at hu'
      exact key _ _ (hu _ n' u' hn hu')
theorem NR.ntes (h : NR P base w v l us) (hl : l.length ≤ 1000000) : Ntes (fun b => base ≤ b ∧ v.ownBlock = some b) P w v l := by
  obtain ⟨h1, h2⟩ := h.own
  rcases h2 with ⟨rfl, h2⟩ | ⟨g, cap, cur, rfl, hb, hh, h3, h4, h5, h6⟩
  · have : l = [] := by cases l with | nil => rfl | cons _ _ => simp at h2
    subst this; exact ⟨_, _, rfl, by simp, by simp, Or.inl rfl⟩
  · refine ⟨_, cap, rfl, by omega, h3, Or.inr ⟨g, 0, rfl, ⟨hb, rfl⟩, (Array.getElem?_eq_some_iff.1 hh).1, fun k n hn => ?_⟩⟩
    have hk := (List.getElem?_eq_some_iff.1 hn).1
    obtain ⟨u, hu⟩ := at_lt (l := us) (k := k) (by rw [h.len]; exact hk)
    have hz : (List.zipWith ntrow l us)[k]? = some (ntrow n u) := by rw [List.getElem?_zipWith, hn, hu]
    have hcell : ∀ j, j < l.length * 3 → w.cell? ⟨g, j, none⟩ = ((List.zipWith ntrow l us).flatten)[j]? := fun j hj => by
      rw [cell_of_row _ _ _ _ _ _ hh, ← h6, List.getElem?_take, if_pos hj]; simp
    have hc : ∀ j, j < 3 → w.cell? ⟨g, 0 + k * 3 + j, none⟩ = (ntrow n u)[j]? := fun j hj => by
      rw [Nat.zero_add, hcell _ (by omega), flat_at _ (zip_lenN l us) k j hj, hz]; rfl
    exact ⟨hc 0 (by omega), hc 1 (by omega), u, hc 2 (by omega), (h.rd k n u hn hu).weak fun b hb => hb.1⟩
end
def note1 (i : Nat) : PNte := ⟨((i % 2 : Nat) : Int), 0, [(i : Int)]⟩
def boots (n : Nat) : List PNte := (List.range n).map note1
def twoP (n : Nat) (most : Int) : PPrg := ⟨[⟨1, []⟩], [⟨[4], most, -1, false⟩, ⟨[], most, -1, false⟩], boots n, 5⟩
theorem boots_len (n : Nat) : (boots n).length = n := by simp [boots]
abbrev zP : Obj := .cells #[.slice none 0 0, .slice none 0 0, .slice none 0 0, .int .i64 0] 26
/-- Between two rounds of two: W the world that it began in; the result's box, the handlers' row, the first actor's registers, the actors' row, the program's box: five blocks. -/
structure TW (W : World) (most : Int) (l : List PNte) (v : Value) (wr : World) : Prop where
  b0 : wr.heap[W.heap.size]? = some zP
  b1 : wr.heap[W.heap.size + 1]? = some (.cells #[.int .i64 1, .slice none 0 0] 81)
  b2 : wr.heap[W.heap.size + 1 + 1]? = some (.cells #[.int .i64 4] 3)
  b3 : wr.heap[W.heap.size + 1 + 1 + 1]? = some (.cells #[.slice (some ⟨W.heap.size + 1 + 1, 0, none⟩) 1 1, .int .i64 most, .int .i64 (-1), .bool false, .slice none 0 0, .int .i64 most, .int .i64 (-1), .bool false] 83)
  b4 : wr.heap[W.heap.size + 1 + 1 + 1 + 1]? = some (.cells #[.slice (some ⟨W.heap.size + 1, 0, none⟩) 1 1, .slice (some ⟨W.heap.size + 1 + 1 + 1, 0, none⟩) 2 2, v, .int .i64 5] 26)
  nt : ∃ us, NR (fun b => W.heap.size + 1 + 1 + 1 + 1 + 1 ≤ b) (W.heap.size + 1 + 1 + 1 + 1 + 1) wr v l us
  low : Below W.heap.size W wr
theorem blk8 {b : Nat} {v0 v1 v2 v3 v4 v5 v6 v7 : Value} {t : TypeId} {w : World} (h : w.heap[b]? = some (.cells #[v0, v1, v2, v3, v4, v5, v6, v7] t)) : w.cell? ⟨b, 0, none⟩ = some v0 ∧ w.cell? ⟨b, 1, none⟩ = some v1 ∧ w.cell? ⟨b, 2, none⟩ = some v2 ∧ w.cell? ⟨b, 3, none⟩ = some v3 ∧ w.cell? ⟨b, 4, none⟩ = some v4 ∧ w.cell? ⟨b, 5, none⟩ = some v5 ∧ w.cell? ⟨b, 6, none⟩ = some v6 ∧ w.cell? ⟨b, 7, none⟩ = some v7 :=
  ⟨by rw [cell_of_row _ _ _ _ _ _ h]; rfl, by rw [cell_of_row _ _ _ _ _ _ h]; rfl, by rw [cell_of_row _ _ _ _ _ _ h]; rfl, by rw [cell_of_row _ _ _ _ _ _ h]; rfl, by rw [cell_of_row _ _ _ _ _ _ h]; rfl, by rw [cell_of_row _ _ _ _ _ _ h]; rfl, by rw [cell_of_row _ _ _ _ _ _ h]; rfl, by rw [cell_of_row _ _ _ _ _ _ h]; rfl⟩
theorem TW.start (W : World) (most : Int) : TW W most [] (.slice none 0 0) (((((W.alloc zP).alloc (.cells #[.int .i64 1, .slice none 0 0] 81)).alloc (.cells #[.int .i64 4] 3)).alloc (.cells #[.slice (some ⟨W.heap.size + 1 + 1, 0, none⟩) 1 1, .int .i64 most, .int .i64 (-1), .bool false, .slice none 0 0, .int .i64 most, .int .i64 (-1), .bool false] 83)).alloc (.cells #[.slice (some ⟨W.heap.size + 1, 0, none⟩) 1 1, .slice (some ⟨W.heap.size + 1 + 1 + 1, 0, none⟩) 2 2, .slice none 0 0, .int .i64 5] 26)) := by
  refine ⟨?_, ?_, ?_, ?_, ?_, ⟨[], ⟨⟨rfl, Or.inl ⟨rfl, rfl⟩⟩, rfl, fun k n u hn => by simp at hn⟩⟩, bAlloc (bAlloc (bAlloc (bAlloc (bAlloc (bRefl _) _) _) _) _) _⟩
  · rw [Below.heap_alloc _ _ _ (by simp <;> omega), Below.heap_alloc _ _ _ (by simp <;> omega), Below.heap_alloc _ _ _ (by simp <;> omega), Below.heap_alloc _ _ _ (by simp)]; exact heap_new _ _
  · rw [Below.heap_alloc _ _ _ (by simp <;> omega), Below.heap_alloc _ _ _ (by simp <;> omega), Below.heap_alloc _ _ _ (by simp)]; exact heap_new2 (by simp)
  · rw [Below.heap_alloc _ _ _ (by simp <;> omega), Below.heap_alloc _ _ _ (by simp)]; exact heap_new2 (by simp)
  · rw [Below.heap_alloc _ _ _ (by simp)]; exact heap_new2 (by simp)
  · exact heap_new2 (by simp)
section
variable {W wr w6 : World} {most : Int} {l : List PNte} {v : Value} {us : List Value} {k : Nat}
theorem TW.top (h : TW W most l v wr) : W.heap.size + 1 + 1 + 1 + 1 + 1 ≤ wr.heap.size := (Array.getElem?_eq_some_iff.1 h.b4).1
theorem TW.nb (h : TW W most l v wr) : ∀ b, v.ownBlock = some b → W.heap.size + 1 + 1 + 1 + 1 + 1 ≤ b := fun b e => by obtain ⟨us, hu⟩ := h.nt; exact (own_lt hu.own e).1
theorem TW.next {x : PNte} {gn cn : Nat} (h : TW W most l v wr) (hu : NR (fun b => W.heap.size + 1 + 1 + 1 + 1 + 1 ≤ b) (W.heap.size + 1 + 1 + 1 + 1 + 1) wr v l us) (hx : x.args = [(k : Int)])
    (ho : w6.ownsRow (W.heap.size + 1 + 1 + 1 + 1 + 1) 54 3 (.slice (some ⟨gn, 0, none⟩) (l.length + 1) cn) (l.length + 1) ((List.zipWith ntrow l us).flatten ++ ntrow x (.slice (some ⟨wr.heap.size, 0, none⟩) 1 1)))
    (hg : ((wr.alloc (.cells #[.int .i64 (k : Int)] 3)).alloc (.cells #[.int .i64 x.to, .int .i64 x.hd, .slice (some ⟨wr.heap.size, 0, none⟩) 1 1] 54)).grownBy w6 v.ownBlock) (hat : v.ownBlock = some gn ∨ gn = wr.heap.size + 1 + 1) :
    TW W most (l ++ [x]) (.slice (some ⟨gn, 0, none⟩) (l.length + 1) cn) (w6.setCell ⟨W.heap.size + 1 + 1 + 1 + 1, 2, none⟩ (.slice (some ⟨gn, 0, none⟩) (l.length + 1) cn)) := by
  have ht := h.top
  have hnb := h.nb
  have hB : Below wr.heap.size wr ((wr.alloc (.cells #[.int .i64 (k : Int)] 3)).alloc (.cells #[.int .i64 x.to, .int .i64 x.hd, .slice (some ⟨wr.heap.size, 0, none⟩) 1 1] 54)) := bAlloc (bAlloc (bRefl _) _) _
  have hsz : ((wr.alloc (.cells #[.int .i64 (k : Int)] 3)).alloc (.cells #[.int .i64 x.to, .int .i64 x.hd, .slice (some ⟨wr.heap.size, 0, none⟩) 1 1] 54)).heap.size = wr.heap.size + 2 := by simp
  have hgn : W.heap.size + 1 + 1 + 1 + 1 + 1 ≤ gn := by rcases hat with e | e; exact hnb gn e; omega
  have keep : ∀ (b : Nat) (X : Obj), b < W.heap.size + 1 + 1 + 1 + 1 + 1 → wr.heap[b]? = some X → w6.heap[b]? = some X := fun b X hb hX =>
    (hg.block b (by omega) (fun e => by have := hnb b e.symm; omega)).trans (boxAt hX hB)
  have hS : Same (fun d => d ≠ W.heap.size + 1 + 1 + 1 + 1) w6 (w6.setCell ⟨W.heap.size + 1 + 1 + 1 + 1, 2, none⟩ (.slice (some ⟨gn, 0, none⟩) (l.length + 1) cn)) := setCell_same fun _ h => h
  have keep2 : ∀ (b : Nat) (X : Obj), b < W.heap.size + 1 + 1 + 1 + 1 → wr.heap[b]? = some X → (w6.setCell ⟨W.heap.size + 1 + 1 + 1 + 1, 2, none⟩ (.slice (some ⟨gn, 0, none⟩) (l.length + 1) cn)).heap[b]? = some X := fun b X hb hX => by
    have h6 := keep b X (by omega) hX
    exact (hS.block b (by show b ≠ W.heap.size + 1 + 1 + 1 + 1; omega) (Array.getElem?_eq_some_iff.1 h6).1).trans h6
  have hblk : ((wr.alloc (.cells #[.int .i64 (k : Int)] 3)).alloc (.cells #[.int .i64 x.to, .int .i64 x.hd, .slice (some ⟨wr.heap.size, 0, none⟩) 1 1] 54)).heap[wr.heap.size]? = some (.cells #[.int .i64 (k : Int)] 3) := by
    rw [Below.heap_alloc _ _ _ (by simp)]; exact heap_new _ _
  have key := (hu.below hB).push (ms := [x]) (xs := [.slice (some ⟨wr.heap.size, 0, none⟩) 1 1]) (m := 1) rfl rfl (by simpa using ho) hg (hat.imp id fun e => by rw [e, hsz]) (fun j n u' hn hu' => by
    cases j with
    | zero =>
      simp at hn hu'
      subst hn hu'
      rw [hx]
      refine ⟨_, 1, rfl, by simp, by simp, Or.inr ⟨wr.heap.size, 0, rfl, ⟨by omega, fun e => by have := (own_lt hu.own e).2; omega⟩, by omega, fun j y hy => ?_⟩⟩
      cases j with
      | zero => simp at hy; subst hy; show World.cell? _ ⟨wr.heap.size, 0, none⟩ = _; rw [cell_of_row _ _ _ _ _ _ hblk]; rfl
      | succ j => simp at hy
    | succ j => simp at hn)
  refine ⟨keep2 _ _ (by omega) h.b0, keep2 _ _ (by omega) h.b1, keep2 _ _ (by omega) h.b2, keep2 _ _ (by omega) h.b3, (setCell_heap (keep _ _ (by omega) h.b4)).trans (by simp), ⟨us ++ [_], key.same hS.size fun b hlt hb => hS.block b ?_ hlt⟩, ?_⟩
  · rcases hb with hb | hb
    · show b ≠ W.heap.size + 1 + 1 + 1 + 1; omega
    · have : b = gn := (Option.some.inj hb).symm; show b ≠ W.heap.size + 1 + 1 + 1 + 1; omega
  · have h1 : Below W.heap.size W ((wr.alloc (.cells #[.int .i64 (k : Int)] 3)).alloc (.cells #[.int .i64 x.to, .int .i64 x.hd, .slice (some ⟨wr.heap.size, 0, none⟩) 1 1] 54)) := bTrans h.low hB
    exact (h1.grown hg (by have := h.low.size; omega) (fun j hj => by have := hnb j hj; omega)).setCell (p := ⟨W.heap.size + 1 + 1 + 1 + 1, 2, none⟩) (by show W.heap.size ≤ W.heap.size + 1 + 1 + 1 + 1; omega) _
theorem TW.prg {n : Nat} (h : TW W most (boots n) v wr) (hn : n ≤ 16) {w' : World} (hS : Same (fun d => d ≠ W.heap.size) wr w') : PrgV w' (.agg #[.slice (some ⟨W.heap.size + 1, 0, none⟩) 1 1, .slice (some ⟨W.heap.size + 1 + 1 + 1, 0, none⟩) 2 2, v, .int .i64 5]) (twoP n most) := by
  have t := h.top
  have tz := hS.size
  have b1 := (hS.block _ (by show W.heap.size + 1 ≠ W.heap.size; omega) (by omega)).trans h.b1
  have b2 := (hS.block _ (by show W.heap.size + 1 + 1 ≠ W.heap.size; omega) (by omega)).trans h.b2
  have b3 := (hS.block _ (by show W.heap.size + 1 + 1 + 1 ≠ W.heap.size; omega) (by omega)).trans h.b3
  refine ⟨_, _, _, rfl, ?_, ?_, ?_⟩
  · obtain ⟨c0, c1⟩ : w'.cell? ⟨W.heap.size + 1, 0, none⟩ = some (.int .i64 1) ∧ w'.cell? ⟨W.heap.size + 1, 1, none⟩ = some (.slice none 0 0) := ⟨by rw [cell_of_row _ _ _ _ _ _ b1]; rfl, by rw [cell_of_row _ _ _ _ _ _ b1]; rfl⟩
    refine ⟨_, 1, rfl, by simp [twoP], by simp [twoP], Or.inr ⟨W.heap.size + 1, 0, rfl, trivial, by omega, fun j y hy => ?_⟩⟩
    match j, hy with
    | 0, hy => cases hy; exact ⟨c0, _, c1, ⟨_, _, rfl, by simp, by simp, Or.inl rfl⟩⟩
  · obtain ⟨c0, c1, c2, c3, c4, c5, c6, c7⟩ := blk8 b3
    have r0 : w'.cell? ⟨W.heap.size + 1 + 1, 0, none⟩ = some (.int .i64 4) := by rw [cell_of_row _ _ _ _ _ _ b2]; rfl
    refine ⟨_, 2, rfl, by simp [twoP], by simp [twoP], Or.inr ⟨W.heap.size + 1 + 1 + 1, 0, rfl, trivial, by omega, fun j y hy => ?_⟩⟩
    match j, hy with
    | 0, hy =>
      cases hy
      refine ⟨⟨_, c0, ⟨_, 1, rfl, by simp, by simp, Or.inr ⟨W.heap.size + 1 + 1, 0, rfl, trivial, by omega, fun j y hy => ?_⟩⟩⟩, c1, c2, c3⟩
      match j, hy with
      | 0, hy => cases hy; exact r0
    | 1, hy => cases hy; exact ⟨⟨_, c4, ⟨_, _, rfl, by simp, by simp, Or.inl rfl⟩⟩, c5, c6, c7⟩
  · obtain ⟨us, hu⟩ := h.nt
    have hh := (hu.same tz fun b hlt hb => hS.block b (by show b ≠ W.heap.size; rcases hb with hb | hb; (omega); (have := (own_lt hu.own hb).1; omega)) hlt).ntes (by rw [boots_len]; omega)
    exact hh.imp (fun _ _ => trivial) (Nat.le_refl _) fun _ _ _ _ _ ⟨h1, h2, c, h3, h4⟩ => ⟨h1, h2, c, h3, h4.weak fun _ _ => trivial⟩
end
end Go.Proofs.YtgdloonpemaijaaDoor
namespace Go.Proofs.YtgdloonpemaijaaDoor
open Go.RowKit
theorem eqU (a b : PBud) (w : World) : (Op.equalIn 10000 42 (uVal a) (uVal b)).run Tryd.prog w = .ok (eqB a b) w := by
  have u3 := Tryd.underlying3
  have a3 := Tryd.isAgg3
  have z3 := Tryd.sizeOf3
  have hS : Tryd.prog.underlying 42 = some (.struct (Tryd.prog.fieldsOf 42)) := by kernel_rfl
  have hp : Tryd.prog.stoodInHeld 42 = false := by kernel_rfl
  obtain ⟨f, n, c, d⟩ := a
  obtain ⟨f', n', c', d'⟩ := b
  unfold eqB
  rw [show (10000 : Nat) = 9999 + 1 from rfl, run_equalIn_agg w 9999 42 _ _ hS hp]
  simp only [Program.fieldsOf, Tryd.underlying42]
  go_simp
  by_cases h1 : f = f' <;> by_cases h2 : n = n' <;> by_cases h3 : c = c' <;> by_cases h4 : d = d' <;> simp [h1, h2, h3, h4]
theorem eq8 (f n c d f' n' c' d' : Int) (w : World) : (Op.equalIn 10000 42 (.agg #[.int .i64 f, .int .i64 n, .int .i64 c, .int .i64 d]) (.agg #[.int .i64 f', .int .i64 n', .int .i64 c', .int .i64 d'])).run Tryd.prog w = .ok (eqB (⟨f, n, c, d⟩ : PBud) ⟨f', n', c', d'⟩) w := eqU ⟨f, n, c, d⟩ ⟨f', n', c', d'⟩ w
attribute [local go_sem ↓] eq8
end Go.Proofs.YtgdloonpemaijaaDoor
namespace Go.Proofs.YtgdloonpemaijaaDoor
open Go.RowKit
theorem de_nil (hs : List PHnd) : de hs [] = 0 := (goodB_good (hs := hs) (code := []) (l := [0]) (pr := fun _ => 0) (by rfl)).de
theorem fc_of {p : PPrg} (h : chk p = 0) (hc : ∀ x ∈ p.hs, x.code = []) : fc p = 0 := by
  unfold fc
  rw [if_pos h]
  have : ∀ l : List PHnd, (∀ x ∈ l, x.code = []) → scan (fun h => de p.hs h.code) l = 0 := by
    intro l hl
    induction l with
    | nil => rfl
    | cons x r ih =>
      unfold scan
      rw [hl x (List.mem_cons_self ..), de_nil, if_pos rfl]
      exact ih fun y hy => hl y (List.mem_cons_of_mem _ hy)
  exact this _ hc
end Go.Proofs.YtgdloonpemaijaaDoor
namespace Go.Proofs.YtgdloonpemaijaaDoor
theorem less_trans {a b c : PID} (h1 : lessD a b = true) (h2 : lessD b c = true) : lessD a c = true := by rw [lessD_iff] at *; omega
theorem less_irr (a : PID) : lessD a a = false := by
  cases h : lessD a a with
  | false => rfl
  | true => rw [lessD_iff] at h; omega
theorem less_ne {a b : PID} (h : lessD a b = true) : a ≠ b := by rintro rfl; rw [less_irr] at h; cases h
theorem less_total {a b : PID} (h : a ≠ b) (h1 : lessD a b = false) : lessD b a = true := by
  have h2 : ¬ lessD a b = true := by rw [h1]; decide
  rw [lessD_iff] at *
  have h3 : ¬ (a.f = b.f ∧ a.n = b.n ∧ a.c = b.c) := fun ⟨e1, e2, e3⟩ => h (by obtain ⟨f, n, c⟩ := a; obtain ⟨f', n', c'⟩ := b; dsimp only at e1 e2 e3; rw [e1, e2, e3])
  omega
theorem srt_pw : ∀ (l : List PMsg), srt l = true ↔ l.Pairwise (fun x y => lessD x.id y.id = true)
  | [] => by simp [srt]
  | [a] => by simp [srt]
  | a :: b :: r => by
    rw [srt, Bool.and_eq_true, srt_pw (b :: r)]
    rw [List.pairwise_cons (a := a)]
    constructor
    · rintro ⟨h1, h2⟩
      refine ⟨fun y hy => ?_, h2⟩
      rcases List.mem_cons.1 hy with rfl | hy
      · exact h1
      · exact less_trans h1 ((List.pairwise_cons.1 h2).1 y hy)
    · rintro ⟨h1, h2⟩
      exact ⟨h1 b (by simp), h2⟩
theorem fnd_iff {l : List PMsg} {d : PID} : fnd l d = -1 ↔ ∀ x ∈ l, x.id ≠ d := by
  rcases fnd_cases l d with ⟨h, h1⟩ | ⟨k, x, h, h1, h2, _⟩
  · refine ⟨fun _ x hx => ?_, fun _ => h⟩
    obtain ⟨j, hj⟩ := List.mem_iff_getElem?.1 hx
    exact h1 j x hj
  · refine ⟨fun e => by omega, fun hh => absurd h2 (hh x (List.mem_of_getElem? h1))⟩
theorem put_srt {l : List PMsg} {m : PMsg} (h : srt l = true) (hf : fnd l m.id = -1) : srt (putP l m) = true := by
  rw [srt_pw] at *
  rw [fnd_iff] at hf
  have h1 : ∀ x ∈ l.take (plc l m.id), lessD x.id m.id = true := fun x hx => by
    obtain ⟨j, hj⟩ := List.mem_iff_getElem?.1 hx
    rw [List.getElem?_take] at hj
    split at hj
    · rename_i hlt
      obtain ⟨hjl, rfl⟩ := List.getElem?_eq_some_iff.1 hj
      have := List.not_of_lt_findIdx (p := fun m' : PMsg => !lessD m'.id m.id) hlt
      simpa using this
    · cases hj
  have h2 : ∀ y ∈ l.drop (plc l m.id), lessD m.id y.id = true := fun y hy => by
    by_cases hp : plc l m.id < l.length
    · have e0 : lessD (l[plc l m.id]).id m.id = false := by
        have := List.findIdx_getElem (p := fun m' : PMsg => !lessD m'.id m.id) (w := hp)
        unfold plc; simpa using this
      have e1 := less_total (hf _ (List.getElem_mem hp)) e0
      rw [List.drop_eq_getElem_cons hp] at hy
      rcases List.mem_cons.1 hy with rfl | hy
      · exact e1
      · have h3 : (l.drop (plc l m.id)).Pairwise (fun x y => lessD x.id y.id = true) := h.drop
        rw [List.drop_eq_getElem_cons hp, List.pairwise_cons] at h3
        exact less_trans e1 (h3.1 y hy)
    · rw [List.drop_eq_nil_of_le (by omega)] at hy; cases hy
  unfold putP
  rw [List.pairwise_append, List.pairwise_cons]
  refine ⟨h.take, ⟨h2, h.drop⟩, fun x hx y hy => ?_⟩
  rcases List.mem_cons.1 hy with rfl | hy
  · exact h1 x hx
  · exact less_trans (h1 x hx) (h2 y hy)
end Go.Proofs.YtgdloonpemaijaaDoor
