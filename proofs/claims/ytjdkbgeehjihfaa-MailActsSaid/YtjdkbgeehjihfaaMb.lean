/-
  The reference's Put: a message put in. Condition: the lists are short.
-/
import Derived.Test.YtjdkbgeehjihfaaMa
namespace Go.Proofs.Ytjdkbgeehjihfaa
open Go.RowKit
attribute [local go_sem ↓] Go.wp_at_zero Go.wp_at_succ subA_rule
attribute [local go_sem] subA_rule2
theorem MT.empty {P : Nat → Prop} {base : Nat} {W : World} {e : Nat} (h : W.heap[e]? = some (.cells #[] 29)) (he : base ≤ e) : MT P base W (.slice (some ⟨e, 0, none⟩) 0 0) [] [] :=
  ⟨⟨rfl, Or.inr ⟨e, 0, #[], rfl, he, h, by simp, by simp [maxLen], rfl, rfl⟩⟩, rfl, fun k n u hn => by simp at hn⟩
theorem Msgs.lt2 {ok inn : Nat → Prop} {w : World} {v : Value} {l : List PMsg} (h : Msgs ok inn w v l) : Msgs ok (fun b => b < w.heap.size) w v l :=
  h.imp (fun _ h => h) (Nat.le_refl _) fun _ _ _ _ _ ⟨h1, h2, h3, h4, h5, c, h6, h7⟩ => ⟨h1, h2, h3, h4, h5, c, h6, Ints.weak (Sl.lt h7) fun _ hb => hb.2⟩
theorem Ints.lt2 {ok : Nat → Prop} {w : World} {v : Value} {l : List Int} (h : Ints ok w v l) : Ints (fun b => b < w.heap.size) w v l := Ints.weak (Sl.lt h) fun _ hb => hb.2
theorem Msgs.keep {ok : Nat → Prop} {N : Nat} {w w' : World} {v : Value} {l : List PMsg} (h : Msgs ok (fun b => b < N) w v l) (hb : Below w.heap.size w w') : Msgs ok (fun b => b < N) w' v l := h.below hb
theorem ne_own {e n c b N : Nat} (he : N ≤ e) (hb : b < N) : (Value.slice (some ⟨e, 0, none⟩) n c).ownBlock ≠ some b := fun h => by have h' : e = b := Option.some.inj h; omega
theorem MT.low {P : Nat → Prop} {a W w' : World} {v : Value} {l : List PMsg} {us : List Value} (h : MT P a.heap.size W v l us) (hb : Below a.heap.size a W) (hg : W.grownBy w' v.ownBlock) : Below a.heap.size a w' := grown_low hb hg fun _ hk => (own_lt h.own hk).1
theorem mid {a W w2 : World} {row : Option Nat} (_ : W.grownBy w2 row) (h : Below a.heap.size a W) : Below a.heap.size a W := h
set_option maxHeartbeats 4000000 in
set_option maxRecDepth 100000 in
theorem rput_there (w : World) (v vm : Value) (l : List PMsg) (m : PMsg) (h : Msgs anyB anyB w v l) (hm : MsgV anyB w vm m) (k : Nat) (hf : fnd l m.id = k) :
    Calls Try.prog 9 #[v, vm] w fun e w' => e = .returned (.tuple #[.slice none 0 0, .bool false]) ∧ Below w.heap.size w w' := by
  obtain ⟨A, c, rfl, hl⟩ := h.form
  obtain ⟨c2, rfl, hI⟩ := hm
  obtain ⟨A2, d2, rfl, _⟩ := hI.form
  have hk : (0 : Int) ≤ k := by omega
  obtain ⟨p0, p1, p2, p3, p4, p5⟩ := blk6 (heap_new w (.cells #[.int .i64 m.id.f, .int .i64 m.id.n, .int .i64 m.id.c, .int .i64 m.nt.to, .int .i64 m.nt.hd, .slice A2 m.nt.args.length d2] 29))
  go_enter Try.func9, Try.ntmps9
  go_wp2_with (first | (go_at_call 16; refine (rfind_any _ _ l m.id (h.below (by exact bAlloc (bRefl _) _))).mono ?_; rintro e w1 ⟨rfl, hb1⟩))
  exact bodyPost_ret (v := .tuple #[.slice none 0 0, .bool false]) (by simp [results, Try.results9, go_sem]) rfl ⟨rfl, bTrans (bAlloc (bRefl _) _) hb1⟩
set_option maxHeartbeats 4000000 in
set_option maxRecDepth 100000 in
theorem rput_new (w : World) (v vm : Value) (l : List PMsg) (m : PMsg) (h : Msgs anyB anyB w v l) (hm : MsgV anyB w vm m) (hf : fnd l m.id = -1) (hF : Few l) :
    Calls Try.prog 9 #[v, vm] w fun e w' => ∃ u, e = .returned (.tuple #[u, .bool true]) ∧ Msgs anyB anyB w' u (putP l m) ∧ Below w.heap.size w w' := by
  obtain ⟨A, c, rfl, hl⟩ := h.form
  obtain ⟨c2, rfl, hI⟩ := hm
  obtain ⟨A2, d2, rfl, _⟩ := hI.form
  have hcap := h.cap
  obtain ⟨p0, p1, p2, p3, p4, p5⟩ := blk6 (heap_new w (.cells #[.int .i64 m.id.f, .int .i64 m.id.n, .int .i64 m.id.c, .int .i64 m.nt.to, .int .i64 m.nt.hd, .slice A2 m.nt.args.length d2] 29))
  go_enter Try.func9, Try.ntmps9
  go_wp2_with (first | (go_at_call 16; refine (rfind_any _ _ l m.id (h.below (by exact bAlloc (bRefl _) _))).mono ?_; rintro e w1 ⟨rfl, hb1⟩))
  have hz : w.heap.size < w1.heap.size := by have := hb1.size; simp at this; omega
  replace p0 := (hb1.cell (p := ⟨w.heap.size, 0, none⟩) (by simp)).trans p0
  replace p1 := (hb1.cell (p := ⟨w.heap.size, 1, none⟩) (by simp)).trans p1
  replace p2 := (hb1.cell (p := ⟨w.heap.size, 2, none⟩) (by simp)).trans p2
  replace p3 := (hb1.cell (p := ⟨w.heap.size, 3, none⟩) (by simp)).trans p3
  replace p4 := (hb1.cell (p := ⟨w.heap.size, 4, none⟩) (by simp)).trans p4
  replace p5 := (hb1.cell (p := ⟨w.heap.size, 5, none⟩) (by simp)).trans p5
  have HB1 : Hid (Below w.heap.size w w1) := bTrans (bAlloc (bRefl _) _) hb1
  clear hb1
  go_loopg [6] l.length (fun n i6 wr => ∃ k : Nat, n = l.length - k ∧ k ≤ l.length ∧ i6 = .int .i64 k ∧ Hid (∀ (j : Nat) (y : PMsg), j < k → l[j]? = some y → lessD y.id m.id = true) ∧ Below w1.heap.size w1 wr)
  case atStart => exact ⟨0, rfl, by omega, rfl, fun j y hj => by omega, bRefl w1⟩
  case round =>
    obtain ⟨k, rfl, hk, rfl, ht, hb⟩ := hrel
    have k0 := (hb.cell (p := ⟨w.heap.size, 0, none⟩) hz).trans p0
    have k1 := (hb.cell (p := ⟨w.heap.size, 1, none⟩) hz).trans p1
    have k2 := (hb.cell (p := ⟨w.heap.size, 2, none⟩) hz).trans p2
    have k3 := (hb.cell (p := ⟨w.heap.size, 3, none⟩) hz).trans p3
    have k4 := (hb.cell (p := ⟨w.heap.size, 4, none⟩) hz).trans p4
    have k5 := (hb.cell (p := ⟨w.heap.size, 5, none⟩) hz).trans p5
    have hz2 : w.heap.size < wr.heap.size := Nat.lt_of_lt_of_le hz hb.size
    have HBW : Hid (Below w.heap.size w wr) := bTrans HB1.out hb
    have HB : Hid (Below w1.heap.size w1 wr) := hb
    clear hb p0 p1 p2 p3 p4 p5
    by_cases hgo : ∃ x, l[k]? = some x ∧ lessD x.id m.id = true
    · obtain ⟨x, hx, hle⟩ := hgo
      have hlt := (List.getElem?_eq_some_iff.1 hx).1
      obtain ⟨b1, o1, x', v1, rfl, hx', hz1, q1, q2, q3, -, -, -, -⟩ := h.cell HBW.out hlt
      rw [hx] at hx'
      cases hx'
      have HX : Hid (l[k]? = some x) := hx
      have HE : Hid (lessD x.id m.id = true) := hle
      clear hx
      go_wp2
      go_region_held3 (fun w' => w'.cell? ⟨b1, o1 + k * 6, none⟩ = some (.int .i64 x.id.f) ∧ w'.cell? ⟨b1, o1 + k * 6 + 1, none⟩ = some (.int .i64 x.id.n) ∧ w'.cell? ⟨b1, o1 + k * 6 + 2, none⟩ = some (.int .i64 x.id.c) ∧ w'.cell? ⟨w.heap.size, 0, none⟩ = some (.int .i64 m.id.f) ∧ w'.cell? ⟨w.heap.size, 1, none⟩ = some (.int .i64 m.id.n) ∧ w'.cell? ⟨w.heap.size, 2, none⟩ = some (.int .i64 m.id.c)) (go_keep)
        (first | (go_at_call 25; refine (rless_any x.id m.id _).mono ?_; rintro e w2 ⟨rfl, hb2⟩; have hc2 := bcell (undrew hb2)))
      go_wp2
      go_roundg (l.length - (k + 1))
      case measure => omega
      case rel => exact ⟨k + 1, rfl, by omega, by go_num, fun j y hj hy => by
            by_cases ej : j = k
            · subst ej; have := HX.out; rw [hy] at this; cases this; exact HE.out
            · exact ht.out j y (by omega) hy, bTrans HB.out (undrew hb2)⟩
    · have hp : plc l m.id = k := by
        by_cases hlt : k < l.length
        · obtain ⟨x, hx⟩ := at_lt hlt
          refine plc_at hx ?_ ht.out
          cases hle : lessD x.id m.id with
          | false => rfl
          | true => exact absurd ⟨x, hx, hle⟩ hgo
        · have : k = l.length := by omega
          subst this
          exact plc_end fun j y hy => ht.out j y (List.getElem?_eq_some_iff.1 hy).1 hy
      have HPL : Hid (plc l m.id = k) := hp
      have HF : Hid (Few l) := hF
      clear hp hF
      by_cases hlt : k < l.length
      · obtain ⟨b1, o1, x, v1, rfl, hx, hz1, q1, q2, q3, -, -, -, -⟩ := h.cell HBW.out hlt
        have hle : lessD x.id m.id = false := by
          cases hle : lessD x.id m.id with
          | false => rfl
          | true => exact absurd ⟨x, hx, hle⟩ hgo
        clear hx hgo
        go_wp2
        go_region_held3 (fun w' => w'.cell? ⟨b1, o1 + k * 6, none⟩ = some (.int .i64 x.id.f) ∧ w'.cell? ⟨b1, o1 + k * 6 + 1, none⟩ = some (.int .i64 x.id.n) ∧ w'.cell? ⟨b1, o1 + k * 6 + 2, none⟩ = some (.int .i64 x.id.c) ∧ w'.cell? ⟨w.heap.size, 0, none⟩ = some (.int .i64 m.id.f) ∧ w'.cell? ⟨w.heap.size, 1, none⟩ = some (.int .i64 m.id.n) ∧ w'.cell? ⟨w.heap.size, 2, none⟩ = some (.int .i64 m.id.c)) (go_keep)
          (first | (go_at_call 25; refine (rless_any x.id m.id _).mono ?_; rintro e wx ⟨rfl, hb2⟩; have hc2 := bcell (undrew hb2)))
        replace k0 := ((undrew hb2).cell (p := ⟨w.heap.size, 0, none⟩) hz2).trans k0
        replace k1 := ((undrew hb2).cell (p := ⟨w.heap.size, 1, none⟩) hz2).trans k1
        replace k2 := ((undrew hb2).cell (p := ⟨w.heap.size, 2, none⟩) hz2).trans k2
        replace k3 := ((undrew hb2).cell (p := ⟨w.heap.size, 3, none⟩) hz2).trans k3
        replace k4 := ((undrew hb2).cell (p := ⟨w.heap.size, 4, none⟩) hz2).trans k4
        replace k5 := ((undrew hb2).cell (p := ⟨w.heap.size, 5, none⟩) hz2).trans k5
        have HBX : Hid (Below w.heap.size w wx) := bTrans HBW.out (undrew hb2)
        replace hz2 := Nat.lt_of_lt_of_le hz2 (undrew hb2).size
        clear hb2 hc2 q1 q2 q3 hz1
        go_wp2_with fail
        have hbb : Below wx.heap.size wx wx := bRefl wx
        obtain ⟨a, ha⟩ : ∃ a, a = l.take k := ⟨_, rfl⟩
        obtain ⟨z, hz0⟩ : ∃ z, z = l.drop k := ⟨_, rfl⟩
        have HP : Hid (putP l m = (a ++ [m]) ++ z) := by show _ = _; unfold putP; rw [HPL.out, ha, hz0]; simp
        have HTA : Hid (Msgs anyB (fun b => b < w.heap.size) w (.slice (some ⟨b1, o1, none⟩) k c) a) := by rw [ha]; exact h.lt2.takeS hk
        have HTZ : Hid (Msgs anyB (fun b => b < w.heap.size) w (.slice (subA (some ⟨b1, o1, none⟩) c k) (l.length - k) (c - k)) z) := by rw [hz0]; exact h.lt2.dropS hk
        have HLA : Hid (a.length ≤ 900 ∧ z.length ≤ 900) := by rw [ha, hz0]; exact ⟨by have := HF.out.1; simp; omega, by have := HF.out.1; simp; omega⟩
        have HII : Hid (Ints (fun b => b < w.heap.size) w (.slice A2 m.nt.args.length d2) m.nt.args) := hI.lt2
        have hi : (0 : Int) ≤ k := by omega
        have hi2 : (k : Int) ≤ l.length := by omega
        have hkc : (k : Int) ≤ c := by omega
        have HWX : Hid (w.heap.size ≤ wx.heap.size) := HBX.out.size
        clear ha hz0
        go_region_held3 (fun w' => w'.cell? ⟨w.heap.size, 0, none⟩ = some (.int .i64 m.id.f) ∧ w'.cell? ⟨w.heap.size, 1, none⟩ = some (.int .i64 m.id.n) ∧ w'.cell? ⟨w.heap.size, 2, none⟩ = some (.int .i64 m.id.c) ∧ w'.cell? ⟨w.heap.size, 3, none⟩ = some (.int .i64 m.nt.to) ∧ w'.cell? ⟨w.heap.size, 4, none⟩ = some (.int .i64 m.nt.hd) ∧ w'.cell? ⟨w.heap.size, 5, none⟩ = some (.slice A2 m.nt.args.length d2)) (go_keep)
          (first
            | (refine step_appM (l := []) rfl _ _ rfl (MT.empty (P := fun b => b < w.heap.size) (base := wx.heap.size) (by first | exact heap_new2 (by simp) | exact ((bAlloc (bRefl _) _).block _ (by simp)).trans (heap_new2 (by simp))) (by first | exact Nat.le_refl _ | (simp; done) | (simp; omega))) rfl rfl (HTA.out.below (bTrans HBX.out (by first | exact hbb | exact hbb.drew | exact bAlloc hbb _ | exact (bAlloc hbb _).drew | exact bAlloc (bAlloc hbb _) _ | exact (bAlloc (bAlloc hbb _) _).drew | exact bAlloc (bAlloc hbb _).drew _ | exact bAlloc hbb.drew _ | exact bAlloc (bAlloc hbb.drew _) _))) (fun b hb => ⟨hb, ne_own (N := w.heap.size) (by have := HWX.out; first | omega | (simp; omega)) hb⟩) (by have := HLA.out.1; simp; omega) (by first | (simp; done) | (simp; omega)) ?_; rintro A4 c4 W1 ⟨⟨us1, hm1⟩, hg1, -⟩; have hb1 := MT.low (MT.empty (P := fun b => b < w.heap.size) (base := wx.heap.size) (by first | exact heap_new2 (by simp) | exact ((bAlloc (bRefl _) _).block _ (by simp)).trans (heap_new2 (by simp))) (by first | exact Nat.le_refl _ | (simp; done) | (simp; omega))) (mid hg1 (by first | exact hbb | exact hbb.drew | exact bAlloc hbb _ | exact (bAlloc hbb _).drew | exact bAlloc (bAlloc hbb _) _ | exact (bAlloc (bAlloc hbb _) _).drew | exact bAlloc (bAlloc hbb _).drew _ | exact bAlloc hbb.drew _ | exact bAlloc (bAlloc hbb.drew _) _)) hg1; replace hbb := hb1; simp only [List.nil_append, List.length_nil, Nat.zero_add] at hm1 hg1 ⊢; have y0 := (hbb.cell (p := ⟨w.heap.size, 0, none⟩) hz2).trans k0; have y1 := (hbb.cell (p := ⟨w.heap.size, 1, none⟩) hz2).trans k1; have y2 := (hbb.cell (p := ⟨w.heap.size, 2, none⟩) hz2).trans k2; have y3 := (hbb.cell (p := ⟨w.heap.size, 3, none⟩) hz2).trans k3; have y4 := (hbb.cell (p := ⟨w.heap.size, 4, none⟩) hz2).trans k4; have y5 := (hbb.cell (p := ⟨w.heap.size, 5, none⟩) hz2).trans k5)
            | (refine step_appM (l := a) (ms := [m]) rfl _ _ rfl (hm1.below (by first | exact bRefl _ | exact bAlloc (bRefl _) _)) rfl rfl (one_msgs (by first | exact heap_new2 (by simp) | exact (hg1.block _ (by first | (simp; done) | (simp; omega)) (by intro h; have := Option.some.inj h; simp at this)).trans (by first | exact heap_new2 (by simp) | exact ((bAlloc (bRefl _) _).block _ (by simp)).trans (heap_new2 (by simp)))) (HII.out.below (bTrans HBX.out (by first | exact hbb | exact hbb.drew | exact bAlloc hbb _ | exact (bAlloc hbb _).drew | exact bAlloc (bAlloc hbb _) _ | exact (bAlloc (bAlloc hbb _) _).drew | exact bAlloc (bAlloc hbb _).drew _ | exact bAlloc hbb.drew _ | exact bAlloc (bAlloc hbb.drew _) _)))) (fun b hb => ⟨hb, fun e => by have := (own_lt hm1.own e).1; have := HWX.out; omega⟩) (by have := HLA.out.1; simp; omega) (by have := hbb.size; first | omega | (simp; omega)) ?_; rintro A5 c5 W2 ⟨⟨us2, hm2⟩, hg2, -⟩; have hb2 := MT.low (MT.below hm1 (by first | exact bRefl _ | exact bAlloc (bRefl _) _)) (mid hg2 (by first | exact hbb | exact hbb.drew | exact bAlloc hbb _ | exact (bAlloc hbb _).drew | exact bAlloc (bAlloc hbb _) _ | exact (bAlloc (bAlloc hbb _) _).drew | exact bAlloc (bAlloc hbb _).drew _ | exact bAlloc hbb.drew _ | exact bAlloc (bAlloc hbb.drew _) _)) hg2; replace hbb := hb2; have y0 := (hbb.cell (p := ⟨w.heap.size, 0, none⟩) hz2).trans k0; have y1 := (hbb.cell (p := ⟨w.heap.size, 1, none⟩) hz2).trans k1; have y2 := (hbb.cell (p := ⟨w.heap.size, 2, none⟩) hz2).trans k2; have y3 := (hbb.cell (p := ⟨w.heap.size, 3, none⟩) hz2).trans k3; have y4 := (hbb.cell (p := ⟨w.heap.size, 4, none⟩) hz2).trans k4; have y5 := (hbb.cell (p := ⟨w.heap.size, 5, none⟩) hz2).trans k5)
            | (refine step_appM (l := a ++ [m]) (ms := z) rfl _ _ rfl hm2 rfl rfl (HTZ.out.below (bTrans HBX.out hbb)) (fun b hb => ⟨hb, fun e => by have := (own_lt hm2.own e).1; have := HWX.out; omega⟩) (by have := HLA.out; simp; omega) (by have := hbb.size; omega) ?_; rintro A6 c6 W3 ⟨⟨us3, hm3⟩, hg3, -⟩; have hb3 := MT.low hm2 (mid hg3 hbb) hg3; replace hbb := hb3; have y0 := (hbb.cell (p := ⟨w.heap.size, 0, none⟩) hz2).trans k0; have y1 := (hbb.cell (p := ⟨w.heap.size, 1, none⟩) hz2).trans k1; have y2 := (hbb.cell (p := ⟨w.heap.size, 2, none⟩) hz2).trans k2; have y3 := (hbb.cell (p := ⟨w.heap.size, 3, none⟩) hz2).trans k3; have y4 := (hbb.cell (p := ⟨w.heap.size, 4, none⟩) hz2).trans k4; have y5 := (hbb.cell (p := ⟨w.heap.size, 5, none⟩) hz2).trans k5))
        all_goals
          have HM3 : Hid (∃ us, MT (fun b => b < w.heap.size) wx.heap.size W3 (.slice A6 ((a ++ [m]).length + z.length) c6) ((a ++ [m]) ++ z) us) := ⟨us3, hm3⟩
          have HB3 : Hid (Below wx.heap.size wx W3) := hb3
          go_wp2
          obtain ⟨us, h3⟩ := HM3.out
          exact bodyPost_ret (v := .tuple #[.slice A6 ((a ++ [m]).length + z.length) c6, .bool true]) (by simp [results, Try.results9, go_sem]) rfl ⟨_, rfl, by rw [HP.out]; exact (h3.msgs (by have := HLA.out; simp; omega)).any2, bTrans HBX.out HB3.out⟩
      · clear hgo
        have hni : ¬ ((k : Int) < l.length) := by omega
        go_wp2
        go_quiet (fail)
        go_wp2_with fail
        have hb2 : Below wr.heap.size wr (wr.drewN nq) := quiet_below ⟨_, rfl⟩
        generalize wr.drewN nq = wx at hb2 ⊢
        replace k0 := (hb2.cell (p := ⟨w.heap.size, 0, none⟩) hz2).trans k0
        replace k1 := (hb2.cell (p := ⟨w.heap.size, 1, none⟩) hz2).trans k1
        replace k2 := (hb2.cell (p := ⟨w.heap.size, 2, none⟩) hz2).trans k2
        replace k3 := (hb2.cell (p := ⟨w.heap.size, 3, none⟩) hz2).trans k3
        replace k4 := (hb2.cell (p := ⟨w.heap.size, 4, none⟩) hz2).trans k4
        replace k5 := (hb2.cell (p := ⟨w.heap.size, 5, none⟩) hz2).trans k5
        have HBX : Hid (Below w.heap.size w wx) := bTrans HBW.out hb2
        replace hz2 := Nat.lt_of_lt_of_le hz2 hb2.size
        clear hb2
        have hbb : Below wx.heap.size wx wx := bRefl wx
        obtain ⟨a, ha⟩ : ∃ a, a = l.take k := ⟨_, rfl⟩
        obtain ⟨z, hz0⟩ : ∃ z, z = l.drop k := ⟨_, rfl⟩
        have HP : Hid (putP l m = (a ++ [m]) ++ z) := by show _ = _; unfold putP; rw [HPL.out, ha, hz0]; simp
        have HTA : Hid (Msgs anyB (fun b => b < w.heap.size) w (.slice A k c) a) := by rw [ha]; exact h.lt2.takeS hk
        have HTZ : Hid (Msgs anyB (fun b => b < w.heap.size) w (.slice (subA A c k) (l.length - k) (c - k)) z) := by rw [hz0]; exact h.lt2.dropS hk
        have HLA : Hid (a.length ≤ 900 ∧ z.length ≤ 900) := by rw [ha, hz0]; exact ⟨by have := HF.out.1; simp; omega, by have := HF.out.1; simp; omega⟩
        have HII : Hid (Ints (fun b => b < w.heap.size) w (.slice A2 m.nt.args.length d2) m.nt.args) := hI.lt2
        have hi : (0 : Int) ≤ k := by omega
        have hi2 : (k : Int) ≤ l.length := by omega
        have hkc : (k : Int) ≤ c := by omega
        have HWX : Hid (w.heap.size ≤ wx.heap.size) := HBX.out.size
        clear ha hz0
        go_region_held3 (fun w' => w'.cell? ⟨w.heap.size, 0, none⟩ = some (.int .i64 m.id.f) ∧ w'.cell? ⟨w.heap.size, 1, none⟩ = some (.int .i64 m.id.n) ∧ w'.cell? ⟨w.heap.size, 2, none⟩ = some (.int .i64 m.id.c) ∧ w'.cell? ⟨w.heap.size, 3, none⟩ = some (.int .i64 m.nt.to) ∧ w'.cell? ⟨w.heap.size, 4, none⟩ = some (.int .i64 m.nt.hd) ∧ w'.cell? ⟨w.heap.size, 5, none⟩ = some (.slice A2 m.nt.args.length d2)) (go_keep)
          (first
            | (refine step_appM (l := []) rfl _ _ rfl (MT.empty (P := fun b => b < w.heap.size) (base := wx.heap.size) (by first | exact heap_new2 (by simp) | exact ((bAlloc (bRefl _) _).block _ (by simp)).trans (heap_new2 (by simp))) (by first | exact Nat.le_refl _ | (simp; done) | (simp; omega))) rfl rfl (HTA.out.below (bTrans HBX.out (by first | exact hbb | exact hbb.drew | exact bAlloc hbb _ | exact (bAlloc hbb _).drew | exact bAlloc (bAlloc hbb _) _ | exact (bAlloc (bAlloc hbb _) _).drew | exact bAlloc (bAlloc hbb _).drew _ | exact bAlloc hbb.drew _ | exact bAlloc (bAlloc hbb.drew _) _))) (fun b hb => ⟨hb, ne_own (N := w.heap.size) (by have := HWX.out; first | omega | (simp; omega)) hb⟩) (by have := HLA.out.1; simp; omega) (by first | (simp; done) | (simp; omega)) ?_; rintro A4 c4 W1 ⟨⟨us1, hm1⟩, hg1, -⟩; have hb1 := MT.low (MT.empty (P := fun b => b < w.heap.size) (base := wx.heap.size) (by first | exact heap_new2 (by simp) | exact ((bAlloc (bRefl _) _).block _ (by simp)).trans (heap_new2 (by simp))) (by first | exact Nat.le_refl _ | (simp; done) | (simp; omega))) (mid hg1 (by first | exact hbb | exact hbb.drew | exact bAlloc hbb _ | exact (bAlloc hbb _).drew | exact bAlloc (bAlloc hbb _) _ | exact (bAlloc (bAlloc hbb _) _).drew | exact bAlloc (bAlloc hbb _).drew _ | exact bAlloc hbb.drew _ | exact bAlloc (bAlloc hbb.drew _) _)) hg1; replace hbb := hb1; simp only [List.nil_append, List.length_nil, Nat.zero_add] at hm1 hg1 ⊢; have y0 := (hbb.cell (p := ⟨w.heap.size, 0, none⟩) hz2).trans k0; have y1 := (hbb.cell (p := ⟨w.heap.size, 1, none⟩) hz2).trans k1; have y2 := (hbb.cell (p := ⟨w.heap.size, 2, none⟩) hz2).trans k2; have y3 := (hbb.cell (p := ⟨w.heap.size, 3, none⟩) hz2).trans k3; have y4 := (hbb.cell (p := ⟨w.heap.size, 4, none⟩) hz2).trans k4; have y5 := (hbb.cell (p := ⟨w.heap.size, 5, none⟩) hz2).trans k5)
            | (refine step_appM (l := a) (ms := [m]) rfl _ _ rfl (hm1.below (by first | exact bRefl _ | exact bAlloc (bRefl _) _)) rfl rfl (one_msgs (by first | exact heap_new2 (by simp) | exact (hg1.block _ (by first | (simp; done) | (simp; omega)) (by intro h; have := Option.some.inj h; simp at this)).trans (by first | exact heap_new2 (by simp) | exact ((bAlloc (bRefl _) _).block _ (by simp)).trans (heap_new2 (by simp)))) (HII.out.below (bTrans HBX.out (by first | exact hbb | exact hbb.drew | exact bAlloc hbb _ | exact (bAlloc hbb _).drew | exact bAlloc (bAlloc hbb _) _ | exact (bAlloc (bAlloc hbb _) _).drew | exact bAlloc (bAlloc hbb _).drew _ | exact bAlloc hbb.drew _ | exact bAlloc (bAlloc hbb.drew _) _)))) (fun b hb => ⟨hb, fun e => by have := (own_lt hm1.own e).1; have := HWX.out; omega⟩) (by have := HLA.out.1; simp; omega) (by have := hbb.size; first | omega | (simp; omega)) ?_; rintro A5 c5 W2 ⟨⟨us2, hm2⟩, hg2, -⟩; have hb2 := MT.low (MT.below hm1 (by first | exact bRefl _ | exact bAlloc (bRefl _) _)) (mid hg2 (by first | exact hbb | exact hbb.drew | exact bAlloc hbb _ | exact (bAlloc hbb _).drew | exact bAlloc (bAlloc hbb _) _ | exact (bAlloc (bAlloc hbb _) _).drew | exact bAlloc (bAlloc hbb _).drew _ | exact bAlloc hbb.drew _ | exact bAlloc (bAlloc hbb.drew _) _)) hg2; replace hbb := hb2; have y0 := (hbb.cell (p := ⟨w.heap.size, 0, none⟩) hz2).trans k0; have y1 := (hbb.cell (p := ⟨w.heap.size, 1, none⟩) hz2).trans k1; have y2 := (hbb.cell (p := ⟨w.heap.size, 2, none⟩) hz2).trans k2; have y3 := (hbb.cell (p := ⟨w.heap.size, 3, none⟩) hz2).trans k3; have y4 := (hbb.cell (p := ⟨w.heap.size, 4, none⟩) hz2).trans k4; have y5 := (hbb.cell (p := ⟨w.heap.size, 5, none⟩) hz2).trans k5)
            | (refine step_appM (l := a ++ [m]) (ms := z) rfl _ _ rfl hm2 rfl rfl (HTZ.out.below (bTrans HBX.out hbb)) (fun b hb => ⟨hb, fun e => by have := (own_lt hm2.own e).1; have := HWX.out; omega⟩) (by have := HLA.out; simp; omega) (by have := hbb.size; omega) ?_; rintro A6 c6 W3 ⟨⟨us3, hm3⟩, hg3, -⟩; have hb3 := MT.low hm2 (mid hg3 hbb) hg3; replace hbb := hb3; have y0 := (hbb.cell (p := ⟨w.heap.size, 0, none⟩) hz2).trans k0; have y1 := (hbb.cell (p := ⟨w.heap.size, 1, none⟩) hz2).trans k1; have y2 := (hbb.cell (p := ⟨w.heap.size, 2, none⟩) hz2).trans k2; have y3 := (hbb.cell (p := ⟨w.heap.size, 3, none⟩) hz2).trans k3; have y4 := (hbb.cell (p := ⟨w.heap.size, 4, none⟩) hz2).trans k4; have y5 := (hbb.cell (p := ⟨w.heap.size, 5, none⟩) hz2).trans k5))
        all_goals
          have HM3 : Hid (∃ us, MT (fun b => b < w.heap.size) wx.heap.size W3 (.slice A6 ((a ++ [m]).length + z.length) c6) ((a ++ [m]) ++ z) us) := ⟨us3, hm3⟩
          have HB3 : Hid (Below wx.heap.size wx W3) := hb3
          go_wp2
          obtain ⟨us, h3⟩ := HM3.out
          exact bodyPost_ret (v := .tuple #[.slice A6 ((a ++ [m]).length + z.length) c6, .bool true]) (by simp [results, Try.results9, go_sem]) rfl ⟨_, rfl, by rw [HP.out]; exact (h3.msgs (by have := HLA.out; simp; omega)).any2, bTrans HBX.out HB3.out⟩
end Go.Proofs.Ytjdkbgeehjihfaa
