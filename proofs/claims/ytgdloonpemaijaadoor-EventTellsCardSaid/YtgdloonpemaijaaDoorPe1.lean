/-
  world.Copy: another one, in new memory. Condition: the world is not too great. A message taken out, by its name: Take. Condition: the lists are short. world.post: one message on its way, or counted. Conditions: the receiver is an actor of the program and of the world; the world is the caller's own, in new memory, and not too great. world.Send. Conditions: the world is not too great, notes are few and short.
-/
import Derived.Test.YtgdloonpemaijaaDoorW5
import Derived.Test.YtgdloonpemaijaaDoorM9
namespace Go.Proofs.YtgdloonpemaijaaDoor
open Go.RowKit
set_option maxHeartbeats 4000000 in
set_option maxRecDepth 100000 in
theorem copyW_any (w : World) (v : Value) (x : PWld) (h : WldV w v x) (hs : SmW x) :
    Calls Tryd.prog 23 #[v] w fun e w' => ∃ a m lo hi, e = .returned (wVal x.used a m) ∧ WN w.heap.size lo hi w' a m x ∧ Below w.heap.size w w' := by
  obtain ⟨va, vm, rfl, h1, h2⟩ := h
  obtain ⟨A1, c1, rfl, hl1⟩ := h1.form
  obtain ⟨A2, c2, rfl, hl2⟩ := h2.form
  have HS := hid_mk hs
  have s1 : x.acts.length ≤ 1000 := by have := hs.n; omega
  clear hs
  go_enter Tryd.func23, Tryd.ntmps23
  go_wp2
  go_cut [3] (fun i3 wc => ∃ bo lo hi a m, i3 = .pointer (some ⟨bo, 0, none⟩) ∧ CW w x bo lo hi a m wc)
  case first =>
    have H1 := hid_mk h1.ltIn
    have H2 := hid_mk h2
    have hA := (two_new w (.cells #[.slice A1 x.acts.length c1, .slice A2 x.mail.length c2, .int .i64 x.used.drop, .int .i64 x.used.dup, .int .i64 x.used.time, .int .i64 x.used.crash] 44) (.cells #[.slice none 0 0, .slice none 0 0, .int .i64 0, .int .i64 0, .int .i64 0, .int .i64 0] 44))
    have HL : Below w.heap.size w ((w.alloc (.cells #[.slice A1 x.acts.length c1, .slice A2 x.mail.length c2, .int .i64 x.used.drop, .int .i64 x.used.dup, .int .i64 x.used.time, .int .i64 x.used.crash] 44)).alloc (.cells #[.slice none 0 0, .slice none 0 0, .int .i64 0, .int .i64 0, .int .i64 0, .int .i64 0] 44)) := bAlloc (bAlloc (bRefl _) _) _
    generalize ((w.alloc (.cells #[.slice A1 x.acts.length c1, .slice A2 x.mail.length c2, .int .i64 x.used.drop, .int .i64 x.used.dup, .int .i64 x.used.time, .int .i64 x.used.crash] 44)).alloc (.cells #[.slice none 0 0, .slice none 0 0, .int .i64 0, .int .i64 0, .int .i64 0, .int .i64 0] 44)) = w0 at hA HL ⊢
    obtain ⟨p0, p1, p2, p3, p4, p5⟩ := blk6 hA.1
    have hz0 : w.heap.size < w0.heap.size := by have := hA.2.2; omega
    have hbb := HL
    have nn : ¬ w.heap.size = w0.heap.size := by omega
    have nn' : ¬ w0.heap.size = w.heap.size := by omega
    have hz0' : w.heap.size < w0.heap.size + 1 := by omega
    have HR0 := hid_mk hA.2.1
    have HZ0 := hid_mk hA.2.2
    clear h1 h2 hA
    go_region_held3 (fun w' => w'.cell? ⟨w.heap.size, 0, none⟩ = some (.slice A1 x.acts.length c1) ∧ w'.cell? ⟨w.heap.size, 1, none⟩ = some (.slice A2 x.mail.length c2) ∧ w'.cell? ⟨w.heap.size, 2, none⟩ = some (.int .i64 x.used.drop) ∧ w'.cell? ⟨w.heap.size, 3, none⟩ = some (.int .i64 x.used.dup) ∧ w'.cell? ⟨w.heap.size, 4, none⟩ = some (.int .i64 x.used.time) ∧ w'.cell? ⟨w.heap.size, 5, none⟩ = some (.int .i64 x.used.crash)) (go_keep)
      (first
        | (go_at_call 59; refine (freshL_any anyB (fun b => b < w.heap.size) _ _ x.acts (H1.out.below (by first | exact hbb | exact hbb.drew | exact bAlloc hbb _ | exact (bAlloc hbb _).drew | exact bAlloc hbb.drew _)) s1).mono ?_; rintro e w1 ⟨u1, rfl, lf, hb1⟩; obtain ⟨D1, e1, rfl, hd1, hd2⟩ := lf; obtain ⟨hc1, hf1, hy1⟩ := (by first | exact olds (undrew hb1) | exact olds hb1); have hj1 := hb1.size; have HF1 := hid_mk (show LF _ _ _ _ _ from ⟨D1, e1, rfl, hd1, hd2⟩); have HB1 := hid_mk hb1; replace hbb := bTrans (by first | exact hbb | exact hbb.drew | exact bAlloc hbb _ | exact (bAlloc hbb _).drew | exact bAlloc hbb.drew _) hb1; have x1 : w.heap.size < w1.heap.size := (by (try simp at hj1); omega); have n1 : ¬ w.heap.size = w1.heap.size := (by omega); have x1' : w.heap.size < w1.heap.size + 1 := (by omega); have n1' : ¬ w1.heap.size = w.heap.size := (by omega); clear hd1 hd2 hb1)
        | (go_at_call 60; refine (copy_any _ _ x.mail (H2.out.below (by first | exact hbb | exact hbb.drew | exact bAlloc hbb _ | exact (bAlloc hbb _).drew | exact bAlloc hbb.drew _)) (by have := HS.out.mail; omega) HS.out.args).mono ?_; rintro e w2 ⟨u2, rfl, mf, hb2⟩; obtain ⟨D2, e2, rfl, _⟩ := mf.form; obtain ⟨hc2, hf2, hy2⟩ := (by first | exact olds (undrew hb2) | exact olds hb2); have hj2 := hb2.size; have HM2 := hid_mk mf.within; have HB2 := hid_mk hb2; replace hbb := bTrans (by first | exact hbb | exact hbb.drew | exact bAlloc hbb _ | exact (bAlloc hbb _).drew | exact bAlloc hbb.drew _) hb2; have x2 : w.heap.size < w2.heap.size := (by (try simp at hj2); omega); have n2 : ¬ w.heap.size = w2.heap.size := (by omega); have x2' : w.heap.size < w2.heap.size + 1 := (by omega); have n2' : ¬ w2.heap.size = w.heap.size := (by omega); clear mf hb2))
    all_goals (go_wp2_with fail; go_meet)
    all_goals first
      | with_reducible exact ⟨_, _, _, _, _, rfl, way_a HL HR0.out HZ0.out HF1.out HB1.out HM2.out HB2.out⟩
      | with_reducible exact ⟨_, _, _, _, _, rfl, way_b HL HR0.out HZ0.out HF1.out HB1.out HM2.out HB2.out⟩
      | with_reducible exact ⟨_, _, _, _, _, rfl, way_c HL HR0.out HZ0.out HF1.out HB1.out HM2.out HB2.out⟩
  case rest =>
    obtain ⟨bo, lo, hi, a, m, rfl, hcw⟩ := hcut
    obtain ⟨A, c, rfl, hck⟩ := hcw.start
    obtain ⟨B, d, rfl, _⟩ := hck.lm.form
    clear h1 h2 hcw
    obtain ⟨o0, o1, o2, o3, o4, o5⟩ := blk6 hck.box
    go_wp2
    go_loopg [4, 17] x.acts.length (fun g i4 i17 wr => ∃ k : Nat, g = x.acts.length - k ∧ i17 = .int .i64 k ∧ CK w x bo lo hi k A c (.slice B x.mail.length d) wr)
    case atStart => exact ⟨0, rfl, rfl, hck⟩
    case round =>
      clear hck o0 o1 o2 o3 o4 o5
      obtain ⟨k, rfl, rfl, ck⟩ := hrel
      obtain ⟨o0, o1, o2, o3, o4, o5⟩ := blk6 ck.box
      have hbo : bo < wr.heap.size := (Array.getElem?_eq_some_iff.1 ck.box).1
      by_cases hlt : k < x.acts.length
      · obtain ⟨y, hy⟩ := at_lt hlt
        obtain ⟨g, rfl, hg, hgb, hr⟩ : ∃ g, A = some ⟨g, 0, none⟩ ∧ Qa (w.heap.size + 2) lo hi g ∧ g ≠ bo ∧ LR g (fun j b => b ≠ g ∧ (j < k → Qa (w.heap.size + 2) lo hi b)) wr x.acts := by
          rcases ck.la with ⟨e, _⟩ | h
          · rw [e] at hlt; simp at hlt
          · exact h
        obtain ⟨⟨v, r0, r0'⟩, r1, r2, r3, r4⟩ := hr.rd k y hy
        obtain ⟨V, n, rfl, _⟩ := r0'.form
        have hfz : ∀ o, wr.frozen? ⟨g, o, none⟩ = false := hr.frozen
        have hgl : g < wr.heap.size := hr.lt
        have hsm : y.regs.length ≤ 1000 := HS.out.regs y (List.mem_of_getElem? hy)
        have CKk := hid_mk ck
        have HY := hid_mk hy
        have HV := hid_mk r0'
        clear ck hy r0' hr hg
        go_wp2
        go_region_with (go_at_call 54; refine (freshI_any _ _ _ y.regs (HV.out.below (by first | exact (bRefl _).drew | exact bRefl _)) hsm).mono ?_; rintro e w1 ⟨D1, m1, rfl, hi1, hb1⟩; obtain ⟨hc1, hf1, hy1⟩ := olds (undrew hb1))
        all_goals
          go_wp2
          go_roundg (x.acts.length - (k + 1))
          case measure => omega
          case rel => exact ⟨k + 1, rfl, by go_num, CKk.out.next HY.out hi1 hb1⟩
      · have HW := hid_mk (ck.done hlt)
        have HLo := hid_mk ck.low
        obtain ⟨y0, y1, y2, y3, y4, y5⟩ := blk6 ck.res
        have fz : ∀ o, wr.frozen? ⟨w.heap.size + 1, o, none⟩ = false := fun o => heap_frozen ck.res
        have HRs := hid_mk ck.res
        clear ck
        go_wp2
        refine bodyPost_ret (v := wVal x.used (.slice A x.acts.length c) (.slice B x.mail.length d)) (by simp [results, Tryd.results23, go_sem, y0, y1, y2, y3, y4, y5]) rfl ⟨_, _, lo, hi, rfl, (HW.out.far put6_same (by omega)).mono (by omega), put6_below HLo.out (by omega)⟩
end Go.Proofs.YtgdloonpemaijaaDoor
namespace Go.Proofs.YtgdloonpemaijaaDoor
open Go.RowKit
attribute [local go_sem ↓] Go.wp_at_zero Go.wp_at_succ subA_rule
attribute [local go_sem] subA_rule2
theorem midB {a W w2 : World} (_ : Below W.heap.size W w2) (h : Below a.heap.size a W) : Below a.heap.size a W := h
end Go.Proofs.YtgdloonpemaijaaDoor
namespace Go.Proofs.YtgdloonpemaijaaDoor
open Go.RowKit
/-- Where the locals of a world in the box bo may lie. -/
def Qp (N bo lo hi : Nat) : Nat → Prop := fun b => N ≤ b ∧ b ≠ bo ∧ ¬ (lo ≤ b ∧ b < hi)
/-- A world of the caller's own, in the box bo. -/
structure PW (N bo lo hi : Nat) (W : World) (a m : Value) (x : PWld) : Prop where
  box : W.heap[bo]? = some (.cells #[a, m, .int .i64 x.used.drop, .int .i64 x.used.dup, .int .i64 x.used.time, .int .i64 x.used.crash] 44)
  acts : LV (Qp N bo lo hi) W a x.acts
  mail : Msgs (Qm lo hi m) (Qi lo hi m) W m x.mail
  nb : ¬ (lo ≤ bo ∧ bo < hi)
  le : N ≤ lo
  hi : hi ≤ W.heap.size
  bo : N ≤ bo
section
variable {N bo lo hi : Nat} {W W' : World} {a m : Value} {x : PWld}
theorem PW.below (h : PW N bo lo hi W a m x) (hb : Below W.heap.size W W') : PW N bo lo hi W' a m x := ⟨boxAt h.box hb, h.acts.below hb, h.mail.below hb, h.nb, h.le, Nat.le_trans h.hi hb.size, h.bo⟩
theorem PW.wn (h : PW N bo lo hi W a m x) : WN N lo hi W a m x := by
  refine ⟨?_, h.mail, h.le, h.hi⟩
  obtain ⟨A, c, rfl, h2, h3⟩ := h.acts
  exact ⟨A, c, rfl, h2, h3.imp id fun ⟨g, e, hg, hr⟩ => ⟨g, e, ⟨hg.1, hg.2.2⟩, hr.weak fun _ b hb => ⟨⟨hb.1.1, hb.1.2.2⟩, hb.2⟩⟩⟩
theorem PW.blt (h : PW N bo lo hi W a m x) : bo < W.heap.size := (Array.getElem?_eq_some_iff.1 h.box).1
/-- Other messages in the box, made anew at W0. -/
theorem PW.setMail {W0 : World} {m' : Value} {ml : List PMsg} (h : PW N bo lo hi W0 a m x) (hb : Below W0.heap.size W0 W) (hm : Msgs (Qm W0.heap.size W.heap.size m') (Qi W0.heap.size W.heap.size m') W m' ml) :
    PW N bo W0.heap.size W.heap.size (W.setCell ⟨bo, 1, none⟩ m') a m' { x with mail := ml } := by
  have hbl := h.blt
  have hz := hb.size
  have hN : N ≤ W0.heap.size := by have := h.bo; omega
  have hS : Same (fun d => d ≠ bo) W (W.setCell ⟨bo, 1, none⟩ m') := setCell_same fun _ h => h
  refine ⟨(setCell_heap (boxAt h.box hb)).trans (by simp), ?_, hm.same (hS.weak ?_) (hS.weak ?_), by omega, hN, by simp [World.setCell], h.bo⟩
  · obtain ⟨A, c, rfl, h2, h3⟩ := h.acts
    refine ⟨A, c, rfl, h2, ?_⟩
    rcases h3 with h3 | ⟨g, e, hg, hr⟩
    · exact Or.inl h3
    · have hg1 : N ≤ g ∧ g ≠ bo ∧ ¬ (lo ≤ g ∧ g < hi) := hg
      have hgl := hr.lt
      refine Or.inr ⟨g, e, ⟨hg1.1, hg1.2.1, by omega⟩, LR.weak (P := fun _ b => (Qp N bo lo hi b ∧ b ≠ g) ∧ b < W0.heap.size) (LR.same (hr.ltP.below hb) hS.size (hS.block g ?_ ?_) fun _ b hb hl => hS.block b ?_ hl) fun _ b hb => ?_⟩
      · show g ≠ bo; omega
      · omega
      · have : N ≤ b ∧ b ≠ bo ∧ ¬ (lo ≤ b ∧ b < hi) := hb.1.1; show b ≠ bo; omega
      · have : N ≤ b ∧ b ≠ bo ∧ ¬ (lo ≤ b ∧ b < hi) := hb.1.1; exact ⟨⟨this.1, this.2.1, by have := hb.2; omega⟩, hb.1.2⟩
  · intro b hb; have := hb.1.1; show b ≠ bo; omega
  · intro b hb; have := hb.1.1; show b ≠ bo; omega
/-- A number of the k-th local is stored. -/
theorem PW.setAct {g c k i off : Nat} {y y' : PLoc} {v : Value} (h : PW N bo lo hi W (.slice (some ⟨g, 0, none⟩) x.acts.length c) m x) (hy : x.acts[k]? = some y) (ho : off = k * 5 + i) (hi5 : i < 5) (hi0 : i ≠ 0) (hr0 : y'.regs = y.regs)
    (h1 : (i = 1 ∧ v = .bool y'.armed) ∨ (i ≠ 1 ∧ y'.armed = y.armed)) (h2 : (i = 2 ∧ v = .int .i64 y'.down) ∨ (i ≠ 2 ∧ y'.down = y.down))
    (h3 : (i = 3 ∧ v = .int .i64 y'.sent) ∨ (i ≠ 3 ∧ y'.sent = y.sent)) (h4 : (i = 4 ∧ v = .int .i64 y'.over) ∨ (i ≠ 4 ∧ y'.over = y.over)) :
    PW N bo lo hi (W.setCell ⟨g, off, none⟩ v) (.slice (some ⟨g, 0, none⟩) x.acts.length c) m { x with acts := x.acts.set k y' } := by
  obtain ⟨A, c', e, hc, hl⟩ := h.acts
  simp only [Value.slice.injEq] at e
  obtain ⟨rfl, _, rfl⟩ := e
  obtain ⟨g', e, hg, hr⟩ : ∃ g', (some ⟨g, 0, none⟩ : Option Addr) = some ⟨g', 0, none⟩ ∧ Qp N bo lo hi g' ∧ LR g' (fun _ b => Qp N bo lo hi b ∧ b ≠ g') W x.acts := by
    rcases hl with ⟨_, h2⟩ | h2
    · cases h2
    · exact h2
  cases e
  have hg1 : N ≤ g ∧ g ≠ bo ∧ ¬ (lo ≤ g ∧ g < hi) := hg
  have hS : Same (fun d => d ≠ g) W (W.setCell ⟨g, off, none⟩ v) := setCell_same fun _ h => h
  have key := hr.put (P' := fun _ b => Qp N bo lo hi b ∧ b ≠ g) hy ho hi5 (fun _ _ hb => hb.2) (fun _ hb => hb.2) (fun _ _ _ hb => hb) (Or.inr ⟨hi0, hr0, fun _ hb => hb⟩) h1 h2 h3 h4
  refine ⟨?_, ⟨_, c, by rw [List.length_set], by simpa using hc, Or.inr ⟨g, rfl, hg, key⟩⟩, h.mail.same (hS.weak ?_) (hS.weak ?_), h.nb, h.le, by simpa [World.setCell] using h.hi, h.bo⟩
  · have hne : bo ≠ g := by omega
    exact (Below.heap_setCell W ⟨g, off, none⟩ v bo hne).trans h.box
  · intro b hb; have := hb.1; show b ≠ g; omega
  · intro b hb; have := hb.1; show b ≠ g; omega
theorem PW.row (h : PW N bo lo hi W a m x) (hk : 0 < x.acts.length) : ∃ g c, a = .slice (some ⟨g, 0, none⟩) x.acts.length c ∧ N ≤ g ∧ g ≠ bo ∧ LR g (fun _ b => Qp N bo lo hi b ∧ b ≠ g) W x.acts := by
  obtain ⟨A, c, rfl, hc, ⟨e, _⟩ | ⟨g, rfl, hg, hr⟩⟩ := h.acts
  · rw [e] at hk; simp at hk
  · have hg1 : N ≤ g ∧ g ≠ bo ∧ ¬ (lo ≤ g ∧ g < hi) := hg
    exact ⟨g, c, rfl, hg1.1, by omega, hr⟩
end
def capP (p : PPrg) (k : Nat) : Int := (p.acs.getD k default).cap
def roomB (p : PPrg) (x : PWld) (m : PMsg) (k : Nat) : Bool := decide ((toN x.mail m.nt.to : Int) < capP p k) && decide (fnd x.mail m.id = -1)
/-- What comes of a message to the k-th actor. -/
def postP (p : PPrg) (x : PWld) (m : PMsg) (k : Nat) : PWld :=
  if roomB p x m k = true then { x with mail := putP x.mail m } else { x with acts := x.acts.set k { x.acts.getD k default with over := wrap64 ((x.acts.getD k default).over + 1) } }
theorem cap_at {p : PPrg} {k : Nat} {a : PAct} (h : p.acs[k]? = some a) : capP p k = a.cap := by unfold capP; rw [List.getD_eq_getElem?_getD, h]; rfl
theorem getD_at {α : Type} [Inhabited α] {l : List α} {k : Nat} {a : α} (h : l[k]? = some a) : l.getD k default = a := by rw [List.getD_eq_getElem?_getD, h]; rfl
set_option maxHeartbeats 4000000 in
set_option maxRecDepth 100000 in
theorem post_new (N bo lo hi : Nat) (W : World) (vp a mv c : Value) (p : PPrg) (x : PWld) (d : PID) (k : Nat) (hd : Int) (args : List Int) (ac : PAct) (y : PLoc) (hp : PrgV W vp p) (hw : PW N bo lo hi W a mv x) (hc : Ints anyB W c args) (hs : Few x.mail) (hn : args.length ≤ 1000) (hac : p.acs[k]? = some ac) (hy : x.acts[k]? = some y) (hsz : x.acts.length ≤ 1000)
    (e1 : (toN x.mail (k : Int) : Int) < ac.cap) (e2 : fnd x.mail d = -1) :
    Calls Tryd.prog 96 #[vp, .pointer (some ⟨bo, 0, none⟩), mVal ⟨d, ⟨(k : Int), hd, args⟩⟩ c] W fun e w' => e = .returned (.tuple #[]) ∧ (∃ a' m' lo' hi', PW N bo lo' hi' w' a' m' { x with mail := putP x.mail ⟨d, ⟨(k : Int), hd, args⟩⟩ }) ∧ Below N W w' := by
  obtain ⟨A, cc, rfl, _⟩ := hc.form
  obtain ⟨vh, vb, vc, rfl, h1, h2, h3⟩ := hp
  obtain ⟨A1, c1, rfl, hl1⟩ := h1.form
  obtain ⟨A2, c2, rfl, hl2⟩ := h2.form
  obtain ⟨A3, c3, rfl, hl3⟩ := h3.form
  obtain ⟨B, dd, rfl, hlm⟩ := hw.mail.form
  have hka : k < p.acs.length := (List.getElem?_eq_some_iff.1 hac).1
  have hkx : k < x.acts.length := (List.getElem?_eq_some_iff.1 hy).1
  obtain ⟨g, ca, rfl, hgN, hgb, hgr⟩ := hw.row (by omega)
  obtain ⟨b2, o2, ac', v2, rfl, hac2, hz2, s1, s2, s3, s4, _⟩ := h2.cell (bRefl W) hka
  obtain rfl : ac = ac' := Option.some.inj (hac.symm.trans hac2)
  obtain ⟨_, _, _, _, r4⟩ := hgr.rd k y hy
  have hla : (x.acts.length : Int) ≤ 9223372036854775807 := by
    have := hw.acts.locs hsz; obtain ⟨_, _, _, h'⟩ := this.form; exact h'
  have hgl : g < W.heap.size := hgr.lt
  have hblt := hw.blt
  have hNb := hw.bo
  have HR4 := hid_mk r4
  have HGR := hid_mk hgr
  have HPW := hid_mk hw
  have HM := hid_mk hw.mail.any2
  have HC := hid_mk hc
  have HY := hid_mk hy
  have hki : (k : Int) < p.acs.length := by omega
  have hkj : (k : Int) < x.acts.length := by omega
  clear hac hac2 hy h1 h2 h3 hgr r4 hc s1 s3 s4
  obtain ⟨n0, n1, n2, n3, n4, n5⟩ := blk6 hw.box
  have hk0 : ¬ (k : Int) < 0 := by omega
  have hk1 : ¬ (p.acs.length : Int) ≤ (k : Int) := by omega
  have hk2 : ¬ (x.acts.length : Int) ≤ (k : Int) := by omega
  go_enter Tryd.func96, Tryd.ntmps96
  go_wp2_with fail
  have hA := (two_new W (.cells #[.slice A1 p.hs.length c1, .slice (some ⟨b2, o2, none⟩) p.acs.length c2, .slice A3 p.bs.length c3, .int .i64 p.fuel] 26) (.cells #[.int .i64 d.f, .int .i64 d.n, .int .i64 d.c, .int .i64 (k : Int), .int .i64 hd, .slice A args.length cc] 58))
  have HL : Below W.heap.size W ((W.alloc (.cells #[.slice A1 p.hs.length c1, .slice (some ⟨b2, o2, none⟩) p.acs.length c2, .slice A3 p.bs.length c3, .int .i64 p.fuel] 26)).alloc (.cells #[.int .i64 d.f, .int .i64 d.n, .int .i64 d.c, .int .i64 (k : Int), .int .i64 hd, .slice A args.length cc] 58)) := bAlloc (bAlloc (bRefl _) _) _
  generalize ((W.alloc (.cells #[.slice A1 p.hs.length c1, .slice (some ⟨b2, o2, none⟩) p.acs.length c2, .slice A3 p.bs.length c3, .int .i64 p.fuel] 26)).alloc (.cells #[.int .i64 d.f, .int .i64 d.n, .int .i64 d.c, .int .i64 (k : Int), .int .i64 hd, .slice A args.length cc] 58)) = w1 at hA HL ⊢
  clear n0 n1 n2 n3 n4 n5 hk0 hk1 hk2
  obtain ⟨p0, p1, p2, p3⟩ := blk4 hA.1
  have HMB := hid_mk hA.2.1
  obtain ⟨b0, b1, b3, b4, b5, b6⟩ := blk6 (boxAt hw.box HL)
  have t2 := (HL.cell (p := ⟨b2, o2 + k * 4 + 1, none⟩) hz2).trans s2
  have hbb := HL
  have zz := hA.2.2
  have z1 : W.heap.size < w1.heap.size := by omega
  have z2 : b2 < w1.heap.size := by omega
  have z3 : bo < w1.heap.size := by omega
  clear hA hw s2 HL zz
  go_region_held3 (fun w' => w'.cell? ⟨bo, 1, none⟩ = some (.slice B x.mail.length dd) ∧ w'.cell? ⟨W.heap.size, 1, none⟩ = some (.slice (some ⟨b2, o2, none⟩) p.acs.length c2) ∧ w'.cell? ⟨b2, o2 + k * 4 + 1, none⟩ = some (.int .i64 ac.cap)) (go_keep)
    (first | (go_at_call 133; refine (to_any _ _ x.mail _ (HM.out.below (by first | exact hbb | exact hbb.drew))).mono ?_; rintro e w2 ⟨rfl, hb2⟩; have hc2 := (by first | exact bcell (undrew hb2) | exact bcell hb2); have hj2 := hb2.size; replace hbb := bTrans (by first | exact hbb | exact hbb.drew) hb2; have HMB2 := hid_mk (boxAt HMB.out (by first | exact undrew hb2 | exact hb2)); clear hb2))
  all_goals
    go_wp2_with fail
    obtain ⟨m0, m1, m2, m3, m4, m5⟩ := blk6 HMB2.out
    obtain ⟨q0, q1, q2, q3, q4, q5⟩ := blk6 (boxAt HPW.out.box hbb)
    have y1 : W.heap.size + 1 < w2.heap.size := (Array.getElem?_eq_some_iff.1 HMB2.out).1
    have y3 : bo < w2.heap.size := Nat.lt_of_lt_of_le hblt hbb.size
    clear b0 b1 b3 b4 b5 b6 p0 p1 p2 p3 t2 hc2
    go_region_held3 (fun w' => w'.cell? ⟨bo, 1, none⟩ = some (.slice B x.mail.length dd) ∧ w'.cell? ⟨W.heap.size + 1, 0, none⟩ = some (.int .i64 d.f) ∧ w'.cell? ⟨W.heap.size + 1, 1, none⟩ = some (.int .i64 d.n) ∧ w'.cell? ⟨W.heap.size + 1, 2, none⟩ = some (.int .i64 d.c) ∧ w'.cell? ⟨W.heap.size + 1, 3, none⟩ = some (.int .i64 (k : Int)) ∧ w'.cell? ⟨W.heap.size + 1, 4, none⟩ = some (.int .i64 hd) ∧ w'.cell? ⟨W.heap.size + 1, 5, none⟩ = some (.slice A args.length cc)) (go_keep)
      (first | (go_at_call 134; refine (put_new _ _ _ x.mail ⟨d, ⟨(k : Int), hd, args⟩⟩ (HM.out.below (by first | exact hbb | exact hbb.drew)) ⟨_, rfl, HC.out.below (by first | exact hbb | exact hbb.drew)⟩ e2 hs hn).mono ?_; rintro e w3 ⟨u, rfl, hu, hb3⟩; obtain ⟨B', d', rfl, _⟩ := hu.form; have hc3 := (by first | exact bcell (undrew hb3) | exact bcell hb3); have HBW0 := hid_mk (midB hb3 (by first | exact hbb | exact hbb.drew)); have HB3 := hid_mk hb3; replace hbb := bTrans (by first | exact hbb | exact hbb.drew) hb3; have HU := hid_mk hu.within; clear hu; clear hb3))
    all_goals
      obtain ⟨q0, q1, q2, q3, q4, q5⟩ := blk6 (boxAt HPW.out.box hbb)
      have fz : ∀ o, w3.frozen? ⟨bo, o, none⟩ = false := fun o => heap_frozen (boxAt HPW.out.box hbb)
      go_wp2
      exact bodyPost_ret (v := .tuple #[]) (by simp [results, Tryd.results96, go_sem]) rfl ⟨rfl, ⟨_, _, _, _, (HPW.out.below HBW0.out).setMail HB3.out HU.out⟩, (hbb.mono (by omega)).setCell (p := ⟨bo, 1, none⟩) hNb _⟩
set_option maxHeartbeats 4000000 in
set_option maxRecDepth 100000 in
theorem post_there (N bo lo hi : Nat) (W : World) (vp a mv c : Value) (p : PPrg) (x : PWld) (d : PID) (k : Nat) (hd : Int) (args : List Int) (ac : PAct) (y : PLoc) (hp : PrgV W vp p) (hw : PW N bo lo hi W a mv x) (hc : Ints anyB W c args) (hac : p.acs[k]? = some ac) (hy : x.acts[k]? = some y) (hsz : x.acts.length ≤ 1000)
    (e1 : (toN x.mail (k : Int) : Int) < ac.cap) (j : Nat) (e2 : fnd x.mail d = j) :
    Calls Tryd.prog 96 #[vp, .pointer (some ⟨bo, 0, none⟩), mVal ⟨d, ⟨(k : Int), hd, args⟩⟩ c] W fun e w' => e = .returned (.tuple #[]) ∧ (∃ a' m' lo' hi', PW N bo lo' hi' w' a' m' { x with acts := x.acts.set k { y with over := wrap64 (y.over + 1) } }) ∧ Below N W w' := by
  obtain ⟨A, cc, rfl, _⟩ := hc.form
  obtain ⟨vh, vb, vc, rfl, h1, h2, h3⟩ := hp
  obtain ⟨A1, c1, rfl, hl1⟩ := h1.form
  obtain ⟨A2, c2, rfl, hl2⟩ := h2.form
  obtain ⟨A3, c3, rfl, hl3⟩ := h3.form
  obtain ⟨B, dd, rfl, hlm⟩ := hw.mail.form
  have hka : k < p.acs.length := (List.getElem?_eq_some_iff.1 hac).1
  have hkx : k < x.acts.length := (List.getElem?_eq_some_iff.1 hy).1
  obtain ⟨g, ca, rfl, hgN, hgb, hgr⟩ := hw.row (by omega)
  obtain ⟨b2, o2, ac', v2, rfl, hac2, hz2, s1, s2, s3, s4, _⟩ := h2.cell (bRefl W) hka
  obtain rfl : ac = ac' := Option.some.inj (hac.symm.trans hac2)
  obtain ⟨_, _, _, _, r4⟩ := hgr.rd k y hy
  have hla : (x.acts.length : Int) ≤ 9223372036854775807 := by
    have := hw.acts.locs hsz; obtain ⟨_, _, _, h'⟩ := this.form; exact h'
  have hgl : g < W.heap.size := hgr.lt
  have hblt := hw.blt
  have hNb := hw.bo
  have HR4 := hid_mk r4
  have HGR := hid_mk hgr
  have HPW := hid_mk hw
  have HM := hid_mk hw.mail.any2
  have HC := hid_mk hc
  have HY := hid_mk hy
  have hki : (k : Int) < p.acs.length := by omega
  have hkj : (k : Int) < x.acts.length := by omega
  clear hac hac2 hy h1 h2 h3 hgr r4 hc s1 s3 s4
  obtain ⟨n0, n1, n2, n3, n4, n5⟩ := blk6 hw.box
  have hk0 : ¬ (k : Int) < 0 := by omega
  have hk1 : ¬ (p.acs.length : Int) ≤ (k : Int) := by omega
  have hk2 : ¬ (x.acts.length : Int) ≤ (k : Int) := by omega
  go_enter Tryd.func96, Tryd.ntmps96
  go_wp2_with fail
  have hA := (two_new W (.cells #[.slice A1 p.hs.length c1, .slice (some ⟨b2, o2, none⟩) p.acs.length c2, .slice A3 p.bs.length c3, .int .i64 p.fuel] 26) (.cells #[.int .i64 d.f, .int .i64 d.n, .int .i64 d.c, .int .i64 (k : Int), .int .i64 hd, .slice A args.length cc] 58))
  have HL : Below W.heap.size W ((W.alloc (.cells #[.slice A1 p.hs.length c1, .slice (some ⟨b2, o2, none⟩) p.acs.length c2, .slice A3 p.bs.length c3, .int .i64 p.fuel] 26)).alloc (.cells #[.int .i64 d.f, .int .i64 d.n, .int .i64 d.c, .int .i64 (k : Int), .int .i64 hd, .slice A args.length cc] 58)) := bAlloc (bAlloc (bRefl _) _) _
  generalize ((W.alloc (.cells #[.slice A1 p.hs.length c1, .slice (some ⟨b2, o2, none⟩) p.acs.length c2, .slice A3 p.bs.length c3, .int .i64 p.fuel] 26)).alloc (.cells #[.int .i64 d.f, .int .i64 d.n, .int .i64 d.c, .int .i64 (k : Int), .int .i64 hd, .slice A args.length cc] 58)) = w1 at hA HL ⊢
  clear n0 n1 n2 n3 n4 n5 hk0 hk1 hk2
  obtain ⟨p0, p1, p2, p3⟩ := blk4 hA.1
  have HMB := hid_mk hA.2.1
  obtain ⟨b0, b1, b3, b4, b5, b6⟩ := blk6 (boxAt hw.box HL)
  have t2 := (HL.cell (p := ⟨b2, o2 + k * 4 + 1, none⟩) hz2).trans s2
  have hbb := HL
  have zz := hA.2.2
  have z1 : W.heap.size < w1.heap.size := by omega
  have z2 : b2 < w1.heap.size := by omega
  have z3 : bo < w1.heap.size := by omega
  clear hA hw s2 HL zz
  go_region_held3 (fun w' => w'.cell? ⟨bo, 1, none⟩ = some (.slice B x.mail.length dd) ∧ w'.cell? ⟨W.heap.size, 1, none⟩ = some (.slice (some ⟨b2, o2, none⟩) p.acs.length c2) ∧ w'.cell? ⟨b2, o2 + k * 4 + 1, none⟩ = some (.int .i64 ac.cap)) (go_keep)
    (first | (go_at_call 133; refine (to_any _ _ x.mail _ (HM.out.below (by first | exact hbb | exact hbb.drew))).mono ?_; rintro e w2 ⟨rfl, hb2⟩; have hc2 := (by first | exact bcell (undrew hb2) | exact bcell hb2); have hj2 := hb2.size; replace hbb := bTrans (by first | exact hbb | exact hbb.drew) hb2; have HMB2 := hid_mk (boxAt HMB.out (by first | exact undrew hb2 | exact hb2)); clear hb2))
  all_goals
    go_wp2_with fail
    obtain ⟨m0, m1, m2, m3, m4, m5⟩ := blk6 HMB2.out
    obtain ⟨q0, q1, q2, q3, q4, q5⟩ := blk6 (boxAt HPW.out.box hbb)
    have y1 : W.heap.size + 1 < w2.heap.size := (Array.getElem?_eq_some_iff.1 HMB2.out).1
    have y3 : bo < w2.heap.size := Nat.lt_of_lt_of_le hblt hbb.size
    clear b0 b1 b3 b4 b5 b6 p0 p1 p2 p3 t2 hc2
    go_region_held3 (fun w' => w'.cell? ⟨bo, 1, none⟩ = some (.slice B x.mail.length dd) ∧ w'.cell? ⟨W.heap.size + 1, 0, none⟩ = some (.int .i64 d.f) ∧ w'.cell? ⟨W.heap.size + 1, 1, none⟩ = some (.int .i64 d.n) ∧ w'.cell? ⟨W.heap.size + 1, 2, none⟩ = some (.int .i64 d.c) ∧ w'.cell? ⟨W.heap.size + 1, 3, none⟩ = some (.int .i64 (k : Int)) ∧ w'.cell? ⟨W.heap.size + 1, 4, none⟩ = some (.int .i64 hd) ∧ w'.cell? ⟨W.heap.size + 1, 5, none⟩ = some (.slice A args.length cc)) (go_keep)
      (first | (go_at_call 134; refine (put_there _ _ _ x.mail ⟨d, ⟨(k : Int), hd, args⟩⟩ (HM.out.below (by first | exact hbb | exact hbb.drew)) ⟨_, rfl, HC.out.below (by first | exact hbb | exact hbb.drew)⟩ j e2).mono ?_; rintro e w3 ⟨rfl, hb3⟩; have hc3 := (by first | exact bcell (undrew hb3) | exact bcell hb3); replace hbb := bTrans (by first | exact hbb | exact hbb.drew) hb3; clear hb3))
    all_goals
      obtain ⟨q0, q1, q2, q3, q4, q5⟩ := blk6 (boxAt HPW.out.box hbb)
      have hgw := HGR.out.below hbb
      have fz : ∀ o, w3.frozen? ⟨g, o, none⟩ = false := hgw.frozen
      obtain ⟨_, _, _, _, u4⟩ := hgw.rd k y HY.out
      clear hgw
      go_wp2
      go_end0
      exact ⟨rfl, ⟨_, _, _, _, (HPW.out.below hbb).setAct (y' := { y with over := wrap64 (y.over + 1) }) (i := 4) HY.out (by omega) (by omega) (by omega) rfl (Or.inr ⟨by omega, rfl⟩) (Or.inr ⟨by omega, rfl⟩) (Or.inr ⟨by omega, rfl⟩) (Or.inl ⟨rfl, rfl⟩)⟩, (hbb.mono (by omega)).setCell (p := ⟨g, _, none⟩) hgN _⟩
set_option maxHeartbeats 4000000 in
set_option maxRecDepth 100000 in
theorem post_full (N bo lo hi : Nat) (W : World) (vp a mv c : Value) (p : PPrg) (x : PWld) (d : PID) (k : Nat) (hd : Int) (args : List Int) (ac : PAct) (y : PLoc) (hp : PrgV W vp p) (hw : PW N bo lo hi W a mv x) (hc : Ints anyB W c args) (hac : p.acs[k]? = some ac) (hy : x.acts[k]? = some y) (hsz : x.acts.length ≤ 1000)
    (e1 : ¬ (toN x.mail (k : Int) : Int) < ac.cap) :
    Calls Tryd.prog 96 #[vp, .pointer (some ⟨bo, 0, none⟩), mVal ⟨d, ⟨(k : Int), hd, args⟩⟩ c] W fun e w' => e = .returned (.tuple #[]) ∧ (∃ a' m' lo' hi', PW N bo lo' hi' w' a' m' { x with acts := x.acts.set k { y with over := wrap64 (y.over + 1) } }) ∧ Below N W w' := by
  obtain ⟨A, cc, rfl, _⟩ := hc.form
  obtain ⟨vh, vb, vc, rfl, h1, h2, h3⟩ := hp
  obtain ⟨A1, c1, rfl, hl1⟩ := h1.form
  obtain ⟨A2, c2, rfl, hl2⟩ := h2.form
  obtain ⟨A3, c3, rfl, hl3⟩ := h3.form
  obtain ⟨B, dd, rfl, hlm⟩ := hw.mail.form
  have hka : k < p.acs.length := (List.getElem?_eq_some_iff.1 hac).1
  have hkx : k < x.acts.length := (List.getElem?_eq_some_iff.1 hy).1
  obtain ⟨g, ca, rfl, hgN, hgb, hgr⟩ := hw.row (by omega)
  obtain ⟨b2, o2, ac', v2, rfl, hac2, hz2, s1, s2, s3, s4, _⟩ := h2.cell (bRefl W) hka
  obtain rfl : ac = ac' := Option.some.inj (hac.symm.trans hac2)
  obtain ⟨_, _, _, _, r4⟩ := hgr.rd k y hy
  have hla : (x.acts.length : Int) ≤ 9223372036854775807 := by
    have := hw.acts.locs hsz; obtain ⟨_, _, _, h'⟩ := this.form; exact h'
  have hgl : g < W.heap.size := hgr.lt
  have hblt := hw.blt
  have hNb := hw.bo
  have HR4 := hid_mk r4
  have HGR := hid_mk hgr
  have HPW := hid_mk hw
  have HM := hid_mk hw.mail.any2
  have HC := hid_mk hc
  have HY := hid_mk hy
  have hki : (k : Int) < p.acs.length := by omega
  have hkj : (k : Int) < x.acts.length := by omega
  clear hac hac2 hy h1 h2 h3 hgr r4 hc s1 s3 s4
  obtain ⟨n0, n1, n2, n3, n4, n5⟩ := blk6 hw.box
  have hk0 : ¬ (k : Int) < 0 := by omega
  have hk1 : ¬ (p.acs.length : Int) ≤ (k : Int) := by omega
  have hk2 : ¬ (x.acts.length : Int) ≤ (k : Int) := by omega
  go_enter Tryd.func96, Tryd.ntmps96
  go_wp2_with fail
  have hA := (two_new W (.cells #[.slice A1 p.hs.length c1, .slice (some ⟨b2, o2, none⟩) p.acs.length c2, .slice A3 p.bs.length c3, .int .i64 p.fuel] 26) (.cells #[.int .i64 d.f, .int .i64 d.n, .int .i64 d.c, .int .i64 (k : Int), .int .i64 hd, .slice A args.length cc] 58))
  have HL : Below W.heap.size W ((W.alloc (.cells #[.slice A1 p.hs.length c1, .slice (some ⟨b2, o2, none⟩) p.acs.length c2, .slice A3 p.bs.length c3, .int .i64 p.fuel] 26)).alloc (.cells #[.int .i64 d.f, .int .i64 d.n, .int .i64 d.c, .int .i64 (k : Int), .int .i64 hd, .slice A args.length cc] 58)) := bAlloc (bAlloc (bRefl _) _) _
  generalize ((W.alloc (.cells #[.slice A1 p.hs.length c1, .slice (some ⟨b2, o2, none⟩) p.acs.length c2, .slice A3 p.bs.length c3, .int .i64 p.fuel] 26)).alloc (.cells #[.int .i64 d.f, .int .i64 d.n, .int .i64 d.c, .int .i64 (k : Int), .int .i64 hd, .slice A args.length cc] 58)) = w1 at hA HL ⊢
  clear n0 n1 n2 n3 n4 n5 hk0 hk1 hk2
  obtain ⟨p0, p1, p2, p3⟩ := blk4 hA.1
  have HMB := hid_mk hA.2.1
  obtain ⟨b0, b1, b3, b4, b5, b6⟩ := blk6 (boxAt hw.box HL)
  have t2 := (HL.cell (p := ⟨b2, o2 + k * 4 + 1, none⟩) hz2).trans s2
  have hbb := HL
  have zz := hA.2.2
  have z1 : W.heap.size < w1.heap.size := by omega
  have z2 : b2 < w1.heap.size := by omega
  have z3 : bo < w1.heap.size := by omega
  clear hA hw s2 HL zz
  go_region_held3 (fun w' => w'.cell? ⟨bo, 1, none⟩ = some (.slice B x.mail.length dd) ∧ w'.cell? ⟨W.heap.size, 1, none⟩ = some (.slice (some ⟨b2, o2, none⟩) p.acs.length c2) ∧ w'.cell? ⟨b2, o2 + k * 4 + 1, none⟩ = some (.int .i64 ac.cap)) (go_keep)
    (first | (go_at_call 133; refine (to_any _ _ x.mail _ (HM.out.below (by first | exact hbb | exact hbb.drew))).mono ?_; rintro e w2 ⟨rfl, hb2⟩; have hc2 := (by first | exact bcell (undrew hb2) | exact bcell hb2); have hj2 := hb2.size; replace hbb := bTrans (by first | exact hbb | exact hbb.drew) hb2; have HMB2 := hid_mk (boxAt HMB.out (by first | exact undrew hb2 | exact hb2)); clear hb2))
  all_goals
    obtain ⟨q0, q1, q2, q3, q4, q5⟩ := blk6 (boxAt HPW.out.box hbb)
    have hgw := HGR.out.below hbb
    have fz : ∀ o, w2.frozen? ⟨g, o, none⟩ = false := hgw.frozen
    obtain ⟨_, _, _, _, u4⟩ := hgw.rd k y HY.out
    clear hgw
    clear b0 b1 b3 b4 b5 b6 p0 p1 p2 p3 t2 hc2
    go_wp2
    go_end0
    exact ⟨rfl, ⟨_, _, _, _, (HPW.out.below hbb).setAct (y' := { y with over := wrap64 (y.over + 1) }) (i := 4) HY.out (by omega) (by omega) (by omega) rfl (Or.inr ⟨by omega, rfl⟩) (Or.inr ⟨by omega, rfl⟩) (Or.inr ⟨by omega, rfl⟩) (Or.inl ⟨rfl, rfl⟩)⟩, (hbb.mono (by omega)).setCell (p := ⟨g, _, none⟩) hgN _⟩
/-- What comes of a message. -/
def postG (p : PPrg) (x : PWld) (m : PMsg) : PWld :=
  if inB m.nt.to 0 ((p.acs.length : Int) - 1) = true ∧ m.nt.to < (x.acts.length : Int) then postP p x m m.nt.to.toNat else x
theorem postG_no {p : PPrg} {x : PWld} {m : PMsg} (h : m.nt.to < 0 ∨ (p.acs.length : Int) ≤ m.nt.to ∨ (x.acts.length : Int) ≤ m.nt.to) : postG p x m = x := by
  unfold postG
  rw [if_neg]
  rintro ⟨h1, h2⟩
  have := inB_iff.1 h1
  omega
theorem postG_yes {p : PPrg} {x : PWld} {m : PMsg} {k : Nat} (h : m.nt.to = (k : Int)) (h1 : k < p.acs.length) (h2 : k < x.acts.length) : postG p x m = postP p x m k := by
  unfold postG
  rw [if_pos ⟨inB_iff.2 (by omega), by omega⟩, h, Int.toNat_natCast]
set_option maxHeartbeats 4000000 in
set_option maxRecDepth 100000 in
theorem post_no (N bo lo hi : Nat) (W : World) (vp a mv c : Value) (p : PPrg) (x : PWld) (d : PID) (t hd : Int) (args : List Int) (hp : PrgV W vp p) (hw : PW N bo lo hi W a mv x) (hc : Ints anyB W c args) (h : t < 0 ∨ (p.acs.length : Int) ≤ t ∨ (x.acts.length : Int) ≤ t) :
    Calls Tryd.prog 96 #[vp, .pointer (some ⟨bo, 0, none⟩), mVal ⟨d, ⟨t, hd, args⟩⟩ c] W fun e w' => e = .returned (.tuple #[]) ∧ (∃ a' m' lo' hi', PW N bo lo' hi' w' a' m' x) ∧ Below N W w' := by
  obtain ⟨A, cc, rfl, _⟩ := hc.form
  obtain ⟨vh, vb, vc, rfl, h1, h2, h3⟩ := hp
  obtain ⟨A1, c1, rfl, hl1⟩ := h1.form
  obtain ⟨A2, c2, rfl, hl2⟩ := h2.form
  obtain ⟨A3, c3, rfl, hl3⟩ := h3.form
  obtain ⟨B, dd, rfl, hlm⟩ := hw.mail.form
  obtain ⟨A4, c4, rfl⟩ := hw.acts.form
  have hblt := hw.blt
  have hNb := hw.bo
  obtain ⟨n0, n1, n2, n3, n4, n5⟩ := blk6 hw.box
  have HPW := hid_mk hw
  have HL : Hid (∀ X Y : Obj, Below W.heap.size W ((W.alloc X).alloc Y)) := fun X Y => bAlloc (bAlloc (bRefl _) _) _
  clear h1 h2 h3 hw hc
  by_cases e0 : t < 0
  · go_enter Tryd.func96, Tryd.ntmps96
    go_wp2
    exact bodyPost_ret (v := .tuple #[]) (by simp [results, Tryd.results96, go_sem]) rfl ⟨rfl, ⟨_, _, _, _, HPW.out.below (HL.out _ _)⟩, (HL.out _ _).mono (by omega)⟩
  · by_cases e1 : (p.acs.length : Int) ≤ t
    · go_enter Tryd.func96, Tryd.ntmps96
      go_wp2
      exact bodyPost_ret (v := .tuple #[]) (by simp [results, Tryd.results96, go_sem]) rfl ⟨rfl, ⟨_, _, _, _, HPW.out.below (HL.out _ _)⟩, (HL.out _ _).mono (by omega)⟩
    · have e2 : (x.acts.length : Int) ≤ t := by omega
      go_enter Tryd.func96, Tryd.ntmps96
      go_wp2
      exact bodyPost_ret (v := .tuple #[]) (by simp [results, Tryd.results96, go_sem]) rfl ⟨rfl, ⟨_, _, _, _, HPW.out.below (HL.out _ _)⟩, (HL.out _ _).mono (by omega)⟩
theorem post_any (N bo lo hi : Nat) (W : World) (vp a mv c : Value) (p : PPrg) (x : PWld) (m : PMsg) (hp : PrgV W vp p) (hw : PW N bo lo hi W a mv x) (hc : Ints anyB W c m.nt.args) (hs : Few x.mail) (hn : m.nt.args.length ≤ 1000) (hsz : x.acts.length ≤ 1000) :
    Calls Tryd.prog 96 #[vp, .pointer (some ⟨bo, 0, none⟩), mVal m c] W fun e w' => e = .returned (.tuple #[]) ∧ (∃ a' m' lo' hi', PW N bo lo' hi' w' a' m' (postG p x m)) ∧ Below N W w' := by
  obtain ⟨d, ⟨t, hd, args⟩⟩ := m
  dsimp only at hc hn
  by_cases h : t < 0 ∨ (p.acs.length : Int) ≤ t ∨ (x.acts.length : Int) ≤ t
  · rw [postG_no h]
    exact post_no N bo lo hi W vp a mv c p x d t hd args hp hw hc h
  obtain ⟨k, rfl⟩ := Int.eq_ofNat_of_zero_le (show 0 ≤ t by omega)
  have hk : k < p.acs.length := by omega
  have hk2 : k < x.acts.length := by omega
  rw [postG_yes rfl hk hk2]
  obtain ⟨ac, hac⟩ := at_lt hk
  obtain ⟨y, hy⟩ := at_lt hk2
  have hcap := cap_at hac
  have hgd := getD_at hy
  by_cases e1 : (toN x.mail (k : Int) : Int) < ac.cap
  · rcases fnd_cases x.mail d with ⟨e2, _⟩ | ⟨j, _, e2, _⟩
    · have e : postP p x ⟨d, ⟨(k : Int), hd, args⟩⟩ k = { x with mail := putP x.mail ⟨d, ⟨(k : Int), hd, args⟩⟩ } := by unfold postP roomB; rw [hcap]; simp [e1, e2]
      rw [e]
      exact post_new N bo lo hi W vp a mv c p x d k hd args ac y hp hw hc hs hn hac hy hsz e1 e2
    · have e : postP p x ⟨d, ⟨(k : Int), hd, args⟩⟩ k = { x with acts := x.acts.set k { y with over := wrap64 (y.over + 1) } } := by unfold postP roomB; rw [hcap, hgd]; simp [e1, e2]
      rw [e]
      exact post_there N bo lo hi W vp a mv c p x d k hd args ac y hp hw hc hac hy hsz e1 j e2
  · have e : postP p x ⟨d, ⟨(k : Int), hd, args⟩⟩ k = { x with acts := x.acts.set k { y with over := wrap64 (y.over + 1) } } := by unfold postP roomB; rw [hcap, hgd]; simp [e1]
    rw [e]
    exact post_full N bo lo hi W vp a mv c p x d k hd args ac y hp hw hc hac hy hsz e1
end Go.Proofs.YtgdloonpemaijaaDoor
namespace Go.Proofs.YtgdloonpemaijaaDoor
open Go.RowKit
/-- One note. -/
def stepN (p : PPrg) (n0 f : Int) (na : Nat) (x : PWld) (i : Nat) (n : PNte) : PWld :=
  if inB n.to 0 ((p.acs.length : Int) - 1) = true ∧ n.to < (na : Int) then postP p x ⟨⟨f, wrap64 (n0 + i), 0⟩, n⟩ n.to.toNat else x
def sendT (p : PPrg) (n0 f : Int) (na : Nat) (x0 : PWld) (ns : List PNte) : Nat → PWld
  | 0 => x0
  | k + 1 => stepN p n0 f na (sendT p n0 f na x0 ns k) k (ns.getD k default)
def firstP (x : PWld) (f : Int) (n : Nat) : Int := if f = -1 then 0 else wrap64 (sentP x f - n)
def sendP (p : PPrg) (x : PWld) (f : Int) (ns : List PNte) : PWld :=
  if inB f (-1) ((x.acts.length : Int) - 1) = true then sendT p (firstP x f ns.length) f x.acts.length x ns ns.length else x
section
variable {p : PPrg} {n0 f : Int} {na : Nat} {x x0 : PWld} {ns : List PNte} {m : PMsg} {k : Nat}
theorem post_acts : (postP p x m k).acts.length = x.acts.length := by unfold postP; split <;> simp
theorem putP_len (l : List PMsg) (m : PMsg) : (putP l m).length = l.length + 1 := by unfold putP; rw [List.length_append, List.length_cons, List.length_take, List.length_drop]; have := plc_le l m.id; omega
theorem putP_mem {l : List PMsg} {m y : PMsg} (h : y ∈ putP l m) : y = m ∨ y ∈ l := by
  unfold putP at h
  rcases List.mem_append.1 h with h | h
  · exact Or.inr (List.mem_of_mem_take h)
  · rcases List.mem_cons.1 h with h | h
    · exact Or.inl h
    · exact Or.inr (List.mem_of_mem_drop h)
theorem post_mail : (postP p x m k).mail.length ≤ x.mail.length + 1 ∧ ∀ y ∈ (postP p x m k).mail, y = m ∨ y ∈ x.mail := by
  unfold postP
  split
  · exact ⟨by show (putP x.mail m).length ≤ _; rw [putP_len]; exact Nat.le_refl _, fun y hy => putP_mem hy⟩
  · exact ⟨by simp, fun y hy => Or.inr hy⟩
theorem step_acts {i : Nat} {n : PNte} : (stepN p n0 f na x i n).acts.length = x.acts.length := by unfold stepN; split; exact post_acts; rfl
theorem step_mail {i : Nat} {n : PNte} : (stepN p n0 f na x i n).mail.length ≤ x.mail.length + 1 ∧ ∀ y ∈ (stepN p n0 f na x i n).mail, y.nt = n ∨ y ∈ x.mail := by
  unfold stepN
  split
  · exact ⟨post_mail.1, fun y hy => (post_mail.2 y hy).imp (fun e => by rw [e]) id⟩
  · exact ⟨by omega, fun y hy => Or.inr hy⟩
theorem send_acts : ∀ k, (sendT p n0 f na x0 ns k).acts.length = x0.acts.length
  | 0 => rfl
  | k + 1 => by rw [sendT, step_acts]; exact send_acts k
theorem send_mail : ∀ k, (sendT p n0 f na x0 ns k).mail.length ≤ x0.mail.length + k
  | 0 => Nat.le_refl _
  | k + 1 => by rw [sendT]; have := (@step_mail p n0 f na (sendT p n0 f na x0 ns k) k (ns.getD k default)).1; have := send_mail k; omega
theorem send_args {L : Nat} (hx : ∀ y ∈ x0.mail, y.nt.args.length ≤ L) (hn : ∀ n ∈ ns, n.args.length ≤ L) : ∀ k, ∀ y ∈ (sendT p n0 f na x0 ns k).mail, y.nt.args.length ≤ L
  | 0 => hx
  | k + 1 => by
    intro y hy
    rw [sendT] at hy
    rcases step_mail.2 y hy with h | h
    · rw [h, List.getD_eq_getElem?_getD]
      cases e : ns[k]? with
      | none => exact Nat.zero_le _
      | some n => exact hn n (List.mem_of_getElem? e)
    · exact send_args hx hn k y h
theorem step_at {i : Nat} {n : PNte} (h : ns[i]? = some n) : sendT p n0 f na x0 ns (i + 1) = stepN p n0 f na (sendT p n0 f na x0 ns i) i n := by rw [sendT, List.getD_eq_getElem?_getD, h]; rfl
end
theorem WN.toPW {N lo hi : Nat} {W : World} {a m : Value} {x : PWld} (h : WN N lo hi W a m x) (hN : N ≤ W.heap.size) : PW N W.heap.size lo hi (W.alloc (.cells #[a, m, .int .i64 x.used.drop, .int .i64 x.used.dup, .int .i64 x.used.time, .int .i64 x.used.crash] 44)) a m x := by
  have hh := h.hi
  have hb : Below W.heap.size W (W.alloc (.cells #[a, m, .int .i64 x.used.drop, .int .i64 x.used.dup, .int .i64 x.used.time, .int .i64 x.used.crash] 44)) := bAlloc (bRefl _) _
  refine ⟨heap_new _ _, ?_, h.mail.below hb, by omega, h.le, Nat.le_trans h.hi hb.size, hN⟩
  obtain ⟨A, c, rfl, h2, h3⟩ := h.acts
  refine ⟨A, c, rfl, h2, ?_⟩
  rcases h3 with h3 | ⟨g, e, hg, hr⟩
  · exact Or.inl h3
  · exact Or.inr ⟨g, e, ⟨hg.1, Nat.ne_of_lt hr.lt, hg.2⟩, (hr.ltP.weak fun _ b hb => ⟨⟨hb.1.1.1, Nat.ne_of_lt hb.2, hb.1.1.2⟩, hb.1.2⟩).below hb⟩
theorem three_new (w : World) (X Y Z : Obj) : (((w.alloc X).alloc Y).alloc Z).heap[w.heap.size]? = some X ∧ (((w.alloc X).alloc Y).alloc Z).heap[w.heap.size + 1]? = some Y ∧ (((w.alloc X).alloc Y).alloc Z).heap[w.heap.size + 2]? = some Z ∧ (((w.alloc X).alloc Y).alloc Z).heap.size = w.heap.size + 3 := by
  have h := two_new w X Y
  refine ⟨?_, ?_, ?_, by simp⟩
  · rw [Below.heap_alloc _ _ _ (by simp; omega)]; exact h.1
  · rw [Below.heap_alloc _ _ _ (by simp)]; exact h.2.1
  · exact heap_new2 (by simp)
theorem lowBlk {N b : Nat} {w w' : World} {X : Obj} (h : w.heap[b]? = some X) (hb : Below N w w') (hN : b < N) : w'.heap[b]? = some X := (hb.block b hN).trans h
/-- What stands between two notes. -/
structure SN (w1 : World) (bo n3 : Nat) (P Y : Obj) (x : PWld) (wr : World) : Prop where
  pw : ∃ a m lo hi, PW w1.heap.size bo lo hi wr a m x
  bp : wr.heap[n3]? = some P
  bw : wr.heap[n3 + 1]? = some Y
  br : wr.heap[n3 + 2]? = some zW
  low : Below w1.heap.size w1 wr
theorem SN.next {w1 : World} {bo n3 : Nat} {P Y : Obj} {x x' : PWld} {wr wa wb : World} (h : SN w1 bo n3 P Y x wr) (hz : w1.heap.size = n3 + 3) (ha : Below wr.heap.size wr wa) (hp : ∃ a m lo hi, PW w1.heap.size bo lo hi wb a m x') (hb : Below w1.heap.size wa wb) : SN w1 bo n3 P Y x' wb :=
  have e : Below w1.heap.size wr wb := (ha.mono h.low.size).trans hb
  ⟨hp, lowBlk h.bp e (by omega), lowBlk h.bw e (by omega), lowBlk h.br e (by omega), h.low.trans e⟩
theorem SN.below {w1 : World} {bo n3 : Nat} {P Y : Obj} {x : PWld} {wr wa : World} (h : SN w1 bo n3 P Y x wr) (ha : Below wr.heap.size wr wa) : SN w1 bo n3 P Y x wa :=
  let ⟨a, m, lo, hi, hp⟩ := h.pw
  ⟨⟨a, m, lo, hi, hp.below ha⟩, boxAt h.bp ha, boxAt h.bw ha, boxAt h.br ha, bTrans h.low ha⟩
theorem new_one (w : World) (X : Obj) : ∃ w1, w1 = w.alloc X := ⟨_, rfl⟩
theorem send_res {p : PPrg} {x : PWld} {f : Int} {ns : List PNte} (h : inB f (-1) ((x.acts.length : Int) - 1) = false) : sendP p x f ns = x := by unfold sendP; rw [h]; rfl
theorem send_yes {p : PPrg} {x : PWld} {f : Int} {ns : List PNte} (h : inB f (-1) ((x.acts.length : Int) - 1) = true) : sendP p x f ns = sendT p (firstP x f ns.length) f x.acts.length x ns ns.length := by unfold sendP; rw [if_pos h]
theorem step_yes {p : PPrg} {n0 f : Int} {na i : Nat} {x : PWld} {n : PNte} (h : inB n.to 0 ((p.acs.length : Int) - 1) = true) (h2 : n.to < (na : Int)) : stepN p n0 f na x i n = postP p x ⟨⟨f, wrap64 (n0 + i), 0⟩, n⟩ n.to.toNat := by unfold stepN; rw [if_pos ⟨h, h2⟩]
theorem step_post {p : PPrg} {n0 f : Int} {na i : Nat} {x : PWld} {n : PNte} (h : x.acts.length = na) : stepN p n0 f na x i n = postG p x ⟨⟨f, wrap64 (n0 + i), 0⟩, n⟩ := by
  subst h; rfl
set_option maxHeartbeats 4000000 in
set_option maxRecDepth 100000 in
theorem send_any (W : World) (vp vw vn : Value) (p : PPrg) (x : PWld) (f : Int) (ns : List PNte) (hp : PrgV W vp p) (hx : WldV W vw x) (hs : SmW x) (hn : Ntes anyB anyB W vn ns) (hl : ns.length ≤ 300) (hna : ∀ n ∈ ns, n.args.length ≤ 1000) :
    Calls Tryd.prog 55 #[vp, vw, .int .i64 f, vn] W fun e w' => ∃ a m lo hi, e = .returned (wVal (sendP p x f ns).used a m) ∧ WN W.heap.size lo hi w' a m (sendP p x f ns) ∧ Below W.heap.size W w' := by
  have HP := hid_mk hp
  have HX := hid_mk hx
  have HS := hid_mk hs
  obtain ⟨vh, vb, vc, rfl, h1, h2, h3⟩ := hp
  obtain ⟨A1, c1, rfl, hl1⟩ := h1.form
  obtain ⟨A2, c2, rfl, hl2⟩ := h2.form
  obtain ⟨A3, c3, rfl, hl3⟩ := h3.form
  obtain ⟨va, vm, rfl, g1, g2⟩ := hx
  obtain ⟨B1, d1, rfl, hm1⟩ := g1.form
  obtain ⟨B2, d2, rfl, hm2⟩ := g2.form
  obtain ⟨C, cn, rfl, hln⟩ := hn.form
  obtain ⟨w1, hw1⟩ := new_one ((W.alloc (.cells #[.slice A1 p.hs.length c1, .slice A2 p.acs.length c2, .slice A3 p.bs.length c3, .int .i64 p.fuel] 26)).alloc (.cells #[.slice B1 x.acts.length d1, .slice B2 x.mail.length d2, .int .i64 x.used.drop, .int .i64 x.used.dup, .int .i64 x.used.time, .int .i64 x.used.crash] 44)) (.cells #[.slice none 0 0, .slice none 0 0, .int .i64 0, .int .i64 0, .int .i64 0, .int .i64 0] 44)
  have hA := three_new W (.cells #[.slice A1 p.hs.length c1, .slice A2 p.acs.length c2, .slice A3 p.bs.length c3, .int .i64 p.fuel] 26) (.cells #[.slice B1 x.acts.length d1, .slice B2 x.mail.length d2, .int .i64 x.used.drop, .int .i64 x.used.dup, .int .i64 x.used.time, .int .i64 x.used.crash] 44) (.cells #[.slice none 0 0, .slice none 0 0, .int .i64 0, .int .i64 0, .int .i64 0, .int .i64 0] 44)
  have HL1 : Hid (Below W.heap.size W w1) := by rw [hw1]; exact bAlloc (bAlloc (bAlloc (bRefl _) _) _) _
  rw [← hw1] at hA
  have HA0 := hid_mk hA.1
  have HA1 := hid_mk hA.2.1
  have HA2 := hid_mk hA.2.2.1
  have HZ1 := hid_mk hA.2.2.2
  have HW1 := hid_mk hw1
  have HL1' : Hid (Below W.heap.size W (((W.alloc (.cells #[.slice A1 p.hs.length c1, .slice A2 p.acs.length c2, .slice A3 p.bs.length c3, .int .i64 p.fuel] 26)).alloc (.cells #[.slice B1 x.acts.length d1, .slice B2 x.mail.length d2, .int .i64 x.used.drop, .int .i64 x.used.dup, .int .i64 x.used.time, .int .i64 x.used.crash] 44)).alloc (.cells #[.slice none 0 0, .slice none 0 0, .int .i64 0, .int .i64 0, .int .i64 0, .int .i64 0] 44))) := by rw [← hw1]; exact HL1.out
  clear hA hw1 h1 h2 h3 g1 g2 hs
  cases e0 : inB f (-1) ((x.acts.length : Int) - 1) with
  | false =>
    have HR := hid_mk (send_res (p := p) (ns := ns) e0)
    rw [HR.out]
    go_enter Tryd.func55, Tryd.ntmps55
    go_wp2_with (first
      | (go_at_call 23; refine (copyW_any _ _ x (HX.out.below (by exact HL1'.out)) HS.out).mono ?_; rw [← HW1.out]; rintro e w2 ⟨a, m, lo, hi, rfl, hwn, hb2⟩; obtain ⟨A', c', rfl⟩ := hwn.acts.form; obtain ⟨B', d', rfl, _⟩ := hwn.mail.form; have hz2 := hb2.size; have hz1 := HZ1.out; have HW2 := hid_mk hwn; have HB2 := hid_mk hb2; obtain ⟨k0, k1, k2, k3, k4, k5⟩ := blk6 (boxAt HA1.out hb2); obtain ⟨r0, r1, r2, r3, r4, r5⟩ := blk6 (boxAt HA2.out hb2); have fz : ∀ o, w2.frozen? ⟨W.heap.size + 2, o, none⟩ = false := fun o => heap_frozen (boxAt HA2.out hb2); have z4 : W.heap.size + 2 < w2.heap.size := (by omega); have z5 : W.heap.size + 1 < w2.heap.size := (by omega); have z6 : ¬ W.heap.size + 2 = w2.heap.size := (by omega); have z7 : ¬ W.heap.size + 1 = w2.heap.size := (by omega); clear hwn hb2 hz1 hz2)
      | (go_at_call 94; refine (win_any _ _ _ _).mono ?_; rintro e w' ⟨rfl, hw⟩; replace hw := hw.symm; subst hw))
    refine bodyPost_ret (v := wVal x.used (.slice A' x.acts.length c') (.slice B' x.mail.length d')) (by simp [results, Tryd.results55, go_sem, r0, r1, r2, r3, r4, r5, z4]) rfl ⟨_, _, lo, hi, rfl, ?_, ?_⟩
    · exact ((HW2.out.far (rb := W.heap.size + 1 + 1) put6_same (by have := HZ1.out; omega)).below (bAlloc (bRefl _) _)).mono (by have := HZ1.out; omega)
    · exact bAlloc (put6_below (bTrans HL1.out HB2.out) (by omega)) _
  | true =>
    have HR := hid_mk (send_yes (p := p) (ns := ns) e0)
    rw [HR.out]
    have HF : Hid (f = -1 ∨ (0 ≤ f ∧ f < x.acts.length)) := by show _ ∨ _; have := inB_iff.1 e0; omega
    obtain ⟨n0, hn0⟩ : ∃ n0, n0 = firstP x f ns.length := ⟨_, rfl⟩
    have HFN : Hid (∀ w', Below W.heap.size W w' → Calls Tryd.prog 95 #[wVal x.used (.slice B1 x.acts.length d1) (.slice B2 x.mail.length d2), .int .i64 f, .int .i64 (ns.length : Int)] w' fun e w'' => e = .returned (.int .i64 n0) ∧ Below w'.heap.size w' w'') := fun w' hb => by
      rw [hn0]; exact firstN_any w' _ x f _ (HX.out.below hb) HF.out
    rw [← hn0]
    clear hn0
    go_enter Tryd.func55, Tryd.ntmps55
    go_wp2_with (first
      | (go_at_call 23; refine (copyW_any _ _ x (HX.out.below (by exact HL1'.out)) HS.out).mono ?_; rw [← HW1.out]; rintro e w2 ⟨a, m, lo, hi, rfl, hwn, hb2⟩; obtain ⟨A', c', rfl⟩ := hwn.acts.form; obtain ⟨B', d', rfl, _⟩ := hwn.mail.form; have hz2 := hb2.size; have hz1 := HZ1.out; have HW2 := hid_mk hwn; have HB2 := hid_mk hb2; obtain ⟨k0, k1, k2, k3, k4, k5⟩ := blk6 (boxAt HA1.out hb2); have z4 : W.heap.size + 2 < w2.heap.size := (by omega); have z5 : W.heap.size + 1 < w2.heap.size := (by omega); have z6 : ¬ W.heap.size + 2 = w2.heap.size := (by omega); have z7 : ¬ W.heap.size + 1 = w2.heap.size := (by omega); clear hwn hb2 hz1 hz2)
      | (go_at_call 94; refine (win_any _ _ _ _).mono ?_; rintro e w' ⟨rfl, hw⟩; replace hw := hw.symm; subst hw)
      | (go_at_call 95; refine (HFN.out _ (by exact bAlloc (bTrans HL1.out HB2.out) _)).mono ?_; rintro e w3 ⟨rfl, hb3⟩; have HB3 := hid_mk hb3; clear hb3))
    have HSN : Hid (SN w1 w2.heap.size W.heap.size (.cells #[.slice A1 p.hs.length c1, .slice A2 p.acs.length c2, .slice A3 p.bs.length c3, .int .i64 p.fuel] 26) (.cells #[.slice B1 x.acts.length d1, .slice B2 x.mail.length d2, .int .i64 x.used.drop, .int .i64 x.used.dup, .int .i64 x.used.time, .int .i64 x.used.crash] 44) x w3) := (SN.below (wr := w2.alloc (.cells #[.slice A' x.acts.length c', .slice B' x.mail.length d', .int .i64 x.used.drop, .int .i64 x.used.dup, .int .i64 x.used.time, .int .i64 x.used.crash] 44)) ⟨⟨_, _, _, _, HW2.out.toPW HB2.out.size⟩, boxAt HA0.out (bAlloc HB2.out _), boxAt HA1.out (bAlloc HB2.out _), boxAt HA2.out (bAlloc HB2.out _), bAlloc HB2.out _⟩ HB3.out)
    clear HW2 k0 k1 k2 k3 k4 k5 z4 z5 z6 z7
    go_loopg [11, 12, 30] ns.length (fun g i11 i12 i30 wr => ∃ k : Nat, g = ns.length - k ∧ k ≤ ns.length ∧ i30 = .int .i64 k ∧ SN w1 w2.heap.size W.heap.size (.cells #[.slice A1 p.hs.length c1, .slice A2 p.acs.length c2, .slice A3 p.bs.length c3, .int .i64 p.fuel] 26) (.cells #[.slice B1 x.acts.length d1, .slice B2 x.mail.length d2, .int .i64 x.used.drop, .int .i64 x.used.dup, .int .i64 x.used.time, .int .i64 x.used.crash] 44) (sendT p n0 f x.acts.length x ns k) wr)
    case atStart => exact ⟨0, rfl, by omega, rfl, HSN.out⟩
    case round =>
      obtain ⟨k, rfl, hk, rfl, sn⟩ := hrel
      have hbw : Below W.heap.size W wr := bTrans HL1.out sn.low
      have HB := hid_mk hbw
      have hz1 := HZ1.out
      have hz2 := sn.low.size
      by_cases hlt : k < ns.length
      · obtain ⟨bN, oN, n, vN, rfl, hN, hzN, q1, q2, q3, hvN⟩ := hn.cell hbw hlt
        obtain ⟨VN, nN, rfl, _⟩ := hvN.form
        obtain ⟨p0, p1, p2, p3⟩ := blk4 sn.bp
        obtain ⟨k0, k1, k2, k3, k4, k5⟩ := blk6 sn.bw
        have z1 : W.heap.size < wr.heap.size := by omega
        have z2 : W.heap.size + 1 < wr.heap.size := by omega
        have z3 : W.heap.size < wr.heap.size + 1 := by omega
        have z4 : W.heap.size + 1 < wr.heap.size + 1 := by omega
        have HSK := hid_mk sn
        have HN := hid_mk (step_at (p := p) (n0 := n0) (f := f) (na := x.acts.length) (x0 := x) hN)
        have hn6 : n.args.length ≤ 1000 := hna n (List.mem_of_getElem? hN)
        have hfew : Few (sendT p n0 f x.acts.length x ns k).mail := ⟨by have := @send_mail p n0 f x.acts.length x ns k; have := HS.out.mail; omega, send_args HS.out.args hna k⟩
        have hsz : (sendT p n0 f x.acts.length x ns k).acts.length ≤ 1000 := by rw [send_acts]; have := HS.out.n; omega
        have HQ := hid_mk (And.intro hfew hsz)
        have HE := hid_mk (step_post (p := p) (n0 := n0) (f := f) (na := x.acts.length) (i := k) (n := n) (x := sendT p n0 f x.acts.length x ns k) (by rw [send_acts]))
        obtain ⟨a9, m9, lo9, hi9, hpw⟩ := HSK.out.pw
        have HPW := hid_mk hpw
        clear sn hbw hN hz1 hz2 hfew hsz hpw
        go_wp2_with (first
          | (go_at_call 96; refine (post_any w1.heap.size w2.heap.size lo9 hi9 _ _ a9 m9 _ p (sendT p n0 f x.acts.length x ns k) ⟨⟨f, wrap64 (n0 + k), 0⟩, n⟩ (HP.out.below (bTrans HB.out (bAlloc (bRefl _) _))) (HPW.out.below (bAlloc (bRefl _) _)) (hvN.below (bAlloc (bRefl _) _)) HQ.out.1 hn6 HQ.out.2).mono ?_; rintro e w5 ⟨rfl, hp5, hb5⟩))
        go_roundg (ns.length - (k + 1))
        case measure => omega
        case rel => exact ⟨k + 1, rfl, by omega, by go_num, by rw [HN.out, HE.out]; exact HSK.out.next HZ1.out (bAlloc (bRefl _) _) hp5 hb5⟩
      · obtain rfl : k = ns.length := by omega
        obtain ⟨a9, m9, lo9, hi9, hpw⟩ := sn.pw
        have HPW := hid_mk hpw
        have hal := @send_acts p n0 f x.acts.length x ns ns.length
        obtain ⟨A9, c9, rfl⟩ := hpw.acts.form
        obtain ⟨B9, d9, rfl, _⟩ := hpw.mail.form
        obtain ⟨k0, k1, k2, k3, k4, k5⟩ := blk6 hpw.box
        obtain ⟨r0, r1, r2, r3, r4, r5⟩ := blk6 sn.br
        have fz : ∀ o, wr.frozen? ⟨W.heap.size + 2, o, none⟩ = false := fun o => heap_frozen sn.br
        have HSK := hid_mk sn
        clear hpw sn hbw hz1 hz2 hal
        generalize hX : sendT p n0 f x.acts.length x ns ns.length = X at *
        have HX9 := hid_mk hX
        clear hX
        go_wp2
        refine bodyPost_ret (v := wVal X.used (.slice A9 X.acts.length c9) (.slice B9 X.mail.length d9)) (by simp [results, Tryd.results55, go_sem, r0, r1, r2, r3, r4, r5]) rfl ⟨_, _, lo9, hi9, by rw [HX9.out], ?_, ?_⟩
        · rw [HX9.out]
          exact (HPW.out.wn.far (rb := W.heap.size + 1 + 1) put6_same (by have := HZ1.out; omega)).mono (by have := HZ1.out; omega)
        · exact put6_below (bTrans HL1.out HSK.out.low) (by omega)
end Go.Proofs.YtgdloonpemaijaaDoor
