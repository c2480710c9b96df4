/-
  world.post: one message on its way, or counted. Conditions: the receiver is an actor of the program and of the world; the world is the caller's own, in new memory, and not too great.
-/
import Derived.Test.YtflpkdhmkgidiaaDoorW6
namespace Go.Proofs.YtflpkdhmkgidiaaDoor
open Go.RowKit
/-- Where the locals of a world in the box bo may lie. -/
def Qp (N bo lo hi : Nat) : Nat → Prop := fun b => N ≤ b ∧ b < bo ∧ ¬ (lo ≤ b ∧ b < hi)
/-- A world of the caller's own, in the box bo. -/
structure PW (N bo lo hi : Nat) (W : World) (a m : Value) (x : PWld) : Prop where
  box : W.heap[bo]? = some (.cells #[a, m, .int .i64 x.used.drop, .int .i64 x.used.dup, .int .i64 x.used.time, .int .i64 x.used.crash] 34)
  acts : LV (Qp N bo lo hi) W a x.acts
  mail : Msgs (Qm lo hi m) (Qi lo hi m) W m x.mail
  nb : ¬ (lo ≤ bo ∧ bo < hi)
  le : N ≤ lo
  hi : hi ≤ W.heap.size
  bo : N ≤ bo
section
variable {N bo lo hi : Nat} {W W' : World} {a m : Value} {x : PWld}
theorem PW.below (h : PW N bo lo hi W a m x) (hb : Below W.heap.size W W') : PW N bo lo hi W' a m x := ⟨boxAt h.box hb, h.acts.below hb, h.mail.below hb, h.nb, h.le, Nat.le_trans h.hi hb.size, h.bo⟩
theorem PW.wn (h : PW N bo lo hi W a m x) : WN N lo hi W a m x := by
  refine ⟨?_, h.mail, h.le, h.hi⟩
  obtain ⟨A, c, rfl, h2, h3⟩ := h.acts
  exact ⟨A, c, rfl, h2, h3.imp id fun ⟨g, e, hg, hr⟩ => ⟨g, e, ⟨hg.1, hg.2.2⟩, hr.weak fun _ b hb => ⟨⟨hb.1.1, hb.1.2.2⟩, hb.2⟩⟩⟩
theorem PW.blt (h : PW N bo lo hi W a m x) : bo < W.heap.size := (Array.getElem?_eq_some_iff.1 h.box).1
/-- Other messages in the box, made anew at W0. -/
theorem PW.setMail {W0 : World} {m' : Value} {ml : List PMsg} (h : PW N bo lo hi W0 a m x) (hb : Below W0.heap.size W0 W) (hm : Msgs (Qm W0.heap.size W.heap.size m') (Qi W0.heap.size W.heap.size m') W m' ml) :
    PW N bo W0.heap.size W.heap.size (W.setCell ⟨bo, 1, none⟩ m') a m' { x with mail := ml } := by
  have hbl := h.blt
  have hz := hb.size
  have hN : N ≤ W0.heap.size := by have := h.bo; omega
  have hS : Same (fun d => d ≠ bo) W (W.setCell ⟨bo, 1, none⟩ m') := setCell_same fun _ h => h
  refine ⟨(setCell_heap (boxAt h.box hb)).trans (by simp), ?_, hm.same (hS.weak ?_) (hS.weak ?_), by omega, hN, by simp [World.setCell], h.bo⟩
  · obtain ⟨A, c, rfl, h2, h3⟩ := h.acts
    refine ⟨A, c, rfl, h2, ?_⟩
    rcases h3 with h3 | ⟨g, e, hg, hr⟩
    · exact Or.inl h3
    · have hg1 : N ≤ g ∧ g < bo ∧ ¬ (lo ≤ g ∧ g < hi) := hg
      have hgl := hr.lt
      refine Or.inr ⟨g, e, ⟨hg1.1, hg1.2.1, by omega⟩, LR.weak (P := fun _ b => (Qp N bo lo hi b ∧ b ≠ g) ∧ b < W0.heap.size) (LR.same (hr.ltP.below hb) hS.size (hS.block g ?_ ?_) fun _ b hb hl => hS.block b ?_ hl) fun _ b hb => ?_⟩
      · show g ≠ bo; omega
      · omega
      · have : N ≤ b ∧ b < bo ∧ ¬ (lo ≤ b ∧ b < hi) := hb.1.1; show b ≠ bo; omega
      · have : N ≤ b ∧ b < bo ∧ ¬ (lo ≤ b ∧ b < hi) := hb.1.1; exact ⟨⟨this.1, this.2.1, by have := hb.2; omega⟩, hb.1.2⟩
  · intro b hb; have := hb.1.1; show b ≠ bo; omega
  · intro b hb; have := hb.1.1; show b ≠ bo; omega
/-- A number of the k-th local is stored. -/
theorem PW.setAct {g c k i off : Nat} {y y' : PLoc} {v : Value} (h : PW N bo lo hi W (.slice (some ⟨g, 0, none⟩) x.acts.length c) m x) (hy : x.acts[k]? = some y) (ho : off = k * 5 + i) (hi5 : i < 5) (hi0 : i ≠ 0) (hr0 : y'.regs = y.regs)
    (h1 : (i = 1 ∧ v = .bool y'.armed) ∨ (i ≠ 1 ∧ y'.armed = y.armed)) (h2 : (i = 2 ∧ v = .int .i64 y'.down) ∨ (i ≠ 2 ∧ y'.down = y.down))
    (h3 : (i = 3 ∧ v = .int .i64 y'.sent) ∨ (i ≠ 3 ∧ y'.sent = y.sent)) (h4 : (i = 4 ∧ v = .int .i64 y'.over) ∨ (i ≠ 4 ∧ y'.over = y.over)) :
    PW N bo lo hi (W.setCell ⟨g, off, none⟩ v) (.slice (some ⟨g, 0, none⟩) x.acts.length c) m { x with acts := x.acts.set k y' } := by
  obtain ⟨A, c', e, hc, hl⟩ := h.acts
  simp only [Value.slice.injEq] at e
  obtain ⟨rfl, _, rfl⟩ := e
  obtain ⟨g', e, hg, hr⟩ : ∃ g', (some ⟨g, 0, none⟩ : Option Addr) = some ⟨g', 0, none⟩ ∧ Qp N bo lo hi g' ∧ LR g' (fun _ b => Qp N bo lo hi b ∧ b ≠ g') W x.acts := by
    rcases hl with ⟨_, h2⟩ | h2
    · cases h2
    · exact h2
  cases e
  have hg1 : N ≤ g ∧ g < bo ∧ ¬ (lo ≤ g ∧ g < hi) := hg
  have hS : Same (fun d => d ≠ g) W (W.setCell ⟨g, off, none⟩ v) := setCell_same fun _ h => h
  have key := hr.put (P' := fun _ b => Qp N bo lo hi b ∧ b ≠ g) hy ho hi5 (fun _ _ hb => hb.2) (fun _ hb => hb.2) (fun _ _ _ hb => hb) (Or.inr ⟨hi0, hr0, fun _ hb => hb⟩) h1 h2 h3 h4
  refine ⟨?_, ⟨_, c, by rw [List.length_set], by simpa using hc, Or.inr ⟨g, rfl, hg, key⟩⟩, h.mail.same (hS.weak ?_) (hS.weak ?_), h.nb, h.le, by simpa [World.setCell] using h.hi, h.bo⟩
  · have hne : bo ≠ g := by omega
    exact (Below.heap_setCell W ⟨g, off, none⟩ v bo hne).trans h.box
  · intro b hb; have := hb.1; show b ≠ g; omega
  · intro b hb; have := hb.1; show b ≠ g; omega
theorem PW.row (h : PW N bo lo hi W a m x) (hk : 0 < x.acts.length) : ∃ g c, a = .slice (some ⟨g, 0, none⟩) x.acts.length c ∧ N ≤ g ∧ g ≠ bo ∧ LR g (fun _ b => Qp N bo lo hi b ∧ b ≠ g) W x.acts := by
  obtain ⟨A, c, rfl, hc, ⟨e, _⟩ | ⟨g, rfl, hg, hr⟩⟩ := h.acts
  · rw [e] at hk; simp at hk
  · have hg1 : N ≤ g ∧ g < bo ∧ ¬ (lo ≤ g ∧ g < hi) := hg
    exact ⟨g, c, rfl, hg1.1, by omega, hr⟩
end
def capP (p : PPrg) (k : Nat) : Int := (p.acs.getD k default).cap
def roomB (p : PPrg) (x : PWld) (m : PMsg) (k : Nat) : Bool := decide ((toN x.mail m.nt.to : Int) < capP p k) && decide (fnd x.mail m.id = -1)
/-- What comes of a message to the k-th actor. -/
def postP (p : PPrg) (x : PWld) (m : PMsg) (k : Nat) : PWld :=
  if roomB p x m k = true then { x with mail := putP x.mail m } else { x with acts := x.acts.set k { x.acts.getD k default with over := wrap64 ((x.acts.getD k default).over + 1) } }
theorem cap_at {p : PPrg} {k : Nat} {a : PAct} (h : p.acs[k]? = some a) : capP p k = a.cap := by unfold capP; rw [List.getD_eq_getElem?_getD, h]; rfl
theorem getD_at {α : Type} [Inhabited α] {l : List α} {k : Nat} {a : α} (h : l[k]? = some a) : l.getD k default = a := by rw [List.getD_eq_getElem?_getD, h]; rfl
theorem midB {a W w2 : World} (_ : Below W.heap.size W w2) (h : Below a.heap.size a W) : Below a.heap.size a W := h
set_option maxHeartbeats 4000000 in
set_option maxRecDepth 100000 in
theorem post_new (N bo lo hi : Nat) (W : World) (vp a mv c : Value) (p : PPrg) (x : PWld) (d : PID) (k : Nat) (hd : Int) (args : List Int) (ac : PAct) (y : PLoc) (hp : PrgV W vp p) (hw : PW N bo lo hi W a mv x) (hc : Ints anyB W c args) (hs : Few x.mail) (hn : args.length ≤ 1000) (hac : p.acs[k]? = some ac) (hy : x.acts[k]? = some y) (hsz : x.acts.length ≤ 1000)
    (e1 : (toN x.mail (k : Int) : Int) < ac.cap) (e2 : fnd x.mail d = -1) :
    Calls Tryd.prog 39 #[vp, .pointer (some ⟨bo, 0, none⟩), mVal ⟨d, ⟨(k : Int), hd, args⟩⟩ c] W fun e w' => e = .returned (.tuple #[]) ∧ (∃ a' m' lo' hi', PW N bo lo' hi' w' a' m' { x with mail := putP x.mail ⟨d, ⟨(k : Int), hd, args⟩⟩ }) ∧ Below N W w' := by
  obtain ⟨A, cc, rfl, _⟩ := hc.form
  obtain ⟨vh, vb, vc, rfl, h1, h2, h3⟩ := hp
  obtain ⟨A1, c1, rfl, hl1⟩ := h1.form
  obtain ⟨A2, c2, rfl, hl2⟩ := h2.form
  obtain ⟨A3, c3, rfl, hl3⟩ := h3.form
  obtain ⟨B, dd, rfl, hlm⟩ := hw.mail.form
  have hka : k < p.acs.length := (List.getElem?_eq_some_iff.1 hac).1
  have hkx : k < x.acts.length := (List.getElem?_eq_some_iff.1 hy).1
  obtain ⟨g, ca, rfl, hgN, hgb, hgr⟩ := hw.row (by omega)
  obtain ⟨b2, o2, ac', v2, rfl, hac2, hz2, s1, s2, s3, s4, _⟩ := h2.cell (bRefl W) hka
  obtain rfl : ac = ac' := Option.some.inj (hac.symm.trans hac2)
  obtain ⟨_, _, _, _, r4⟩ := hgr.rd k y hy
  have hla : (x.acts.length : Int) ≤ 9223372036854775807 := by
    have := hw.acts.locs hsz; obtain ⟨_, _, _, h'⟩ := this.form; exact h'
  have hgl : g < W.heap.size := hgr.lt
  have hblt := hw.blt
  have hNb := hw.bo
  have HR4 := hid_mk r4
  have HGR := hid_mk hgr
  have HPW := hid_mk hw
  have HM := hid_mk hw.mail.any2
  have HC := hid_mk hc
  have HY := hid_mk hy
  have hki : (k : Int) < p.acs.length := by omega
  have hkj : (k : Int) < x.acts.length := by omega
  clear hac hac2 hy h1 h2 h3 hgr r4 hc s1 s3 s4
  go_enter Tryd.func39, Tryd.ntmps39
  go_wp2_with fail
  have hA := (two_new W (.cells #[.slice A1 p.hs.length c1, .slice (some ⟨b2, o2, none⟩) p.acs.length c2, .slice A3 p.bs.length c3, .int .i64 p.fuel] 27) (.cells #[.int .i64 d.f, .int .i64 d.n, .int .i64 d.c, .int .i64 (k : Int), .int .i64 hd, .slice A args.length cc] 47))
  have HL : Below W.heap.size W ((W.alloc (.cells #[.slice A1 p.hs.length c1, .slice (some ⟨b2, o2, none⟩) p.acs.length c2, .slice A3 p.bs.length c3, .int .i64 p.fuel] 27)).alloc (.cells #[.int .i64 d.f, .int .i64 d.n, .int .i64 d.c, .int .i64 (k : Int), .int .i64 hd, .slice A args.length cc] 47)) := bAlloc (bAlloc (bRefl _) _) _
  generalize ((W.alloc (.cells #[.slice A1 p.hs.length c1, .slice (some ⟨b2, o2, none⟩) p.acs.length c2, .slice A3 p.bs.length c3, .int .i64 p.fuel] 27)).alloc (.cells #[.int .i64 d.f, .int .i64 d.n, .int .i64 d.c, .int .i64 (k : Int), .int .i64 hd, .slice A args.length cc] 47)) = w1 at hA HL ⊢
  obtain ⟨p0, p1, p2, p3⟩ := blk4 hA.1
  have HMB := hid_mk hA.2.1
  obtain ⟨b0, b1, b3, b4, b5, b6⟩ := blk6 (boxAt hw.box HL)
  have t2 := (HL.cell (p := ⟨b2, o2 + k * 4 + 1, none⟩) hz2).trans s2
  have hbb := HL
  have zz := hA.2.2
  have z1 : W.heap.size < w1.heap.size := by omega
  have z2 : b2 < w1.heap.size := by omega
  have z3 : bo < w1.heap.size := by omega
  clear hA hw s2 HL zz
  go_region_held3 (fun w' => w'.cell? ⟨bo, 1, none⟩ = some (.slice B x.mail.length dd) ∧ w'.cell? ⟨W.heap.size, 1, none⟩ = some (.slice (some ⟨b2, o2, none⟩) p.acs.length c2) ∧ w'.cell? ⟨b2, o2 + k * 4 + 1, none⟩ = some (.int .i64 ac.cap)) (go_keep)
    (first | (go_at_call 68; refine (to_any _ _ x.mail _ (HM.out.below (by first | exact hbb | exact hbb.drew))).mono ?_; rintro e w2 ⟨rfl, hb2⟩; have hc2 := (by first | exact bcell (undrew hb2) | exact bcell hb2); have hj2 := hb2.size; replace hbb := bTrans (by first | exact hbb | exact hbb.drew) hb2; have HMB2 := hid_mk (boxAt HMB.out (by first | exact undrew hb2 | exact hb2)); clear hb2))
  all_goals
    go_wp2_with fail
    obtain ⟨m0, m1, m2, m3, m4, m5⟩ := blk6 HMB2.out
    obtain ⟨q0, q1, q2, q3, q4, q5⟩ := blk6 (boxAt HPW.out.box hbb)
    have y1 : W.heap.size + 1 < w2.heap.size := (Array.getElem?_eq_some_iff.1 HMB2.out).1
    have y3 : bo < w2.heap.size := Nat.lt_of_lt_of_le hblt hbb.size
    clear b0 b1 b3 b4 b5 b6 p0 p1 p2 p3 t2 hc2
    go_region_held3 (fun w' => w'.cell? ⟨bo, 1, none⟩ = some (.slice B x.mail.length dd) ∧ w'.cell? ⟨W.heap.size + 1, 0, none⟩ = some (.int .i64 d.f) ∧ w'.cell? ⟨W.heap.size + 1, 1, none⟩ = some (.int .i64 d.n) ∧ w'.cell? ⟨W.heap.size + 1, 2, none⟩ = some (.int .i64 d.c) ∧ w'.cell? ⟨W.heap.size + 1, 3, none⟩ = some (.int .i64 (k : Int)) ∧ w'.cell? ⟨W.heap.size + 1, 4, none⟩ = some (.int .i64 hd) ∧ w'.cell? ⟨W.heap.size + 1, 5, none⟩ = some (.slice A args.length cc)) (go_keep)
      (first | (go_at_call 69; refine (put_new _ _ _ x.mail ⟨d, ⟨(k : Int), hd, args⟩⟩ (HM.out.below (by first | exact hbb | exact hbb.drew)) ⟨_, rfl, HC.out.below (by first | exact hbb | exact hbb.drew)⟩ e2 hs hn).mono ?_; rintro e w3 ⟨u, rfl, hu, hb3⟩; obtain ⟨B', d', rfl, _⟩ := hu.form; have hc3 := (by first | exact bcell (undrew hb3) | exact bcell hb3); have HBW0 := hid_mk (midB hb3 (by first | exact hbb | exact hbb.drew)); have HB3 := hid_mk hb3; replace hbb := bTrans (by first | exact hbb | exact hbb.drew) hb3; have HU := hid_mk hu.within; clear hu; clear hb3))
    all_goals
      obtain ⟨q0, q1, q2, q3, q4, q5⟩ := blk6 (boxAt HPW.out.box hbb)
      have fz : ∀ o, w3.frozen? ⟨bo, o, none⟩ = false := fun o => heap_frozen (boxAt HPW.out.box hbb)
      go_wp2
      exact bodyPost_ret (v := .tuple #[]) (by simp [results, Tryd.results39, go_sem]) rfl ⟨rfl, ⟨_, _, _, _, (HPW.out.below HBW0.out).setMail HB3.out HU.out⟩, (hbb.mono (by omega)).setCell (p := ⟨bo, 1, none⟩) hNb _⟩
set_option maxHeartbeats 4000000 in
set_option maxRecDepth 100000 in
theorem post_there (N bo lo hi : Nat) (W : World) (vp a mv c : Value) (p : PPrg) (x : PWld) (d : PID) (k : Nat) (hd : Int) (args : List Int) (ac : PAct) (y : PLoc) (hp : PrgV W vp p) (hw : PW N bo lo hi W a mv x) (hc : Ints anyB W c args) (hac : p.acs[k]? = some ac) (hy : x.acts[k]? = some y) (hsz : x.acts.length ≤ 1000)
    (e1 : (toN x.mail (k : Int) : Int) < ac.cap) (j : Nat) (e2 : fnd x.mail d = j) :
    Calls Tryd.prog 39 #[vp, .pointer (some ⟨bo, 0, none⟩), mVal ⟨d, ⟨(k : Int), hd, args⟩⟩ c] W fun e w' => e = .returned (.tuple #[]) ∧ (∃ a' m' lo' hi', PW N bo lo' hi' w' a' m' { x with acts := x.acts.set k { y with over := wrap64 (y.over + 1) } }) ∧ Below N W w' := by
  obtain ⟨A, cc, rfl, _⟩ := hc.form
  obtain ⟨vh, vb, vc, rfl, h1, h2, h3⟩ := hp
  obtain ⟨A1, c1, rfl, hl1⟩ := h1.form
  obtain ⟨A2, c2, rfl, hl2⟩ := h2.form
  obtain ⟨A3, c3, rfl, hl3⟩ := h3.form
  obtain ⟨B, dd, rfl, hlm⟩ := hw.mail.form
  have hka : k < p.acs.length := (List.getElem?_eq_some_iff.1 hac).1
  have hkx : k < x.acts.length := (List.getElem?_eq_some_iff.1 hy).1
  obtain ⟨g, ca, rfl, hgN, hgb, hgr⟩ := hw.row (by omega)
  obtain ⟨b2, o2, ac', v2, rfl, hac2, hz2, s1, s2, s3, s4, _⟩ := h2.cell (bRefl W) hka
  obtain rfl : ac = ac' := Option.some.inj (hac.symm.trans hac2)
  obtain ⟨_, _, _, _, r4⟩ := hgr.rd k y hy
  have hla : (x.acts.length : Int) ≤ 9223372036854775807 := by
    have := hw.acts.locs hsz; obtain ⟨_, _, _, h'⟩ := this.form; exact h'
  have hgl : g < W.heap.size := hgr.lt
  have hblt := hw.blt
  have hNb := hw.bo
  have HR4 := hid_mk r4
  have HGR := hid_mk hgr
  have HPW := hid_mk hw
  have HM := hid_mk hw.mail.any2
  have HC := hid_mk hc
  have HY := hid_mk hy
  have hki : (k : Int) < p.acs.length := by omega
  have hkj : (k : Int) < x.acts.length := by omega
  clear hac hac2 hy h1 h2 h3 hgr r4 hc s1 s3 s4
  go_enter Tryd.func39, Tryd.ntmps39
  go_wp2_with fail
  have hA := (two_new W (.cells #[.slice A1 p.hs.length c1, .slice (some ⟨b2, o2, none⟩) p.acs.length c2, .slice A3 p.bs.length c3, .int .i64 p.fuel] 27) (.cells #[.int .i64 d.f, .int .i64 d.n, .int .i64 d.c, .int .i64 (k : Int), .int .i64 hd, .slice A args.length cc] 47))
  have HL : Below W.heap.size W ((W.alloc (.cells #[.slice A1 p.hs.length c1, .slice (some ⟨b2, o2, none⟩) p.acs.length c2, .slice A3 p.bs.length c3, .int .i64 p.fuel] 27)).alloc (.cells #[.int .i64 d.f, .int .i64 d.n, .int .i64 d.c, .int .i64 (k : Int), .int .i64 hd, .slice A args.length cc] 47)) := bAlloc (bAlloc (bRefl _) _) _
  generalize ((W.alloc (.cells #[.slice A1 p.hs.length c1, .slice (some ⟨b2, o2, none⟩) p.acs.length c2, .slice A3 p.bs.length c3, .int .i64 p.fuel] 27)).alloc (.cells #[.int .i64 d.f, .int .i64 d.n, .int .i64 d.c, .int .i64 (k : Int), .int .i64 hd, .slice A args.length cc] 47)) = w1 at hA HL ⊢
  obtain ⟨p0, p1, p2, p3⟩ := blk4 hA.1
  have HMB := hid_mk hA.2.1
  obtain ⟨b0, b1, b3, b4, b5, b6⟩ := blk6 (boxAt hw.box HL)
  have t2 := (HL.cell (p := ⟨b2, o2 + k * 4 + 1, none⟩) hz2).trans s2
  have hbb := HL
  have zz := hA.2.2
  have z1 : W.heap.size < w1.heap.size := by omega
  have z2 : b2 < w1.heap.size := by omega
  have z3 : bo < w1.heap.size := by omega
  clear hA hw s2 HL zz
  go_region_held3 (fun w' => w'.cell? ⟨bo, 1, none⟩ = some (.slice B x.mail.length dd) ∧ w'.cell? ⟨W.heap.size, 1, none⟩ = some (.slice (some ⟨b2, o2, none⟩) p.acs.length c2) ∧ w'.cell? ⟨b2, o2 + k * 4 + 1, none⟩ = some (.int .i64 ac.cap)) (go_keep)
    (first | (go_at_call 68; refine (to_any _ _ x.mail _ (HM.out.below (by first | exact hbb | exact hbb.drew))).mono ?_; rintro e w2 ⟨rfl, hb2⟩; have hc2 := (by first | exact bcell (undrew hb2) | exact bcell hb2); have hj2 := hb2.size; replace hbb := bTrans (by first | exact hbb | exact hbb.drew) hb2; have HMB2 := hid_mk (boxAt HMB.out (by first | exact undrew hb2 | exact hb2)); clear hb2))
  all_goals
    go_wp2_with fail
    obtain ⟨m0, m1, m2, m3, m4, m5⟩ := blk6 HMB2.out
    obtain ⟨q0, q1, q2, q3, q4, q5⟩ := blk6 (boxAt HPW.out.box hbb)
    have y1 : W.heap.size + 1 < w2.heap.size := (Array.getElem?_eq_some_iff.1 HMB2.out).1
    have y3 : bo < w2.heap.size := Nat.lt_of_lt_of_le hblt hbb.size
    clear b0 b1 b3 b4 b5 b6 p0 p1 p2 p3 t2 hc2
    go_region_held3 (fun w' => w'.cell? ⟨bo, 1, none⟩ = some (.slice B x.mail.length dd) ∧ w'.cell? ⟨W.heap.size + 1, 0, none⟩ = some (.int .i64 d.f) ∧ w'.cell? ⟨W.heap.size + 1, 1, none⟩ = some (.int .i64 d.n) ∧ w'.cell? ⟨W.heap.size + 1, 2, none⟩ = some (.int .i64 d.c) ∧ w'.cell? ⟨W.heap.size + 1, 3, none⟩ = some (.int .i64 (k : Int)) ∧ w'.cell? ⟨W.heap.size + 1, 4, none⟩ = some (.int .i64 hd) ∧ w'.cell? ⟨W.heap.size + 1, 5, none⟩ = some (.slice A args.length cc)) (go_keep)
      (first | (go_at_call 69; refine (put_there _ _ _ x.mail ⟨d, ⟨(k : Int), hd, args⟩⟩ (HM.out.below (by first | exact hbb | exact hbb.drew)) ⟨_, rfl, HC.out.below (by first | exact hbb | exact hbb.drew)⟩ j e2).mono ?_; rintro e w3 ⟨rfl, hb3⟩; have hc3 := (by first | exact bcell (undrew hb3) | exact bcell hb3); replace hbb := bTrans (by first | exact hbb | exact hbb.drew) hb3; clear hb3))
    all_goals
      obtain ⟨q0, q1, q2, q3, q4, q5⟩ := blk6 (boxAt HPW.out.box hbb)
      have hgw := HGR.out.below hbb
      have fz : ∀ o, w3.frozen? ⟨g, o, none⟩ = false := hgw.frozen
      obtain ⟨_, _, _, _, u4⟩ := hgw.rd k y HY.out
      clear hgw
      go_wp2
      go_end0
      exact ⟨rfl, ⟨_, _, _, _, (HPW.out.below hbb).setAct (y' := { y with over := wrap64 (y.over + 1) }) (i := 4) HY.out (by omega) (by omega) (by omega) rfl (Or.inr ⟨by omega, rfl⟩) (Or.inr ⟨by omega, rfl⟩) (Or.inr ⟨by omega, rfl⟩) (Or.inl ⟨rfl, rfl⟩)⟩, (hbb.mono (by omega)).setCell (p := ⟨g, _, none⟩) hgN _⟩
set_option maxHeartbeats 4000000 in
set_option maxRecDepth 100000 in
theorem post_full (N bo lo hi : Nat) (W : World) (vp a mv c : Value) (p : PPrg) (x : PWld) (d : PID) (k : Nat) (hd : Int) (args : List Int) (ac : PAct) (y : PLoc) (hp : PrgV W vp p) (hw : PW N bo lo hi W a mv x) (hc : Ints anyB W c args) (hac : p.acs[k]? = some ac) (hy : x.acts[k]? = some y) (hsz : x.acts.length ≤ 1000)
    (e1 : ¬ (toN x.mail (k : Int) : Int) < ac.cap) :
    Calls Tryd.prog 39 #[vp, .pointer (some ⟨bo, 0, none⟩), mVal ⟨d, ⟨(k : Int), hd, args⟩⟩ c] W fun e w' => e = .returned (.tuple #[]) ∧ (∃ a' m' lo' hi', PW N bo lo' hi' w' a' m' { x with acts := x.acts.set k { y with over := wrap64 (y.over + 1) } }) ∧ Below N W w' := by
  obtain ⟨A, cc, rfl, _⟩ := hc.form
  obtain ⟨vh, vb, vc, rfl, h1, h2, h3⟩ := hp
  obtain ⟨A1, c1, rfl, hl1⟩ := h1.form
  obtain ⟨A2, c2, rfl, hl2⟩ := h2.form
  obtain ⟨A3, c3, rfl, hl3⟩ := h3.form
  obtain ⟨B, dd, rfl, hlm⟩ := hw.mail.form
  have hka : k < p.acs.length := (List.getElem?_eq_some_iff.1 hac).1
  have hkx : k < x.acts.length := (List.getElem?_eq_some_iff.1 hy).1
  obtain ⟨g, ca, rfl, hgN, hgb, hgr⟩ := hw.row (by omega)
  obtain ⟨b2, o2, ac', v2, rfl, hac2, hz2, s1, s2, s3, s4, _⟩ := h2.cell (bRefl W) hka
  obtain rfl : ac = ac' := Option.some.inj (hac.symm.trans hac2)
  obtain ⟨_, _, _, _, r4⟩ := hgr.rd k y hy
  have hla : (x.acts.length : Int) ≤ 9223372036854775807 := by
    have := hw.acts.locs hsz; obtain ⟨_, _, _, h'⟩ := this.form; exact h'
  have hgl : g < W.heap.size := hgr.lt
  have hblt := hw.blt
  have hNb := hw.bo
  have HR4 := hid_mk r4
  have HGR := hid_mk hgr
  have HPW := hid_mk hw
  have HM := hid_mk hw.mail.any2
  have HC := hid_mk hc
  have HY := hid_mk hy
  have hki : (k : Int) < p.acs.length := by omega
  have hkj : (k : Int) < x.acts.length := by omega
  clear hac hac2 hy h1 h2 h3 hgr r4 hc s1 s3 s4
  go_enter Tryd.func39, Tryd.ntmps39
  go_wp2_with fail
  have hA := (two_new W (.cells #[.slice A1 p.hs.length c1, .slice (some ⟨b2, o2, none⟩) p.acs.length c2, .slice A3 p.bs.length c3, .int .i64 p.fuel] 27) (.cells #[.int .i64 d.f, .int .i64 d.n, .int .i64 d.c, .int .i64 (k : Int), .int .i64 hd, .slice A args.length cc] 47))
  have HL : Below W.heap.size W ((W.alloc (.cells #[.slice A1 p.hs.length c1, .slice (some ⟨b2, o2, none⟩) p.acs.length c2, .slice A3 p.bs.length c3, .int .i64 p.fuel] 27)).alloc (.cells #[.int .i64 d.f, .int .i64 d.n, .int .i64 d.c, .int .i64 (k : Int), .int .i64 hd, .slice A args.length cc] 47)) := bAlloc (bAlloc (bRefl _) _) _
  generalize ((W.alloc (.cells #[.slice A1 p.hs.length c1, .slice (some ⟨b2, o2, none⟩) p.acs.length c2, .slice A3 p.bs.length c3, .int .i64 p.fuel] 27)).alloc (.cells #[.int .i64 d.f, .int .i64 d.n, .int .i64 d.c, .int .i64 (k : Int), .int .i64 hd, .slice A args.length cc] 47)) = w1 at hA HL ⊢
  obtain ⟨p0, p1, p2, p3⟩ := blk4 hA.1
  have HMB := hid_mk hA.2.1
  obtain ⟨b0, b1, b3, b4, b5, b6⟩ := blk6 (boxAt hw.box HL)
  have t2 := (HL.cell (p := ⟨b2, o2 + k * 4 + 1, none⟩) hz2).trans s2
  have hbb := HL
  have zz := hA.2.2
  have z1 : W.heap.size < w1.heap.size := by omega
  have z2 : b2 < w1.heap.size := by omega
  have z3 : bo < w1.heap.size := by omega
  clear hA hw s2 HL zz
  go_region_held3 (fun w' => w'.cell? ⟨bo, 1, none⟩ = some (.slice B x.mail.length dd) ∧ w'.cell? ⟨W.heap.size, 1, none⟩ = some (.slice (some ⟨b2, o2, none⟩) p.acs.length c2) ∧ w'.cell? ⟨b2, o2 + k * 4 + 1, none⟩ = some (.int .i64 ac.cap)) (go_keep)
    (first | (go_at_call 68; refine (to_any _ _ x.mail _ (HM.out.below (by first | exact hbb | exact hbb.drew))).mono ?_; rintro e w2 ⟨rfl, hb2⟩; have hc2 := (by first | exact bcell (undrew hb2) | exact bcell hb2); have hj2 := hb2.size; replace hbb := bTrans (by first | exact hbb | exact hbb.drew) hb2; have HMB2 := hid_mk (boxAt HMB.out (by first | exact undrew hb2 | exact hb2)); clear hb2))
  all_goals
    obtain ⟨q0, q1, q2, q3, q4, q5⟩ := blk6 (boxAt HPW.out.box hbb)
    have hgw := HGR.out.below hbb
    have fz : ∀ o, w2.frozen? ⟨g, o, none⟩ = false := hgw.frozen
    obtain ⟨_, _, _, _, u4⟩ := hgw.rd k y HY.out
    clear hgw
    clear b0 b1 b3 b4 b5 b6 p0 p1 p2 p3 t2 hc2
    go_wp2
    go_end0
    exact ⟨rfl, ⟨_, _, _, _, (HPW.out.below hbb).setAct (y' := { y with over := wrap64 (y.over + 1) }) (i := 4) HY.out (by omega) (by omega) (by omega) rfl (Or.inr ⟨by omega, rfl⟩) (Or.inr ⟨by omega, rfl⟩) (Or.inr ⟨by omega, rfl⟩) (Or.inl ⟨rfl, rfl⟩)⟩, (hbb.mono (by omega)).setCell (p := ⟨g, _, none⟩) hgN _⟩
theorem post_any (N bo lo hi : Nat) (W : World) (vp a mv c : Value) (p : PPrg) (x : PWld) (m : PMsg) (k : Nat) (hm : m.nt.to = (k : Int)) (hp : PrgV W vp p) (hw : PW N bo lo hi W a mv x) (hc : Ints anyB W c m.nt.args) (hs : Few x.mail) (hn : m.nt.args.length ≤ 1000) (hsz : x.acts.length ≤ 1000) (hk : k < p.acs.length) (hk2 : k < x.acts.length) :
    Calls Tryd.prog 39 #[vp, .pointer (some ⟨bo, 0, none⟩), mVal m c] W fun e w' => e = .returned (.tuple #[]) ∧ (∃ a' m' lo' hi', PW N bo lo' hi' w' a' m' (postP p x m k)) ∧ Below N W w' := by
  obtain ⟨d, ⟨t, hd, args⟩⟩ := m
  dsimp only at hm hc hn
  subst hm
  obtain ⟨ac, hac⟩ := at_lt hk
  obtain ⟨y, hy⟩ := at_lt hk2
  have hcap := cap_at hac
  have hgd := getD_at hy
  by_cases e1 : (toN x.mail (k : Int) : Int) < ac.cap
  · rcases fnd_cases x.mail d with ⟨e2, _⟩ | ⟨j, _, e2, _⟩
    · have e : postP p x ⟨d, ⟨(k : Int), hd, args⟩⟩ k = { x with mail := putP x.mail ⟨d, ⟨(k : Int), hd, args⟩⟩ } := by unfold postP roomB; rw [hcap]; simp [e1, e2]
      rw [e]
      exact post_new N bo lo hi W vp a mv c p x d k hd args ac y hp hw hc hs hn hac hy hsz e1 e2
    · have e : postP p x ⟨d, ⟨(k : Int), hd, args⟩⟩ k = { x with acts := x.acts.set k { y with over := wrap64 (y.over + 1) } } := by unfold postP roomB; rw [hcap, hgd]; simp [e1, e2]
      rw [e]
      exact post_there N bo lo hi W vp a mv c p x d k hd args ac y hp hw hc hac hy hsz e1 j e2
  · have e : postP p x ⟨d, ⟨(k : Int), hd, args⟩⟩ k = { x with acts := x.acts.set k { y with over := wrap64 (y.over + 1) } } := by unfold postP roomB; rw [hcap, hgd]; simp [e1]
    rw [e]
    exact post_full N bo lo hi W vp a mv c p x d k hd args ac y hp hw hc hac hy hsz e1
end Go.Proofs.YtflpkdhmkgidiaaDoor
