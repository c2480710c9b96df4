/-
  What the reference's Depths answers: the same depths, the same error, and the greatest. Condition: Check takes the program.
-/
import Derived.Test.YtfbeiedhdmndnaaDoorQk8
namespace Go.Proofs.YtfbeiedhdmndnaaDoor
open Go.RowKit
def mx3 (x y z : Int) : Int := mx2 (mx2 x y) z
theorem mx3_ge (a b c : Int) : a ≤ mx3 a b c ∧ b ≤ mx3 a b c ∧ c ≤ mx3 a b c ∧ (mx3 a b c = a ∨ mx3 a b c = b ∨ mx3 a b c = c) := by
  have h1 := mx2_ge a b
  have h2 := mx2_ge (mx2 a b) c
  unfold mx3; omega
theorem run_mx3 (P : Program) (w : World) (ts : Array TypeId) (t : TypeId) (x y z : Int) : (Builtin.max_ ts t #[.int .i64 x, .int .i64 y, .int .i64 z]).run P w = .ok (.int .i64 (mx3 x y z)) w := by
  rw [run_max_int3]
  have : (if z > (if y > x then y else x) then z else (if y > x then y else x)) = mx3 x y z := by
    unfold mx3 mx2
    by_cases h1 : y > x
    · rw [if_pos h1, if_pos (show x ≤ y by omega)]
      by_cases h2 : z > y
      · rw [if_pos h2, if_pos (show y ≤ z by omega)]
      · rw [if_neg h2]; split <;> omega
    · rw [if_neg h1]
      have e : (if x ≤ y then y else x) = x := by split <;> omega
      rw [e]
      by_cases h2 : z > x
      · rw [if_pos h2, if_pos (show x ≤ z by omega)]
      · rw [if_neg h2]; split <;> omega
  rw [this]
attribute [local go_sem ↓] Go.wp_at_zero Go.wp_at_succ run_mx3

/-- How much is left. -/
def cn (l : List Int) (ag : Bool) : Nat := l.count (-1) + cond ag 1 0
theorem cn_new {l : List Int} {k : Nat} {d : Int} {ag : Bool} (h : l[k]? = some (-1)) (h0 : 0 ≤ d) : cn (l.set k d) true ≤ cn l ag := by
  have := count_set_less h h0
  unfold cn; cases ag <;> simp <;> omega
/-- Ahead of a pass. -/
def OutP (hs : List PHnd) (code : List PIns) (l : List Int) (mo : Int) (ag : Bool) : Prop := (ag = true ∧ ∃ ag' k, Ps hs code l mo ag' k) ∨ (ag = false ∧ Ps hs code l mo false code.length)
theorem OutP.again {hs : List PHnd} {code : List PIns} {l : List Int} {mo : Int} {ag : Bool} (h : OutP hs code l mo ag) : Ps hs code l mo false 0 := by
  rcases h with ⟨_, a, k, h⟩ | ⟨_, h⟩
  · exact h.again
  · exact h.again
theorem OutP.done {hs : List PHnd} {code : List PIns} {l : List Int} {mo : Int} (h : OutP hs code l mo false) : Ps hs code l mo false code.length := by
  rcases h with ⟨h, _⟩ | ⟨_, h⟩
  · cases h
  · exact h
theorem OutP.of {hs : List PHnd} {code : List PIns} {l : List Int} {mo : Int} {ag : Bool} {k : Nat} (h : Ps hs code l mo ag k) (hk : k = code.length) : OutP hs code l mo ag := by
  cases ag
  · exact Or.inr ⟨rfl, hk ▸ h⟩
  · exact Or.inl ⟨rfl, _, _, h⟩
theorem cn_less {l l' : List Int} {ag : Bool} (h : cn l' ag ≤ cn l false) : cn l' ag < cn l true := by unfold cn at *; simp at *; omega
theorem vl_is {hs : List PHnd} {n : Nat} {i : PIns} (h : OkI hs n i) : vl i.op = true := h.vl
theorem FW.empty {D c : Nat} {vt : Value} {A : Option Addr} {w : World} : FW D vt (.slice A 0 c) [] w := ⟨A, c, rfl, by simp, Or.inl rfl⟩
theorem FW.one {D B j c : Nat} {w0 W : World} {l : List Int} (h : DW w0 D l (.slice none 0 0) [] W) (hB : W.heap.size = B) : FW D (.slice none 0 0) (.slice (some ⟨B, 0, none⟩) 1 c) [j] (W.alloc (.cells #[.int .i64 (j : Int)] 3)) := by
  subst hB
  refine ⟨_, c, rfl, by simp, Or.inr ⟨W.heap.size, rfl, ?_, by simp [Value.ownBlock], by simp, fun m x hx => ?_⟩⟩
  · have := h.lt; omega
  · match m, hx with
    | 0, hx => simp at hx; subst hx; simp
theorem FW.two {D B j j' c : Nat} {w0 W : World} {l : List Int} (h : DW w0 D l (.slice none 0 0) [] W) (hB : W.heap.size = B) : FW D (.slice none 0 0) (.slice (some ⟨B, 0, none⟩) 2 c) [j, j'] (W.alloc (.cells #[.int .i64 (j : Int), .int .i64 (j' : Int)] 3)) := by
  subst hB
  refine ⟨_, c, rfl, by simp, Or.inr ⟨W.heap.size, rfl, ?_, by simp [Value.ownBlock], by simp, fun m x hx => ?_⟩⟩
  · have := h.lt; omega
  · match m, hx with
    | 0, hx => simp at hx; subst hx; simp
    | 1, hx => simp at hx; subst hx; simp
theorem fm_good {p : PPrg} {h : Int} {l : List Int} (hc : chk p = 0) (hr : 0 ≤ h ∧ h < p.hs.length) (g : Good p.hs (fcode p h) l) : fe p h = 0 ∧ fl p h = l ∧ fm p h = mxl l := by
  have h1 : fe p h = 0 := by unfold fe; rw [if_pos hc, if_pos hr, g.de]
  have h2 : fl p h = l := by unfold fl; rw [if_pos hc, if_pos hr, g.dl]
  exact ⟨h1, h2, by unfold fm; rw [if_pos h1, h2]⟩
theorem fm_bad {p : PPrg} {h : Int} (hc : chk p = 0) (hr : 0 ≤ h ∧ h < p.hs.length) (g : Bad p.hs (fcode p h)) : fe p h = 5 ∧ fl p h = [] ∧ fm p h = -1 := by
  have h1 : fe p h = 5 := by unfold fe; rw [if_pos hc, if_pos hr, g.de]
  have h2 : fl p h = [] := by unfold fl; rw [if_pos hc, if_pos hr, g.dl]
  exact ⟨h1, h2, by unfold fm; rw [if_neg (by rw [h1]; decide)]⟩

set_option maxHeartbeats 20000000 in
set_option maxRecDepth 100000 in
theorem rdepths_in (w : World) (v : Value) (p : PPrg) (h : Nat) (hp : PrgV w v p) (hc0 : chk p = 0) (hh : h < p.hs.length) :
    Calls Tryd.prog 50 #[v, .int .i64 (h : Int)] w fun e w' => ∃ u, e = .returned (.tuple #[u, .int .i64 (fm p h), .int .i64 (fe p h)]) ∧ Ints anyB w' u (fl p h) ∧ Below w.heap.size w w' := by
  obtain ⟨va, vb, vc, rfl, h1, h2, h3⟩ := hp
  obtain ⟨A1, c1, rfl, hl1⟩ := h1.form
  obtain ⟨A2, c2, rfl, hl2⟩ := h2.form
  obtain ⟨A3, c3, rfl, hl3⟩ := h3.form
  clear h2 h3
  obtain ⟨ha, hok⟩ := chk_ok hc0
  obtain ⟨b1, o1, q, v1, rfl, hq, hz1, q1, q2, hv1⟩ := h1.cell (bRefl w) (k := h) hh
  obtain ⟨V1, n1, rfl, hvl⟩ := hv1.form
  obtain ⟨hlen, hoi⟩ := hok q (List.mem_of_getElem? hq)
  have HGood : ∀ l, Good p.hs q.code l → fe p h = 0 ∧ fl p h = l ∧ fm p h = mxl l := fun l g => fm_good hc0 ⟨by omega, by omega⟩ (by rw [fcode_at hq]; exact g)
  have HBad : Bad p.hs q.code → fe p h = 5 ∧ fl p h = [] ∧ fm p h = -1 := fun g => fm_bad hc0 ⟨by omega, by omega⟩ (by rw [fcode_at hq]; exact g)
  have HG : Hid (∀ l, Good p.hs q.code l → fe p h = 0 ∧ fl p h = l ∧ fm p h = mxl l) := HGood
  have HBd : Hid (Bad p.hs q.code → fe p h = 5 ∧ fl p h = [] ∧ fm p h = -1) := HBad
  have HOI : Hid (∀ i ∈ q.code, OkI p.hs q.code.length i) := hoi
  have HA : Hid (OkH p.hs) := ha
  clear HGood HBad hoi ha hok hq hc0
  have HB : ∀ (x : Obj), Below w.heap.size w (w.alloc x) := fun x => bAlloc (bRefl w) x
  have hmk := run_make_row' (P := Tryd.prog) 27 3 (.int .i64 0) 8 Tryd.underlying27 info3 rfl .i64 .i64 (q.code.length + 1) (by omega) (by omega)
  have ec : ((q.code.length + 1 : Nat) : Int) = (q.code.length : Int) + 1 := by omega
  rw [ec] at hmk
  clear ec
  have hcode := hv1.below (HB (.cells #[.slice (some ⟨b1, o1, none⟩) p.hs.length c1, .slice A2 p.acs.length c2, .slice A3 p.bs.length c3, .int .i64 p.fuel] 26))
  have hhnds := h1.below (HB (.cells #[.slice (some ⟨b1, o1, none⟩) p.hs.length c1, .slice A2 p.acs.length c2, .slice A3 p.bs.length c3, .int .i64 p.fuel] 26))
  go_enter Tryd.func50, Tryd.ntmps50
  go_wp2
  go_loopg [10] (q.code.length + 1) (fun g i10 wr => ∃ k : Nat, g = q.code.length + 1 - k ∧ k ≤ q.code.length + 1 ∧ i10 = .int .i64 k ∧ Hid (DW (w.alloc (.cells #[.slice (some ⟨b1, o1, none⟩) p.hs.length c1, .slice A2 p.acs.length c2, .slice A3 p.bs.length c3, .int .i64 p.fuel] 26)) (w.heap.size + 1) (ini (q.code.length + 1) k) (.slice none 0 0) [] wr))
  case atStart => exact ⟨0, rfl, by omega, rfl, by have := DW.start (w.alloc (.cells #[.slice (some ⟨b1, o1, none⟩) p.hs.length c1, .slice A2 p.acs.length c2, .slice A3 p.bs.length c3, .int .i64 p.fuel] 26)) (q.code.length + 1); simp at this; exact this⟩
  case round =>
    obtain ⟨k, rfl, hk, rfl, hd⟩ := hrel
    have hz := hd.out.lt
    have hf := fun j => hd.out.row.frozen j
    by_cases hlt : k < q.code.length + 1
    · have hlt2 : (k : Int) ≤ (q.code.length : Int) := by omega
      obtain ⟨x, hx⟩ := at_lt (l := ini (q.code.length + 1) k) (k := k) (by rw [ini_len hk]; exact hlt)
      have hcell := hd.out.cell hx
      clear hx
      have HN : Hid (DW (w.alloc (.cells #[.slice (some ⟨b1, o1, none⟩) p.hs.length c1, .slice A2 p.acs.length c2, .slice A3 p.bs.length c3, .int .i64 p.fuel] 26)) (w.heap.size + 1) (ini (q.code.length + 1) (k + 1)) (.slice none 0 0) [] (wr.setCell ⟨w.heap.size + 1, k, none⟩ (.int .i64 (-1)))) := by
        have := hd.out.set k (-1)
        rw [ini_set hlt] at this
        exact this
      go_wp2
      go_roundg (q.code.length + 1 - (k + 1))
      case measure => omega
      case rel => exact ⟨k + 1, rfl, by omega, by go_num, HN⟩
    · obtain rfl : k = q.code.length + 1 := by omega
      have h0 := hd.out.cell (j := 0) (x := -1) (by rw [ini_all]; simp)
      have hlt2 : ¬ ((q.code.length + 1 : Nat) : Int) ≤ (q.code.length : Int) := by omega
      have HN : Hid (DW (w.alloc (.cells #[.slice (some ⟨b1, o1, none⟩) p.hs.length c1, .slice A2 p.acs.length c2, .slice A3 p.bs.length c3, .int .i64 p.fuel] 26)) (w.heap.size + 1) ((List.replicate (q.code.length + 1) (-1)).set 0 0) (.slice none 0 0) [] (wr.setCell ⟨w.heap.size + 1, 0, none⟩ (.int .i64 0))) := by
        have := hd.out.set 0 0
        rw [ini_all] at this
        exact this
      clear hd
      go_wp2
      go_loopg [11, 12, 13, 14, 15, 16, 17, 18] (cn ((List.replicate (q.code.length + 1) (-1 : Int)).set 0 0) true) (fun g i11 i12 i13 i14 i15 i16 i17 i18 wr => ∃ l mo ag, g = cn l ag ∧ i11 = .int .i64 mo ∧ i12 = .bool ag ∧ Hid (OutP p.hs q.code l mo ag) ∧ Hid (DW (w.alloc (.cells #[.slice (some ⟨b1, o1, none⟩) p.hs.length c1, .slice A2 p.acs.length c2, .slice A3 p.bs.length c3, .int .i64 p.fuel] 26)) (w.heap.size + 1) l (.slice none 0 0) [] wr))
      case atStart => exact ⟨_, 0, true, rfl, rfl, rfl, Or.inl ⟨rfl, false, 0, Ps.begin⟩, HN⟩
      case round =>
        clear HN hf hz h0 hlt2
        obtain ⟨l, mo, ag, rfl, rfl, rfl, ho, hd⟩ := hrel
        cases ag with
        | false =>
          have HD : Hid (Ps p.hs q.code l mo false q.code.length) := ho.out.done
          have hln := HD.out.len
          have HE : Hid (fe p h = 0 ∧ fl p h = l ∧ fm p h = mo) := by
            have := HG.out l HD.out.good
            rw [← HD.out.most] at this
            exact this
          go_wp2
          go_ret3
          exact ⟨_, by rw [HE.out.1, HE.out.2.2]; rfl, by rw [HE.out.2.1]; have := hd.out.ints (c := q.code.length + 1) (by omega); rw [hln] at this; exact this, bTrans (HB _) hd.out.low⟩
        | true =>
          have HS : Hid (Ps p.hs q.code l mo false 0) := ho.out.again
          go_wp2
          go_loopg [11, 12, 13, 14, 15, 16, 17, 18] q.code.length (fun g i11 i12 i13 i14 i15 i16 i17 i18 wr => ∃ (k : Nat) (l' : List Int) (mo' : Int) (ag' : Bool), g = q.code.length - k ∧ k ≤ q.code.length ∧ i13 = .int .i64 k ∧ i11 = .int .i64 mo' ∧ i12 = .bool ag' ∧ Hid (cn l' ag' ≤ cn l false) ∧ Hid (Ps p.hs q.code l' mo' ag' k) ∧ Hid (DW (w.alloc (.cells #[.slice (some ⟨b1, o1, none⟩) p.hs.length c1, .slice A2 p.acs.length c2, .slice A3 p.bs.length c3, .int .i64 p.fuel] 26)) (w.heap.size + 1) l' (.slice none 0 0) [] wr))
          case atStart => exact ⟨0, l, mo, false, rfl, by omega, rfl, rfl, rfl, Nat.le_refl _, HS, hd⟩
          case round =>
            clear HS ho hd
            obtain ⟨k, l', mo', ag', rfl, hk, rfl, rfl, rfl, hcn, hps, hd⟩ := hrel
            obtain ⟨wo, hwo⟩ : ∃ wo, wo = wr := ⟨wr, rfl⟩
            subst hwo
            have hln := hps.out.len
            by_cases hlt : k < q.code.length
            · obtain ⟨b2, o2, x, rfl, hx, s1, s2⟩ := hcode.cell hd.out.low hlt
              have hzb : b2 < wo.heap.size := World.block_lt_of_cell? _ _ s1
              have hzD := hd.out.lt
              have hk3 : (k : Int) < (q.code.length : Int) + 1 := by omega
              obtain ⟨d, hd0⟩ := at_lt (l := l') (k := k) (by omega)
              have q3 := hd.out.cell hd0
              have HX : Hid (q.code[k]? = some x) := hx
              have HO : Hid (OkI p.hs q.code.length x) := HOI.out x (List.mem_of_getElem? hx)
              have HV : Hid (vl x.op = true) := HO.out.vl
              have HD0 : Hid (l'[k]? = some d) := hd0
              have hbox := bcell hd.out.low
              have hbx0 : wo.cell? ⟨w.heap.size, 0, none⟩ = some (.slice (some ⟨b1, o1, none⟩) p.hs.length c1) := by rw [hbox _ _ (by simp)]; simp
              have hwz : w.heap.size < wo.heap.size := by omega
              have hD9 : w.heap.size + 1 < wo.heap.size + 1 := by omega
              have hb29 : b2 < wo.heap.size + 1 := by omega
              clear hx hd0 hbox
              by_cases hdn : 0 ≤ d
              · have hdn' : ¬ d < 0 := by omega
                have hd8 := (hps.out.toSnd.rch HD0.out hdn).le
                have hpb := po_bd x.op
                have hub : 0 ≤ pu (at_ x.op) ∧ pu (at_ x.op) ≤ 2 := pt_bd x
                by_cases e22 : x.op = 22
                · obtain ⟨sa, sb⟩ := HO.out.snd e22
                  obtain ⟨ks, hks⟩ := Int.eq_ofNat_of_zero_le sa
                  obtain ⟨b5, o5, z, v5, hA5, hz5, hzb5, r1, r2, hv5⟩ := hhnds.cell hd.out.low (k := ks) (by omega)
                  simp only [Option.some.injEq, Addr.mk.injEq, and_true] at hA5
                  obtain ⟨rfl, rfl⟩ := hA5
                  have hza := HA.out z (List.mem_of_getElem? hz5)
                  have hT : tk p.hs x = po (at_ x.op) + z.args := by unfold tk; rw [if_pos e22, hks, argsOf_at hz5]
                  have hks2 : ks < p.hs.length := by omega
                  have hks3 : x.a = (ks : Int) := hks
                  have e22' : (x.op == 22) = true := by simp [e22]
                  have HN22 : Hid (nxt x k = [k + 1]) := by unfold nxt; rw [if_neg (by omega), if_neg (by omega), if_neg (by omega)]; rfl
                  have htb := tk_bd HA.out HO.out
                  rw [hT] at htb
                  have hw1 : IntKind.i64.wrap (d - (po (at_ x.op) + z.args)) = d - (po (at_ x.op) + z.args) := wrap_in (by omega) (by omega)
                  have hw2 : IntKind.i64.wrap (d - (po (at_ x.op) + z.args) + pu (at_ x.op)) = lft p.hs x d := by rw [wrap_in (by omega) (by omega)]; unfold lft pt; rw [hT]
                  have HT : Hid (tk p.hs x = (po (at_ x.op) + z.args)) := hT
                  clear hT
                  by_cases e1 : (po (at_ x.op) + z.args) ≤ d
                  · have e1' : ¬ d < (po (at_ x.op) + z.args) := by omega
                    by_cases e2 : lft p.hs x d ≤ 8
                    · have e2' : ¬ 8 < lft p.hs x d := by omega
                      have HK : Hid (okI p.hs x d) := ⟨by rw [HT.out]; exact e1, e2⟩
                      have HW : Hid (nxt x k = [k + 1]) := HN22.out
                      have x20 : (x.op == 20) = false := by simp [e22]
                      have x21 : (x.op == 21) = false := by simp [e22]
                      have x25 : (x.op == 25) = false := by simp [e22]
                      clear e22 hks
                      go_wp2_with (go_at_call 77; refine (rpops_any _ _ HV.out).mono ?_; rintro e w1 ⟨rfl, hb1⟩; have hc1 := bcell hb1)
                      have hs1 := hb1.size
                      simp at hs1
                      have hzc : wo.heap.size < w1.heap.size := by omega
                      have hzD1 : w.heap.size + 1 < w1.heap.size := by omega
                      go_region_held3 (fun w' => w'.cell? ⟨w.heap.size + 1, k, none⟩ = some (.int .i64 d) ∧ w'.cell? ⟨wo.heap.size, 0, none⟩ = some (.int .i64 x.op)) (go_keep)
                        (first | (go_at_call 78; refine (rputs_any _ _ HV.out).mono ?_; rintro e w2 ⟨rfl, hb2⟩; have hc2 := bcell (undrew hb2)))
                      have HD2 : Hid (DW (w.alloc (.cells #[.slice (some ⟨b1, o1, none⟩) p.hs.length c1, .slice A2 p.acs.length c2, .slice A3 p.bs.length c3, .int .i64 p.fuel] 26)) (w.heap.size + 1) l' (.slice none 0 0) [] w2) := (hd.out.below (bTrans (bAlloc (bRefl _) _) hb1)).below (undrew hb2)
                      go_wp2
                      have HD3 : Hid (DW (w.alloc (.cells #[.slice (some ⟨b1, o1, none⟩) p.hs.length c1, .slice A2 p.acs.length c2, .slice A3 p.bs.length c3, .int .i64 p.fuel] 26)) (w.heap.size + 1) l' (.slice none 0 0) [] (w2.alloc (.cells #[.int .i64 ((k : Int) + 1)] 3))) := HD2.out.below (bAlloc (bRefl _) _)
                      have HF3 : Hid (FW (w.heap.size + 1) (.slice none 0 0) (.slice (some ⟨w2.heap.size, 0, none⟩) 1 1) (nxt x k) (w2.alloc (.cells #[.int .i64 ((k : Int) + 1)] 3))) := by rw [HW.out]; exact by have := FW.one (j := k + 1) (c := 1) HD2.out rfl; simp at this; exact this
                      have HP3 : Hid (Pm p.hs q.code l' (mx3 mo' d (lft p.hs x d)) ag' k d x 0) := hps.out.into HD0.out hdn HX.out HK.out (mx3_ge _ _ _).1 (mx3_ge _ _ _).2.1 (mx3_ge _ _ _).2.2.1 (mx3_ge _ _ _).2.2.2
                      clear hc1 hc2 hb1 hb2 hs1 hzc hzD1 s1 s2 q3 hzb hps hd HD2
                      go_loopg [12, 18] (nxt x k).length (fun g i12 i18 wr => ∃ (m : Nat) (l2 : List Int) (ag2 : Bool), g = (nxt x k).length - m ∧ m ≤ (nxt x k).length ∧ i18 = .int .i64 m ∧ i12 = .bool ag2 ∧ Hid (cn l2 ag2 ≤ cn l false) ∧ Hid (Pm p.hs q.code l2 (mx3 mo' d (lft p.hs x d)) ag2 k d x m) ∧ Hid (DW (w.alloc (.cells #[.slice (some ⟨b1, o1, none⟩) p.hs.length c1, .slice A2 p.acs.length c2, .slice A3 p.bs.length c3, .int .i64 p.fuel] 26)) (w.heap.size + 1) l2 (.slice none 0 0) [] wr) ∧ Hid (FW (w.heap.size + 1) (.slice none 0 0) (.slice (some ⟨w2.heap.size, 0, none⟩) 1 1) (nxt x k) wr))
                      case atStart => exact ⟨0, l', ag', rfl, by omega, rfl, rfl, hcn, HP3, HD3, HF3⟩
                      case round =>
                        clear HP3 HD3 HF3
                        obtain ⟨m, l2, ag2, rfl, hm, rfl, rfl, hcn2, hpm, hd, hfw⟩ := hrel
                        have hln2 := hpm.out.len
                        have hwl : (nxt x k).length = 1 := by rw [HW.out]; rfl
                        by_cases hlt2 : m < 1
                        · obtain rfl : m = 0 := by omega
                          obtain ⟨j, hj⟩ := at_lt (l := nxt x k) (k := 0) (by omega)
                          obtain ⟨b3, c4, hu, hbD, hb3, q4⟩ := hfw.out.cell hj
                          simp only [Value.slice.injEq, Option.some.injEq, Addr.mk.injEq] at hu
                          have hjn := nxt_le HO.out hlt hj
                          obtain ⟨y, hy⟩ := at_lt (l := l2) (k := j) (by omega)
                          have q5 := hd.out.cell hy
                          have hjI : (j : Int) < (q.code.length : Int) + 1 := by omega
                          have hzD := hd.out.lt
                          have hfz := fun j => hd.out.row.frozen j
                          have HJ : Hid ((nxt x k)[0]? = some j) := hj
                          have HY : Hid (l2[j]? = some y) := hy
                          clear hj hy
                          obtain ⟨⟨rfl, -⟩, -⟩ := hu
                          by_cases hy1 : y = -1
                          · have HY1 : Hid (l2[j]? = some (-1)) := by rw [← hy1]; exact HY
                            subst hy1
                            have HS : Hid (DW (w.alloc (.cells #[.slice (some ⟨b1, o1, none⟩) p.hs.length c1, .slice A2 p.acs.length c2, .slice A3 p.bs.length c3, .int .i64 p.fuel] 26)) (w.heap.size + 1) (l2.set j (lft p.hs x d)) (.slice none 0 0) [] (wr.setCell ⟨w.heap.size + 1, j, none⟩ (.int .i64 (lft p.hs x d)))) := hd.out.set j _
                            have HFS : Hid (FW (w.heap.size + 1) (.slice none 0 0) (.slice (some ⟨w2.heap.size, 0, none⟩) 1 1) (nxt x k) (wr.setCell ⟨w.heap.size + 1, j, none⟩ (.int .i64 (lft p.hs x d)))) := hfw.out.set j _
                            have HPS : Hid (Pm p.hs q.code (l2.set j (lft p.hs x d)) (mx3 mo' d (lft p.hs x d)) true k d x (0 + 1)) := hpm.out.new hdn HX.out HK.out HJ.out HY1.out
                            have HC : Hid (cn (l2.set j (lft p.hs x d)) true ≤ cn l false) := Nat.le_trans (cn_new (ag := ag2) HY1.out (lft_nonneg HK.out)) hcn2.out
                            clear hwl
                            go_wp2
                            go_roundg ((nxt x k).length - (0 + 1))
                            case measure => have : (nxt x k).length = 1 := by rw [HW.out]; rfl
                                            omega
                            case rel => exact ⟨0 + 1, _, true, rfl, by have : (nxt x k).length = 1 := by { rw [HW.out]; rfl }; omega, by go_num, rfl, HC, HPS, HS, HFS⟩
                          · have hy0 : 0 ≤ y := by
                              rcases hpm.out.sound j y HY.out with e | e
                              · exact absurd e hy1
                              · exact e.nonneg
                            have hy0' : ¬ y < 0 := by omega
                            by_cases hy2 : y = lft p.hs x d
                            · have e2 := ne_no hy2
                              have HPS : Hid (Pm p.hs q.code l2 (mx3 mo' d (lft p.hs x d)) ag2 k d x (0 + 1)) := hpm.out.old HJ.out (by rw [← hy2]; exact HY)
                              clear hy1 hy2 hwl
                              go_wp2
                              go_roundg ((nxt x k).length - (0 + 1))
                              case measure => have : (nxt x k).length = 1 := by rw [HW.out]; rfl
                                              omega
                              case rel => exact ⟨0 + 1, l2, ag2, rfl, by have : (nxt x k).length = 1 := by { rw [HW.out]; rfl }; omega, by go_num, rfl, hcn2, HPS, hd, hfw⟩
                            · have e2 := ne_yes hy2
                              have HBB : Hid (Bad p.hs q.code) := hpm.out.two hdn HX.out HK.out HJ.out HY.out hy1 hy2
                              clear hy1 hy2 hwl
                              go_wp2
                              go_ret3
                              exact ⟨_, by rw [(HBd.out HBB.out).1, (HBd.out HBB.out).2.2]; rfl, by rw [(HBd.out HBB.out).2.1]; exact sl0, bTrans (HB _) hd.out.low⟩
                        · clear hwl
                          go_wp2
                          go_roundg (q.code.length - (k + 1))
                          case measure => omega
                          case rel => exact ⟨k + 1, l2, mx3 mo' d (lft p.hs x d), ag2, rfl, by omega, by go_num, rfl, rfl, hcn2, hpm.out.out HX.out HK.out (by rw [HW.out]; show 1 ≤ m; omega), hd⟩
                    · have e2' : 8 < lft p.hs x d := by omega
                      have HBB : Hid (Bad p.hs q.code) := hps.out.bad HD0.out hdn HX.out (fun h => e2 h.2)
                      clear e22 e2
                      go_wp2_with (go_at_call 77; refine (rpops_any _ _ HV.out).mono ?_; rintro e w1 ⟨rfl, hb1⟩; have hc1 := bcell hb1)
                      have hs1 := hb1.size
                      simp at hs1
                      have hzc : wo.heap.size < w1.heap.size := by omega
                      have hzD1 : w.heap.size + 1 < w1.heap.size := by omega
                      go_region_held3 (fun w' => w'.cell? ⟨w.heap.size + 1, k, none⟩ = some (.int .i64 d) ∧ w'.cell? ⟨wo.heap.size, 0, none⟩ = some (.int .i64 x.op)) (go_keep)
                        (first | (go_at_call 78; refine (rputs_any _ _ HV.out).mono ?_; rintro e w2 ⟨rfl, hb2⟩; have hc2 := bcell (undrew hb2)))
                      have HD2 : Hid (DW (w.alloc (.cells #[.slice (some ⟨b1, o1, none⟩) p.hs.length c1, .slice A2 p.acs.length c2, .slice A3 p.bs.length c3, .int .i64 p.fuel] 26)) (w.heap.size + 1) l' (.slice none 0 0) [] w2) := (hd.out.below (bTrans (bAlloc (bRefl _) _) hb1)).below (undrew hb2)
                      go_wp2
                      go_ret3
                      exact ⟨_, by rw [(HBd.out HBB.out).1, (HBd.out HBB.out).2.2]; rfl, by rw [(HBd.out HBB.out).2.1]; exact sl0, bTrans (HB _) HD2.out.low⟩
                  · have e1' : d < (po (at_ x.op) + z.args) := by omega
                    have HBB : Hid (Bad p.hs q.code) := hps.out.bad HD0.out hdn HX.out (fun h => e1 (by rw [← HT.out]; exact h.1))
                    clear e22 e1
                    go_wp2_with (go_at_call 77; refine (rpops_any _ _ HV.out).mono ?_; rintro e w1 ⟨rfl, hb1⟩; have hc1 := bcell hb1)
                    have hs1 := hb1.size
                    simp at hs1
                    have hzc : wo.heap.size < w1.heap.size := by omega
                    have hzD1 : w.heap.size + 1 < w1.heap.size := by omega
                    go_region_held3 (fun w' => w'.cell? ⟨w.heap.size + 1, k, none⟩ = some (.int .i64 d) ∧ w'.cell? ⟨wo.heap.size, 0, none⟩ = some (.int .i64 x.op)) (go_keep)
                      (first | (go_at_call 78; refine (rputs_any _ _ HV.out).mono ?_; rintro e w2 ⟨rfl, hb2⟩; have hc2 := bcell (undrew hb2)))
                    have HD2 : Hid (DW (w.alloc (.cells #[.slice (some ⟨b1, o1, none⟩) p.hs.length c1, .slice A2 p.acs.length c2, .slice A3 p.bs.length c3, .int .i64 p.fuel] 26)) (w.heap.size + 1) l' (.slice none 0 0) [] w2) := (hd.out.below (bTrans (bAlloc (bRefl _) _) hb1)).below (undrew hb2)
                    go_wp2
                    go_ret3
                    exact ⟨_, by rw [(HBd.out HBB.out).1, (HBd.out HBB.out).2.2]; rfl, by rw [(HBd.out HBB.out).2.1]; exact sl0, bTrans (HB _) HD2.out.low⟩
                · have hT : tk p.hs x = po (at_ x.op) := by unfold tk; rw [if_neg e22]
                  have e22' : (x.op == 22) = false := by simp [e22]
                  have htb := tk_bd HA.out HO.out
                  rw [hT] at htb
                  have hw1 : IntKind.i64.wrap (d - po (at_ x.op)) = d - po (at_ x.op) := wrap_in (by omega) (by omega)
                  have hw2 : IntKind.i64.wrap (d - po (at_ x.op) + pu (at_ x.op)) = lft p.hs x d := by rw [wrap_in (by omega) (by omega)]; unfold lft pt; rw [hT]
                  have HT : Hid (tk p.hs x = po (at_ x.op)) := hT
                  clear hT
                  by_cases e1 : po (at_ x.op) ≤ d
                  · have e1' : ¬ d < po (at_ x.op) := by omega
                    by_cases e2 : lft p.hs x d ≤ 8
                    · have e2' : ¬ 8 < lft p.hs x d := by omega
                      have HK : Hid (okI p.hs x d) := ⟨by rw [HT.out]; exact e1, e2⟩
                      by_cases e20 : x.op = 20
                      · have x20 : (x.op == 20) = true := by simp [e20]
                        obtain ⟨m0, hm0⟩ := Int.eq_ofNat_of_zero_le (HO.out.tgt (Or.inl e20)).1
                        have HW : Hid (nxt x k = [m0]) := by unfold nxt; rw [if_neg (by omega), if_pos e20, hm0]; rfl
                        clear e20 e22
                        go_wp2_with (go_at_call 77; refine (rpops_any _ _ HV.out).mono ?_; rintro e w1 ⟨rfl, hb1⟩; have hc1 := bcell hb1)
                        have hs1 := hb1.size
                        simp at hs1
                        have hzc : wo.heap.size < w1.heap.size := by omega
                        have hzD1 : w.heap.size + 1 < w1.heap.size := by omega
                        go_region_held3 (fun w' => w'.cell? ⟨w.heap.size + 1, k, none⟩ = some (.int .i64 d) ∧ w'.cell? ⟨wo.heap.size, 0, none⟩ = some (.int .i64 x.op)) (go_keep)
                          (first | (go_at_call 78; refine (rputs_any _ _ HV.out).mono ?_; rintro e w2 ⟨rfl, hb2⟩; have hc2 := bcell (undrew hb2)))
                        have HD2 : Hid (DW (w.alloc (.cells #[.slice (some ⟨b1, o1, none⟩) p.hs.length c1, .slice A2 p.acs.length c2, .slice A3 p.bs.length c3, .int .i64 p.fuel] 26)) (w.heap.size + 1) l' (.slice none 0 0) [] w2) := (hd.out.below (bTrans (bAlloc (bRefl _) _) hb1)).below (undrew hb2)
                        go_wp2
                        have HD3 : Hid (DW (w.alloc (.cells #[.slice (some ⟨b1, o1, none⟩) p.hs.length c1, .slice A2 p.acs.length c2, .slice A3 p.bs.length c3, .int .i64 p.fuel] 26)) (w.heap.size + 1) l' (.slice none 0 0) [] (w2.alloc (.cells #[.int .i64 (m0 : Int)] 3))) := HD2.out.below (bAlloc (bRefl _) _)
                        have HF3 : Hid (FW (w.heap.size + 1) (.slice none 0 0) (.slice (some ⟨w2.heap.size, 0, none⟩) 1 1) (nxt x k) (w2.alloc (.cells #[.int .i64 (m0 : Int)] 3))) := by rw [HW.out]; exact FW.one HD2.out rfl
                        have HP3 : Hid (Pm p.hs q.code l' (mx3 mo' d (lft p.hs x d)) ag' k d x 0) := hps.out.into HD0.out hdn HX.out HK.out (mx3_ge _ _ _).1 (mx3_ge _ _ _).2.1 (mx3_ge _ _ _).2.2.1 (mx3_ge _ _ _).2.2.2
                        clear hc1 hc2 hb1 hb2 hs1 hzc hzD1 s1 s2 q3 hzb hps hd HD2
                        go_loopg [12, 18] (nxt x k).length (fun g i12 i18 wr => ∃ (m : Nat) (l2 : List Int) (ag2 : Bool), g = (nxt x k).length - m ∧ m ≤ (nxt x k).length ∧ i18 = .int .i64 m ∧ i12 = .bool ag2 ∧ Hid (cn l2 ag2 ≤ cn l false) ∧ Hid (Pm p.hs q.code l2 (mx3 mo' d (lft p.hs x d)) ag2 k d x m) ∧ Hid (DW (w.alloc (.cells #[.slice (some ⟨b1, o1, none⟩) p.hs.length c1, .slice A2 p.acs.length c2, .slice A3 p.bs.length c3, .int .i64 p.fuel] 26)) (w.heap.size + 1) l2 (.slice none 0 0) [] wr) ∧ Hid (FW (w.heap.size + 1) (.slice none 0 0) (.slice (some ⟨w2.heap.size, 0, none⟩) 1 1) (nxt x k) wr))
                        case atStart => exact ⟨0, l', ag', rfl, by omega, rfl, rfl, hcn, HP3, HD3, HF3⟩
                        case round =>
                          clear HP3 HD3 HF3
                          obtain ⟨m, l2, ag2, rfl, hm, rfl, rfl, hcn2, hpm, hd, hfw⟩ := hrel
                          have hln2 := hpm.out.len
                          have hwl : (nxt x k).length = 1 := by rw [HW.out]; rfl
                          by_cases hlt2 : m < 1
                          · obtain rfl : m = 0 := by omega
                            obtain ⟨j, hj⟩ := at_lt (l := nxt x k) (k := 0) (by omega)
                            obtain ⟨b3, c4, hu, hbD, hb3, q4⟩ := hfw.out.cell hj
                            simp only [Value.slice.injEq, Option.some.injEq, Addr.mk.injEq] at hu
                            have hjn := nxt_le HO.out hlt hj
                            obtain ⟨y, hy⟩ := at_lt (l := l2) (k := j) (by omega)
                            have q5 := hd.out.cell hy
                            have hjI : (j : Int) < (q.code.length : Int) + 1 := by omega
                            have hzD := hd.out.lt
                            have hfz := fun j => hd.out.row.frozen j
                            have HJ : Hid ((nxt x k)[0]? = some j) := hj
                            have HY : Hid (l2[j]? = some y) := hy
                            clear hj hy
                            obtain ⟨⟨rfl, -⟩, -⟩ := hu
                            by_cases hy1 : y = -1
                            · have HY1 : Hid (l2[j]? = some (-1)) := by rw [← hy1]; exact HY
                              subst hy1
                              have HS : Hid (DW (w.alloc (.cells #[.slice (some ⟨b1, o1, none⟩) p.hs.length c1, .slice A2 p.acs.length c2, .slice A3 p.bs.length c3, .int .i64 p.fuel] 26)) (w.heap.size + 1) (l2.set j (lft p.hs x d)) (.slice none 0 0) [] (wr.setCell ⟨w.heap.size + 1, j, none⟩ (.int .i64 (lft p.hs x d)))) := hd.out.set j _
                              have HFS : Hid (FW (w.heap.size + 1) (.slice none 0 0) (.slice (some ⟨w2.heap.size, 0, none⟩) 1 1) (nxt x k) (wr.setCell ⟨w.heap.size + 1, j, none⟩ (.int .i64 (lft p.hs x d)))) := hfw.out.set j _
                              have HPS : Hid (Pm p.hs q.code (l2.set j (lft p.hs x d)) (mx3 mo' d (lft p.hs x d)) true k d x (0 + 1)) := hpm.out.new hdn HX.out HK.out HJ.out HY1.out
                              have HC : Hid (cn (l2.set j (lft p.hs x d)) true ≤ cn l false) := Nat.le_trans (cn_new (ag := ag2) HY1.out (lft_nonneg HK.out)) hcn2.out
                              clear hwl
                              go_wp2
                              go_roundg ((nxt x k).length - (0 + 1))
                              case measure => have : (nxt x k).length = 1 := by rw [HW.out]; rfl
                                              omega
                              case rel => exact ⟨0 + 1, _, true, rfl, by have : (nxt x k).length = 1 := by { rw [HW.out]; rfl }; omega, by go_num, rfl, HC, HPS, HS, HFS⟩
                            · have hy0 : 0 ≤ y := by
                                rcases hpm.out.sound j y HY.out with e | e
                                · exact absurd e hy1
                                · exact e.nonneg
                              have hy0' : ¬ y < 0 := by omega
                              by_cases hy2 : y = lft p.hs x d
                              · have e2 := ne_no hy2
                                have HPS : Hid (Pm p.hs q.code l2 (mx3 mo' d (lft p.hs x d)) ag2 k d x (0 + 1)) := hpm.out.old HJ.out (by rw [← hy2]; exact HY)
                                clear hy1 hy2 hwl
                                go_wp2
                                go_roundg ((nxt x k).length - (0 + 1))
                                case measure => have : (nxt x k).length = 1 := by rw [HW.out]; rfl
                                                omega
                                case rel => exact ⟨0 + 1, l2, ag2, rfl, by have : (nxt x k).length = 1 := by { rw [HW.out]; rfl }; omega, by go_num, rfl, hcn2, HPS, hd, hfw⟩
                              · have e2 := ne_yes hy2
                                have HBB : Hid (Bad p.hs q.code) := hpm.out.two hdn HX.out HK.out HJ.out HY.out hy1 hy2
                                clear hy1 hy2 hwl
                                go_wp2
                                go_ret3
                                exact ⟨_, by rw [(HBd.out HBB.out).1, (HBd.out HBB.out).2.2]; rfl, by rw [(HBd.out HBB.out).2.1]; exact sl0, bTrans (HB _) hd.out.low⟩
                          · clear hwl
                            go_wp2
                            go_roundg (q.code.length - (k + 1))
                            case measure => omega
                            case rel => exact ⟨k + 1, l2, mx3 mo' d (lft p.hs x d), ag2, rfl, by omega, by go_num, rfl, rfl, hcn2, hpm.out.out HX.out HK.out (by rw [HW.out]; show 1 ≤ m; omega), hd⟩
                      · have x20 : (x.op == 20) = false := by simp [e20]
                        by_cases e21 : x.op = 21
                        · have x21 : (x.op == 21) = true := by simp [e21]
                          obtain ⟨m0, hm0⟩ := Int.eq_ofNat_of_zero_le (HO.out.tgt (Or.inr e21)).1
                          have HW : Hid (nxt x k = [m0, k + 1]) := by unfold nxt; rw [if_neg (by omega), if_neg e20, if_pos e21, hm0]; rfl
                          clear e20 e21 e22
                          go_wp2_with (go_at_call 77; refine (rpops_any _ _ HV.out).mono ?_; rintro e w1 ⟨rfl, hb1⟩; have hc1 := bcell hb1)
                          have hs1 := hb1.size
                          simp at hs1
                          have hzc : wo.heap.size < w1.heap.size := by omega
                          have hzD1 : w.heap.size + 1 < w1.heap.size := by omega
                          go_region_held3 (fun w' => w'.cell? ⟨w.heap.size + 1, k, none⟩ = some (.int .i64 d) ∧ w'.cell? ⟨wo.heap.size, 0, none⟩ = some (.int .i64 x.op)) (go_keep)
                            (first | (go_at_call 78; refine (rputs_any _ _ HV.out).mono ?_; rintro e w2 ⟨rfl, hb2⟩; have hc2 := bcell (undrew hb2)))
                          have HD2 : Hid (DW (w.alloc (.cells #[.slice (some ⟨b1, o1, none⟩) p.hs.length c1, .slice A2 p.acs.length c2, .slice A3 p.bs.length c3, .int .i64 p.fuel] 26)) (w.heap.size + 1) l' (.slice none 0 0) [] w2) := (hd.out.below (bTrans (bAlloc (bRefl _) _) hb1)).below (undrew hb2)
                          go_wp2
                          have HD3 : Hid (DW (w.alloc (.cells #[.slice (some ⟨b1, o1, none⟩) p.hs.length c1, .slice A2 p.acs.length c2, .slice A3 p.bs.length c3, .int .i64 p.fuel] 26)) (w.heap.size + 1) l' (.slice none 0 0) [] (w2.alloc (.cells #[.int .i64 (m0 : Int), .int .i64 ((k : Int) + 1)] 3))) := HD2.out.below (bAlloc (bRefl _) _)
                          have HF3 : Hid (FW (w.heap.size + 1) (.slice none 0 0) (.slice (some ⟨w2.heap.size, 0, none⟩) 2 2) (nxt x k) (w2.alloc (.cells #[.int .i64 (m0 : Int), .int .i64 ((k : Int) + 1)] 3))) := by rw [HW.out]; exact by have := FW.two (j := m0) (j' := k + 1) (c := 2) HD2.out rfl; simp at this; exact this
                          have HP3 : Hid (Pm p.hs q.code l' (mx3 mo' d (lft p.hs x d)) ag' k d x 0) := hps.out.into HD0.out hdn HX.out HK.out (mx3_ge _ _ _).1 (mx3_ge _ _ _).2.1 (mx3_ge _ _ _).2.2.1 (mx3_ge _ _ _).2.2.2
                          clear hc1 hc2 hb1 hb2 hs1 hzc hzD1 s1 s2 q3 hzb hps hd HD2
                          go_loopg [12, 18] (nxt x k).length (fun g i12 i18 wr => ∃ (m : Nat) (l2 : List Int) (ag2 : Bool), g = (nxt x k).length - m ∧ m ≤ (nxt x k).length ∧ i18 = .int .i64 m ∧ i12 = .bool ag2 ∧ Hid (cn l2 ag2 ≤ cn l false) ∧ Hid (Pm p.hs q.code l2 (mx3 mo' d (lft p.hs x d)) ag2 k d x m) ∧ Hid (DW (w.alloc (.cells #[.slice (some ⟨b1, o1, none⟩) p.hs.length c1, .slice A2 p.acs.length c2, .slice A3 p.bs.length c3, .int .i64 p.fuel] 26)) (w.heap.size + 1) l2 (.slice none 0 0) [] wr) ∧ Hid (FW (w.heap.size + 1) (.slice none 0 0) (.slice (some ⟨w2.heap.size, 0, none⟩) 2 2) (nxt x k) wr))
                          case atStart => exact ⟨0, l', ag', rfl, by omega, rfl, rfl, hcn, HP3, HD3, HF3⟩
                          case round =>
                            clear HP3 HD3 HF3
                            obtain ⟨m, l2, ag2, rfl, hm, rfl, rfl, hcn2, hpm, hd, hfw⟩ := hrel
                            have hln2 := hpm.out.len
                            have hwl : (nxt x k).length = 2 := by rw [HW.out]; rfl
                            by_cases hlt2 : m < 2
                            · obtain ⟨j, hj⟩ := at_lt (l := nxt x k) (k := m) (by omega)
                              obtain ⟨b3, c4, hu, hbD, hb3, q4⟩ := hfw.out.cell hj
                              simp only [Value.slice.injEq, Option.some.injEq, Addr.mk.injEq] at hu
                              have hjn := nxt_le HO.out hlt hj
                              obtain ⟨y, hy⟩ := at_lt (l := l2) (k := j) (by omega)
                              have q5 := hd.out.cell hy
                              have hjI : (j : Int) < (q.code.length : Int) + 1 := by omega
                              have hzD := hd.out.lt
                              have hfz := fun j => hd.out.row.frozen j
                              have HJ : Hid ((nxt x k)[m]? = some j) := hj
                              have HY : Hid (l2[j]? = some y) := hy
                              clear hj hy
                              obtain ⟨⟨rfl, -⟩, -⟩ := hu
                              by_cases hy1 : y = -1
                              · have HY1 : Hid (l2[j]? = some (-1)) := by rw [← hy1]; exact HY
                                subst hy1
                                have HS : Hid (DW (w.alloc (.cells #[.slice (some ⟨b1, o1, none⟩) p.hs.length c1, .slice A2 p.acs.length c2, .slice A3 p.bs.length c3, .int .i64 p.fuel] 26)) (w.heap.size + 1) (l2.set j (lft p.hs x d)) (.slice none 0 0) [] (wr.setCell ⟨w.heap.size + 1, j, none⟩ (.int .i64 (lft p.hs x d)))) := hd.out.set j _
                                have HFS : Hid (FW (w.heap.size + 1) (.slice none 0 0) (.slice (some ⟨w2.heap.size, 0, none⟩) 2 2) (nxt x k) (wr.setCell ⟨w.heap.size + 1, j, none⟩ (.int .i64 (lft p.hs x d)))) := hfw.out.set j _
                                have HPS : Hid (Pm p.hs q.code (l2.set j (lft p.hs x d)) (mx3 mo' d (lft p.hs x d)) true k d x (m + 1)) := hpm.out.new hdn HX.out HK.out HJ.out HY1.out
                                have HC : Hid (cn (l2.set j (lft p.hs x d)) true ≤ cn l false) := Nat.le_trans (cn_new (ag := ag2) HY1.out (lft_nonneg HK.out)) hcn2.out
                                clear hwl
                                go_wp2
                                go_roundg ((nxt x k).length - (m + 1))
                                case measure => have : (nxt x k).length = 2 := by rw [HW.out]; rfl
                                                omega
                                case rel => exact ⟨m + 1, _, true, rfl, by have : (nxt x k).length = 2 := by { rw [HW.out]; rfl }; omega, by go_num, rfl, HC, HPS, HS, HFS⟩
                              · have hy0 : 0 ≤ y := by
                                  rcases hpm.out.sound j y HY.out with e | e
                                  · exact absurd e hy1
                                  · exact e.nonneg
                                have hy0' : ¬ y < 0 := by omega
                                by_cases hy2 : y = lft p.hs x d
                                · have e2 := ne_no hy2
                                  have HPS : Hid (Pm p.hs q.code l2 (mx3 mo' d (lft p.hs x d)) ag2 k d x (m + 1)) := hpm.out.old HJ.out (by rw [← hy2]; exact HY)
                                  clear hy1 hy2 hwl
                                  go_wp2
                                  go_roundg ((nxt x k).length - (m + 1))
                                  case measure => have : (nxt x k).length = 2 := by rw [HW.out]; rfl
                                                  omega
                                  case rel => exact ⟨m + 1, l2, ag2, rfl, by have : (nxt x k).length = 2 := by { rw [HW.out]; rfl }; omega, by go_num, rfl, hcn2, HPS, hd, hfw⟩
                                · have e2 := ne_yes hy2
                                  have HBB : Hid (Bad p.hs q.code) := hpm.out.two hdn HX.out HK.out HJ.out HY.out hy1 hy2
                                  clear hy1 hy2 hwl
                                  go_wp2
                                  go_ret3
                                  exact ⟨_, by rw [(HBd.out HBB.out).1, (HBd.out HBB.out).2.2]; rfl, by rw [(HBd.out HBB.out).2.1]; exact sl0, bTrans (HB _) hd.out.low⟩
                            · clear hwl
                              go_wp2
                              go_roundg (q.code.length - (k + 1))
                              case measure => omega
                              case rel => exact ⟨k + 1, l2, mx3 mo' d (lft p.hs x d), ag2, rfl, by omega, by go_num, rfl, rfl, hcn2, hpm.out.out HX.out HK.out (by rw [HW.out]; show 2 ≤ m; omega), hd⟩
                        · have x21 : (x.op == 21) = false := by simp [e21]
                          by_cases e25 : x.op = 25
                          · have x25 : (x.op == 25) = true := by simp [e25]
                            have HW : Hid (nxt x k = []) := by unfold nxt; rw [if_pos e25]; rfl
                            clear e20 e21 e22 e25
                            go_wp2_with (go_at_call 77; refine (rpops_any _ _ HV.out).mono ?_; rintro e w1 ⟨rfl, hb1⟩; have hc1 := bcell hb1)
                            have hs1 := hb1.size
                            simp at hs1
                            have hzc : wo.heap.size < w1.heap.size := by omega
                            have hzD1 : w.heap.size + 1 < w1.heap.size := by omega
                            go_region_held3 (fun w' => w'.cell? ⟨w.heap.size + 1, k, none⟩ = some (.int .i64 d) ∧ w'.cell? ⟨wo.heap.size, 0, none⟩ = some (.int .i64 x.op)) (go_keep)
                              (first | (go_at_call 78; refine (rputs_any _ _ HV.out).mono ?_; rintro e w2 ⟨rfl, hb2⟩; have hc2 := bcell (undrew hb2)))
                            have HD2 : Hid (DW (w.alloc (.cells #[.slice (some ⟨b1, o1, none⟩) p.hs.length c1, .slice A2 p.acs.length c2, .slice A3 p.bs.length c3, .int .i64 p.fuel] 26)) (w.heap.size + 1) l' (.slice none 0 0) [] w2) := (hd.out.below (bTrans (bAlloc (bRefl _) _) hb1)).below (undrew hb2)
                            go_wp2
                            have HD3 : Hid (DW (w.alloc (.cells #[.slice (some ⟨b1, o1, none⟩) p.hs.length c1, .slice A2 p.acs.length c2, .slice A3 p.bs.length c3, .int .i64 p.fuel] 26)) (w.heap.size + 1) l' (.slice none 0 0) [] w2) := HD2.out
                            have HF3 : Hid (FW (w.heap.size + 1) (.slice none 0 0) (.slice none 0 0) (nxt x k) w2) := by rw [HW.out]; exact FW.empty
                            have HP3 : Hid (Pm p.hs q.code l' (mx3 mo' d (lft p.hs x d)) ag' k d x 0) := hps.out.into HD0.out hdn HX.out HK.out (mx3_ge _ _ _).1 (mx3_ge _ _ _).2.1 (mx3_ge _ _ _).2.2.1 (mx3_ge _ _ _).2.2.2
                            clear hc1 hc2 hb1 hb2 hs1 hzc hzD1 s1 s2 q3 hzb hps hd HD2
                            go_loopg [12, 18] (nxt x k).length (fun g i12 i18 wr => ∃ (m : Nat) (l2 : List Int) (ag2 : Bool), g = (nxt x k).length - m ∧ m ≤ (nxt x k).length ∧ i18 = .int .i64 m ∧ i12 = .bool ag2 ∧ Hid (cn l2 ag2 ≤ cn l false) ∧ Hid (Pm p.hs q.code l2 (mx3 mo' d (lft p.hs x d)) ag2 k d x m) ∧ Hid (DW (w.alloc (.cells #[.slice (some ⟨b1, o1, none⟩) p.hs.length c1, .slice A2 p.acs.length c2, .slice A3 p.bs.length c3, .int .i64 p.fuel] 26)) (w.heap.size + 1) l2 (.slice none 0 0) [] wr) ∧ Hid (FW (w.heap.size + 1) (.slice none 0 0) (.slice none 0 0) (nxt x k) wr))
                            case atStart => exact ⟨0, l', ag', rfl, by omega, rfl, rfl, hcn, HP3, HD3, HF3⟩
                            case round =>
                              clear HP3 HD3 HF3
                              obtain ⟨m, l2, ag2, rfl, hm, rfl, rfl, hcn2, hpm, hd, hfw⟩ := hrel
                              have hln2 := hpm.out.len
                              have hwl : (nxt x k).length = 0 := by rw [HW.out]; rfl
                              by_cases hlt2 : m < 0
                              · omega
                              · clear hwl
                                go_wp2
                                go_roundg (q.code.length - (k + 1))
                                case measure => omega
                                case rel => exact ⟨k + 1, l2, mx3 mo' d (lft p.hs x d), ag2, rfl, by omega, by go_num, rfl, rfl, hcn2, hpm.out.out HX.out HK.out (by rw [HW.out]; show 0 ≤ m; omega), hd⟩
                          · have x25 : (x.op == 25) = false := by simp [e25]
                            have HW : Hid (nxt x k = [k + 1]) := by unfold nxt; rw [if_neg e25, if_neg e20, if_neg e21]; rfl
                            clear e20 e21 e22 e25
                            go_wp2_with (go_at_call 77; refine (rpops_any _ _ HV.out).mono ?_; rintro e w1 ⟨rfl, hb1⟩; have hc1 := bcell hb1)
                            have hs1 := hb1.size
                            simp at hs1
                            have hzc : wo.heap.size < w1.heap.size := by omega
                            have hzD1 : w.heap.size + 1 < w1.heap.size := by omega
                            go_region_held3 (fun w' => w'.cell? ⟨w.heap.size + 1, k, none⟩ = some (.int .i64 d) ∧ w'.cell? ⟨wo.heap.size, 0, none⟩ = some (.int .i64 x.op)) (go_keep)
                              (first | (go_at_call 78; refine (rputs_any _ _ HV.out).mono ?_; rintro e w2 ⟨rfl, hb2⟩; have hc2 := bcell (undrew hb2)))
                            have HD2 : Hid (DW (w.alloc (.cells #[.slice (some ⟨b1, o1, none⟩) p.hs.length c1, .slice A2 p.acs.length c2, .slice A3 p.bs.length c3, .int .i64 p.fuel] 26)) (w.heap.size + 1) l' (.slice none 0 0) [] w2) := (hd.out.below (bTrans (bAlloc (bRefl _) _) hb1)).below (undrew hb2)
                            go_wp2
                            have HD3 : Hid (DW (w.alloc (.cells #[.slice (some ⟨b1, o1, none⟩) p.hs.length c1, .slice A2 p.acs.length c2, .slice A3 p.bs.length c3, .int .i64 p.fuel] 26)) (w.heap.size + 1) l' (.slice none 0 0) [] (w2.alloc (.cells #[.int .i64 ((k : Int) + 1)] 3))) := HD2.out.below (bAlloc (bRefl _) _)
                            have HF3 : Hid (FW (w.heap.size + 1) (.slice none 0 0) (.slice (some ⟨w2.heap.size, 0, none⟩) 1 1) (nxt x k) (w2.alloc (.cells #[.int .i64 ((k : Int) + 1)] 3))) := by rw [HW.out]; exact by have := FW.one (j := k + 1) (c := 1) HD2.out rfl; simp at this; exact this
                            have HP3 : Hid (Pm p.hs q.code l' (mx3 mo' d (lft p.hs x d)) ag' k d x 0) := hps.out.into HD0.out hdn HX.out HK.out (mx3_ge _ _ _).1 (mx3_ge _ _ _).2.1 (mx3_ge _ _ _).2.2.1 (mx3_ge _ _ _).2.2.2
                            clear hc1 hc2 hb1 hb2 hs1 hzc hzD1 s1 s2 q3 hzb hps hd HD2
                            go_loopg [12, 18] (nxt x k).length (fun g i12 i18 wr => ∃ (m : Nat) (l2 : List Int) (ag2 : Bool), g = (nxt x k).length - m ∧ m ≤ (nxt x k).length ∧ i18 = .int .i64 m ∧ i12 = .bool ag2 ∧ Hid (cn l2 ag2 ≤ cn l false) ∧ Hid (Pm p.hs q.code l2 (mx3 mo' d (lft p.hs x d)) ag2 k d x m) ∧ Hid (DW (w.alloc (.cells #[.slice (some ⟨b1, o1, none⟩) p.hs.length c1, .slice A2 p.acs.length c2, .slice A3 p.bs.length c3, .int .i64 p.fuel] 26)) (w.heap.size + 1) l2 (.slice none 0 0) [] wr) ∧ Hid (FW (w.heap.size + 1) (.slice none 0 0) (.slice (some ⟨w2.heap.size, 0, none⟩) 1 1) (nxt x k) wr))
                            case atStart => exact ⟨0, l', ag', rfl, by omega, rfl, rfl, hcn, HP3, HD3, HF3⟩
                            case round =>
                              clear HP3 HD3 HF3
                              obtain ⟨m, l2, ag2, rfl, hm, rfl, rfl, hcn2, hpm, hd, hfw⟩ := hrel
                              have hln2 := hpm.out.len
                              have hwl : (nxt x k).length = 1 := by rw [HW.out]; rfl
                              by_cases hlt2 : m < 1
                              · obtain rfl : m = 0 := by omega
                                obtain ⟨j, hj⟩ := at_lt (l := nxt x k) (k := 0) (by omega)
                                obtain ⟨b3, c4, hu, hbD, hb3, q4⟩ := hfw.out.cell hj
                                simp only [Value.slice.injEq, Option.some.injEq, Addr.mk.injEq] at hu
                                have hjn := nxt_le HO.out hlt hj
                                obtain ⟨y, hy⟩ := at_lt (l := l2) (k := j) (by omega)
                                have q5 := hd.out.cell hy
                                have hjI : (j : Int) < (q.code.length : Int) + 1 := by omega
                                have hzD := hd.out.lt
                                have hfz := fun j => hd.out.row.frozen j
                                have HJ : Hid ((nxt x k)[0]? = some j) := hj
                                have HY : Hid (l2[j]? = some y) := hy
                                clear hj hy
                                obtain ⟨⟨rfl, -⟩, -⟩ := hu
                                by_cases hy1 : y = -1
                                · have HY1 : Hid (l2[j]? = some (-1)) := by rw [← hy1]; exact HY
                                  subst hy1
                                  have HS : Hid (DW (w.alloc (.cells #[.slice (some ⟨b1, o1, none⟩) p.hs.length c1, .slice A2 p.acs.length c2, .slice A3 p.bs.length c3, .int .i64 p.fuel] 26)) (w.heap.size + 1) (l2.set j (lft p.hs x d)) (.slice none 0 0) [] (wr.setCell ⟨w.heap.size + 1, j, none⟩ (.int .i64 (lft p.hs x d)))) := hd.out.set j _
                                  have HFS : Hid (FW (w.heap.size + 1) (.slice none 0 0) (.slice (some ⟨w2.heap.size, 0, none⟩) 1 1) (nxt x k) (wr.setCell ⟨w.heap.size + 1, j, none⟩ (.int .i64 (lft p.hs x d)))) := hfw.out.set j _
                                  have HPS : Hid (Pm p.hs q.code (l2.set j (lft p.hs x d)) (mx3 mo' d (lft p.hs x d)) true k d x (0 + 1)) := hpm.out.new hdn HX.out HK.out HJ.out HY1.out
                                  have HC : Hid (cn (l2.set j (lft p.hs x d)) true ≤ cn l false) := Nat.le_trans (cn_new (ag := ag2) HY1.out (lft_nonneg HK.out)) hcn2.out
                                  clear hwl
                                  go_wp2
                                  go_roundg ((nxt x k).length - (0 + 1))
                                  case measure => have : (nxt x k).length = 1 := by rw [HW.out]; rfl
                                                  omega
                                  case rel => exact ⟨0 + 1, _, true, rfl, by have : (nxt x k).length = 1 := by { rw [HW.out]; rfl }; omega, by go_num, rfl, HC, HPS, HS, HFS⟩
                                · have hy0 : 0 ≤ y := by
                                    rcases hpm.out.sound j y HY.out with e | e
                                    · exact absurd e hy1
                                    · exact e.nonneg
                                  have hy0' : ¬ y < 0 := by omega
                                  by_cases hy2 : y = lft p.hs x d
                                  · have e2 := ne_no hy2
                                    have HPS : Hid (Pm p.hs q.code l2 (mx3 mo' d (lft p.hs x d)) ag2 k d x (0 + 1)) := hpm.out.old HJ.out (by rw [← hy2]; exact HY)
                                    clear hy1 hy2 hwl
                                    go_wp2
                                    go_roundg ((nxt x k).length - (0 + 1))
                                    case measure => have : (nxt x k).length = 1 := by rw [HW.out]; rfl
                                                    omega
                                    case rel => exact ⟨0 + 1, l2, ag2, rfl, by have : (nxt x k).length = 1 := by { rw [HW.out]; rfl }; omega, by go_num, rfl, hcn2, HPS, hd, hfw⟩
                                  · have e2 := ne_yes hy2
                                    have HBB : Hid (Bad p.hs q.code) := hpm.out.two hdn HX.out HK.out HJ.out HY.out hy1 hy2
                                    clear hy1 hy2 hwl
                                    go_wp2
                                    go_ret3
                                    exact ⟨_, by rw [(HBd.out HBB.out).1, (HBd.out HBB.out).2.2]; rfl, by rw [(HBd.out HBB.out).2.1]; exact sl0, bTrans (HB _) hd.out.low⟩
                              · clear hwl
                                go_wp2
                                go_roundg (q.code.length - (k + 1))
                                case measure => omega
                                case rel => exact ⟨k + 1, l2, mx3 mo' d (lft p.hs x d), ag2, rfl, by omega, by go_num, rfl, rfl, hcn2, hpm.out.out HX.out HK.out (by rw [HW.out]; show 1 ≤ m; omega), hd⟩
                    · have e2' : 8 < lft p.hs x d := by omega
                      have HBB : Hid (Bad p.hs q.code) := hps.out.bad HD0.out hdn HX.out (fun h => e2 h.2)
                      clear e22 e2
                      go_wp2_with (go_at_call 77; refine (rpops_any _ _ HV.out).mono ?_; rintro e w1 ⟨rfl, hb1⟩; have hc1 := bcell hb1)
                      have hs1 := hb1.size
                      simp at hs1
                      have hzc : wo.heap.size < w1.heap.size := by omega
                      have hzD1 : w.heap.size + 1 < w1.heap.size := by omega
                      go_region_held3 (fun w' => w'.cell? ⟨w.heap.size + 1, k, none⟩ = some (.int .i64 d) ∧ w'.cell? ⟨wo.heap.size, 0, none⟩ = some (.int .i64 x.op)) (go_keep)
                        (first | (go_at_call 78; refine (rputs_any _ _ HV.out).mono ?_; rintro e w2 ⟨rfl, hb2⟩; have hc2 := bcell (undrew hb2)))
                      have HD2 : Hid (DW (w.alloc (.cells #[.slice (some ⟨b1, o1, none⟩) p.hs.length c1, .slice A2 p.acs.length c2, .slice A3 p.bs.length c3, .int .i64 p.fuel] 26)) (w.heap.size + 1) l' (.slice none 0 0) [] w2) := (hd.out.below (bTrans (bAlloc (bRefl _) _) hb1)).below (undrew hb2)
                      go_wp2
                      go_ret3
                      exact ⟨_, by rw [(HBd.out HBB.out).1, (HBd.out HBB.out).2.2]; rfl, by rw [(HBd.out HBB.out).2.1]; exact sl0, bTrans (HB _) HD2.out.low⟩
                  · have e1' : d < po (at_ x.op) := by omega
                    have HBB : Hid (Bad p.hs q.code) := hps.out.bad HD0.out hdn HX.out (fun h => e1 (by rw [← HT.out]; exact h.1))
                    clear e22 e1
                    go_wp2_with (go_at_call 77; refine (rpops_any _ _ HV.out).mono ?_; rintro e w1 ⟨rfl, hb1⟩; have hc1 := bcell hb1)
                    have hs1 := hb1.size
                    simp at hs1
                    have hzc : wo.heap.size < w1.heap.size := by omega
                    have hzD1 : w.heap.size + 1 < w1.heap.size := by omega
                    go_region_held3 (fun w' => w'.cell? ⟨w.heap.size + 1, k, none⟩ = some (.int .i64 d) ∧ w'.cell? ⟨wo.heap.size, 0, none⟩ = some (.int .i64 x.op)) (go_keep)
                      (first | (go_at_call 78; refine (rputs_any _ _ HV.out).mono ?_; rintro e w2 ⟨rfl, hb2⟩; have hc2 := bcell (undrew hb2)))
                    have HD2 : Hid (DW (w.alloc (.cells #[.slice (some ⟨b1, o1, none⟩) p.hs.length c1, .slice A2 p.acs.length c2, .slice A3 p.bs.length c3, .int .i64 p.fuel] 26)) (w.heap.size + 1) l' (.slice none 0 0) [] w2) := (hd.out.below (bTrans (bAlloc (bRefl _) _) hb1)).below (undrew hb2)
                    go_wp2
                    go_ret3
                    exact ⟨_, by rw [(HBd.out HBB.out).1, (HBd.out HBB.out).2.2]; rfl, by rw [(HBd.out HBB.out).2.1]; exact sl0, bTrans (HB _) HD2.out.low⟩
              · have hdn' : d < 0 := by omega
                have HPS : Hid (Ps p.hs q.code l' mo' ag' (k + 1)) := hps.out.skip HD0.out hdn'
                go_wp2
                go_roundg (q.code.length - (k + 1))
                case measure => omega
                case rel => exact ⟨k + 1, l', mo', ag', rfl, by omega, by go_num, rfl, rfl, hcn, HPS, hd⟩
            · obtain rfl : k = q.code.length := by omega
              go_wp2
              go_roundg (cn l' ag')
              case measure => exact cn_less hcn.out
              case rel => exact ⟨l', mo', ag', rfl, rfl, rfl, OutP.of hps.out rfl, hd⟩
end Go.Proofs.YtfbeiedhdmndnaaDoor
