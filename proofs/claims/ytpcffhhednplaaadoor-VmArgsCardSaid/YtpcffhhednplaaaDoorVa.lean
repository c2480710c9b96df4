/-
  All the instructions of a handler, up to its end. Conditions: the handler was checked; the machine stands at its first instruction.
-/
import Derived.Test.YtpcffhhednplaaaDoorVs3
namespace Go.Proofs.YtpcffhhednplaaaDoor
open Go.RowKit
attribute [local go_sem ↓] Go.wp_at_zero Go.wp_at_succ
section
variable {w0 w : World} {B : Nat} {x : FX} {vn : Value} {us : List Value} {sk : List Int} {s : MS} {p : PPrg} {args : List Int}
theorem rn_end {code : List PIns} {who : Int} {f : Nat} (h : ¬ s.pc < code.length) : rn p who args code f s = (0, s) := by
  cases f with
  | zero => unfold rn; rw [if_neg h]
  | succ f => unfold rn; rw [if_neg h]
theorem rn_out {code : List PIns} {who : Int} (h : s.pc < code.length) : rn p who args code 0 s = (2, s) := by unfold rn; rw [if_pos h]
theorem rn_down {code : List PIns} {who : Int} {f : Nat} {i : PIns} (h : s.pc < code.length) (hi : code[s.pc]? = some i) (hd : (stp p who args code.length i { s with pc := s.pc + 1, steps := s.steps + 1 }).1 ≠ 0) :
    rn p who args code (f + 1) s = stp p who args code.length i { s with pc := s.pc + 1, steps := s.steps + 1 } := by
  have e : code.getD s.pc default = i := by rw [List.getD_eq_getElem?_getD, hi]; rfl
  rw [rn]
  rw [if_pos h, e]
  show (if _ = (0 : Int) then _ else _) = _
  rw [if_neg hd]
theorem rn_on {code : List PIns} {who : Int} {f : Nat} {i : PIns} (h : s.pc < code.length) (hi : code[s.pc]? = some i) (hd : (stp p who args code.length i { s with pc := s.pc + 1, steps := s.steps + 1 }).1 = 0) :
    rn p who args code (f + 1) s = rn p who args code f (stp p who args code.length i { s with pc := s.pc + 1, steps := s.steps + 1 }).2 := by
  have e : code.getD s.pc default = i := by rw [List.getD_eq_getElem?_getD, hi]; rfl
  rw [rn]
  rw [if_pos h, e]
  show (if _ = (0 : Int) then _ else _) = _
  rw [if_pos hd]

/-- Between two instructions. -/
structure LI (p : PPrg) (args : List Int) (who : Int) (code : List PIns) (R : Int × MS) (s : MS) : Prop where
  rch : s.pc < code.length → Rch p.hs code s.pc s.st.length
  eq : rn p who args code (p.fuel.toNat - s.steps) s = R
  nl : s.notes.length ≤ s.steps
theorem LI.next {y : PHnd} {l : List Int} {who : Int} {R : Int × MS} {i : PIns} (h : LI p args who y.code R s) (hx : chkH p.hs.length y = 0) (hO : OkH p.hs) (ha : (args.length : Int) = y.args) (hg : Good p.hs y.code l) (hi : y.code[s.pc]? = some i) (hf : s.steps < p.fuel.toNat)
    (hd : (stp p who args y.code.length i { s with pc := s.pc + 1, steps := s.steps + 1 }).1 = 0) :
    LI p args who y.code R (stp p who args y.code.length i { s with pc := s.pc + 1, steps := s.steps + 1 }).2 ∧ (stp p who args y.code.length i { s with pc := s.pc + 1, steps := s.steps + 1 }).2.steps = s.steps + 1 ∧ (stp p who args y.code.length i { s with pc := s.pc + 1, steps := s.steps + 1 }).2.pc ≤ y.code.length := by
  have hk := (List.getElem?_eq_some_iff.1 hi).1
  have ok0 := oks_of hx hO ha hg (h.rch hk) hi
  have ok : OkS p args y.code { s with pc := s.pc + 1, steps := s.steps + 1 } i := ⟨ok0.ok, ok0.vl, ok0.reg, ok0.arg, ok0.tgt, ok0.snd⟩
  obtain ⟨h1, h2, h3, h4, h5⟩ := stp_good who ok rfl hk hd
  have h1' : (stp p who args y.code.length i { s with pc := s.pc + 1, steps := s.steps + 1 }).2.steps = s.steps + 1 := h1
  refine ⟨⟨fun hlt => ?_, ?_, ?_⟩, h1', h4⟩
  · rcases h3 with h3 | h3
    · omega
    · rw [h2]; exact Rch.step (h.rch hk) hi ok.ok h3
  · rw [h1', ← h.eq, show p.fuel.toNat - s.steps = (p.fuel.toNat - (s.steps + 1)) + 1 by omega, rn_on hk hi hd]
  · rw [h1']
    have := h.nl
    have h5' : (stp p who args y.code.length i { s with pc := s.pc + 1, steps := s.steps + 1 }).2.notes.length ≤ s.notes.length + 1 := h5
    omega

set_option maxHeartbeats 4000000 in
set_option maxRecDepth 100000 in
theorem all_any {y : PHnd} {l : List Int} {R : Int × MS} (px : PX w0 x p args y.code) (h : RM w0 B x vn us sk s w) (hL : LI p args x.who y.code R s) (h0 : s.steps ≤ p.fuel.toNat) (hf : 0 ≤ p.fuel ∧ p.fuel ≤ 256) (hpc : s.pc ≤ y.code.length) (hx : chkH p.hs.length y = 0) (hO : OkH p.hs) (ha : (args.length : Int) = y.args) (hg : Good p.hs y.code l) :
    Calls Tryd.prog 28 #[.pointer (some ⟨B, 0, none⟩)] w fun e w' => e = .returned (.int .i64 R.1) ∧ ∃ vn' us' sk', RM w0 B x vn' us' sk' R.2 w' := by
  obtain ⟨fu, hfu⟩ := Int.eq_ofNat_of_zero_le hf.1
  have hfu' : p.fuel.toNat = fu := by rw [hfu]; exact Int.toNat_natCast fu
  have hfl : fu ≤ 256 := by omega
  have hxf : x.fuel = (fu : Int) := px.fuel.trans hfu
  obtain ⟨Ac, cc, hvc, hlc⟩ := px.vc.form
  have hC := px.vc
  rw [hvc] at hC
  have HP : Hid (PX w0 x p args y.code) := px
  have HX : Hid (chkH p.hs.length y = 0 ∧ OkH p.hs ∧ (args.length : Int) = y.args ∧ Good p.hs y.code l) := ⟨hx, hO, ha, hg⟩
  have HH : Hid (RM w0 B x vn us sk s w) := h
  have HL : Hid (LI p args x.who y.code R s) := hL
  have HF : Hid (p.fuel.toNat = fu) := hfu'
  have hcl : y.code.length ≤ 64 := by
    unfold chkH at hx
    by_cases e0 : 0 ≤ y.args ∧ y.args ≤ 4
    · rw [if_pos e0] at hx
      by_cases e1 : y.code.length ≤ 64
      · exact e1
      · rw [if_neg e1] at hx; cases hx
    · rw [if_neg e0] at hx; cases hx
  rw [hfu'] at h0
  clear px hx hO ha hg h hL hfu hfu' hf
  go_enter Tryd.func28, Tryd.ntmps28
  go_wp2_with fail
  go_loopg [3, 4] (fu - s.steps) (fun g i3 i4 wr => ∃ (s' : MS) (vn' : Value) (us' : List Value) (sk' : List Int), g = fu - s'.steps ∧ s'.steps ≤ fu ∧ s'.pc ≤ y.code.length ∧ Hid (RM w0 B x vn' us' sk' s' wr) ∧ Hid (LI p args x.who y.code R s'))
  case atStart => exact ⟨s, vn, us, sk, rfl, h0, hpc, HH, HL⟩
  case round =>
    clear HH HL h0 hpc
    obtain ⟨s', vn', us', sk', rfl, hs, hpc, hM, hL⟩ := hrel
    have q22 : wr.cell? ⟨B, 22, none⟩ = some (.int .i64 (s'.pc : Int)) := hM.out.c 22 (by omega)
    have q6 : wr.cell? ⟨B, 6, none⟩ = some (.slice Ac y.code.length cc) := by rw [← hvc]; exact hM.out.c 6 (by omega)
    have q23 : wr.cell? ⟨B, 23, none⟩ = some (.int .i64 (s'.steps : Int)) := hM.out.c 23 (by omega)
    have q3 : wr.cell? ⟨B, 3, none⟩ = some (.int .i64 (fu : Int)) := by rw [← hxf]; exact hM.out.c 3 (by omega)
    have hB := hM.out.lt
    by_cases hlt : s'.pc < y.code.length
    · by_cases hst : s'.steps = fu
      · have e1 : ((s'.steps : Int) == (fu : Int)) = true := by simp [hst]
        have HR : Hid (R = (2, s')) := by
          show _ = _
          have := hL.out.eq
          rw [← this, HF.out, hst, Nat.sub_self, rn_out hlt]
        go_wp2_with fail
        go_region
        go_wp2_with fail
        go_region
        go_wp2
        go_ret
        exact ⟨by rw [HR.out]; rfl, _, _, _, by rw [HR.out]; exact hM.out.below (bRefl _).drew.drew⟩
      · have e1 : ((s'.steps : Int) == (fu : Int)) = false := by simp; omega
        obtain ⟨b1, o1, i, rfl, hi, c1, c2⟩ := hC.cell hM.out.low hlt
        have hb1 : b1 < wr.heap.size := World.block_lt_of_cell? _ _ c1
        have hb1B : b1 ≠ B := by
          obtain ⟨b', o', e', _, hlt', _⟩ := hC.at (by omega)
          cases e'
          have := hM.out.base
          omega
        have f22 := hM.out.fz 22
        have f23 := hM.out.fz 23
        have HI : Hid (y.code[s'.pc]? = some i) := hi
        have HO : Hid (OkS p args y.code { s' with pc := s'.pc + 1, steps := s'.steps + 1 } i) := by
          have ok0 := oks_of HX.out.1 HX.out.2.1 HX.out.2.2.1 HX.out.2.2.2 (hL.out.rch hlt) hi
          exact ⟨ok0.ok, ok0.vl, ok0.reg, ok0.arg, ok0.tgt, ok0.snd⟩
        have HN : Hid (RM w0 B x vn' us' sk' { s' with pc := s'.pc + 1, steps := s'.steps + 1 } ((wr.setCell ⟨B, 23, none⟩ (.int .i64 ((s'.steps : Int) + 1))).setCell ⟨B, 22, none⟩ (.int .i64 ((s'.pc : Int) + 1)))) := (hM.out.sst (s'.steps + 1)).spc (s'.pc + 1)
        have hnl : s'.notes.length ≤ 1000 := by have := hL.out.nl; omega
        have w23 : IntKind.i64.wrap ((s'.steps : Int) + 1) = (s'.steps : Int) + 1 := by rw [IntKind.wrap_i64]; omega
        have w22 : IntKind.i64.wrap ((s'.pc : Int) + 1) = (s'.pc : Int) + 1 := by rw [IntKind.wrap_i64]; omega
        clear hi
        go_wp2_with fail
        go_region
        go_wp2_with fail
        go_region
        go_wp2_with fail
        go_region
        go_wp2_with fail
        have S := step_any HP.out (HN.out.below ((bAlloc (bRefl _) (.cells #[.int .i64 i.op, .int .i64 i.a] 41)).drew.drew.drew)) i HO.out hnl
        obtain ⟨r, hr⟩ : ∃ r, stp p x.who args y.code.length i { s' with pc := s'.pc + 1, steps := s'.steps + 1 } = r := ⟨_, rfl⟩
        rw [hr] at S
        by_cases hd : r.1 = 0
        · have e2 : (r.1 != 0) = false := ne_no hd
          have HX2 := hL.out.next HX.out.1 HX.out.2.1 HX.out.2.2.1 HX.out.2.2.2 HI.out (by rw [HF.out]; omega) (by rw [hr]; exact hd)
          rw [hr] at HX2
          obtain ⟨n1, n2, n3⟩ := HX2
          have HL2 : Hid (LI p args x.who y.code R r.2) := n1
          clear hr n1 hd
          refine S.mono ?_
          rintro e w2 ⟨rfl, vn2, us2, sk2, h2⟩
          have HM2 : Hid (RM w0 B x vn2 us2 sk2 r.2 w2) := h2
          clear h2 S HN q22 q6 q23 q3 hB c1 c2 f22 f23 hM hL
          go_wp2
          go_roundg (fu - r.2.steps)
          case measure => omega
          case rel => exact ⟨r.2, vn2, us2, sk2, rfl, by omega, n3, HM2, HL2⟩
        · have e2 : (r.1 != 0) = true := ne_yes hd
          have HR : Hid (R = r) := by
            show _ = _
            have := hL.out.eq
            rw [← this, HF.out, show fu - s'.steps = (fu - (s'.steps + 1)) + 1 by omega, rn_down hlt HI.out (by rw [hr]; exact hd), hr]
          clear hr hd
          refine S.mono ?_
          rintro e w2 ⟨rfl, vn2, us2, sk2, h2⟩
          have HM2 : Hid (RM w0 B x vn2 us2 sk2 r.2 w2) := h2
          clear h2 S HN q22 q6 q23 q3 hB c1 c2 f22 f23 hM hL
          go_wp2
          go_ret
          exact ⟨by rw [HR.out]; rfl, vn2, us2, sk2, by rw [HR.out]; exact HM2.out⟩
    · have HR : Hid (R = (0, s')) := by
        show _ = _
        have := hL.out.eq
        rw [← this, rn_end hlt]
      go_wp2_with fail
      go_region
      go_wp2
      go_ret
      exact ⟨by rw [HR.out]; rfl, _, _, _, by rw [HR.out]; exact hM.out.below (bRefl _).drew⟩
end
end Go.Proofs.YtpcffhhednplaaaDoor
