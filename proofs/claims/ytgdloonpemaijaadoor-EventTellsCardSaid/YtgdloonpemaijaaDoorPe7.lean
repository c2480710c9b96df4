/-
  What is listed is just what may happen, each once, in order, plainly; the reference's Before. No conditions. The reference's 'enabled' of chapter 10, and its Is and Enabled over what its CheckWorld answers. Conditions: whom a message goes to is there, messages stand in order; messages and actors are at most a thousand. The reference's Is and Enabled of chapter 10. Conditions: messages and actors are at most a thousand. The reference's Enabled of chapter 10. Conditions: messages and actors are at most a thousand. Which worlds the laws look at (gavottealike.World, Mail). No conditions. What the law's own look answers: whether a program is looked at. No further conditions. From the row's condition (the listed variables read as they are laid) to the variables' cells. No conditions. From what an argument reads as to the cells in the world: lists, handlers, actors, notes, programs, budgets, events, messages, worlds, and that numbers are of 64 bits. No conditions.
-/
import Derived.Test.YtgdloonpemaijaaDoorPe4
import Derived.Test.YtgdloonpemaijaaDoorPe6
import Derived.Test.YtgdloonpemaijaaDoorCn
import Derived.Test.YtgdloonpemaijaaDoorW5
import Derived.Test.YtgdloonpemaijaaDoorChk3
import Derived.Test.YtgdloonpemaijaaDoorOps2
import Derived.ProofKit
import Derived.LaidMore
import Derived.OpenShut
import Derived.HandedShaped
import Derived.Handed
import Derived.Shelf.Vars
import Derived.Lib.SmallJoins
import Derived.Lib.LaidTab
import Derived.Stop.Joined
import Derived.Stop.LaidErr
import Derived.Test.YtgdloonpemaijaaDoorW1
import Derived.Test.YtgdloonpemaijaaDoorE3
import Derived.Deep.Slices
import Derived.Deep.Strs
namespace Go.Proofs.YtgdloonpemaijaaDoor
open Go.RowKit
section
attribute [local go_sem ↓] Go.wp_at_zero Go.wp_at_succ eq6
end
/-! ### Plainly -/
theorem srt_inj {l : List PMsg} (hs : srt l = true) {a b : PMsg} (ha : a ∈ l) (hb : b ∈ l) (h : a.id = b.id) : a = b := by
  have hp := (srt_pw l).1 hs
  rw [List.pairwise_iff_getElem] at hp
  obtain ⟨i, hi, rfl⟩ := List.getElem_of_mem ha
  obtain ⟨j, hj, rfl⟩ := List.getElem_of_mem hb
  rcases Nat.lt_trichotomy i j with e | e | e
  · exact absurd h (less_ne (hp i j hi hj e))
  · subst e; rfl
  · exact absurd h.symm (less_ne (hp j i hj hi e))
end Go.Proofs.YtgdloonpemaijaaDoor
namespace Go.Proofs.YtgdloonpemaijaaDoor
open Go.RowKit
def eK (l : PBud) (x : PWld) (k : Nat) : List PEv := if k ≤ 3 then enP l x (k - 1) else enQ l x (k - 4)
theorem eK_m (l : PBud) (x : PWld) {k : Nat} (h1 : 1 ≤ k) (h3 : k ≤ 3) : eK l x (k + 1) = eK l x k ++ gM l x k x.mail.length := by
  unfold eK
  rw [if_pos h3]
  by_cases h : k + 1 ≤ 3
  · rw [if_pos h]; exact enP_step l x h1
  · obtain rfl : k = 3 := by omega
    rw [if_neg h]
    exact enP_step l x h1
theorem eK_a (l : PBud) (x : PWld) {k : Nat} (h4 : 4 ≤ k) : eK l x (k + 1) = eK l x k ++ gA l x k x.acts.length := by
  unfold eK
  rw [if_neg (by omega), if_neg (by omega)]
  exact enQ_step l x h4
theorem isL_ofM {l : PBud} {x : PWld} (hs : srt x.mail = true) {k : Nat} (h1 : 1 ≤ k) (h3 : k ≤ 3) {m : PMsg} (hm : m ∈ x.mail) : isL l x ⟨(k : Int), m.id, 0⟩ = ofM l x k m := by
  rw [isL_M (by show (k : Int) = 1 ∨ (k : Int) = 2 ∨ (k : Int) = 3; omega)]
  unfold isM
  dsimp only
  rw [decide_eq_true rfl, Bool.true_and]
  cases hf : x.mail.findIdx? (fun m' => decide (m'.id = m.id)) with
  | none =>
    rw [List.findIdx?_eq_none_iff] at hf
    have := hf m hm
    simp at this
  | some i =>
    dsimp only
    rw [List.findIdx?_eq_some_iff_getElem] at hf
    obtain ⟨hi, hd, _⟩ := hf
    have hd' := of_decide_eq_true hd
    rw [List.getD_eq_getElem?_getD, List.getElem?_eq_getElem hi, Option.getD_some, srt_inj hs (List.getElem_mem hi) hm hd']
theorem isL_ofA {l : PBud} {x : PWld} {k j : Nat} (h4 : 4 ≤ k) (h5 : k ≤ 5) {a : PLoc} (ha : x.acts[j]? = some a) : isL l x ⟨(k : Int), ⟨0, 0, 0⟩, (j : Int)⟩ = ofA l k a := by
  have hlt := (List.getElem?_eq_some_iff.1 ha).1
  rw [isL_A (by show (k : Int) = 4 ∨ (k : Int) = 5; omega)]
  unfold isA
  dsimp only
  rw [Int.toNat_natCast, show x.acts.getD j default = a by rw [List.getD_eq_getElem?_getD, ha]; rfl]
  simp [hlt]
theorem eK_le (l : PBud) (x : PWld) {k : Nat} (hk : k ≤ 5) (hm : x.mail.length ≤ 1000) (ha : x.acts.length ≤ 1000) : (eK l x k).length ≤ 6000 := by
  unfold eK
  split
  · rename_i h
    have h1 := enP_len l x (k - 1)
    have h3 : (k - 1) * x.mail.length ≤ 2 * 1000 := Nat.mul_le_mul (by omega) hm
    omega
  · have h1 := enQ_len l x (k - 4)
    have h3 : (k - 4) * x.acts.length ≤ 1 * 1000 := Nat.mul_le_mul (by omega) ha
    omega
set_option maxHeartbeats 16000000 in
set_option maxRecDepth 100000 in
theorem renabled_any (w : World) (vw : Value) (b : PBud) (x : PWld) (hx : WldV w vw x) (hto : ∀ m ∈ x.mail, 0 ≤ m.nt.to ∧ m.nt.to < x.acts.length) (hs : srt x.mail = true) (hm : x.mail.length ≤ 1000) (ha : x.acts.length ≤ 1000) :
    Calls Tryd.prog 78 #[uVal b, vw] w fun e w' => ∃ v, e = .returned v ∧ EN w w' v (enQ (leftB b x.used) x 2) := by
  have HX := hid_mk hx
  have HTO := hid_mk hto
  have HSR := hid_mk hs
  obtain ⟨va, vm, rfl, g1, g2⟩ := hx
  obtain ⟨B1, d1, rfl, _⟩ := g1.form
  obtain ⟨B2, d2, rfl, _⟩ := g2.form
  have HG1 := hid_mk g1
  have HG2 := hid_mk g2
  clear g1 g2 hto hs
  go_enter Tryd.func78, Tryd.ntmps78
  go_wp2
  have k1 := boxAt (heap_new w (.cells #[.int .i64 b.drop, .int .i64 b.dup, .int .i64 b.time, .int .i64 b.crash] 42)) (bAlloc (bRefl _) (.cells #[.slice B1 x.acts.length d1, .slice B2 x.mail.length d2, .int .i64 x.used.drop, .int .i64 x.used.dup, .int .i64 x.used.time, .int .i64 x.used.crash] 44))
  have k2 := heap_new2 (w := w.alloc (.cells #[.int .i64 b.drop, .int .i64 b.dup, .int .i64 b.time, .int .i64 b.crash] 42)) (o := .cells #[.slice B1 x.acts.length d1, .slice B2 x.mail.length d2, .int .i64 x.used.drop, .int .i64 x.used.dup, .int .i64 x.used.time, .int .i64 x.used.crash] 44) (n := w.heap.size + 1) (by simp)
  have HL4 : Hid (Below w.heap.size w ((w.alloc (.cells #[.int .i64 b.drop, .int .i64 b.dup, .int .i64 b.time, .int .i64 b.crash] 42)).alloc (.cells #[.slice B1 x.acts.length d1, .slice B2 x.mail.length d2, .int .i64 x.used.drop, .int .i64 x.used.dup, .int .i64 x.used.time, .int .i64 x.used.crash] 44))) := bAlloc (bAlloc (bRefl _) _) _
  generalize ((w.alloc (.cells #[.int .i64 b.drop, .int .i64 b.dup, .int .i64 b.time, .int .i64 b.crash] 42)).alloc (.cells #[.slice B1 x.acts.length d1, .slice B2 x.mail.length d2, .int .i64 x.used.drop, .int .i64 x.used.dup, .int .i64 x.used.time, .int .i64 x.used.crash] 44)) = w4 at k1 k2 HL4 ⊢
  go_loopg [5, 6] 5 (fun g i5 i6 wr => ∃ k : Nat, g = 6 - k ∧ 1 ≤ k ∧ k ≤ 6 ∧ i6 = .int .i64 (k : Int) ∧ Hid (EN w4 wr i5 (eK (leftB b x.used) x k)))
  case atStart => exact ⟨1, rfl, by omega, by omega, rfl, EN.nil w4⟩
  case round =>
    obtain ⟨k, rfl, hk1, hk4, rfl, hen⟩ := hrel
    obtain ⟨wo, hwo⟩ : ∃ wo, wo = wr := ⟨wr, rfl⟩
    subst hwo
    by_cases hlt : k ≤ 5
    · have hkI : (k : Int) ≤ 5 := by omega
      by_cases hk3 : k ≤ 3
      · have hkI3 : (k : Int) ≤ 3 := by omega
        go_wp2
        go_loopg [5, 7] x.mail.length (fun g i5 i7 wr => ∃ i : Nat, g = x.mail.length - i ∧ i ≤ x.mail.length ∧ i7 = .int .i64 (i : Int) ∧ Hid (EN w4 wr i5 (eK (leftB b x.used) x k ++ gM (leftB b x.used) x k i)))
        case atStart => exact ⟨0, rfl, by omega, rfl, by rw [gM_0, List.append_nil]; exact hen⟩
        case round =>
          obtain ⟨i, rfl, hi, rfl, hen2⟩ := hrel
          clear hen
          have y1 := boxAt k1 hen2.out.low
          have y2 := boxAt k2 hen2.out.low
          obtain ⟨b0, b1, b2, b3⟩ := blk4 y1
          obtain ⟨x0, x1, x2, x3, x4, x5⟩ := blk6 y2
          have z1 := (Array.getElem?_eq_some_iff.1 y1).1
          have z2 := (Array.getElem?_eq_some_iff.1 y2).1
          have HLr := hid_mk (bTrans HL4.out hen2.out.low)
          clear y1 y2
          by_cases hlt2 : i < x.mail.length
          · obtain ⟨bm, om, m, vm, rfl, hm0, hz, c0, c1, c2, c3, c4, c5, hvi⟩ := HG2.out.cell HLr.out hlt2
            have hlt2I : (i : Int) < x.mail.length := by omega
            have HLEN : Hid ((eK (leftB b x.used) x k).length ≤ 6000 ∧ (gM (leftB b x.used) x k i).length ≤ 1000) := ⟨eK_le _ _ hlt hm ha, Nat.le_trans (gM_len _ _ _ _) hm⟩
            have hiso := isL_ofM (l := leftB b x.used) HSR.out hk1 hk3 (List.mem_of_getElem? hm0)
            cases hof : ofM (leftB b x.used) x k m with
            | true =>
              have HGN := hid_mk (gM_yes hm0 hof)
              rw [hof] at hiso
              generalize gM (leftB b x.used) x k i = G at hen2 HGN HLEN
              have HLE2 : Hid ((eK (leftB b x.used) x k ++ G).length ≤ 7000) := by show _ ≤ _; rw [List.length_append]; have := HLEN.out.1; have := HLEN.out.2; omega
              generalize hLL : eK (leftB b x.used) x k ++ G = LL at hen2 HLE2
              have HLL := hid_mk hLL
              obtain ⟨A9, c9, rfl⟩ := hen2.out.form
              clear hvi hm0 hi hLL hof
              go_wp2_with (first
                | (go_at_call 76; refine (ris_any _ _ b x ⟨(k : Int), m.id, 0⟩ (HX.out.below (by exact bAlloc HLr.out _)) HTO.out).mono ?_; rintro e w7 ⟨rfl, hb7⟩; obtain ⟨m0, m1, m2, m3, m4⟩ := blk5 (boxAt (heap_new wr _) hb7); have HEN7 := hid_mk (hen2.out.below (bTrans (bAlloc (bRefl wr) _) hb7)); clear hb7)
                | (at_builtin; refine appE (e := ⟨(k : Int), m.id, 0⟩) rfl _ _ rfl rfl rfl (HEN7.out.below (by exact bAlloc (bRefl _) _)) (heap_new _ _) (by have := HLE2.out; omega) ?_; intro g6 cap6 w8 hen8; have HEN8 := hid_mk hen8; clear hen8))
              go_roundg (x.mail.length - (i + 1))
              case measure => omega
              case rel => exact ⟨i + 1, rfl, by omega, by go_num, by rw [HGN.out, ← List.append_assoc, HLL.out]; exact HEN8⟩
            | false =>
              have HGN := hid_mk (gM_no hm0 hof)
              rw [hof] at hiso
              clear hvi hm0 hi hof
              go_wp2_with (first
                | (go_at_call 76; refine (ris_any _ _ b x ⟨(k : Int), m.id, 0⟩ (HX.out.below (by exact bAlloc HLr.out _)) HTO.out).mono ?_; rintro e w7 ⟨rfl, hb7⟩; have HEN7 := hid_mk (hen2.out.below (bTrans (bAlloc (bRefl wr) _) hb7)); clear hb7))
              go_roundg (x.mail.length - (i + 1))
              case measure => omega
              case rel => exact ⟨i + 1, rfl, by omega, by go_num, by rw [HGN.out]; exact HEN7⟩
          · obtain rfl : i = x.mail.length := by omega
            go_wp2
            go_roundg (6 - (k + 1))
            case measure => omega
            case rel => exact ⟨k + 1, rfl, by omega, by omega, by go_num, by rw [eK_m _ _ hk1 hk3]; exact hen2⟩
      · have hkI3 : ¬ (k : Int) ≤ 3 := by omega
        have hkI3d : decide ((k : Int) ≤ 3) = false := decide_eq_false (by omega)
        go_wp2
        go_loopg [5, 9] x.acts.length (fun g i5 i9 wr => ∃ i : Nat, g = x.acts.length - i ∧ i ≤ x.acts.length ∧ i9 = .int .i64 (i : Int) ∧ Hid (EN w4 wr i5 (eK (leftB b x.used) x k ++ gA (leftB b x.used) x k i)))
        case atStart => exact ⟨0, rfl, by omega, rfl, by rw [gA_0, List.append_nil]; exact hen⟩
        case round =>
          obtain ⟨i, rfl, hi, rfl, hen2⟩ := hrel
          clear hen
          have y1 := boxAt k1 hen2.out.low
          have y2 := boxAt k2 hen2.out.low
          obtain ⟨b0, b1, b2, b3⟩ := blk4 y1
          obtain ⟨x0, x1, x2, x3, x4, x5⟩ := blk6 y2
          have z1 := (Array.getElem?_eq_some_iff.1 y1).1
          have z2 := (Array.getElem?_eq_some_iff.1 y2).1
          have HLr := hid_mk (bTrans HL4.out hen2.out.low)
          clear y1 y2
          by_cases hlt2 : i < x.acts.length
          · obtain ⟨a, ha0⟩ := at_lt hlt2
            have hlt2I : (i : Int) < x.acts.length := by omega
            have HLEN : Hid ((eK (leftB b x.used) x k).length ≤ 6000 ∧ (gA (leftB b x.used) x k i).length ≤ 1000) := ⟨eK_le _ _ hlt hm ha, Nat.le_trans (gA_len _ _ _ _) (by omega)⟩
            have hiso := isL_ofA (l := leftB b x.used) (by omega : 4 ≤ k) hlt ha0
            cases hof : ofA (leftB b x.used) k a with
            | true =>
              have HGN := hid_mk (gA_yes ha0 hof)
              rw [hof] at hiso
              generalize gA (leftB b x.used) x k i = G at hen2 HGN HLEN
              have HLE2 : Hid ((eK (leftB b x.used) x k ++ G).length ≤ 7000) := by show _ ≤ _; rw [List.length_append]; have := HLEN.out.1; have := HLEN.out.2; omega
              generalize hLL : eK (leftB b x.used) x k ++ G = LL at hen2 HLE2
              have HLL := hid_mk hLL
              obtain ⟨A9, c9, rfl⟩ := hen2.out.form
              clear ha0 hi hLL hof
              go_wp2_with (first
                | (go_at_call 76; refine (ris_any _ _ b x ⟨(k : Int), ⟨0, 0, 0⟩, (i : Int)⟩ (HX.out.below (by exact bAlloc HLr.out _)) HTO.out).mono ?_; rintro e w7 ⟨rfl, hb7⟩; obtain ⟨m0, m1, m2, m3, m4⟩ := blk5 (boxAt (heap_new wr _) hb7); have HEN7 := hid_mk (hen2.out.below (bTrans (bAlloc (bRefl wr) _) hb7)); clear hb7)
                | (at_builtin; refine appE (e := ⟨(k : Int), ⟨0, 0, 0⟩, (i : Int)⟩) rfl _ _ rfl rfl rfl (HEN7.out.below (by exact bAlloc (bRefl _) _)) (heap_new _ _) (by have := HLE2.out; omega) ?_; intro g6 cap6 w8 hen8; have HEN8 := hid_mk hen8; clear hen8))
              go_roundg (x.acts.length - (i + 1))
              case measure => omega
              case rel => exact ⟨i + 1, rfl, by omega, by go_num, by rw [HGN.out, ← List.append_assoc, HLL.out]; exact HEN8⟩
            | false =>
              have HGN := hid_mk (gA_no ha0 hof)
              rw [hof] at hiso
              clear ha0 hi hof
              go_wp2_with (first
                | (go_at_call 76; refine (ris_any _ _ b x ⟨(k : Int), ⟨0, 0, 0⟩, (i : Int)⟩ (HX.out.below (by exact bAlloc HLr.out _)) HTO.out).mono ?_; rintro e w7 ⟨rfl, hb7⟩; have HEN7 := hid_mk (hen2.out.below (bTrans (bAlloc (bRefl wr) _) hb7)); clear hb7))
              go_roundg (x.acts.length - (i + 1))
              case measure => omega
              case rel => exact ⟨i + 1, rfl, by omega, by go_num, by rw [HGN.out]; exact HEN7⟩
          · obtain rfl : i = x.acts.length := by omega
            go_wp2
            go_roundg (6 - (k + 1))
            case measure => omega
            case rel => exact ⟨k + 1, rfl, by omega, by omega, by go_num, by rw [eK_a _ _ (by omega)]; exact hen2⟩
    · obtain rfl : k = 6 := by omega
      go_wp2
      go_ret
      exact ⟨_, rfl, hen.out.mono HL4.out⟩
end Go.Proofs.YtgdloonpemaijaaDoor
namespace Go.Proofs.YtgdloonpemaijaaDoor
open Go.RowKit
theorem fits_no1 {p : PPrg} {b : PBud} {x : PWld} (h : chkW p x = false) : fitsP p b x = false := by unfold fitsP; rw [h]; simp
theorem fits_no2 {p : PPrg} {b : PBud} {x : PWld} (h : mayB b = false) : fitsP p b x = false := by unfold fitsP; rw [h]; rfl
theorem fits_yes {p : PPrg} {b : PBud} {x : PWld} (h : chkW p x = true) (h2 : mayB b = true) : fitsP p b x = true := by unfold fitsP; rw [h, h2]; rfl
set_option maxHeartbeats 2000000 in
theorem rIs_any (w : World) (vp vw : Value) (p : PPrg) (b : PBud) (x : PWld) (e : PEv) (hp : PrgV w vp p) (hx : WldV w vw x) :
    Calls Tryd.prog 31 #[vp, uVal b, vw, eVal e] w fun r w' => r = .returned (.bool (isP p b x e)) ∧ Below w.heap.size w w' := by
  have HP := hid_mk hp
  have HX := hid_mk hx
  obtain ⟨vh, vb, vc, rfl, h1, h2, h3⟩ := hp
  obtain ⟨A1, c1, rfl, _⟩ := h1.form
  obtain ⟨A2, c2, rfl, _⟩ := h2.form
  obtain ⟨A3, c3, rfl, _⟩ := h3.form
  obtain ⟨va, vm, rfl, g1, g2⟩ := hx
  obtain ⟨B1, d1, rfl, _⟩ := g1.form
  obtain ⟨B2, d2, rfl, _⟩ := g2.form
  clear h1 h2 h3 g1 g2
  have HBA : Hid (∀ X Y Z U, Below w.heap.size w ((((w.alloc X).alloc Y).alloc Z).alloc U)) := fun _ _ _ _ => bAlloc (bAlloc (bAlloc (bAlloc (bRefl _) _) _) _) _
  have HFN : Hid (∀ X Y Z U : Obj, ((((w.alloc X).alloc Y).alloc Z).alloc U).heap[w.heap.size]? = some X ∧ ((((w.alloc X).alloc Y).alloc Z).alloc U).heap[w.heap.size + 1]? = some Y ∧ ((((w.alloc X).alloc Y).alloc Z).alloc U).heap[w.heap.size + 1 + 1]? = some Z ∧ ((((w.alloc X).alloc Y).alloc Z).alloc U).heap[w.heap.size + 1 + 1 + 1]? = some U ∧ ((((w.alloc X).alloc Y).alloc Z).alloc U).heap.size = w.heap.size + 4) := fun X Y Z U => four_new w X Y Z U
  cases hc : chkW p x with
  | false =>
    have HR := hid_mk (isP_no (e := e) (fits_no1 (b := b) hc))
    go_enter Tryd.func31, Tryd.ntmps31
    go_wp2_with (first | (go_at_call 75; refine (rcw_any _ _ _ p x (HP.out.below (by exact HBA.out _ _ _ _)) (HX.out.below (by exact HBA.out _ _ _ _))).mono ?_; rintro e w2 ⟨rfl, hb2⟩; have HB2 := hid_mk (bTrans (HBA.out _ _ _ _) hb2); clear hb2))
    go_ret
    exact ⟨ret_b HR.out, HB2.out⟩
  | true =>
    cases hb : mayB b with
    | false =>
      have HR := hid_mk (isP_no (x := x) (p := p) (e := e) (fits_no2 hb))
      go_enter Tryd.func31, Tryd.ntmps31
      go_wp2_with (first
        | (go_at_call 75; refine (rcw_any _ _ _ p x (HP.out.below (by exact HBA.out _ _ _ _)) (HX.out.below (by exact HBA.out _ _ _ _))).mono ?_; rintro e w2 ⟨rfl, hb2⟩; obtain ⟨b0, b1, b2, b3⟩ := blk4 (boxAt (HFN.out _ _ _ _).2.1 hb2); have HB2 := hid_mk (bTrans (HBA.out _ _ _ _) hb2); clear hb2)
        | (go_at_call 38; refine (rMay_any _ b).mono ?_; rintro e w3 ⟨rfl, hb3⟩; have HB3 := hid_mk (bTrans HB2.out hb3); clear hb3))
      go_ret
      exact ⟨ret_b HR.out, HB3.out⟩
    | true =>
      have HR := hid_mk (isP_eq (e := e) (fits_yes hc hb)).symm
      have HTO : Hid (∀ m ∈ x.mail, 0 ≤ m.nt.to ∧ m.nt.to < x.acts.length) := fun m hm => chkW_to hc hm
      go_enter Tryd.func31, Tryd.ntmps31
      go_wp2_with (first
        | (go_at_call 75; refine (rcw_any _ _ _ p x (HP.out.below (by exact HBA.out _ _ _ _)) (HX.out.below (by exact HBA.out _ _ _ _))).mono ?_; rintro e w2 ⟨rfl, hb2⟩; have HK1 := hid_mk (boxAt (HFN.out _ _ _ _).2.1 hb2); have HK2 := hid_mk (boxAt (HFN.out _ _ _ _).2.2.1 hb2); have HK3 := hid_mk (boxAt (HFN.out _ _ _ _).2.2.2.1 hb2); obtain ⟨b0, b1, b2, b3⟩ := blk4 HK1.out; have HB2 := hid_mk (bTrans (HBA.out _ _ _ _) hb2); clear hb2)
        | (go_at_call 38; refine (rMay_any _ b).mono ?_; rintro e w3 ⟨rfl, hb3⟩; have HB3 := hid_mk (bTrans HB2.out hb3); clear b0 b1 b2 b3; obtain ⟨b0, b1, b2, b3⟩ := blk4 (boxAt HK1.out hb3); obtain ⟨x0, x1, x2, x3, x4, x5⟩ := blk6 (boxAt HK2.out hb3); obtain ⟨e0, e1, e2, e3, e4⟩ := blk5 (boxAt HK3.out hb3); clear hb3)
        | (go_at_call 76; refine (ris_any _ _ b x e (HX.out.below HB3.out) HTO.out).mono ?_; rintro e w4 ⟨rfl, hb4⟩))
      go_ret
      exact ⟨ret_b HR.out, bTrans HB3.out hb4⟩
end Go.Proofs.YtgdloonpemaijaaDoor
namespace Go.Proofs.YtgdloonpemaijaaDoor
open Go.RowKit
theorem chkW_srt {p : PPrg} {x : PWld} (h : chkW p x = true) : srt x.mail = true := by
  cases hs : srt x.mail with
  | true => rfl
  | false => rw [← chkW_s (p := p) hs] at h; cases h
theorem enab_eqQ {p : PPrg} {b : PBud} {x : PWld} (h : fitsP p b x = true) : enQ (leftB b x.used) x 2 = enabP p b x := by
  unfold enabP; rw [h]; rfl
set_option maxHeartbeats 2000000 in
theorem rEnabled_any (w : World) (vp vw : Value) (p : PPrg) (b : PBud) (x : PWld) (hp : PrgV w vp p) (hx : WldV w vw x) (hm : x.mail.length ≤ 1000) (ha : x.acts.length ≤ 1000) :
    Calls Tryd.prog 34 #[vp, uVal b, vw] w fun e w' => ∃ v, e = .returned v ∧ EN w w' v (enabP p b x) := by
  have HP := hid_mk hp
  have HX := hid_mk hx
  have HM := hid_mk hm
  have HA := hid_mk ha
  obtain ⟨vh, vb, vc, rfl, h1, h2, h3⟩ := hp
  obtain ⟨A1, c1, rfl, _⟩ := h1.form
  obtain ⟨A2, c2, rfl, _⟩ := h2.form
  obtain ⟨A3, c3, rfl, _⟩ := h3.form
  obtain ⟨va, vm, rfl, g1, g2⟩ := hx
  obtain ⟨B1, d1, rfl, _⟩ := g1.form
  obtain ⟨B2, d2, rfl, _⟩ := g2.form
  clear h1 h2 h3 g1 g2 hm ha
  have HBA : Hid (∀ X Y Z, Below w.heap.size w (((w.alloc X).alloc Y).alloc Z)) := fun _ _ _ => bAlloc (bAlloc (bAlloc (bRefl _) _) _) _
  have HFN : Hid (∀ X Y Z : Obj, (((w.alloc X).alloc Y).alloc Z).heap[w.heap.size + 1]? = some Y ∧ (((w.alloc X).alloc Y).alloc Z).heap[w.heap.size + 1 + 1]? = some Z) := fun X Y Z => by
    refine ⟨?_, ?_⟩
    · rw [Below.heap_alloc _ _ _ (by simp)]; exact heap_new2 (by simp)
    · exact heap_new2 (by simp)
  cases hc : chkW p x with
  | false =>
    have HR := hid_mk (enabP_no (fits_no1 (b := b) hc))
    go_enter Tryd.func34, Tryd.ntmps34
    go_wp2_with (first | (go_at_call 75; refine (rcw_any _ _ _ p x (HP.out.below (by exact HBA.out _ _ _)) (HX.out.below (by exact HBA.out _ _ _))).mono ?_; rintro e w2 ⟨rfl, hb2⟩; have HB2 := hid_mk (bTrans (HBA.out _ _ _) hb2); clear hb2))
    go_ret
    exact ⟨_, rfl, by rw [HR.out]; exact (EN.nil w).below HB2.out⟩
  | true =>
    cases hb : mayB b with
    | false =>
      have HR := hid_mk (enabP_no (x := x) (p := p) (fits_no2 hb))
      go_enter Tryd.func34, Tryd.ntmps34
      go_wp2_with (first
        | (go_at_call 75; refine (rcw_any _ _ _ p x (HP.out.below (by exact HBA.out _ _ _)) (HX.out.below (by exact HBA.out _ _ _))).mono ?_; rintro e w2 ⟨rfl, hb2⟩; obtain ⟨b0, b1, b2, b3⟩ := blk4 (boxAt (HFN.out _ _ _).1 hb2); have HB2 := hid_mk (bTrans (HBA.out _ _ _) hb2); clear hb2)
        | (go_at_call 38; refine (rMay_any _ b).mono ?_; rintro e w3 ⟨rfl, hb3⟩; have HB3 := hid_mk (bTrans HB2.out hb3); clear hb3))
      go_ret
      exact ⟨_, rfl, by rw [HR.out]; exact (EN.nil w).below HB3.out⟩
    | true =>
      have HR := hid_mk (enab_eqQ (fits_yes hc hb))
      have HTO : Hid (∀ m ∈ x.mail, 0 ≤ m.nt.to ∧ m.nt.to < x.acts.length) := fun m hm => chkW_to hc hm
      have HSR := hid_mk (chkW_srt hc)
      go_enter Tryd.func34, Tryd.ntmps34
      go_wp2_with (first
        | (go_at_call 75; refine (rcw_any _ _ _ p x (HP.out.below (by exact HBA.out _ _ _)) (HX.out.below (by exact HBA.out _ _ _))).mono ?_; rintro e w2 ⟨rfl, hb2⟩; have HK1 := hid_mk (boxAt (HFN.out _ _ _).1 hb2); have HK2 := hid_mk (boxAt (HFN.out _ _ _).2 hb2); obtain ⟨b0, b1, b2, b3⟩ := blk4 HK1.out; have HB2 := hid_mk (bTrans (HBA.out _ _ _) hb2); clear hb2)
        | (go_at_call 38; refine (rMay_any _ b).mono ?_; rintro e w3 ⟨rfl, hb3⟩; have HB3 := hid_mk (bTrans HB2.out hb3); clear b0 b1 b2 b3; obtain ⟨b0, b1, b2, b3⟩ := blk4 (boxAt HK1.out hb3); obtain ⟨x0, x1, x2, x3, x4, x5⟩ := blk6 (boxAt HK2.out hb3); clear hb3)
        | (go_at_call 78; refine (renabled_any _ _ b x (HX.out.below HB3.out) HTO.out HSR.out HM.out HA.out).mono ?_; rintro e w4 ⟨v4, rfl, hen⟩))
      go_ret
      exact ⟨_, rfl, by rw [← HR.out]; exact hen.mono HB3.out⟩
end Go.Proofs.YtgdloonpemaijaaDoor
namespace Go.Proofs.YtgdloonpemaijaaDoor
open Go.RowKit
def SmallM (l : List PMsg) : Prop := l.length ≤ 50 ∧ ∀ m ∈ l, m.nt.args.length ≤ 6
instance (l : List PMsg) : Decidable (SmallM l) := by unfold SmallM; infer_instance
def SmallW (x : PWld) : Prop := x.acts.length ≤ 10 ∧ SmallM x.mail ∧ ∀ a ∈ x.acts, a.regs.length ≤ 10
instance (x : PWld) : Decidable (SmallW x) := by unfold SmallW; infer_instance
set_option maxHeartbeats 1000000 in
theorem aMail_any (w : World) (v : Value) (l : List PMsg) (h : Msgs anyB anyB w v l) : Calls Tryd.prog 69 #[v] w fun e w' => e = .returned (.bool (decide (SmallM l))) ∧ w' = w := by
  obtain ⟨A, c, rfl, _⟩ := h.form
  go_enter Tryd.func69, Tryd.ntmps69
  go_wp2
  go_loopg [3] l.length (fun g i3 wr => ∃ k : Nat, g = l.length - k ∧ k ≤ l.length ∧ k ≤ 60 ∧ i3 = .int .i64 (k : Int) ∧ wr = w ∧ Hid (∀ j m, j < k → l[j]? = some m → m.nt.args.length ≤ 6))
  case atStart => exact ⟨0, rfl, by omega, by omega, rfl, rfl, fun j m hj => by omega⟩
  case round =>
    obtain ⟨k, rfl, hk, hk6, rfl, rfl, ht⟩ := hrel
    by_cases hlt : k < l.length
    · have hltI : (k : Int) < l.length := by omega
      have hltd : decide ((k : Int) < (l.length : Int)) = true := decide_eq_true hltI
      by_cases h60 : k < 60
      · have h60d : decide ((k : Int) < 60) = true := decide_eq_true (by omega)
        obtain ⟨b, o, m, v1, rfl, hx, hz, q1, q2, q3, q4, q5, q6, hv⟩ := h.cell (bRefl wr) hlt
        obtain ⟨A1, c1, rfl, _⟩ := hv.form
        have HX := hid_mk hx
        clear hx hv
        by_cases h6 : 6 < m.nt.args.length
        · have h6d : decide ((6 : Int) < (m.nt.args.length : Int)) = true := decide_eq_true (by omega)
          have HR : Hid (¬ SmallM l) := fun hs => by have := hs.2 m (List.mem_of_getElem? HX.out); omega
          clear h6
          go_wp2
          go_ret
          exact ⟨ret_b (decide_eq_false HR.out).symm, rfl⟩
        · have h6d : decide ((6 : Int) < (m.nt.args.length : Int)) = false := decide_eq_false (by omega)
          have H6 : Hid (m.nt.args.length ≤ 6) := by show _ ≤ _; omega
          clear h6
          go_wp2
          go_roundg (l.length - (k + 1))
          case measure => omega
          case rel => exact ⟨k + 1, rfl, by omega, by omega, by first | rfl | go_num, rfl, fun j y hj hy => by
              by_cases ej : j = k
              · subst ej; have := HX.out; rw [hy] at this; cases this; exact H6.out
              · exact ht.out j y (by omega) hy⟩
      · have h60d : decide ((k : Int) < 60) = false := decide_eq_false (by omega)
        have HR : Hid (¬ SmallM l) := fun hs => by have := hs.1; omega
        have h50d : decide ((l.length : Int) ≤ 50) = false := decide_eq_false (by omega)
        clear h60
        go_wp2
        go_ret
        exact ⟨ret_b (decide_eq_false HR.out).symm, rfl⟩
    · obtain rfl : k = l.length := by omega
      have hltd : decide ((l.length : Int) < (l.length : Int)) = false := decide_eq_false (by omega)
      have HR : Hid (decide ((l.length : Int) ≤ 50) = decide (SmallM l)) := by
        show _ = _
        by_cases h5 : l.length ≤ 50
        · rw [decide_eq_true (show (l.length : Int) ≤ 50 by omega), decide_eq_true]
          refine ⟨h5, fun m hm => ?_⟩
          obtain ⟨j, hj⟩ := List.getElem?_of_mem hm
          exact ht.out j m (List.getElem?_eq_some_iff.1 hj).1 hj
        · rw [decide_eq_false (show ¬ (l.length : Int) ≤ 50 by omega), decide_eq_false]
          exact fun hs => h5 hs.1
      clear hlt
      go_wp2
      go_ret
      exact ⟨ret_b HR.out, rfl⟩
set_option maxHeartbeats 1000000 in
theorem aWorld_any (w : World) (v : Value) (x : PWld) (h : WldV w v x) : Calls Tryd.prog 28 #[v] w fun e w' => e = .returned (.bool (decide (SmallW x))) ∧ Below w.heap.size w w' := by
  obtain ⟨va, vm, rfl, g1, g2⟩ := h
  obtain ⟨B1, d1, rfl, _⟩ := g1.form
  obtain ⟨B2, d2, rfl, _⟩ := g2.form
  have HG2 := hid_mk g2
  have HG1 := hid_mk g1
  have k1 := heap_new w (.cells #[.slice B1 x.acts.length d1, .slice B2 x.mail.length d2, .int .i64 x.used.drop, .int .i64 x.used.dup, .int .i64 x.used.time, .int .i64 x.used.crash] 44)
  have HB : Hid (Below w.heap.size w (w.alloc (.cells #[.slice B1 x.acts.length d1, .slice B2 x.mail.length d2, .int .i64 x.used.drop, .int .i64 x.used.dup, .int .i64 x.used.time, .int .i64 x.used.crash] 44))) := bAlloc (bRefl _) _
  clear g1 g2
  by_cases ha : 10 < x.acts.length
  · have had : decide ((10 : Int) < (x.acts.length : Int)) = true := decide_eq_true (by omega)
    have HR : Hid (¬ SmallW x) := fun hs => by have := hs.1; omega
    clear ha k1
    go_enter Tryd.func28, Tryd.ntmps28
    go_wp2
    go_ret
    exact ⟨ret_b (decide_eq_false HR.out).symm, HB.out⟩
  · have had : decide ((10 : Int) < (x.acts.length : Int)) = false := decide_eq_false (by omega)
    have HA : Hid (x.acts.length ≤ 10) := by show _ ≤ _; omega
    clear ha
    by_cases hm : SmallM x.mail
    · have hmd : decide (SmallM x.mail) = true := decide_eq_true hm
      have HM := hid_mk hm
      clear hm
      obtain ⟨x0, x1, x2, x3, x4, x5⟩ := blk6 k1
      go_enter Tryd.func28, Tryd.ntmps28
      go_wp2_with (first | (go_at_call 69; refine (aMail_any _ _ x.mail (HG2.out.below (by exact bAlloc (bRefl _) _))).mono ?_; rintro e w2 ⟨rfl, rfl⟩))
      generalize (w.alloc (.cells #[.slice B1 x.acts.length d1, .slice B2 x.mail.length d2, .int .i64 x.used.drop, .int .i64 x.used.dup, .int .i64 x.used.time, .int .i64 x.used.crash] 44)) = w1 at k1 HB x0 x1 x2 x3 x4 x5 ⊢
      go_loopg [3] x.acts.length (fun g i3 wr => ∃ k : Nat, g = x.acts.length - k ∧ k ≤ x.acts.length ∧ i3 = .int .i64 (k : Int) ∧ wr = w1 ∧ Hid (∀ j a, j < k → x.acts[j]? = some a → a.regs.length ≤ 10))
      case atStart => exact ⟨0, rfl, by omega, rfl, rfl, fun j a hj => by omega⟩
      case round =>
        obtain ⟨k, rfl, hk, rfl, rfl, ht⟩ := hrel
        by_cases hlt : k < x.acts.length
        · have hltI : (k : Int) < x.acts.length := by omega
          obtain ⟨b, o, a, v1, rfl, hx, hz, q1, q2, q3, q4, q5, hv⟩ := HG1.out.cell HB.out hlt
          obtain ⟨A1, c1, rfl, _⟩ := hv.form
          have HX := hid_mk hx
          clear hx hv
          by_cases h6 : 10 < a.regs.length
          · have h6d : decide ((10 : Int) < (a.regs.length : Int)) = true := decide_eq_true (by omega)
            have HR : Hid (¬ SmallW x) := fun hs => by have := hs.2.2 a (List.mem_of_getElem? HX.out); omega
            clear h6
            go_wp2
            go_ret
            exact ⟨ret_b (decide_eq_false HR.out).symm, HB.out⟩
          · have h6d : decide ((10 : Int) < (a.regs.length : Int)) = false := decide_eq_false (by omega)
            have H6 : Hid (a.regs.length ≤ 10) := by show _ ≤ _; omega
            clear h6
            go_wp2
            go_roundg (x.acts.length - (k + 1))
            case measure => omega
            case rel => exact ⟨k + 1, rfl, by omega, by first | rfl | go_num, rfl, fun j y hj hy => by
                by_cases ej : j = k
                · subst ej; have := HX.out; rw [hy] at this; cases this; exact H6.out
                · exact ht.out j y (by omega) hy⟩
        · obtain rfl : k = x.acts.length := by omega
          have HR : Hid (SmallW x) := ⟨HA.out, HM.out, fun a ha => by
            obtain ⟨j, hj⟩ := List.getElem?_of_mem ha
            exact ht.out j a (List.getElem?_eq_some_iff.1 hj).1 hj⟩
          clear hlt
          go_wp2
          go_ret
          exact ⟨ret_b (decide_eq_true HR.out).symm, HB.out⟩
    · have hmd : decide (SmallM x.mail) = false := decide_eq_false hm
      have HR : Hid (¬ SmallW x) := fun hs => hm hs.2.1
      clear hm
      obtain ⟨x0, x1, x2, x3, x4, x5⟩ := blk6 k1
      go_enter Tryd.func28, Tryd.ntmps28
      go_wp2_with (first | (go_at_call 69; refine (aMail_any _ _ x.mail (HG2.out.below (by exact bAlloc (bRefl _) _))).mono ?_; rintro e w2 ⟨rfl, rfl⟩))
      go_ret
      exact ⟨ret_b (decide_eq_false HR.out).symm, HB.out⟩
end Go.Proofs.YtgdloonpemaijaaDoor
namespace Go.Proofs.YtgdloonpemaijaaDoor
open Go.RowKit

theorem all_next {α : Type} {l : List α} {k : Nat} {x : α} {P : α → Prop} (h : ∀ y ∈ l.take k, P y) (hx : l[k]? = some x) (hp : P x) : ∀ y ∈ l.take (k + 1), P y := by
  rw [List.take_add_one, hx]
  intro y hy
  simp only [Option.toList_some, List.mem_append, List.mem_singleton] at hy
  rcases hy with hy | rfl
  · exact h y hy
  · exact hp

set_option maxHeartbeats 4000000 in
theorem small_any (w : World) (v : Value) (p : PPrg) (h : PrgV w v p) :
    Calls Tryd.prog 13 #[v] w fun e w' => e = .returned (.bool (small p)) ∧ Below w.heap.size w w' := by
  obtain ⟨va, vb, vc, rfl, h1, h2, h3⟩ := h
  obtain ⟨A1, c1, rfl, hl1⟩ := h1.form
  obtain ⟨A2, c2, rfl, hl2⟩ := h2.form
  obtain ⟨A3, c3, rfl, hl3⟩ := h3.form
  have HB : ∀ (x : Obj), Below w.heap.size w (w.alloc x) := fun x => bAlloc (bRefl w) x
  by_cases s1 : p.hs.length ≤ 18
  · by_cases s2 : p.acs.length ≤ 10
    · by_cases s3 : p.bs.length ≤ 18
      · go_enter Tryd.func13, Tryd.ntmps13
        go_wp2
        go_loopg [3] p.hs.length (fun g i3 wr => ∃ k : Nat, g = p.hs.length - k ∧ k ≤ p.hs.length ∧ i3 = .int .i64 k ∧ Hid (∀ y ∈ p.hs.take k, y.code.length ≤ 70) ∧ Below (w.heap.size + 1) (w.alloc (.cells #[.slice A1 p.hs.length c1, .slice A2 p.acs.length c2, .slice A3 p.bs.length c3, .int .i64 p.fuel] 26)) wr)
        case atStart => exact ⟨0, rfl, by omega, rfl, fun y hy => by simp at hy, Below.refl _ _⟩
        case round =>
          skip
          obtain ⟨k, rfl, hk, rfl, hal, hb⟩ := hrel
          obtain ⟨hb', hcb, hz⟩ := boxed hb
          by_cases hlt : k < p.hs.length
          · obtain ⟨b1, o1, x, v1, rfl, hx, hz1, q1, q2, hv1⟩ := h1.cell hb' hlt
            obtain ⟨V1, n1, rfl, hvl⟩ := hv1.form
            have HX : Hid (p.hs[k]? = some x) := hx
            clear hx hv1
            by_cases q : x.code.length ≤ 70
            · go_wp2
              go_roundg (p.hs.length - (k + 1))
              case measure => omega
              case rel => exact ⟨k + 1, rfl, by omega, by go_num, all_next hal.out HX.out q, hb⟩
            · have HR : Hid (small p = false) := decide_eq_false (fun h => q (h.2.2.2.1 x (List.mem_of_getElem? HX.out)))
              go_wp2
              go_ret
              exact ⟨ret_b HR.out.symm, hb'⟩
          · have HA0 : Hid (∀ y ∈ p.hs, y.code.length ≤ 70) := by
              have := hal.out
              rwa [List.take_of_length_le (by omega)] at this
            clear hal
            go_wp2
            go_loopg [4] p.acs.length (fun g i4 wr => ∃ k : Nat, g = p.acs.length - k ∧ k ≤ p.acs.length ∧ i4 = .int .i64 k ∧ Hid (∀ y ∈ p.acs.take k, y.regs.length ≤ 10) ∧ Below (w.heap.size + 1) (w.alloc (.cells #[.slice A1 p.hs.length c1, .slice A2 p.acs.length c2, .slice A3 p.bs.length c3, .int .i64 p.fuel] 26)) wr)
            case atStart => exact ⟨0, rfl, by omega, rfl, fun y hy => by simp at hy, hb⟩
            case round =>
              clear hb hb' hcb hz
              obtain ⟨k, rfl, hk, rfl, hal, hb⟩ := hrel
              obtain ⟨hb', hcb, hz⟩ := boxed hb
              by_cases hlt : k < p.acs.length
              · obtain ⟨b1, o1, x, v1, rfl, hx, hz1, q1, q2, q3, q4, hv1⟩ := h2.cell hb' hlt
                obtain ⟨V1, n1, rfl, hvl⟩ := hv1.form
                have HX : Hid (p.acs[k]? = some x) := hx
                clear hx hv1
                by_cases q : x.regs.length ≤ 10
                · go_wp2
                  go_roundg (p.acs.length - (k + 1))
                  case measure => omega
                  case rel => exact ⟨k + 1, rfl, by omega, by go_num, all_next hal.out HX.out q, hb⟩
                · have HR : Hid (small p = false) := decide_eq_false (fun h => q (h.2.2.2.2.1 x (List.mem_of_getElem? HX.out)))
                  go_wp2
                  go_ret
                  exact ⟨ret_b HR.out.symm, hb'⟩
              · have HA1 : Hid (∀ y ∈ p.acs, y.regs.length ≤ 10) := by
                  have := hal.out
                  rwa [List.take_of_length_le (by omega)] at this
                clear hal
                go_wp2
                go_loopg [5] p.bs.length (fun g i5 wr => ∃ k : Nat, g = p.bs.length - k ∧ k ≤ p.bs.length ∧ i5 = .int .i64 k ∧ Hid (∀ y ∈ p.bs.take k, y.args.length ≤ 6) ∧ Below (w.heap.size + 1) (w.alloc (.cells #[.slice A1 p.hs.length c1, .slice A2 p.acs.length c2, .slice A3 p.bs.length c3, .int .i64 p.fuel] 26)) wr)
                case atStart => exact ⟨0, rfl, by omega, rfl, fun y hy => by simp at hy, hb⟩
                case round =>
                  clear hb hb' hcb hz
                  obtain ⟨k, rfl, hk, rfl, hal, hb⟩ := hrel
                  obtain ⟨hb', hcb, hz⟩ := boxed hb
                  by_cases hlt : k < p.bs.length
                  · obtain ⟨b1, o1, x, v1, rfl, hx, hz1, q1, q2, q3, hv1⟩ := h3.cell hb' hlt
                    obtain ⟨V1, n1, rfl, hvl⟩ := hv1.form
                    have HX : Hid (p.bs[k]? = some x) := hx
                    clear hx hv1
                    by_cases q : x.args.length ≤ 6
                    · go_wp2
                      go_roundg (p.bs.length - (k + 1))
                      case measure => omega
                      case rel => exact ⟨k + 1, rfl, by omega, by go_num, all_next hal.out HX.out q, hb⟩
                    · have HR : Hid (small p = false) := decide_eq_false (fun h => q (h.2.2.2.2.2 x (List.mem_of_getElem? HX.out)))
                      go_wp2
                      go_ret
                      exact ⟨ret_b HR.out.symm, hb'⟩
                  · have HA2 : Hid (∀ y ∈ p.bs, y.args.length ≤ 6) := by
                      have := hal.out
                      rwa [List.take_of_length_le (by omega)] at this
                    clear hal
                    go_wp2
                    go_ret
                    exact ⟨ret_b (decide_eq_true ⟨s1, s2, s3, HA0.out, HA1.out, HA2.out⟩).symm, hb'⟩
      · have HR : Hid (small p = false) := decide_eq_false (fun h => s3 h.2.2.1)
        go_enter Tryd.func13, Tryd.ntmps13
        go_wp2
        go_ret
        exact ⟨ret_b HR.out.symm, HB _⟩
    · have HR : Hid (small p = false) := decide_eq_false (fun h => s2 h.2.1)
      go_enter Tryd.func13, Tryd.ntmps13
      go_wp2
      go_ret
      exact ⟨ret_b HR.out.symm, HB _⟩
  · have HR : Hid (small p = false) := decide_eq_false (fun h => s1 h.1)
    go_enter Tryd.func13, Tryd.ntmps13
    go_wp2
    go_ret
    exact ⟨ret_b HR.out.symm, HB _⟩
end Go.Proofs.YtgdloonpemaijaaDoor
namespace Go.Proofs.YtgdloonpemaijaaDoor
open Go.ChangeShapes Go.WideShapes Go.ChangeAt Go.RowKit

theorem one_of {α : Type} {l : List α} {k : Nat} {a : α} (h : (l.drop k).take 1 = [a]) : l[k]? = some a := by
  have := congrArg (·[0]?) h
  simpa [List.getElem?_take, List.getElem?_drop] using this
theorem own : ownKnob Tryd.prog.godebug = none := by kernel_rfl
def nmAt (k : Nat) : String := (Rows.stepTimersRow.laid.map (·.1)).getD k ""
theorem gTab : Tryd.prog.globalNamed (nmAt 0) = some 0 := by kernel_rfl
theorem tTab : (Tryd.prog.globals[0]?).map (·.type) = some 197 := by kernel_rfl
theorem cells3 : Tryd.prog.cellsOf 3 = 1 := by kernel_rfl
theorem cellsT : Tryd.prog.cellsOf 187 = 4 := by kernel_rfl
theorem cells9 : Tryd.prog.cellsOf 9 = 1 := by kernel_rfl
/-- The datum, row by row. -/
def rowD (i : Nat) : DataW Unit := .agg [.lit (.string (nmL.getD i [])), .lit (.int .i64 (po i)), .lit (.int .i64 (pu i)), .lit (.int .i64 (od i))]
theorem table_rows : (Rows.laid_gavotte_ops_table : DataW Unit) = .agg ((List.range 26).map rowD) := by kernel_rfl

theorem four_of {α : Type} {l : List α} {i j : Nat} {a : α} (hj : j < 4) (h : ((l.drop (i * 4)).take 4)[j]? = some a) : l[i * 4 + j]? = some a := by
  rw [List.getElem?_take, if_pos hj, List.getElem?_drop] at h
  exact h

theorem str_of {s : ByteArray} {l : List UInt8} (h : l = s.data.toList) : s = ⟨l.toArray⟩ := by
  subst h
  rfl

theorem tab_of {rest : List (String × DataW Unit)} {W : World} (h : laidMet Tryd.prog ((nmAt 0, Rows.laid_gavotte_ops_table) :: rest) W) : Tab W := by
  obtain ⟨ps, ⟨g0, t0, cs0, f0, p0, q0, hg0, ht0, hv0, hd0, _, _⟩, _, _⟩ := h
  obtain rfl := Option.some.inj (gTab.symm.trans hg0)
  obtain rfl := Option.some.inj (tTab.symm.trans ht0)
  obtain ⟨xs, m, rfl, hx, hlen, hn, hel⟩ := DataW.trod_array Tryd.underlying197 hd0
  rw [table_rows] at hx
  simp only [Prod.mk.injEq, DataW.agg.injEq] at hx
  have key : ∀ i, i < 26 → cs0[i * 4]? = some (.string (nm i)) ∧ cs0[i * 4 + 1]? = some (.int .i64 (po i)) ∧ cs0[i * 4 + 2]? = some (.int .i64 (pu i)) ∧ cs0[i * 4 + 3]? = some (.int .i64 (od i)) := by
    intro i hi
    have he := hel i hi
    have hxi : (xs.map (·.1))[i]? = some (rowD i) := by rw [← hx.1]; simp [hi]
    rw [List.getElem?_map] at hxi
    obtain ⟨x, hx1, hx2⟩ := Option.map_eq_some_iff.1 hxi
    rw [hx1, cellsT] at he
    obtain ⟨y0, y1, y2, y3, n, hy, _, e0, e1, e2, e3⟩ := Go.Joins.trod_struct4 Tryd.underlying187 he
    rw [hy] at hx2
    simp only [rowD, DataW.agg.injEq, List.cons.injEq, and_true] at hx2
    obtain ⟨r0, r1, r2, r3⟩ := hx2
    rw [cells9] at e0
    rw [cells3] at e1 e2 e3
    obtain ⟨s, c0, rfl, _⟩ := DataW.trod_string Tryd.underlying9 e0
    obtain ⟨a, c1, rfl, _⟩ := DataW.trod_int Tryd.underlying3 e1
    obtain ⟨b, c2, rfl, _⟩ := DataW.trod_int Tryd.underlying3 e2
    obtain ⟨c, c3, rfl, _⟩ := DataW.trod_int Tryd.underlying3 e3
    simp only [DataW.lit.injEq, Lit.string.injEq, Lit.int.injEq, true_and] at r0 r1 r2 r3
    obtain rfl := r1
    obtain rfl := r2
    obtain rfl := r3
    have hs : s = nm i := str_of r0.symm
    subst hs
    have d0 := four_of (j := 0) (by decide) (one_of c0)
    have d1 := four_of (j := 1) (by decide) (one_of c1)
    have d2 := four_of (j := 2) (by decide) (one_of c2)
    have d3 := four_of (j := 3) (by decide) (one_of c3)
    simp only [Array.getElem?_toList] at d0 d1 d2 d3
    exact ⟨d0, d1, d2, d3⟩
  have look := fun k => World.var?_cell hg0 hv0 k
  have first : W.cell? ⟨0, 0 * 4, none⟩ = some (.string (nm 0)) := (look (0 * 4)).trans (key 0 (by decide)).1
  refine ⟨fun i hi => (look _).trans (key i hi).1, fun i hi => (look _).trans (key i hi).2.1, fun i hi => (look _).trans (key i hi).2.2.1, fun i hi => (look _).trans (key i hi).2.2.2, ?_⟩
  apply Classical.byContradiction
  intro hz
  have : W.heap[0]? = none := by rw [Array.getElem?_eq_none]; omega
  simp [World.cell?, this] at first


def laidE : List (String × DataW Unit) := [(nmAt 0, Rows.laid_gavotte_ops_table)]
theorem of_laidE {W : World} (h : laidMetH Tryd.prog laidE W) : Tab W := by
  rw [MakeChecks.laidMetH_plain _ _ _ (by kernel_rfl)] at h
  exact tab_of h
/-- The wrap of a row that lists variables, the world's shape kept. -/
theorem handed_both {H : Type} {enc : TypeId × Value → H} {a : Assume} {C : Checked} {os : Os} {f : FuncId} {fn : Func} {s : ChangeSpec} {conds : List PathCond} {apart fresh handsOn again : Bool} {X : World → Array Value → Prop}
    (hX : ∀ (w w' : World) (args : Array Value), w.heap = w'.heap → X w args → X w' args)
    (own : ownKnob C.prog.godebug = none) (started : os.Started) (noInit : C.prog.inits.idxOf? f = none) (hfn : C.prog.funcs[f]? = some fn)
    (witness : ∃ (w : World) (tape : Tape) (i : Input), w.os = os ∧ (w.forCall tape i).Shaped C.prog ∧ i.vars = [] ∧ Input.okWide C.prog (w.forCall tape i) .any w.heap.size f i ∧
      ((s.pre enc C.prog fn conds apart (w.forCall tape i).memory i.args ∧ X (w.forCall tape i).memory i.args) ∧ sizedMet enc C.prog fn (OpenSpec.ofChange s) apart (w.forCall tape i).memory i.args) ∧ a.holds C.prog (lone (Frame.enter C.prog f i.args .normal) [] (w.forCall tape i)))
    (contract : ∀ (W : World) (base : Nat) (args : Array Value) (ds gs : List (DataW H)) (before : List MemPlace),
      (∀ (j : Nat) t v, fn.params[j]? = some t → args[j]? = some v → Value.okWide C.prog W .any base t v) →
      DataW.Whole enc C.prog fn.params.toList s.vars apart W args.toList ds gs before → X W args → W.ShapedOpen C.prog →
      Calls C.prog f args W fun e W' => ∃ v, e = .returned v ∧ s.post enc C.prog fn apart fresh handsOn again W args v W') :
    ReturnsInHanded a C os f .any (fun w args => (s.pre enc C.prog fn conds apart w args ∧ X w args) ∧ sizedMet enc C.prog fn (OpenSpec.ofChange s) apart w args) (s.post enc C.prog fn apart fresh handsOn again) := by
  refine returnsInHanded_of_calls own started noInit witness fun w tape i _ hsh _ hok hpre _ => ?_
  obtain ⟨_, _, _, fn', hfn', _, _, _, _, hval⟩ := hok
  cases Option.some.inj (hfn'.symm.trans hfn)
  obtain ⟨⟨⟨ds, gs, before, hw, _⟩, hx⟩, _⟩ := hpre
  refine (contract (w.forCall tape i) w.heap.size i.args ds gs before hval (DataW.Whole.of_heap (w' := w.forCall tape i) (by rfl) hw) (hX _ _ _ (by rfl) hx) hsh).mono fun e W' ⟨v, he, hp⟩ => ?_
  subst he
  exact ChangeSpec.post_blind hp

theorem door_metE (os : Os) (args : Array Value) : laidMetH Tryd.prog laidE ((World.doorLaid Tryd.prog 400 os).forCall (fun _ _ => 0) ⟨#[], args, []⟩).memory :=
  laidMetH_of_parts3 (fuel := 8) (laidMet_of_run' 8 (by kernel_rfl) (by kernel_rfl)) (by kernel_rfl) (by kernel_rfl)
end Go.Proofs.YtgdloonpemaijaaDoor
namespace Go.Proofs.YtgdloonpemaijaaDoor
open Go.ChangeShapes Go.WideShapes Go.ChangeAt Go.RowKit
/-- A number of 64 bits. -/
def Rg (n : Int) : Prop := -9223372036854775808 ≤ n ∧ n ≤ 9223372036854775807
/-- A program's numbers are of 64 bits. -/
structure RgP (q : PPrg) : Prop where
  regs : ∀ a ∈ q.acs, ∀ n ∈ a.regs, Rg n
  args : ∀ x ∈ q.bs, ∀ n ∈ x.args, Rg n
theorem rg_of {n : Int} (h : (Lit.int .i64 n).wf = true) : Rg n := by
  simp [Lit.wf, IntKind.min, IntKind.max, IntKind.bits, IntKind.signed] at h
  exact ⟨by omega, by omega⟩
theorem cells4 : Tryd.prog.cellsOf 4 = 1 := by kernel_rfl
theorem cellsP : Tryd.prog.cellsOf 26 = 4 := by kernel_rfl
theorem cellsC : Tryd.prog.cellsOf 79 = 1 := by kernel_rfl
theorem cellsH : Tryd.prog.cellsOf 81 = 2 := by kernel_rfl
theorem cellsI : Tryd.prog.cellsOf 78 = 2 := by kernel_rfl
theorem cellsIs : Tryd.prog.cellsOf 27 = 1 := by kernel_rfl
theorem cellsA : Tryd.prog.cellsOf 83 = 4 := by kernel_rfl
theorem cellsN : Tryd.prog.cellsOf 54 = 3 := by kernel_rfl
theorem Sl.split {α : Type} {sz : Nat} {R : World → Nat → Nat → α → Prop} {Q : α → Prop} {ok : Nat → Prop} {w : World} {v : Value} {l : List α} (h : Sl sz (fun w b o x => R w b o x ∧ Q x) ok w v l) : Sl sz R ok w v l ∧ ∀ x ∈ l, Q x := by
  refine ⟨h.imp (fun _ h => h) (Nat.le_refl _) fun _ _ _ _ _ hr => hr.1, fun x hx => ?_⟩
  obtain ⟨A, c, rfl, _, _, h⟩ := h
  rcases h with rfl | ⟨b, o, _, _, _, hc⟩
  · cases hx
  · obtain ⟨k, hk⟩ := List.getElem?_of_mem hx
    exact (hc k x hk).2
theorem cellsBu : Tryd.prog.cellsOf 42 = 4 := by kernel_rfl
theorem cellsEv : Tryd.prog.cellsOf 62 = 5 := by kernel_rfl
theorem cellsId : Tryd.prog.cellsOf 56 = 3 := by kernel_rfl
theorem cellsM : Tryd.prog.cellsOf 58 = 6 := by kernel_rfl
theorem cellsLo : Tryd.prog.cellsOf 29 = 5 := by kernel_rfl
theorem cellsLs : Tryd.prog.cellsOf 39 = 1 := by kernel_rfl
theorem cellsMs : Tryd.prog.cellsOf 40 = 1 := by kernel_rfl
theorem cellsW : Tryd.prog.cellsOf 44 = 6 := by kernel_rfl
theorem take_at {α : Type} {l : List α} {k n j : Nat} (hj : j < n) : ((l.drop k).take n)[j]? = l[k + j]? := by rw [List.getElem?_take, if_pos hj, List.getElem?_drop]
theorem arr5 {cs : Array Value} (h : cs.size = 5) : ∃ a b c d e, cs = #[a, b, c, d, e] := by
  obtain ⟨l⟩ := cs
  match l, h with
  | [a, b, c, d, e], _ => exact ⟨a, b, c, d, e, rfl⟩
theorem arr6 {cs : Array Value} (h : cs.size = 6) : ∃ a b c d e f, cs = #[a, b, c, d, e, f] := by
  obtain ⟨l⟩ := cs
  match l, h with
  | [a, b, c, d, e, f], _ => exact ⟨a, b, c, d, e, f, rfl⟩
section
variable {H : Type} {enc : TypeId × Value → H} {w : World} {spare : Nat → Bool} {held : Bool}
theorem sl_open {α : Type} [Inhabited α] {sz : Nat} {R : World → Nat → Nat → α → Prop} {t e : TypeId} {fuel : Nat} {cs : List Value} {x : DataW H × List MemPlace} (ht : Tryd.prog.underlying t = some (.slice e)) (hsz : Tryd.prog.cellsOf e = sz) (h0 : 0 < sz)
    (hel : ∀ b o cs' n d, (∀ j, j < sz → w.cell? ⟨b, o + j, none⟩ = cs'[j]?) → DataW.trod enc Tryd.prog w 0 spare held n e cs' = some d → ∃ x, R w b o x) (h : DataW.trod enc Tryd.prog w 0 spare held fuel t cs = some x) :
    ∃ v l, cs = [v] ∧ Sl sz R anyB w v l := by
  rcases Go.Deep.open_slice ht h with ⟨rfl, _⟩ | ⟨a, len, cap, m, n, D, Pl, rfl, _, hl, hm, hmm, _, hx⟩
  · exact ⟨_, [], rfl, _, _, rfl, by simp, by simp, Or.inl rfl⟩
  · have hlm : len ≤ m := by rw [hmm]; split <;> omega
    by_cases hz : len = 0
    · subst hz
      exact ⟨_, [], rfl, _, _, rfl, by simp, by simp, Or.inl rfl⟩
    · rw [hsz] at hx
      have hbd : (len : Int) ≤ 9223372036854775807 := by unfold maxLen at hm; omega
      obtain ⟨ab, ao, asp⟩ := a
      have hsp : asp = none ∧ ab < w.heap.size := by
        obtain ⟨cs', h1, _⟩ := hx 0 (by omega)
        obtain ⟨_, h2, h3⟩ := World.cells?_some h1
        have h4 := h3 0 h0
        rw [Nat.zero_mul] at h4
        have h5 : w.cell? ⟨ab, ao, asp⟩ = cs'[0]? := h4
        rw [List.getElem?_eq_getElem (by omega)] at h5
        refine ⟨?_, World.block_lt_of_cell? _ _ h5⟩
        unfold World.cell? at h5
        split at h5
        · split at h5
          · simp at h5
          · rename_i hns; cases asp <;> simp_all
        · simp at h5
      obtain ⟨rfl, hlt⟩ := hsp
      obtain ⟨f, hf⟩ := Go.Deep.choose_lt (α := α) (n := len) (p := fun i x => R w ab (ao + i * sz) x) (fun i hi => by
        obtain ⟨cs', h1, h2⟩ := hx i (by omega)
        obtain ⟨_, _, h3⟩ := World.cells?_some h1
        refine hel ab (ao + i * sz) cs' n _ (fun j hj => ?_) h2
        have := h3 j hj
        rwa [addr_add, addr_add] at this)
      refine ⟨_, (List.range len).map f, rfl, some ⟨ab, ao, none⟩, cap, by simp, by simpa using hbd, by simpa using hl, Or.inr ⟨ab, ao, rfl, trivial, hlt, fun k y hy => ?_⟩⟩
      have hk : k < len := by have := (List.getElem?_eq_some_iff.1 hy).1; simpa using this
      have : f k = y := by simpa [hk] using hy
      rw [← this]
      exact hf k hk

theorem open_ints {fuel : Nat} {cs : List Value} {x : DataW H × List MemPlace} (h : DataW.trod enc Tryd.prog w 0 spare held fuel 27 cs = some x) : ∃ v l, cs = [v] ∧ Ints anyB w v l ∧ ∀ n ∈ l, Rg n := by
  obtain ⟨v, l, e, hl⟩ := sl_open (R := fun w b o (n : Int) => rInt w b o n ∧ Rg n) Tryd.underlying27 cells3 (by decide) (fun b o cs' n d hc h => by
    obtain ⟨k, rfl, _, hw⟩ := DataW.trod_int Tryd.underlying3 h
    exact ⟨k, hc 0 (by decide), rg_of hw⟩) h
  exact ⟨v, l, e, hl.split⟩
theorem open_code {fuel : Nat} {cs : List Value} {x : DataW H × List MemPlace} (h : DataW.trod enc Tryd.prog w 0 spare held fuel 79 cs = some x) : ∃ v l, cs = [v] ∧ Code anyB w v l :=
  sl_open Tryd.underlying79 cellsI (by decide) (fun b o cs' n d hc h => by
    obtain ⟨y0, y1, m, _, _, e0, e1⟩ := trod_struct2 Tryd.underlying78 h
    rw [cells3] at e0 e1
    obtain ⟨i, c0, _⟩ := DataW.trod_int Tryd.underlying3 e0
    obtain ⟨j, c1, _⟩ := DataW.trod_int Tryd.underlying3 e1
    exact ⟨⟨i, j⟩, (hc 0 (by decide)).trans (one_of c0), (hc 1 (by decide)).trans (one_of c1)⟩) h
theorem open_hnds {fuel : Nat} {cs : List Value} {x : DataW H × List MemPlace} (h : DataW.trod enc Tryd.prog w 0 spare held fuel 22 cs = some x) : ∃ v l, cs = [v] ∧ Hnds anyB anyB w v l :=
  sl_open Tryd.underlying22 cellsH (by decide) (fun b o cs' n d hc h => by
    obtain ⟨y0, y1, m, _, _, e0, e1⟩ := trod_struct2 Tryd.underlying81 h
    rw [cells3] at e0
    rw [cellsC] at e1
    obtain ⟨i, c0, _⟩ := DataW.trod_int Tryd.underlying3 e0
    obtain ⟨v, l, c1, hl⟩ := open_code e1
    exact ⟨⟨i, l⟩, (hc 0 (by decide)).trans (one_of c0), v, (hc 1 (by decide)).trans (one_of c1), hl⟩) h
theorem open_acts {fuel : Nat} {cs : List Value} {x : DataW H × List MemPlace} (h : DataW.trod enc Tryd.prog w 0 spare held fuel 23 cs = some x) : ∃ v l, cs = [v] ∧ Acts anyB anyB w v l ∧ ∀ a ∈ l, ∀ n ∈ a.regs, Rg n := by
  obtain ⟨v, l, e, hl⟩ := sl_open (R := fun w b o (a : PAct) => rAct anyB w b o a ∧ ∀ n ∈ a.regs, Rg n) Tryd.underlying23 cellsA (by decide) (fun b o cs' n d hc h => by
    obtain ⟨y0, y1, y2, y3, m, _, _, e0, e1, e2, e3⟩ := Go.Joins.trod_struct4 Tryd.underlying83 h
    rw [cellsIs] at e0
    rw [cells3] at e1 e2
    rw [cells4] at e3
    obtain ⟨v, l, c0, hl, hg⟩ := open_ints e0
    obtain ⟨i, c1, _⟩ := DataW.trod_int Tryd.underlying3 e1
    obtain ⟨j, c2, _⟩ := DataW.trod_int Tryd.underlying3 e2
    obtain ⟨k, c3, _⟩ := DataW.trod_bool Tryd.underlying4 e3
    exact ⟨⟨l, i, j, k⟩, ⟨⟨v, (hc 0 (by decide)).trans (one_of c0), hl⟩, (hc 1 (by decide)).trans (one_of c1), (hc 2 (by decide)).trans (one_of c2), (hc 3 (by decide)).trans (one_of c3)⟩, hg⟩) h
  exact ⟨v, l, e, hl.split⟩
theorem open_ntes {fuel : Nat} {cs : List Value} {x : DataW H × List MemPlace} (h : DataW.trod enc Tryd.prog w 0 spare held fuel 24 cs = some x) : ∃ v l, cs = [v] ∧ Ntes anyB anyB w v l ∧ ∀ n ∈ l, ∀ k ∈ n.args, Rg k := by
  obtain ⟨v, l, e, hl⟩ := sl_open (R := fun w b o (n : PNte) => rNte anyB w b o n ∧ ∀ k ∈ n.args, Rg k) Tryd.underlying24 cellsN (by decide) (fun b o cs' n d hc h => by
    obtain ⟨y0, y1, y2, m, _, _, e0, e1, e2⟩ := Go.Deep.trod_struct3 Tryd.underlying54 h
    rw [cells3] at e0 e1
    rw [cellsIs] at e2
    obtain ⟨i, c0, _⟩ := DataW.trod_int Tryd.underlying3 e0
    obtain ⟨j, c1, _⟩ := DataW.trod_int Tryd.underlying3 e1
    obtain ⟨v, l, c2, hl, hg⟩ := open_ints e2
    exact ⟨⟨i, j, l⟩, ⟨(hc 0 (by decide)).trans (one_of c0), (hc 1 (by decide)).trans (one_of c1), v, (hc 2 (by decide)).trans (one_of c2), hl⟩, hg⟩) h
  exact ⟨v, l, e, hl.split⟩
set_option maxRecDepth 100000 in
theorem open_prg {r : Reach} {b0 : Nat} {v : Value} {d : DataW H} {p : List MemPlace} (hv : Value.okWide Tryd.prog w r b0 26 v) (h : DataW.Trod enc Tryd.prog w 0 spare held 26 v d p) : ∃ q, PrgV w v q ∧ RgP q := by
  obtain ⟨v0, v1, v2, v3, y0, y1, y2, y3, n, rfl, _, _, e0, e1, e2, e3⟩ := Go.Joins.open_agg4 Tryd.underlying26 (by kernel_rfl) cellsP hv h
  obtain ⟨u0, l0, c0, h0⟩ := open_hnds e0
  obtain ⟨u1, l1, c1, h1, g1⟩ := open_acts e1
  obtain ⟨u2, l2, c2, h2, g2⟩ := open_ntes e2
  obtain ⟨i, c3, _⟩ := DataW.trod_int Tryd.underlying3 e3
  simp only [List.cons.injEq, and_true] at c0 c1 c2 c3
  subst c0 c1 c2 c3
  exact ⟨⟨l0, l1, l2, i⟩, ⟨_, _, _, rfl, h0, h1, h2⟩, ⟨g1, g2⟩⟩
set_option maxRecDepth 100000 in
theorem open_bud {r : Reach} {b0 : Nat} {v : Value} {d : DataW H} {p : List MemPlace} (hv : Value.okWide Tryd.prog w r b0 42 v) (h : DataW.Trod enc Tryd.prog w 0 spare held 42 v d p) : ∃ x : PBud, v = uVal x ∧ Rg x.drop := by
  obtain ⟨v0, v1, v2, v3, y0, y1, y2, y3, n, rfl, _, _, e0, e1, e2, e3⟩ := Go.Joins.open_agg4 Tryd.underlying42 (by kernel_rfl) cellsBu hv h
  obtain ⟨i, c0, _, f0⟩ := DataW.trod_int Tryd.underlying3 e0
  obtain ⟨j, c1, _⟩ := DataW.trod_int Tryd.underlying3 e1
  obtain ⟨k, c2, _⟩ := DataW.trod_int Tryd.underlying3 e2
  obtain ⟨l, c3, _⟩ := DataW.trod_int Tryd.underlying3 e3
  simp only [List.cons.injEq, and_true] at c0 c1 c2 c3
  subst c0 c1 c2 c3
  exact ⟨⟨i, j, k, l⟩, rfl, rg_of f0⟩
set_option maxRecDepth 100000 in
/-- A message's cells. -/
theorem open_mcs {fuel : Nat} {cs : List Value} {x : DataW H × List MemPlace} (h : DataW.trod enc Tryd.prog w 0 spare held fuel 58 cs = some x) :
    ∃ (m : PMsg) (c : Value), cs[0]? = some (.int .i64 m.id.f) ∧ cs[1]? = some (.int .i64 m.id.n) ∧ cs[2]? = some (.int .i64 m.id.c) ∧ cs[3]? = some (.int .i64 m.nt.to) ∧ cs[4]? = some (.int .i64 m.nt.hd) ∧ cs[5]? = some c ∧ Ints anyB w c m.nt.args := by
  obtain ⟨y0, y1, m, _, _, e0, e1⟩ := trod_struct2 Tryd.underlying58 h
  obtain ⟨_, _, _, _, _, _, f0, f1, f2⟩ := Go.Deep.trod_struct3 Tryd.underlying56 e0
  obtain ⟨_, _, _, _, _, _, g0, g1, g2⟩ := Go.Deep.trod_struct3 Tryd.underlying54 e1
  simp only [cells3, cellsId, cellsN, cellsIs] at f0 f1 f2 g0 g1 g2
  obtain ⟨i0, c0, _⟩ := DataW.trod_int Tryd.underlying3 f0
  obtain ⟨i1, c1, _⟩ := DataW.trod_int Tryd.underlying3 f1
  obtain ⟨i2, c2, _⟩ := DataW.trod_int Tryd.underlying3 f2
  obtain ⟨j0, d0, _⟩ := DataW.trod_int Tryd.underlying3 g0
  obtain ⟨j1, d1, _⟩ := DataW.trod_int Tryd.underlying3 g1
  obtain ⟨v, l, d2, hl, _⟩ := open_ints g2
  have a0 := one_of c0
  have a1 := one_of c1
  have a2 := one_of c2
  have b0 := one_of d0
  have b1 := one_of d1
  have b2 := one_of d2
  rw [take_at (by decide)] at a0 a1 a2 b0 b1 b2
  exact ⟨⟨⟨i0, i1, i2⟩, ⟨j0, j1, l⟩⟩, v, a0, a1, a2, b0, b1, b2, hl⟩
set_option maxRecDepth 100000 in
theorem open_msgs {fuel : Nat} {cs : List Value} {x : DataW H × List MemPlace} (h : DataW.trod enc Tryd.prog w 0 spare held fuel 40 cs = some x) : ∃ v l, cs = [v] ∧ Msgs anyB anyB w v l :=
  sl_open Tryd.underlying40 cellsM (by decide) (fun b o cs' n d hc h => by
    obtain ⟨m, c, e0, e1, e2, e3, e4, e5, hl⟩ := open_mcs h
    exact ⟨m, (hc 0 (by decide)).trans e0, (hc 1 (by decide)).trans e1, (hc 2 (by decide)).trans e2, (hc 3 (by decide)).trans e3, (hc 4 (by decide)).trans e4, c, (hc 5 (by decide)).trans e5, hl⟩) h
set_option maxRecDepth 100000 in
theorem open_ev {r : Reach} {b0 : Nat} {v : Value} {d : DataW H} {p : List MemPlace} (hv : Value.okWide Tryd.prog w r b0 62 v) (h : DataW.Trod enc Tryd.prog w 0 spare held 62 v d p) : ∃ x : PEv, v = eVal x ∧ Rg x.kind := by
  obtain ⟨cs, rfl, hsz⟩ := okWide_struct Tryd.underlying62 hv
  obtain ⟨x0, x1, x2, x3, x4, rfl⟩ := arr5 (hsz.trans cellsEv)
  obtain ⟨fuel, hf⟩ := h
  obtain ⟨y0, y1, y2, n, hx, _, h0, h1, h2⟩ := Go.Deep.trod_struct3 Tryd.underlying62 hf
  obtain ⟨z0, z1, z2, m, hz, _, g0, g1, g2⟩ := Go.Deep.trod_struct3 Tryd.underlying56 h1
  simp only [cells3, cellsId] at h0 h2 g0 g1 g2
  obtain ⟨i, c0, _, f0⟩ := DataW.trod_int Tryd.underlying3 h0
  obtain ⟨j, c1, _, f1⟩ := DataW.trod_int Tryd.underlying3 g0
  obtain ⟨k, c2, _, f2⟩ := DataW.trod_int Tryd.underlying3 g1
  obtain ⟨l, c3, _, f3⟩ := DataW.trod_int Tryd.underlying3 g2
  obtain ⟨o, c4, _, f4⟩ := DataW.trod_int Tryd.underlying3 h2
  simp [Value.cells] at c0 c1 c2 c3 c4
  subst c0 c1 c2 c3 c4
  exact ⟨⟨i, ⟨j, k, l⟩, o⟩, rfl, rg_of f0⟩
theorem open5 {t : TypeId} {f0 f1 f2 f3 f4 : Field} {fuel : Nat} {cs : List Value} {x : DataW H × List MemPlace} (ht : Tryd.prog.underlying t = some (.struct #[f0, f1, f2, f3, f4])) (h : DataW.trod enc Tryd.prog w 0 spare held fuel t cs = some x) :
    ∃ (y0 y1 y2 y3 y4 : DataW H × List MemPlace) (n : Nat), DataW.trod enc Tryd.prog w 0 spare held n f0.type ((cs.drop f0.offset).take (Tryd.prog.cellsOf f0.type)) = some y0 ∧
      DataW.trod enc Tryd.prog w 0 spare held n f1.type ((cs.drop f1.offset).take (Tryd.prog.cellsOf f1.type)) = some y1 ∧ DataW.trod enc Tryd.prog w 0 spare held n f2.type ((cs.drop f2.offset).take (Tryd.prog.cellsOf f2.type)) = some y2 ∧
      DataW.trod enc Tryd.prog w 0 spare held n f3.type ((cs.drop f3.offset).take (Tryd.prog.cellsOf f3.type)) = some y3 ∧ DataW.trod enc Tryd.prog w 0 spare held n f4.type ((cs.drop f4.offset).take (Tryd.prog.cellsOf f4.type)) = some y4 := by
  obtain ⟨xs, n, _, rfl, _, hlen, hf⟩ := DataW.trod_struct ht h
  match xs, hlen with
  | [y0, y1, y2, y3, y4], _ => exact ⟨y0, y1, y2, y3, y4, n, by simpa using hf 0 f0 rfl, by simpa using hf 1 f1 rfl, by simpa using hf 2 f2 rfl, by simpa using hf 3 f3 rfl, by simpa using hf 4 f4 rfl⟩
set_option maxRecDepth 100000 in
theorem open_locs {fuel : Nat} {cs : List Value} {x : DataW H × List MemPlace} (h : DataW.trod enc Tryd.prog w 0 spare held fuel 39 cs = some x) : ∃ v l, cs = [v] ∧ Locs anyB anyB w v l :=
  sl_open Tryd.underlying39 cellsLo (by decide) (fun b o cs' n d hc h => by
    obtain ⟨y0, y1, y2, y3, y4, m, e0, e1, e2, e3, e4⟩ := open5 Tryd.underlying29 h
    rw [cellsIs] at e0
    rw [cells4] at e1
    rw [cells3] at e2 e3 e4
    obtain ⟨v, l, c0, hl, _⟩ := open_ints e0
    obtain ⟨i, c1, _⟩ := DataW.trod_bool Tryd.underlying4 e1
    obtain ⟨j, c2, _⟩ := DataW.trod_int Tryd.underlying3 e2
    obtain ⟨k, c3, _⟩ := DataW.trod_int Tryd.underlying3 e3
    obtain ⟨u, c4, _⟩ := DataW.trod_int Tryd.underlying3 e4
    exact ⟨⟨l, i, j, k, u⟩, ⟨v, (hc 0 (by decide)).trans (one_of c0), hl⟩, (hc 1 (by decide)).trans (one_of c1), (hc 2 (by decide)).trans (one_of c2), (hc 3 (by decide)).trans (one_of c3), (hc 4 (by decide)).trans (one_of c4)⟩) h
set_option maxRecDepth 100000 in
theorem open_wldV {r : Reach} {b0 : Nat} {v : Value} {d : DataW H} {p : List MemPlace} (hv : Value.okWide Tryd.prog w r b0 44 v) (h : DataW.Trod enc Tryd.prog w 0 spare held 44 v d p) : ∃ x, WldV w v x := by
  obtain ⟨cs, rfl, hsz⟩ := okWide_struct Tryd.underlying44 hv
  obtain ⟨x0, x1, x2, x3, x4, x5, rfl⟩ := arr6 (hsz.trans cellsW)
  obtain ⟨fuel, hf⟩ := h
  obtain ⟨y0, y1, y2, n, hx, _, h0, h1, h2⟩ := Go.Deep.trod_struct3 Tryd.underlying44 hf
  obtain ⟨z0, z1, z2, z3, m, hz, _, g0, g1, g2, g3⟩ := Go.Joins.trod_struct4 Tryd.underlying42 h2
  simp only [cells3, cellsLs, cellsMs, cellsBu] at h0 h1 g0 g1 g2 g3
  obtain ⟨u0, l0, c0, k0⟩ := open_locs h0
  obtain ⟨u1, l1, c1, k1⟩ := open_msgs h1
  obtain ⟨i, c2, _⟩ := DataW.trod_int Tryd.underlying3 g0
  obtain ⟨j, c3, _⟩ := DataW.trod_int Tryd.underlying3 g1
  obtain ⟨k, c4, _⟩ := DataW.trod_int Tryd.underlying3 g2
  obtain ⟨l, c5, _⟩ := DataW.trod_int Tryd.underlying3 g3
  simp [Value.cells] at c0 c1 c2 c3 c4 c5
  subst c0 c1 c2 c3 c4 c5
  exact ⟨⟨l0, l1, ⟨i, j, k, l⟩⟩, _, _, rfl, k0, k1⟩
end
end Go.Proofs.YtgdloonpemaijaaDoor
