/-
  What Check's own parts answer: of the counts, an instruction, a handler, an actor, a note. Conditions: the table of the instructions is in the world; of an instruction: its handler's Args are 0 to 4, and handlers are few.
-/
import Derived.Test.YtgdloonpemaijaaDoorCell
import Derived.Test.YtgdloonpemaijaaDoorOps
namespace Go.Proofs.YtgdloonpemaijaaDoor
open Go.RowKit

section
variable {n args hs : Int} {i : PIns}
theorem chkI_bad (h : vl i.op = false) : 1 = chkI n args hs i := by simp [chkI, h]
theorem chkI_0 (h : vl i.op = true) (o : opd i.op = 0) : unl (i.a == 0) 1 = chkI n args hs i := by simp [chkI, h, o, unl]
theorem chkI_4 (h : vl i.op = true) (o : opd i.op = 4) : unl (inB i.a 0 n) 4 = chkI n args hs i := by simp [chkI, h, o, unl, inB]
theorem chkI_2 (h : vl i.op = true) (o : opd i.op = 2) : unl (inB i.a 0 7) 6 = chkI n args hs i := by simp [chkI, h, o, unl, inB]
theorem lt_sub (a b : Int) : a ≤ b - 1 ↔ a < b := by omega
theorem chkI_3 (h : vl i.op = true) (o : opd i.op = 3) : unl (inB i.a 0 (args - 1)) 6 = chkI n args hs i := by simp [chkI, h, o, unl, inB, lt_sub]
theorem chkI_5 (h : vl i.op = true) (o : opd i.op = 5) : unl (inB i.a 0 (hs - 1)) 7 = chkI n args hs i := by simp [chkI, h, o, unl, inB, lt_sub]
theorem chkI_1 (h : vl i.op = true) (o : opd i.op = 1) : 0 = chkI n args hs i := by simp [chkI, h, o]
theorem od_all : ∀ i : Nat, i < 26 → od i = 0 ∨ od i = 4 ∨ od i = 2 ∨ od i = 3 ∨ od i = 5 ∨ od i = 1 := by decide
theorem opd_all (op : Int) : opd op = 0 ∨ opd op = 4 ∨ opd op = 2 ∨ opd op = 3 ∨ opd op = 5 ∨ opd op = 1 := by
  unfold opd
  by_cases h : 1 ≤ op ∧ op ≤ 25
  · rw [at_yes h.1 h.2]; exact od_all _ (by omega)
  · rw [at_no (by omega)]; exact od_all 0 (by omega)
end

set_option maxHeartbeats 800000 in
theorem instr_any (w : World) (i : PIns) (c : Value) (h : PHnd) (hs : Int) (ht : Tab w) (hc : Code anyB w c h.code) (ha : 0 ≤ h.args) (ha2 : h.args ≤ 4) (hh : 0 ≤ hs) (hh2 : hs ≤ 1000) :
    Calls Tryd.prog 145 #[.agg #[.int .i64 i.op, .int .i64 i.a], .agg #[.int .i64 h.args, c], .int .i64 hs] w fun e w' => e = .returned (.int .i64 (chkI h.code.length h.args hs i)) ∧ Below w.heap.size w w' := by
  have HB : ∀ (x y : Obj), Below w.heap.size w ((w.alloc x).alloc y) := fun x y => bAlloc (bAlloc (bRefl w) x) y
  have HT : Hid (Tab w) := ht
  obtain ⟨A, cc, rfl, hl⟩ := hc.form
  clear ht
  cases hv : vl i.op with
  | false =>
    go_enter Tryd.func145, Tryd.ntmps145
    go_wp2_with (go_at_call 157; refine (valid_any _ _).mono ?_; rintro e w' ⟨rfl, rfl⟩)
    go_ret
    exact ⟨ret_int (chkI_bad hv), HB _ _⟩
  | true =>
    rcases opd_all i.op with ho | ho | ho | ho | ho | ho
    all_goals
      go_enter Tryd.func145, Tryd.ntmps145
      go_wp2_with (first
        | (go_at_call 157; refine (valid_any _ _).mono ?_; rintro e w' ⟨rfl, rfl⟩)
        | (go_at_call 158; refine (oper_any _ _ (HT.out.below (by exact HB _ _))).mono ?_; rintro e w1 ⟨rfl, hb1⟩; have hc1 := bcell hb1)
        | (go_at_call 144; refine (within_any _ _ _ _).mono ?_; rintro e w' ⟨rfl, rfl⟩)
        | (go_at_call 146; refine (unless_any _ _ _).mono ?_; rintro e w' ⟨rfl, rfl⟩))
      go_ret
      first
        | exact ⟨ret_int (chkI_0 hv ho), bTrans (HB _ _) hb1⟩
        | exact ⟨ret_int (chkI_4 hv ho), bTrans (HB _ _) hb1⟩
        | exact ⟨ret_int (chkI_2 hv ho), bTrans (HB _ _) hb1⟩
        | exact ⟨ret_int (chkI_3 hv ho), bTrans (HB _ _) hb1⟩
        | exact ⟨ret_int (chkI_5 hv ho), bTrans (HB _ _) hb1⟩
        | exact ⟨ret_int (chkI_1 hv ho), bTrans (HB _ _) hb1⟩

theorem in_yes {n a b : Int} (h : a ≤ n ∧ n ≤ b) : inB n a b = true := decide_eq_true h
theorem in_no {n a b : Int} (h : ¬ (a ≤ n ∧ n ≤ b)) : inB n a b = false := decide_eq_false h
theorem ne0_no {n : Int} (h : n = 0) : (n != 0) = false := by simp [h]
theorem ne0_yes {n : Int} (h : ¬ n = 0) : (n != 0) = true := by simp [h]

set_option maxHeartbeats 800000 in
theorem hnd_any (w : World) (v : Value) (h : PHnd) (hs : Int) (ht : Tab w) (hv : HndV w v h) (hh : 0 ≤ hs) (hh2 : hs ≤ 1000) :
    Calls Tryd.prog 117 #[v, .int .i64 hs] w fun e w' => e = .returned (.int .i64 (chkH hs h)) ∧ Below w.heap.size w w' := by
  obtain ⟨c, rfl, hc⟩ := hv
  obtain ⟨A, cc, rfl, hl⟩ := hc.form
  have HB : ∀ (x : Obj), Below w.heap.size w (w.alloc x) := fun x => bAlloc (bRefl w) x
  by_cases ha : 0 ≤ h.args ∧ h.args ≤ 4
  · have hi := in_yes ha
    obtain ⟨ha1, ha2⟩ := ha
    by_cases hlen : h.code.length ≤ 64
    · have HR : Hid (chkH hs h = scan (chkI h.code.length h.args hs) (h.code.drop 0)) := by unfold chkH; rw [if_pos ⟨ha1, ha2⟩, if_pos hlen]; rfl
      have HT : Hid (Tab w) := ht
      clear ht
      go_enter Tryd.func117, Tryd.ntmps117
      go_wp2_with (go_at_call 144; refine (within_any _ _ _ _).mono ?_; rintro e w' ⟨rfl, rfl⟩)
      go_loopg [6, 7, 19] h.code.length (fun g i6 i7 i19 wr => ∃ k : Nat, g = h.code.length - k ∧ k ≤ h.code.length ∧ i19 = .int .i64 k ∧ Hid (scan (chkI h.code.length h.args hs) (h.code.drop k) = chkH hs h) ∧ Below (w.heap.size + 1) (w.alloc (.cells #[.int .i64 h.args, .slice A h.code.length cc] 81)) wr)
      case atStart => exact ⟨0, rfl, by omega, rfl, HR.out.symm, Below.refl _ _⟩
      case round =>
        obtain ⟨k, rfl, hk, rfl, hsc, hb⟩ := hrel
        have hb' : Below w.heap.size w wr := bTrans (HB _) (by simpa using hb)
        have hcb : ∀ o, wr.cell? ⟨w.heap.size, o, none⟩ = (w.alloc (.cells #[.int .i64 h.args, .slice A h.code.length cc] 81)).cell? ⟨w.heap.size, o, none⟩ := fun o => hb.cell (p := ⟨w.heap.size, o, none⟩) (Nat.lt_succ_self _)
        have hz : w.heap.size < wr.heap.size := by have := hb.size; simp at this; omega
        by_cases hlt : k < h.code.length
        · obtain ⟨b1, o1, x, rfl, hx, q1, q2⟩ := hc.cell hb' hlt
          have hz1 : b1 < wr.heap.size := by
            obtain ⟨b, o, hA, _, hlt, _⟩ := hc.at (by omega)
            simp at hA
            have := hb'.size
            omega
          have HS : Hid (scan (chkI h.code.length h.args hs) (h.code.drop k) = if chkI h.code.length h.args hs x = 0 then scan (chkI h.code.length h.args hs) (h.code.drop (k + 1)) else chkI h.code.length h.args hs x) := scan_step hx
          clear hx
          by_cases he : chkI h.code.length h.args hs x = 0
          · have he' := ne0_no he
            have HE : Hid (chkI h.code.length h.args hs x = 0) := he
            clear he
            go_wp2_with (go_at_call 145; refine (instr_any _ _ _ h _ (HT.out.below (by exact bAlloc hb' _)) (hc.below (by exact bAlloc hb' _)) ha1 ha2 hh hh2).mono ?_; rintro e w1 ⟨rfl, hb1⟩)
            go_roundg (h.code.length - (k + 1))
            case measure => omega
            case rel => exact ⟨k + 1, rfl, by omega, by go_num, by rw [← hsc.out, HS.out, if_pos HE.out]; rfl, hb.trans (((Below.refl _ _).alloc (by omega) _).trans (hb1.mono (by simp; omega)))⟩
          · have he' := ne0_yes he
            have HE : Hid (¬ chkI h.code.length h.args hs x = 0) := he
            clear he
            go_wp2_with (go_at_call 145; refine (instr_any _ _ _ h _ (HT.out.below (by exact bAlloc hb' _)) (hc.below (by exact bAlloc hb' _)) ha1 ha2 hh hh2).mono ?_; rintro e w1 ⟨rfl, hb1⟩)
            go_ret
            exact ⟨ret_int (by rw [← hsc.out, HS.out, if_neg HE.out]), bTrans (bAlloc hb' _) hb1⟩
        · go_wp2
          go_ret
          exact ⟨ret_int (by rw [← hsc.out, scan_end hlt]), hb'⟩
    · have HR : Hid (3 = chkH hs h) := by unfold chkH; rw [if_pos ⟨ha1, ha2⟩, if_neg hlen]; rfl
      go_enter Tryd.func117, Tryd.ntmps117
      go_wp2_with (go_at_call 144; refine (within_any _ _ _ _).mono ?_; rintro e w' ⟨rfl, rfl⟩)
      go_ret
      exact ⟨ret_int HR.out, HB _⟩
  · have hi := in_no ha
    have HR : Hid (1 = chkH hs h) := by unfold chkH; rw [if_neg ha]; rfl
    go_enter Tryd.func117, Tryd.ntmps117
    go_wp2_with (go_at_call 144; refine (within_any _ _ _ _).mono ?_; rintro e w' ⟨rfl, rfl⟩)
    go_ret
    exact ⟨ret_int HR.out, HB _⟩
end Go.Proofs.YtgdloonpemaijaaDoor
