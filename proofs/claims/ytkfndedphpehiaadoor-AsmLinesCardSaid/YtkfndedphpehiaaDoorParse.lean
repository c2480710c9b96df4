/-
  What asm.Parse answers. Condition: the text is not of a giant's length.
-/
import Derived.Test.YtkfndedphpehiaaDoorOwn
namespace Go.Proofs.YtkfndedphpehiaaDoor
open Go.RowKit
attribute [local go_sem ↓] Go.wp_at_zero Go.wp_at_succ

/-- What is read, and with which error. -/
def pc (s : List UInt8) : List PIns := (prs s).getD []
def pe (s : List UInt8) : Int := if (prs s).isSome then 0 else 2
theorem pc_of {s : List UInt8} {c : List PIns} (h : prs s = some c) : pc s = c ∧ pe s = 0 := by unfold pc pe; rw [h]; exact ⟨rfl, rfl⟩
theorem pc_no {s : List UInt8} (h : prs s = none) : pc s = [] ∧ pe s = 2 := by unfold pc pe; rw [h]; exact ⟨rfl, rfl⟩
theorem rdV_form (l : List UInt8) : ∃ x y b, rdV l = .tuple #[.agg #[.int .i64 x, .int .i64 y], .bool b] := by
  unfold rdV
  cases rd l with
  | none => exact ⟨_, _, _, rfl⟩
  | some i => exact ⟨_, _, _, rfl⟩
theorem rdV_no {l : List UInt8} (h : rd l = none) : rdV l = .tuple #[.agg #[.int .i64 0, .int .i64 0], .bool false] := by unfold rdV; rw [h]
theorem rdV_yes {l : List UInt8} {i : PIns} (h : rd l = some i) : rdV l = .tuple #[.agg #[.int .i64 i.op, .int .i64 i.a], .bool true] := by unfold rdV; rw [h]
theorem cutV_no {x : UInt8} {s : List UInt8} (h : cutc x s = none) : cutV x s = .tuple #[.string (bs s), .string (bs []), .bool false] := by unfold cutV; rw [h]
theorem cutV_yes {x : UInt8} {s a b : List UInt8} (h : cutc x s = some (a, b)) : cutV x s = .tuple #[.string (bs a), .string (bs b), .bool true] := by unfold cutV; rw [h]
theorem ret_two {a b : Value} {n m : Int} (h : a = b) (h' : n = m) : Ending.returned (.tuple #[a, .int .i64 n]) = .returned (.tuple #[b, .int .i64 m]) := by rw [h, h']
/-- cs is read, r is to be read. -/
structure PI (w : World) (s : List UInt8) (cs : List PIns) (r : List UInt8) (v : Value) (wr : World) : Prop where
  eq : prs s = (prs r).map (cs ++ ·)
  co : CO w v cs wr
  len : cs.length + r.length ≤ s.length
theorem PI.bad {w : World} {s r : List UInt8} {cs : List PIns} {v : Value} {wr : World} (h : PI w s cs r v wr) (hr : prs r = none) : prs s = none := by rw [h.eq, hr]; rfl
theorem PI.done {w : World} {s r : List UInt8} {cs : List PIns} {v : Value} {wr : World} (h : PI w s cs r v wr) (hr : r = []) : prs s = some cs := by rw [h.eq, hr, prs_nil]; simp
theorem CO.any {w w' : World} (h : Below w.heap.size w w') : CO w (.slice none 0 0) [] w' := ⟨h, rfl, Or.inl ⟨rfl, rfl⟩⟩

set_option maxHeartbeats 2000000 in
theorem parse_any (w : World) (s : List UInt8) (hl : s.length ≤ 100000) (he : Env w) :
    Calls Tryd.prog 8 #[.string (bs s)] w fun e w' => ∃ v, e = .returned (.tuple #[v, .int .i64 (pe s)]) ∧ CO w v (pc s) w' := by
  have HE : Hid (Env w) := he
  clear he
  go_enter Tryd.func8, Tryd.ntmps8
  go_wp2
  go_loopg [0, 4] s.length (fun g i0 i4 wr => ∃ cs r, g = r.length ∧ i0 = .string (bs r) ∧ Hid (PI w s cs r i4 wr))
  case atStart => exact ⟨[], s, rfl, rfl, ⟨by simp, CO.nil w, by simp⟩⟩
  case round =>
    obtain ⟨cs, r, rfl, rfl, hI⟩ := hrel
    have hn := hI.out.len
    by_cases h0 : r = []
    · have h3 := emp_yes h0
      have H0 : Hid (r = []) := h0
      clear h0
      go_wp2
      go_ret2
      obtain ⟨p1, p2⟩ := pc_of (hI.out.done H0.out)
      exact ⟨_, ret_two rfl p2.symm, by rw [p1]; exact hI.out.co⟩
    · have h3 := emp_no h0
      have H0 : Hid (r ≠ []) := h0
      clear h0
      cases hc : cutc 10 r with
      | none =>
        have HC : Hid (cutc 10 r = none) := hc
        have hv := cutV_no hc
        clear hc
        obtain ⟨x, y, b, hr⟩ := rdV_form r
        go_wp2_with (first
          | (go_at_call 19; refine (cutB 10 r _ (by omega) (HE.out.below hI.out.co.low)).mono ?_; rw [hv]; rintro e w1 ⟨rfl, n, rfl⟩)
          | (go_at_call 20; refine (read_any _ r (by omega) (HE.out.below (by first | exact bDrewN hI.out.co.low n | exact bAlloc (bDrewN hI.out.co.low n) _))).mono ?_; rw [hr]; rintro e w2 ⟨rfl, hb2⟩))
        go_ret2
        obtain ⟨p1, p2⟩ := pc_no (hI.out.bad (prs_none H0.out HC.out))
        exact ⟨_, ret_two rfl p2.symm, by rw [p1]; exact CO.any (bAlloc (bTrans (bDrewN hI.out.co.low n) hb2) _)⟩
      | some p =>
        obtain ⟨l, q⟩ := p
        have HC : Hid (cutc 10 r = some (l, q)) := hc
        have hv := cutV_yes hc
        have hn2 : r.length = l.length + 1 + q.length := by rw [(cutc_some hc).1]; simp; omega
        clear hc
        cases hd : rd l with
        | none =>
          have HD : Hid (rd l = none) := hd
          have hr := rdV_no hd
          clear hd
          go_wp2_with (first
            | (go_at_call 19; refine (cutB 10 r _ (by omega) (HE.out.below hI.out.co.low)).mono ?_; rw [hv]; rintro e w1 ⟨rfl, n, rfl⟩)
            | (go_at_call 20; refine (read_any _ l (by omega) (HE.out.below (by exact bDrewN hI.out.co.low n))).mono ?_; rw [hr]; rintro e w2 ⟨rfl, hb2⟩))
          go_ret2
          obtain ⟨p1, p2⟩ := pc_no (hI.out.bad (prs_bad HC.out HD.out))
          exact ⟨_, ret_two rfl p2.symm, by rw [p1]; exact CO.any (bAlloc (bTrans (bDrewN hI.out.co.low n) hb2) _)⟩
        | some i =>
          have HD : Hid (rd l = some i) := hd
          have hr := rdV_yes hd
          clear hd
          go_wp2_with (first
            | (go_at_call 19; refine (cutB 10 r _ (by omega) (HE.out.below hI.out.co.low)).mono ?_; rw [hv]; rintro e w1 ⟨rfl, n, rfl⟩)
            | (go_at_call 20; refine (read_any _ l (by omega) (HE.out.below (by exact bDrewN hI.out.co.low n))).mono ?_; rw [hr]; rintro e w2 ⟨rfl, hb2⟩)
            | (at_builtin; refine appC rfl _ _ rfl [i] (w2.heap.size + 1) (cs.length + 1) 1 (((hI.out.co.below (quiet_below ⟨n, rfl⟩)).below hb2).below (bAlloc (bAlloc (bRefl _) _) _)) rfl rfl rfl rfl (by decide) (heap_new2 (by simp)) (by omega) ?_; intro g cap w3 hco _))
          go_roundg q.length
          case measure => omega
          case rel => exact ⟨cs ++ [i], q, rfl, rfl, ⟨by rw [hI.out.eq, prs_step HC.out HD.out, Option.map_map]; congr 1; funext z; simp, hco, by rw [List.length_append, List.length_singleton]; omega⟩⟩
end Go.Proofs.YtkfndedphpehiaaDoor
