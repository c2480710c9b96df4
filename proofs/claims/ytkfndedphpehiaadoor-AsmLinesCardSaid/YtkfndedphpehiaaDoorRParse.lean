/-
  The document's own reading of a text: ParseCode. Condition: the text is not of a giant's length.
-/
import Derived.Test.YtkfndedphpehiaaDoorRLine
import Derived.Test.YtkfndedphpehiaaDoorParse
import Derived.Lib.SmallJoins
namespace Go.Proofs.YtkfndedphpehiaaDoor
open Go.RowKit
attribute [local go_sem ↓] Go.wp_at_zero Go.wp_at_succ

theorem rd_ref {l : List UInt8} {c : PIns} (hc : c.op = (opOf (wd l) : Int)) (ha : ∀ p, cutc 32 l = some p → ∀ a, Rg a → p.2 = Lib.itoa a → c.a = a) (ha0 : cutc 32 l = none → c.a = 0) (hr : Rg c.a) :
    rd l = if l ≠ [] ∧ line c = l then some c else none := by
  have hrc : RgI c := ⟨by rw [hc]; exact (cand_rg l).1, hr⟩
  by_cases h : l ≠ [] ∧ line c = l
  · rw [if_pos h]; exact rd_of hrc h.1 h.2
  · rw [if_neg h]
    cases hd : rd l with
    | none => rfl
    | some j =>
      exfalso
      obtain ⟨k1, k2⟩ := rd_some hd
      have hj := rd_rg hd
      have e : cand l = j := by rw [← k1]; exact cand_line hj (by rw [k1]; exact k2)
      have eo : c.op = j.op := by rw [hc, ← e]; rfl
      have hv : vl j.op = true := by
        cases hv : vl j.op with
        | true => rfl
        | false => rw [line_no hv] at k1; exact absurd k1.symm k2
      obtain ⟨g1, g2, g3⟩ := nmO_ok hv
      have ea : c.a = j.a := by
        by_cases ho : opd j.op = 0
        · have h0 : j.a = 0 := by
            by_cases h0 : j.a = 0
            · exact h0
            · rw [line_odd hv ho h0] at k1; exact absurd k1.symm k2
          rw [line_bare hv ho h0] at k1
          rw [h0]
          exact ha0 (by rw [← k1]; exact cutc_none fun x hx => (g2 x hx).1)
        · rw [line_num hv ho] at k1
          exact ha _ (by rw [← k1]; exact cutc_app _ fun x hx => (g2 x hx).1) j.a hj.2 rfl
      have : c = j := by cases c; cases j; cases eo; cases ea; rfl
      exact h ⟨k2, by rw [this]; exact k1⟩

/-- What stands from f to i. -/
def sub (s : List UInt8) (f i : Nat) : List UInt8 := (s.drop f).take (i - f)
theorem sub_ext (s : List UInt8) (f i : Nat) : (bs s).extract f i = bs (sub s f i) := by
  apply ByteArray.ext
  rw [ByteArray.data_extract]
  apply Array.toList_inj.1
  unfold bs sub
  rw [Array.toList_extract]
theorem sub_len {s : List UInt8} {f i : Nat} (h1 : f ≤ i) (h2 : i ≤ s.length) : (sub s f i).length = i - f := by unfold sub; rw [List.length_take, List.length_drop]; omega
theorem sub_snoc {s : List UInt8} {f i : Nat} {c : UInt8} (h1 : f ≤ i) (hc : s[i]? = some c) : sub s f (i + 1) = sub s f i ++ [c] := by
  unfold sub
  rw [show i + 1 - f = (i - f) + 1 by omega, List.take_add_one, List.getElem?_drop, show f + (i - f) = i by omega, hc]; rfl
theorem drop_sub {s : List UInt8} {f i : Nat} {c : UInt8} (h1 : f ≤ i) (hc : s[i]? = some c) : s.drop f = sub s f i ++ c :: s.drop (i + 1) := by
  have h2 := (List.getElem?_eq_some_iff.1 hc).1
  have e : s.drop i = c :: s.drop (i + 1) := by rw [List.drop_eq_getElem_cons h2, (List.getElem?_eq_some_iff.1 hc).2]
  rw [← e]
  unfold sub
  conv => lhs; rw [← List.take_append_drop (i - f) (s.drop f)]
  rw [List.drop_drop, show f + (i - f) = i by omega]
theorem sub_all {s : List UInt8} {f : Nat} : sub s f s.length = s.drop f := by unfold sub; rw [List.take_of_length_le (by rw [List.length_drop]; omega)]
theorem findR (x : List UInt8) (w : World) : Calls Tryd.prog 21 #[.string (bs x)] w fun e w' => e = .returned (.tuple #[.int .i64 (opOf x), .bool (decide (0 < opOf x))]) ∧ Below w.heap.size w w' := rfind_any (bs x) w
theorem cut_at {l : List UInt8} {k : Nat} (hc : l[k]? = some 32) (hn : ∀ c ∈ l.take k, c ≠ 32) : cutc 32 l = some (l.take k, l.drop (k + 1)) := by
  have e := drop_sub (Nat.zero_le k) hc
  rw [List.drop_zero, show sub l 0 k = l.take k from rfl] at e
  conv => lhs; rw [e]
  exact cutc_app _ hn
theorem kept_new {w1 w3 : World} {x y : Value} (hb3 : Below (w1.alloc (.cells #[x, y] 24)).heap.size (w1.alloc (.cells #[x, y] 24)) w3) : w3.heap[w1.heap.size]? = some (.cells #[x, y] 24 (0, 0)) :=
  (hb3.block _ (by simp)).trans (heap_new w1 _)
theorem block_setCell1 {w : World} {g : Nat} {x y : Value} (h : w.heap[g]? = some (.cells #[x, y] 24 (0, 0))) (v : Value) : (w.setCell ⟨g, 1, none⟩ v).heap[g]? = some (.cells #[x, v] 24 (0, 0)) :=
  (Go.Joins.block_setCell (i := 1) h v).trans rfl
theorem kept_set {w1 w3 w5 : World} {x y m : Value} (hb3 : Below (w1.alloc (.cells #[x, y] 24)).heap.size (w1.alloc (.cells #[x, y] 24)) w3) (hb5 : Below (w3.setCell ⟨w1.heap.size, 1, none⟩ m).heap.size (w3.setCell ⟨w1.heap.size, 1, none⟩ m) w5) :
    w5.heap[w1.heap.size]? = some (.cells #[x, m] 24 (0, 0)) := by
  have h := block_setCell1 (kept_new hb3) m
  exact (hb5.block _ (Array.getElem?_eq_some_iff.1 h).1).trans h
theorem low_all {w1 w3 w5 : World} {x y m : Value} (hb3 : Below (w1.alloc (.cells #[x, y] 24)).heap.size (w1.alloc (.cells #[x, y] 24)) w3) (hb5 : Below (w3.setCell ⟨w1.heap.size, 1, none⟩ m).heap.size (w3.setCell ⟨w1.heap.size, 1, none⟩ m) w5) : Below w1.heap.size w1 w5 :=
  bTrans ((bTrans (bAlloc (bRefl w1) _) hb3).setCell (p := ⟨w1.heap.size, 1, none⟩) (Nat.le_refl _) _) hb5
/-- cs is read up to f; from f to i no line ends. -/
structure RP (w : World) (s : List UInt8) (cs : List PIns) (f i : Nat) (v : Value) (wr : World) : Prop where
  eq : prs s = (prs (s.drop f)).map (cs ++ ·)
  co : CO w v cs wr
  no : ∀ c ∈ sub s f i, c ≠ 10
  len : cs.length ≤ f

theorem str_ne_of {a b : List UInt8} (h : (!(bs a).toList == (bs b).toList) = true) : a ≠ b := fun e => by rw [str_yes e] at h; cases h
theorem str_eq_of {a b : List UInt8} (h : (!(bs a).toList == (bs b).toList) = false) : a = b := by
  by_cases e : a = b
  · exact e
  · rw [str_no e] at h; cases h
theorem RP.bad {w : World} {s l q : List UInt8} {cs : List PIns} {f i : Nat} {v : Value} {wr : World} (h : RP w s cs f i v wr) (hd : cutc 10 (s.drop f) = some (l, q)) (hr : rd l = none) : prs s = none := by rw [h.eq, prs_bad hd hr]; rfl
theorem RP.next {w : World} {s l : List UInt8} {cs : List PIns} {c : PIns} {f i : Nat} {v v' : Value} {wr w6 : World} (h : RP w s cs f i v wr) (hd : cutc 10 (s.drop f) = some (l, s.drop (i + 1))) (hr : rd l = some c) (hco : CO w v' (cs ++ [c]) w6) (hf : f ≤ i) :
    RP w s (cs ++ [c]) (i + 1) (i + 1) v' w6 :=
  ⟨by rw [h.eq, prs_step hd hr, Option.map_map]; congr 1; funext z; simp, hco, fun x hx => absurd hx (by unfold sub; rw [Nat.sub_self, List.take_zero]; exact List.not_mem_nil), by rw [List.length_append, List.length_singleton]; have := h.len; omega⟩
theorem rd_two {l a q : List UInt8} {m : Int} (hc : cutc 32 l = some (a, q)) (hm : Rg m) (h2 : ∀ x, Rg x → q = Lib.itoa x → m = x) : rd l = if l ≠ [] ∧ line ⟨(opOf (wd l) : Int), m⟩ = l then some ⟨(opOf (wd l) : Int), m⟩ else none :=
  rd_ref (c := ⟨(opOf (wd l) : Int), m⟩) rfl (fun p hp x hx he => by rw [hc] at hp; cases hp; exact h2 x hx he) (fun hn => by rw [hc] at hn; cases hn) hm
theorem rd_one {l : List UInt8} (hc : cutc 32 l = none) : rd l = if l ≠ [] ∧ line ⟨(opOf (wd l) : Int), 0⟩ = l then some ⟨(opOf (wd l) : Int), 0⟩ else none :=
  rd_ref (c := ⟨(opOf (wd l) : Int), 0⟩) rfl (fun p hp => by rw [hc] at hp; cases hp) (fun _ => rfl) ⟨by show (-9223372036854775808 : Int) ≤ 0; omega, by show (0 : Int) ≤ 9223372036854775807; omega⟩
theorem rg0 : Rg 0 := ⟨by omega, by omega⟩

set_option maxHeartbeats 400000 in
set_option maxRecDepth 100000 in
theorem rparse_any (w : World) (s : List UInt8) (hl : s.length ≤ 100000) :
    Calls Tryd.prog 9 #[.string (bs s)] w fun e w' => ∃ v, e = .returned (.tuple #[v, .int .i64 (pe s)]) ∧ CO w v (pc s) w' := by
  have hz : (bs s).size = s.length := bs_size s
  go_enter Tryd.func9, Tryd.ntmps9
  go_wp2
  go_loopg [4, 5, 6] s.length (fun g i4 i5 i6 wr => ∃ (cs : List PIns) (f i : Nat), g = s.length - i ∧ f ≤ i ∧ i ≤ s.length ∧ i5 = .int .i64 f ∧ i6 = .int .i64 i ∧ Hid (RP w s cs f i i4 wr))
  case atStart => exact ⟨[], 0, 0, rfl, Nat.le_refl _, by omega, rfl, rfl, ⟨by simp, CO.nil w, by simp [sub], by simp⟩⟩
  case round =>
    obtain ⟨cs, f, i, rfl, hf, hi, rfl, rfl, hI⟩ := hrel
    by_cases hlt : i < s.length
    · obtain ⟨c, hc⟩ := at_lt hlt
      have hq : ∀ h : i < (bs s).size, (bs s)[i] = c := fun h => bs_get hc
      have HC : Hid (s[i]? = some c) := hc
      clear hc
      by_cases hn : c = 10
      · subst hn
        obtain ⟨l, hll⟩ : ∃ l, sub s f i = l := ⟨_, rfl⟩
        have hx : (bs s).extract f i = bs l := by rw [sub_ext, hll]
        have hlz : (bs l).size = l.length := bs_size l
        have hln : l.length ≤ 100000 := by rw [← hll, sub_len hf hi]; omega
        have HD : Hid (cutc 10 (s.drop f) = some (l, s.drop (i + 1))) := by
          show _ = _
          rw [drop_sub hf HC.out, hll]
          exact cutc_app _ (by rw [← hll]; exact hI.out.no)
        clear hll
        go_wp2
        go_loopg [8] l.length (fun g i8 w8 => ∃ (k : Nat), g = l.length - k ∧ k ≤ l.length ∧ i8 = .int .i64 k ∧ Hid (∀ c ∈ l.take k, c ≠ 32) ∧ Hid (RP w s cs f i u4 w8))
        case atStart => exact ⟨0, rfl, by omega, rfl, fun c hc => by simp at hc, hI⟩
        case round =>
          clear hI
          obtain ⟨k, rfl, hk, rfl, h32, hI⟩ := hrel
          by_cases hkl : k < l.length
          · obtain ⟨d, hd⟩ := at_lt hkl
            have hqd : ∀ h : k < (bs l).size, (bs l)[k] = d := fun h => bs_get hd
            have HDd : Hid (l[k]? = some d) := hd
            clear hd
            by_cases hd32 : d = 32
            · subst hd32
              have hcut := cut_at HDd.out h32.out
              have hwd : wd l = l.take k := by unfold wd; rw [hcut]
              have HCU : Hid (cutc 32 l = some (l.take k, l.drop (k + 1))) := hcut
              have HW : Hid (wd l = l.take k) := hwd
              have hx1 : (bs l).extract 0 k = bs (wd l) := by rw [hwd]; exact sub_ext l 0 k
              have hx2 : (bs l).extract (k + 1) l.length = bs (l.drop (k + 1)) := by rw [sub_ext, sub_all]
              have h3 : (bs l).toList.isEmpty = false := emp_no (by intro e; rw [e] at hkl; simp at hkl)
              clear hcut hwd
              go_wp2_with (first
                | (go_at_call 21; refine (findR _ _).mono ?_; rintro e w1 ⟨rfl, hb1⟩)
                | (go_at_call 22; refine (int_any _ (l.drop (k + 1)) (by rw [List.length_drop]; omega)).mono ?_; rintro e w3 ⟨⟨m, b, rfl, hm1, hm2⟩, hb3⟩; obtain ⟨c0, c1, f0, f1⟩ := blk_facts (kept_new hb3))
                | (go_at_call 14; refine (rline_any _ ⟨(opOf (wd l) : Int), m⟩ hm1).mono ?_; rintro e w5 ⟨rfl, hb5⟩; obtain ⟨d0, d1, _, _⟩ := blk_facts (kept_set hb3 hb5))
                | (at_builtin; refine appC rfl _ _ rfl [⟨(opOf (wd l) : Int), m⟩] w5.heap.size (cs.length + 1) 1 (((hI.out.co.below hb1).below (low_all hb3 hb5)).below (bAlloc (bRefl _) _)) rfl rfl rfl rfl (by decide) (heap_new2 rfl) (by have := hI.out.len; omega) ?_; intro g cap w6 hco _))
              · rename_i h
                have hrd := (rd_two HCU.out hm1 hm2).trans (if_neg fun e => str_ne_of h e.2)
                go_ret2
                obtain ⟨p1, p2⟩ := pc_no (hI.out.bad HD.out hrd)
                exact ⟨_, ret_two rfl p2.symm, by rw [p1]; exact CO.any (bTrans (bTrans hI.out.co.low hb1) (low_all hb3 hb5))⟩
              · rename_i h _
                have hrd := (rd_two HCU.out hm1 hm2).trans (if_pos ⟨by intro e; rw [e] at hkl; simp at hkl, str_eq_of h⟩)
                go_roundg (s.length - (i + 1))
                case measure => omega
                case rel => exact ⟨_, i + 1, i + 1, rfl, Nat.le_refl _, by omega, by go_num, by go_num, hI.out.next HD.out hrd hco hf⟩
            · have hn2 : ((d.toNat : Int) != 32) = true := by
                have : d.toNat ≠ 32 := fun e => hd32 (UInt8.toNat_inj.1 e)
                simp; omega
              have HN : Hid (d ≠ 32) := hd32
              clear hd32
              go_wp2
              go_roundg (l.length - (k + 1))
              case measure => omega
              case rel => exact ⟨k + 1, rfl, by omega, by go_num, fun x hx => by rw [take_snoc HDd.out] at hx; rcases List.mem_append.1 hx with hx | hx; exact h32.out x hx; rw [List.mem_singleton] at hx; rw [hx]; exact HN.out, hI⟩
          · have htk : l.take k = l := List.take_of_length_le (by omega)
            have hcut : cutc 32 l = none := cutc_none (by have := h32.out; rw [htk] at this; exact this)
            have HCU : Hid (cutc 32 l = none) := hcut
            have hx1 : (bs l).extract 0 k = bs (wd l) := by rw [show wd l = l.take k by unfold wd; rw [hcut, htk]]; exact sub_ext l 0 k
            clear hcut htk
            by_cases hl0 : l = []
            · have h3 := emp_yes hl0
              have HL0 : Hid (l = []) := hl0
              clear hl0
              go_wp2_with (go_at_call 21; refine (findR _ _).mono ?_; rintro e w1 ⟨rfl, hb1⟩)
              go_ret2
              obtain ⟨p1, p2⟩ := pc_no (hI.out.bad HD.out (by rw [HL0.out]; unfold rd; rw [if_neg (fun e => e.1 rfl)]))
              exact ⟨_, ret_two rfl p2.symm, by rw [p1]; exact CO.any (bAlloc (bTrans hI.out.co.low hb1) _)⟩
            · have h3 := emp_no hl0
              have HL0 : Hid (l ≠ []) := hl0
              clear hl0
              go_wp2_with (first
                | (go_at_call 21; refine (findR _ _).mono ?_; rintro e w1 ⟨rfl, hb1⟩)
                | (go_at_call 14; refine (rline_any _ ⟨(opOf (wd l) : Int), 0⟩ rg0).mono ?_; rintro e w5 ⟨rfl, hb5⟩; obtain ⟨d0, d1, _, _⟩ := blk_facts (kept_new hb5))
                | (at_builtin; refine appC rfl _ _ rfl [⟨(opOf (wd l) : Int), 0⟩] w5.heap.size (cs.length + 1) 1 (((hI.out.co.below hb1).below (bTrans (bAlloc (bRefl _) _) hb5)).below (bAlloc (bRefl _) _)) rfl rfl rfl rfl (by decide) (heap_new2 rfl) (by have := hI.out.len; omega) ?_; intro g cap w6 hco _))
              · rename_i h
                have hrd := (rd_one HCU.out).trans (if_neg fun e => str_ne_of h e.2)
                go_ret2
                obtain ⟨p1, p2⟩ := pc_no (hI.out.bad HD.out hrd)
                exact ⟨_, ret_two rfl p2.symm, by rw [p1]; exact CO.any (bTrans (bAlloc (bTrans hI.out.co.low hb1) _) hb5)⟩
              · rename_i h _
                have hrd := (rd_one HCU.out).trans (if_pos ⟨HL0.out, str_eq_of h⟩)
                go_roundg (s.length - (i + 1))
                case measure => omega
                case rel => exact ⟨_, i + 1, i + 1, rfl, Nat.le_refl _, by omega, by go_num, by go_num, hI.out.next HD.out hrd hco hf⟩
      · have hn2 : ((c.toNat : Int) != 10) = true := by
          have : c.toNat ≠ 10 := fun e => hn (UInt8.toNat_inj.1 e)
          simp; omega
        have HN : Hid (c ≠ 10) := hn
        clear hn
        go_wp2
        go_roundg (s.length - (i + 1))
        case measure => omega
        case rel => exact ⟨cs, f, i + 1, rfl, by omega, by omega, rfl, by go_num, ⟨hI.out.eq, hI.out.co, fun x hx => by rw [sub_snoc hf HC.out] at hx; rcases List.mem_append.1 hx with hx | hx; exact hI.out.no x hx; rw [List.mem_singleton] at hx; rw [hx]; exact HN.out, hI.out.len⟩⟩
    · have he : i = s.length := by omega
      subst he
      by_cases hfe : f = s.length
      · have h3 : ((f : Int) != (s.length : Int)) = false := by simp [hfe]
        have HF : Hid (f = s.length) := hfe
        clear hfe
        go_wp2
        go_ret2
        obtain ⟨p1, p2⟩ := pc_of (show prs s = some cs by rw [hI.out.eq, HF.out, List.drop_length, prs_nil]; simp)
        exact ⟨_, ret_two rfl p2.symm, by rw [p1]; exact hI.out.co⟩
      · have h3 : ((f : Int) != (s.length : Int)) = true := by simp; omega
        have HF : Hid (f ≠ s.length) := hfe
        clear hfe
        go_wp2
        go_ret2
        obtain ⟨p1, p2⟩ := pc_no (show prs s = none by
          rw [hI.out.eq, prs_none (by intro e; have := congrArg List.length e; rw [List.length_drop, List.length_nil] at this; have := HF.out; omega) (cutc_none (by rw [← sub_all]; exact hI.out.no))]; rfl)
        exact ⟨_, ret_two rfl p2.symm, by rw [p1]; exact CO.any hI.out.co.low⟩
end Go.Proofs.YtkfndedphpehiaaDoor
