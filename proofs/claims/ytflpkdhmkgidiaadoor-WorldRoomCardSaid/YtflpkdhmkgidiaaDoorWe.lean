/-
  Decimal texts as plain data; numbers with blanks between (world.spaced). Conditions: numbers of 64 bits, few; what is read of the world is there.
-/
import Derived.Test.YtflpkdhmkgidiaaDoorBld
import Derived.Test.YtflpkdhmkgidiaaDoorW5
import Derived.Lib.AppendIntMem
import Derived.Lib.AtoiAllCases
import Derived.Lib.ItoaNum
import Derived.Lib.ItoaLen
import Derived.Lib.SlBytesRow
namespace Go.Proofs.YtflpkdhmkgidiaaDoor
open Go.RowKit
/-- A text as a value. -/
def bs (l : List UInt8) : ByteArray := ⟨l.toArray⟩
theorem bs_of (s : ByteArray) : s = bs s.data.toList := rfl
theorem bs_app (a b : List UInt8) : bs a ++ bs b = bs (a ++ b) := by
  unfold bs
  apply ByteArray.ext
  simp [ByteArray.data_append]
theorem bs_size (l : List UInt8) : (bs l).size = l.length := by simp [bs, ByteArray.size]
theorem bs_data (l : List UInt8) : (bs l).data.toList = l := by simp [bs]
theorem bs_inj {a b : List UInt8} (h : bs a = bs b) : a = b := by rw [← bs_data a, h, bs_data]
theorem ret_str {a b : ByteArray} (h : a = b) : Ending.returned (.string a) = .returned (.string b) := by rw [h]
theorem str_yes {a b : List UInt8} (h : a = b) : ((bs a).toList == (bs b).toList) = true := by rw [h]; exact beq_self_eq_true _
theorem str_no {a b : List UInt8} (h : a ≠ b) : ((bs a).toList == (bs b).toList) = false := by
  rw [Lib.toList_data, Lib.toList_data, bs_data, bs_data]; exact beq_eq_false_iff_ne.2 h
theorem emp_yes {l : List UInt8} (h : l = []) : (bs l).toList.isEmpty = true := by rw [Lib.toList_data, bs_data, h]; rfl
theorem emp_no {l : List UInt8} (h : l ≠ []) : (bs l).toList.isEmpty = false := by
  rw [Lib.toList_data, bs_data]
  cases l with
  | nil => exact absurd rfl h
  | cons a r => rfl
section
open Go.Lib
/-! ### Decimal -/
def dgB (c : UInt8) : Bool := decide (48 ≤ c.toNat ∧ c.toNat ≤ 57)
theorem dg_ofNat {k : Nat} (h : k < 10) : (UInt8.ofNat (48 + k)).toNat = 48 + k := by
  rw [UInt8.toNat_ofNat']; omega
theorem dec_dg (u : Nat) : ∀ c ∈ decDigits u, 48 ≤ c.toNat ∧ c.toNat ≤ 57 := by
  induction u using Nat.strongRecOn with
  | _ u ih =>
    intro c hc
    rw [decDigits] at hc
    split at hc
    · rename_i h
      rw [List.mem_singleton] at hc; subst hc
      rw [dg_ofNat h]; omega
    · rename_i h
      rcases List.mem_append.1 hc with hc | hc
      · exact ih (u / 10) (by omega) c hc
      · rw [List.mem_singleton] at hc; subst hc
        rw [dg_ofNat (by omega)]; omega
theorem dec_ne (u : Nat) : decDigits u ≠ [] := by
  rw [decDigits]; split <;> simp
theorem parse_snoc (l : List UInt8) (c : UInt8) (acc : Nat) : parseUint10 acc (l ++ [c]) = match parseUint10 acc l with | .ok v => parseUint10 v [c] | .syntax => .syntax | .range => .range := by
  induction l generalizing acc with
  | nil => rfl
  | cons x r ih =>
    simp only [List.cons_append, parseUint10]
    split
    · split
      · rfl
      · split
        · rfl
        · exact ih _
    · rfl
theorem parse_dec (u : Nat) (h : u < 18446744073709551616) : parseUint10 0 (decDigits u) = .ok u := by
  induction u using Nat.strongRecOn with
  | _ u ih =>
    rw [decDigits]
    split
    · rename_i hs
      simp only [parseUint10, dg_ofNat hs]
      rw [if_pos (by omega), if_neg (by omega), if_neg (by omega)]
      congr 1; omega
    · rename_i hs
      rw [parse_snoc, ih (u / 10) (by omega) (by omega)]
      simp only [parseUint10, dg_ofNat (show u % 10 < 10 by omega)]
      rw [if_pos (by omega), if_neg (by omega), if_neg (by omega)]
      congr 1; omega
/-- A number of 64 bits. -/
def Rg (n : Int) : Prop := -9223372036854775808 ≤ n ∧ n ≤ 9223372036854775807
theorem mag_dec {u : Nat} (h : u < 18446744073709551616) : parseMag (decDigits u) = .ok u := by
  unfold parseMag; rw [if_neg (dec_ne u)]; exact parse_dec u h
theorem atoi_itoa {n : Int} (h : Rg n) : atoiAll (itoa n) = .ok n := by
  obtain ⟨h1, h2⟩ := h
  unfold itoa
  by_cases e : n < 0
  · rw [if_pos e]
    unfold atoiAll
    simp only [show (45 : UInt8).toNat = 45 from rfl, or_true, if_true]
    rw [mag_dec (by omega)]
    simp only [not_true, false_and, if_false, true_and]
    rw [if_neg (by omega)]
    congr 1; omega
  · rw [if_neg e]
    cases hl : decDigits n.toNat with
    | nil => exact absurd hl (dec_ne _)
    | cons c r =>
      have hc := dec_dg n.toNat c (by rw [hl]; simp)
      unfold atoiAll
      simp only
      rw [if_neg (by omega), ← hl, mag_dec (by omega)]
      simp only
      rw [if_neg (by omega), if_neg (by omega), if_neg (by omega)]
      congr 1; omega
theorem itoa_inj {n m : Int} (hn : Rg n) (hm : Rg m) (h : itoa n = itoa m) : n = m := by
  have := atoi_itoa hn
  rw [h, atoi_itoa hm] at this
  injection this with this
  exact this.symm
theorem itoa_ne (n : Int) : itoa n ≠ [] := by
  unfold itoa
  by_cases h : n < 0
  · rw [if_pos h]; simp
  · rw [if_neg h]; exact dec_ne _
end
/-- The variables that the functions read. -/
structure Env (w : World) : Prop where
  tab : Tab w
  pow : Lib.TabIs Tryd.prog w powName .u64 Lib.pow10Tab
theorem Env.below {w w' : World} (h : Env w) (hb : Below w.heap.size w w') : Env w' := ⟨h.tab.below hb, Lib.tabBelow_of_tabIs h.pow w' hb⟩
theorem itoaB (n : Int) (w : World) (hn : Rg n) (he : Env w) : Calls Tryd.prog 79 #[.int .i64 n] w fun e w' => e = .returned (.string (bs (Lib.itoa n))) ∧ Below w.heap.size w w' :=
  (Tryd.itoa_any n hn.1 hn.2 w he.pow).mono fun e w' ⟨h1, k, os, h2⟩ => ⟨h1, by rw [h2]; exact grow_below _ _ _⟩
/-- Numbers, blanks between. -/
def spc (l : List Int) : List UInt8 := Lib.join (l.map Lib.itoa) [32]
def strV (l : List Int) : List Value := l.map fun n => .string (bs (Lib.itoa n))
theorem strV_len (l : List Int) : (strV l).length = l.length := by simp [strV]
theorem strV_at {l : List Int} {k : Nat} {x : Int} (h : l[k]? = some x) : strV (l.take (k + 1)) = strV (l.take k) ++ [.string (bs (Lib.itoa x))] := by
  unfold strV; rw [List.take_add_one, h]; simp
theorem itoa_len {n : Int} (h : Rg n) : (Lib.itoa n).length ≤ 21 := Lib.itoa_length_le _ h.1 h.2
theorem spc_len {l : List Int} (hr : ∀ n ∈ l, Rg n) : (spc l).length ≤ 22 * l.length := by
  unfold spc
  cases l with
  | nil => simp [Lib.join_nil]
  | cons x r =>
    rw [List.map_cons, Lib.join_length]
    have key : ∀ (q : List Int), (∀ n ∈ q, Rg n) → Lib.lens (q.map Lib.itoa) ≤ 21 * q.length := by
      intro q hq
      induction q with
      | nil => simp [Lib.lens]
      | cons y s ih =>
        have h1 := itoa_len (hq y (List.mem_cons_self ..))
        have h2 := ih (fun n hn => hq n (List.mem_cons_of_mem _ hn))
        simp only [List.map_cons, Lib.lens, List.map_cons, List.sum_cons, List.length_cons] at *
        omega
    have := key (x :: r) hr
    simp only [List.map_cons, List.length_cons, List.length_map, List.length_nil] at *
    omega
theorem infoS : (Tryd.prog.info? 9).map (fun i => (i.zero, i.size, i.bytes)) = some (some (.string ⟨#[]⟩), 1, 16) := by kernel_rfl
theorem join_bs (l : List Int) : (⟨(Lib.join ((l.map fun n => bs (Lib.itoa n)).map (·.data.toList)) [32]).toArray⟩ : ByteArray) = bs (spc l) := by
  unfold spc
  rw [List.map_map]
  rfl
theorem joinB (w : World) (v : Value) (l : List Int) (base : Nat) (ho : w.ownsRow base 9 1 v l.length (strV l)) (hl : l.length ≤ 1000) (hr : ∀ n ∈ l, Rg n) :
    Calls Tryd.prog 80 #[v, .string ⟨#[32]⟩] w fun e w' => e = .returned (.string (bs (spc l))) ∧ Below w.heap.size w w' := by
  obtain ⟨h1, h2⟩ := ho
  rcases h2 with ⟨rfl, h0⟩ | ⟨g, cap, cur, rfl, hb, hh, h3, h4, h5, h6⟩
  · obtain rfl : l = [] := List.length_eq_zero_iff.1 h0
    exact (Tryd.strings_Join_none none 0 ⟨#[32]⟩ w).mono fun e w' ⟨he, hw⟩ => ⟨he, by rw [hw]; exact bRefl _⟩
  · have key := Tryd.strings_Join g 0 cap (l.map fun n => bs (Lib.itoa n)) ⟨#[32]⟩ w (fun j x hx => by
      have hj : j < l.length := by have := (List.getElem?_eq_some_iff.1 hx).1; simpa using this
      rw [Nat.zero_add, cell_of_row _ _ _ _ _ _ hh]
      have : cur.toList[j]? = (strV l)[j]? := by rw [← h6, List.getElem?_take, if_pos (by omega)]
      rw [← Array.getElem?_toList, this]
      unfold strV
      rw [List.getElem?_map] at hx ⊢
      cases e : l[j]? with
      | none => rw [e] at hx; cases hx
      | some y => rw [e] at hx; simp at hx; subst hx; rfl) (Array.getElem?_eq_some_iff.1 hh).1 (by rw [List.length_map]; omega) (by rw [List.length_map]; exact h3)
      (by
        have e : (Lib.join ((l.map fun n => bs (Lib.itoa n)).map (·.data.toList)) [32]) = spc l := by unfold spc; rw [List.map_map]; rfl
        show (Lib.join ((l.map fun n => bs (Lib.itoa n)).map (·.data.toList)) [32]).length ≤ _
        rw [e]
        have := spc_len hr; omega)
    rw [List.length_map] at key
    refine key.mono fun e w' ⟨he, hw⟩ => ⟨?_, hw⟩
    rw [he]
    exact ret_str (join_bs l)
set_option maxHeartbeats 1000000 in
set_option maxRecDepth 100000 in
theorem spaced_any (ok : Nat → Prop) (w : World) (v : Value) (l : List Int) (h : Ints ok w v l) (hl : l.length ≤ 1000) (hr : ∀ n ∈ l, Rg n) (he : Env w) :
    Calls Tryd.prog 49 #[v] w fun e w' => e = .returned (.string (bs (spc l))) ∧ Below w.heap.size w w' := by
  obtain ⟨A, c, rfl, hll⟩ := h.form
  obtain ⟨i0, hi0, hz0, hz1, hz2⟩ := info_parts infoS
  have HE := hid_mk he
  have HRg := hid_mk hr
  have HL := hid_mk hl
  clear he hr hl
  go_enter Tryd.func49, Tryd.ntmps49
  go_wp2
  go_loopg [3, 5, 8] l.length (fun g i3 i5 i8 wr => ∃ k : Nat, g = l.length - k ∧ k ≤ l.length ∧ i8 = .int .i64 k ∧ (∃ A9 c9, i3 = .slice A9 k c9 ∧ wr.ownsRow w.heap.size 9 1 (.slice A9 k c9) k (strV (l.take k))) ∧ Below w.heap.size w wr)
  case atStart => exact ⟨0, rfl, by omega, rfl, ⟨none, 0, rfl, ⟨rfl, Or.inl ⟨rfl, rfl⟩⟩⟩, bRefl w⟩
  case round =>
    obtain ⟨k, rfl, hk, rfl, ⟨A9, c9, rfl, ho⟩, hb⟩ := hrel
    by_cases hlt : k < l.length
    · obtain ⟨b1, o1, x, rfl, hx, q1⟩ := h.cell hb hlt
      have HX := hid_mk (strV_at hx)
      have hrx : Rg x := HRg.out x (List.mem_of_getElem? hx)
      have HRx := hid_mk hrx
      have HO := hid_mk ho
      have HB := hid_mk hb
      have hk1 : k + 1 ≤ 1000 := by have := HL.out; omega
      have HK := hid_mk hk1
      clear hx ho hb hrx hk1
      go_wp2_with (first
        | (go_at_call 79; refine (itoaB x _ HRx.out (HE.out.below HB.out)).mono ?_; rintro e w1 ⟨rfl, hb1⟩; have HB1 := hid_mk hb1; clear hb1)
        | (at_builtin; refine wpList_append_own _ rfl _ _ 119 rfl w.heap.size 9 i0 (.string ⟨#[]⟩) 1 16 Tryd.underlying119 hi0 hz0 hz1 hz2 rfl (by decide) _ _ _ rfl (own_block HO.out fun g hg hlt => (bAlloc HB1.out _).block g hlt) ⟨w1.heap.size, 0, none⟩ 1 1 [.string (bs (Lib.itoa x))] rfl rfl (World.news_of_block (heap_new w1 _)) (fun u hu => by simp at hu; subst hu; rfl) (by have := HK.out; unfold maxLen; omega) (by have := HK.out; omega) (by have := HB.out.size; have := HB1.out.size; simp; omega) ?_; intro v' w2 hown hgr _; obtain ⟨g2, cap2, rfl⟩ : ∃ g cap, v' = .slice (some ⟨g, 0, none⟩) (k + 1) cap := (by rcases hown.2 with ⟨_, h0⟩ | ⟨g, cap, cur, hv, _⟩; (omega); (exact ⟨g, cap, hv⟩)); have HOW := hid_mk hown; have HGR := hid_mk hgr; clear hown hgr))
      go_roundg (l.length - (k + 1))
      case measure => omega
      case rel =>
        refine ⟨k + 1, rfl, by omega, by go_num, ⟨_, _, rfl, by rw [HX.out]; exact HOW.out⟩, ?_⟩
        exact (bAlloc (bTrans HB.out HB1.out) _).grown HGR.out (by have := HB.out.size; have := HB1.out.size; simp; omega) (fun j hj => (own_lt HO.out hj).1)
    · obtain rfl : k = l.length := by omega
      have e : l.take l.length = l := List.take_of_length_le (Nat.le_refl _)
      rw [e] at ho
      have HO := hid_mk ho
      clear ho e
      go_wp2_with (first | (go_at_call 80; refine (joinB _ _ l w.heap.size HO.out HL.out HRg.out).mono ?_; rintro e w1 ⟨rfl, hb1⟩))
      go_ret
      exact ⟨rfl, bTrans hb hb1⟩
end Go.Proofs.YtflpkdhmkgidiaaDoor
