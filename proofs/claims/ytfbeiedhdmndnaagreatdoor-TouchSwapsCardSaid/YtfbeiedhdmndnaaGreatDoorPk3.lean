/-
  Messages appended to a row of the call's own, that lie wherever; several lists as one new list: join, Copy.
-/
import Derived.Test.YtfbeiedhdmndnaaGreatDoorPk2
import Derived.Test.YtfbeiedhdmndnaaGreatDoorPk1
namespace Go.Proofs.YtfbeiedhdmndnaaGreatDoor
open Go.RowKit
attribute [local go_sem ↓] Go.wp_at_zero Go.wp_at_succ
theorem run_append_own0 {P : Program} {w : World} {base e size k : Nat} {v : Value} {xs : List Value} (t ty : TypeId) (i : TypeInfo) (ht : P.underlying t = some (.slice e)) (hi : P.info? e = some i) (h : w.ownsRow base e size v k xs) (A : Option Addr) (c : Nat) :
  (Builtin.append_ #[t, t] ty #[v, .slice A 0 c]).run P w = .ok v w := by
 obtain ⟨h1, h2⟩ := h
 rcases h2 with ⟨rfl, _⟩ | ⟨g, cap, cur, rfl, hb, hh, h3, h4, h5, h6⟩
 ·exact run_append_empty t ty e i ht hi A c
 ·cases A with
  | none =>
   have hst : ∀ a : Addr, (storeCells a []).run P w = .ok () w := fun a => by rw [storeCells]; rfl
   simp [Builtin.append_, run_underlying ht, sizeOf, typeInfo, hi, Builtin.lenOf, Builtin.firstCells, h3, hst, Result.andThen]
  | some a =>
   have := run_append_room_cells (P := P) w t ty e i ht hi g 0 k cap a 0 c [] (by simp) (by simp) (by simp) (by omega) (by simp) (by simp)
   rw [this]
   rfl
theorem addr_add (b o j : Nat) : (⟨b, o, none⟩ : Addr).add j = ⟨b, o + j, none⟩ := by
 unfold Addr.add
 by_cases h0 : j = 0
 ·subst h0; rfl
 ·rw [if_neg h0]
theorem Ints.one {ok : Nat → Prop} {w : World} {v : Value} {l : List Int} (h : Ints ok w v l) : v.oneCell' = true := by obtain ⟨A, c, rfl, _⟩ := h.form; rfl
theorem Msgs.raw {ok inn : Nat → Prop} {w : World} {A : Option Addr} {n c : Nat} {ms : List PMsg} (h : Msgs ok inn w (.slice A n c) ms) :
  ∃ xs : List Value, xs.length = ms.length ∧ (∀ (k : Nat) (m : PMsg) (u : Value), ms[k]? = some m → xs[k]? = some u → Ints inn w u m.nt.args) ∧
   (∀ u ∈ (List.zipWith mrow ms xs).flatten, u.oneCell' = true) ∧ (ms = [] ∨ ∃ b o, A = some ⟨b, o, none⟩ ∧ ∀ j u, ((List.zipWith mrow ms xs).flatten)[j]? = some u → w.cell? ((⟨b, o, none⟩ : Addr).add j) = some u) := by
 by_cases h0 : ms = []
 ·subst h0; exact ⟨[], rfl, fun k m u hm => by simp at hm, fun u hu => by simp at hu, Or.inl rfl⟩
 ·obtain ⟨b, o, rfl, _, hlt, hc⟩ := h.at (List.length_pos_iff.2 h0)
  let xs : List Value := (List.range ms.length).map fun k => (w.cell? ⟨b, o + k * 6 + 5, none⟩).getD (.bool false)
  have hxl : xs.length = ms.length := by simp [xs]
  have hx : ∀ (k : Nat) (m : PMsg) (u : Value), ms[k]? = some m → xs[k]? = some u → w.cell? ⟨b, o + k * 6 + 5, none⟩ = some u ∧ Ints inn w u m.nt.args := fun k m u hm hu => by
   obtain ⟨_, _, _, _, _, v, h6, h7⟩ := hc k m hm
   have hk := (List.getElem?_eq_some_iff.1 hm).1
   have e : xs[k]? = some v := by simp [xs, hk, h6]
   rw [e] at hu
   cases hu
   exact ⟨h6, h7⟩
  refine ⟨xs, hxl, fun k m u hm hu => (hx k m u hm hu).2, fun u hu => ?_, Or.inr ⟨b, o, rfl, fun j u hu => ?_⟩⟩
  ·rw [List.mem_flatten] at hu
   obtain ⟨r, hr, hu⟩ := hu
   obtain ⟨k, hk⟩ := List.mem_iff_getElem?.1 hr
   rw [List.getElem?_zipWith] at hk
   cases hm : ms[k]? with
   | none => rw [hm] at hk; cases hk
   | some m =>
    cases hxk : xs[k]? with
    | none => rw [hm, hxk] at hk; cases hk
    | some y =>
     rw [hm, hxk] at hk
     cases hk
     have hy := (hx k m y hm hxk).2.one
     unfold mrow at hu
     simp only [List.mem_cons, List.not_mem_nil, or_false] at hu
     rcases hu with rfl | rfl | rfl | rfl | rfl | rfl
     all_goals first | rfl | exact hy
  ·have hj : j < ms.length * 6 := by
    have h1 := (List.getElem?_eq_some_iff.1 hu).1
    have h2 : ((List.zipWith mrow ms xs).flatten).length = ms.length * 6 := by
     rw [List.length_flatten]
     have : (List.zipWith mrow ms xs).map List.length = List.replicate ms.length 6 := by
      rw [List.eq_replicate_iff]
      refine ⟨by simp [hxl], fun z hz => ?_⟩
      obtain ⟨e, he, rfl⟩ := List.mem_map.1 hz
      exact zip_len ms xs e he
     rw [this]; simp
    omega
   have hq : j / 6 < ms.length := by omega
   obtain ⟨m, hm⟩ := at_lt hq
   obtain ⟨y, hy⟩ := at_lt (l := xs) (k := j / 6) (by omega)
   have e1 : j / 6 * 6 + j % 6 = j := by omega
   have e2 := flat_at _ (zip_len ms xs) (j / 6) (j % 6) (by omega)
   rw [e1, hu, List.getElem?_zipWith, hm, hy] at e2
   obtain ⟨h1, h2, h3, h4, h5, -⟩ := hc _ m hm
   have h6 := (hx _ m y hm hy).1
   rw [addr_add]
   have e3 : some u = (mrow m y)[j % 6]? := e2
   obtain ⟨q, hqq⟩ : ∃ q, j / 6 = q := ⟨_, rfl⟩
   rw [hqq] at h1 h2 h3 h4 h5 h6 e1
   have hr : j % 6 < 6 := by omega
   obtain ⟨r, hrr⟩ : ∃ r, j % 6 = r := ⟨_, rfl⟩
   rw [hrr] at e3 e1 hr
   rw [e3, ← e1]
   match r, hr with
   | 0, _ => exact h1
   | 1, _ => rw [← Nat.add_assoc]; exact h2
   | 2, _ => rw [← Nat.add_assoc]; exact h3
   | 3, _ => rw [← Nat.add_assoc]; exact h4
   | 4, _ => rw [← Nat.add_assoc]; exact h5
   | 5, _ => rw [← Nat.add_assoc]; exact h6
section
variable {P ok inn : Nat → Prop} {base : Nat} {w W : World} {v : Value} {l ms : List PMsg} {us : List Value}
def MA (P : Nat → Prop) (base : Nat) (W : World) (v : Value) (l : List PMsg) (v' : Value) (W' : World) : Prop :=
 (∃ us', MT P base W' v' l us') ∧ W.grownBy W' v.ownBlock ∧ (v'.ownBlock = v.ownBlock ∨ v'.ownBlock = some W.heap.size)
theorem run_appM (ty : TypeId) (h : MT P base W v l us) {A : Option Addr} {c n : Nat} (hm : Msgs ok inn W (.slice A n c) ms) (hin : ∀ b, inn b → P b ∧ v.ownBlock ≠ some b) (hl : l.length + ms.length ≤ 1000000) (hbase : base ≤ W.heap.size) :
  ∃ A' c' W', (Builtin.append_ #[30, 30] ty #[v, .slice A n c]).run Tryz.prog W = .ok (.slice A' (l.length + ms.length) c') W' ∧ MA P base W v (l ++ ms) (.slice A' (l.length + ms.length) c') W' := by
 obtain ⟨i0, hi0, hz0, hz1, hz2⟩ := info_parts infoM
 obtain ⟨xs, hxl, hxi, hx1, hxr⟩ := hm.raw
 obtain ⟨A1, c1, e1, _⟩ := hm.form
 cases e1
 by_cases h0 : ms = []
 ·subst h0
  obtain ⟨A2, c2, rfl⟩ := h.form
  refine ⟨A2, c2, W, run_append_own0 30 ty i0 Tryz.underlying30 hi0 h.own A c, ⟨us, by simpa using h⟩, ⟨rfl, rfl, rfl, Nat.le_refl _, fun _ _ _ => rfl⟩, Or.inl rfl⟩
 ·rcases hxr with hxr | ⟨b, o, rfl, hcell⟩
  ·exact absurd hxr h0
  ·have hlen : ((List.zipWith mrow ms xs).flatten).length = ms.length * 6 := by
    rw [List.length_flatten]
    have : (List.zipWith mrow ms xs).map List.length = List.replicate ms.length 6 := by
     rw [List.eq_replicate_iff]
     refine ⟨by simp [hxl], fun z hz => ?_⟩
     obtain ⟨e, he, rfl⟩ := List.mem_map.1 hz
     exact zip_len ms xs e he
    rw [this]; simp
   obtain ⟨g, cap, W', hr, ho, hg, hat, _⟩ := run_append_lies (P := Tryz.prog) W 30 ty base 90 i0 _ 6 64 Tryz.underlying30 hi0 hz0 hz1 hz2 rfl (by decide) v l.length _ h.own ⟨b, o, none⟩ ms.length c _ hlen hcell hx1 (List.length_pos_iff.2 h0) (by unfold maxLen; omega) (by omega) hbase W.heap.size rfl
   refine ⟨_, cap, W', hr, ⟨us ++ xs, h.push rfl hxl ho hg hat fun k m u hm hu => (hxi k m u hm hu).weak hin⟩, hg, ?_⟩
   rcases hat with hat | hat
   ·exact Or.inl hat.symm
   ·subst hat; exact Or.inr rfl
variable {ops : Array Oper} {rest : List Oper} {o : Oper} {a : Act} {Q : Exit → Act → World → Prop} {K : Act → World → Prop}
theorem wp_appM (s x : Operand) (ho : o.op = .call { callee := .builtin .append, args := #[s, x], argTypes := #[30, 30] }) {A : Option Addr} {c n : Nat} (h : MT P base W v l us) (hs : a.eval s = v) (hx : a.eval x = .slice A n c)
  (hm : Msgs ok inn W (.slice A n c) ms) (hin : ∀ b, inn b → P b ∧ v.ownBlock ≠ some b) (hl : l.length + ms.length ≤ 1000000) (hbase : base ≤ W.heap.size)
  (hK : ∀ A' c' W', MA P base W v (l ++ ms) (.slice A' (l.length + ms.length) c') W' → K (a.put o.dst (.slice A' (l.length + ms.length) c')) W') : o.wp Tryz.prog a W K Q := by
 obtain ⟨A', c', W', hr, hma⟩ := run_appM o.type h hm hin hl hbase
 unfold Oper.wp execOp
 simp only [ho, resolve, invoke, builtin, Sem.run_bind, Sem.run_pure, Result.andThen_ok, List.map_toArray, List.map_cons, List.map_nil, hs, hx, hr]
 exact hK A' c' W' hma
theorem appM (hgd : o.guard = none) (s x : Operand) (ho : o.op = .call { callee := .builtin .append, args := #[s, x], argTypes := #[30, 30] }) {A : Option Addr} {c n : Nat} (h : MT P base W v l us) (hs : a.eval s = v) (hx : a.eval x = .slice A n c)
  (hm : Msgs ok inn W (.slice A n c) ms) (hin : ∀ b, inn b → P b ∧ v.ownBlock ≠ some b) (hl : l.length + ms.length ≤ 1000000) (hbase : base ≤ W.heap.size)
  (hK : ∀ A' c' W', MA P base W v (l ++ ms) (.slice A' (l.length + ms.length) c') W' → wpList Tryz.prog ops Q rest (a.put o.dst (.slice A' (l.length + ms.length) c')) W') : wpList Tryz.prog ops Q (o :: rest) a W :=
 wpList_plain hgd fun _ hK' => wp_appM s x ho h hs hx hm hin hl hbase fun A' c' W' hma => hK' _ _ (hK A' c' W' hma)
end
theorem one_msgs {ok : Nat → Prop} {W : World} {B : Nat} {m : PMsg} {u : Value} (hB : W.heap[B]? = some (.cells #[.int .i64 m.id.f, .int .i64 m.id.n, .int .i64 m.id.c, .int .i64 m.nt.to, .int .i64 m.nt.hd, u] 90)) (hu : Ints ok W u m.nt.args) :
  Msgs (fun b => b = B) ok W (.slice (some ⟨B, 0, none⟩) 1 1) [m] := by
 obtain ⟨x0, x1, x2, x3, x4, x5⟩ := blk6 hB
 refine ⟨_, 1, rfl, by simp, by simp, Or.inr ⟨B, 0, rfl, rfl, (Array.getElem?_eq_some_iff.1 hB).1, fun k x hx => ?_⟩⟩
 cases k with
 | zero => cases hx; exact ⟨x0, x1, x2, x3, x4, u, x5, hu⟩
 | succ k => cases hx

def rPart (w : World) (b o : Nat) (l : List PMsg) : Prop := ∃ v, w.cell? ⟨b, o, none⟩ = some v ∧ Msgs anyB anyB w v l
abbrev Parts := Sl 1 rPart anyB
theorem Parts.cell {w wr : World} {A : Option Addr} {n c : Nat} {ls : List (List PMsg)} (h : Parts w (.slice A n c) ls) (hb : Below w.heap.size w wr) {k : Nat} (hk : k < ls.length) :
  ∃ b o l v, A = some ⟨b, o, none⟩ ∧ ls[k]? = some l ∧ wr.cell? ⟨b, o + k, none⟩ = some v ∧ Msgs anyB anyB w v l := by
 obtain ⟨l, hx⟩ := at_lt hk
 obtain ⟨b, o, rfl, _, hlt, hc⟩ := h.at (by omega)
 obtain ⟨v, h1, h2⟩ := hc k l hx
 rw [Nat.mul_one] at h1
 exact ⟨b, o, l, v, rfl, hx, (hb.cell (p := ⟨b, o + k, none⟩) hlt).trans h1, h2⟩
def pre (ls : List (List PMsg)) (k : Nat) : List PMsg := (ls.take k).flatten
theorem pre_succ {ls : List (List PMsg)} {k : Nat} {l : List PMsg} (h : ls[k]? = some l) : pre ls (k + 1) = pre ls k ++ l := by unfold pre; rw [List.take_add_one, h]; simp
theorem pre_len (ls : List (List PMsg)) (k : Nat) : (pre ls k).length ≤ ls.flatten.length := by
 unfold pre
 conv => rhs; rw [← List.take_append_drop k ls, List.flatten_append, List.length_append]
 omega
def pj (p l : List PMsg) (j : Nat) : List PMsg := p ++ l.take j
theorem pj_succ {p l : List PMsg} {j : Nat} {x : PMsg} (h : l[j]? = some x) : pj p l (j + 1) = pj p l j ++ [x] := by unfold pj; rw [List.take_add_one, h]; simp
theorem pj_len {p l : List PMsg} {j : Nat} : (pj p l j).length ≤ p.length + l.length := by unfold pj; simp; omega
set_option maxHeartbeats 4000000 in
set_option maxRecDepth 100000 in
theorem join_any (w : World) (v : Value) (ls : List (List PMsg)) (h : Parts w v ls) (hl : ls.flatten.length ≤ 1000) (hx6 : ∀ x ∈ ls.flatten, x.nt.args.length ≤ 1000) :
  Calls Tryz.prog 101 #[v] w fun e w' => ∃ u, e = .returned u ∧ Msgs (nO w.heap.size u) (nI w.heap.size u) w' u ls.flatten ∧ Below w.heap.size w w' := by
 obtain ⟨A, c, rfl, hlen⟩ := h.form
 have HL : Hid (ls.flatten.length ≤ 1000) := hl
 have HX : Hid (∀ x ∈ ls.flatten, x.nt.args.length ≤ 1000) := hx6
 clear hl hx6
 go_enter Tryz.func101, Tryz.ntmps101
 go_wp2
 go_loopg [3, 10] ls.length (fun n i3 i10 wr => ∃ k : Nat, n = ls.length - k ∧ k ≤ ls.length ∧ i10 = .int .i64 k ∧ (∃ A3 c3 us, i3 = .slice A3 (pre ls k).length c3 ∧ MT (fun b => w.heap.size ≤ b) w.heap.size wr (.slice A3 (pre ls k).length c3) (pre ls k) us) ∧ Below w.heap.size w wr)
 case atStart => exact ⟨0, rfl, by omega, rfl, ⟨none, 0, [], rfl, MT.nil _ _ _⟩, bRefl w⟩
 case round =>
  obtain ⟨k, rfl, hk, rfl, ⟨A3, c3, us, rfl, hmt⟩, hb⟩ := hrel
  by_cases hlt : k < ls.length
  ·obtain ⟨b1, o1, l, v1, rfl, hx, q1, hv1⟩ := h.cell hb hlt
   obtain ⟨V1, n1, rfl, hl1⟩ := hv1.form
   have HK : Hid (ls[k]? = some l) := hx
   have HP : Hid ((pre ls k).length + l.length ≤ 1000) := by
    show _ ≤ _
    have h1 := pre_len ls (k + 1)
    rw [pre_succ hx, List.length_append] at h1
    have := HL.out; omega
   have HM : Hid (∀ x ∈ l, x.nt.args.length ≤ 1000) := fun x hxl => HX.out x (List.mem_flatten.2 ⟨l, List.mem_of_getElem? hx, hxl⟩)
   obtain ⟨p, hp⟩ : ∃ p, p = pre ls k := ⟨_, rfl⟩
   have HPP : Hid (p = pre ls k) := hp
   rw [← hp] at hmt HP ⊢
   clear hx hp
   obtain ⟨wo, hwo⟩ : ∃ wo, wo = wr := ⟨_, rfl⟩
   subst hwo
   go_wp2
   go_loopg [3, 16] l.length (fun n i3 i16 wr => ∃ j : Nat, n = l.length - j ∧ j ≤ l.length ∧ i16 = .int .i64 j ∧ (∃ A3 c3 us, i3 = .slice A3 (pj p l j).length c3 ∧ MT (fun b => w.heap.size ≤ b) w.heap.size wr (.slice A3 (pj p l j).length c3) (pj p l j) us) ∧ Below w.heap.size w wr)
   case atStart => exact ⟨0, rfl, by omega, rfl, ⟨A3, c3, us, by simp [pj], by simpa [pj] using hmt⟩, hb⟩
   case round =>
    obtain ⟨j, rfl, hj, rfl, ⟨A3, c3, us, rfl, hmt⟩, hb2⟩ := hrel
    by_cases hjl : j < l.length
    ·obtain ⟨b2, o2, x, v2, rfl, hx, hz2, s1, s2, s3, s4, s5, s6, hv2⟩ := hv1.cell hb2 hjl
     obtain ⟨V2, n2, rfl, _⟩ := hv2.form
     have HJ : Hid (l[j]? = some x) := hx
     have hx1 : x.nt.args.length ≤ 1000 := HM.out x (List.mem_of_getElem? hx)
     have HBW : Hid (Below w.heap.size w wr) := hb2
     have HMT : Hid (MT (fun b => w.heap.size ≤ b) w.heap.size wr (.slice A3 (pj p l j).length c3) (pj p l j) us) := hmt
     have HW : Hid (w.heap.size ≤ wr.heap.size) := hb2.size
     clear hx hb2 hmt
     go_wp2_with (first
      | (go_at_call 107; refine (another_any anyB _ _ x ⟨_, rfl, hv2.below (by exact bAlloc (bRefl _) _)⟩ hx1).mono ?_; rintro e w1 ⟨u, rfl, hu, hb1⟩; obtain ⟨A5, d5, rfl, _⟩ := hu.form; have HU : Hid (Ints (fun b => wr.heap.size ≤ b) w1 (.slice A5 x.nt.args.length d5) x.nt.args) := hu.weak (fun b hb => by simp at hb; omega); have HB1 : Hid (Below wr.heap.size wr w1) := bTrans (bAlloc (bRefl _) _) hb1; clear hu hb1)
      | (at_builtin; refine appM rfl _ _ rfl (HMT.out.below (by exact bAlloc HB1.out _)) rfl rfl (one_msgs (heap_new2 (by rfl)) (HU.out.below (by exact bAlloc (bRefl _) _))) (fun b hb => ⟨Nat.le_trans HW.out hb, fun e => by have := (own_lt HMT.out.own e).2; omega⟩) (by have := @pj_len p l j; have := HP.out; simp; omega) (by have := HW.out; have := HB1.out.size; simp; omega) ?_; rintro A4 c4 w4 ⟨hm4, hg4, -⟩; have HM4 : Hid (∃ us, MT (fun b => w.heap.size ≤ b) w.heap.size w4 (.slice A4 ((pj p l j).length + 1) c4) (pj p l (j + 1)) us) := (by rw [pj_succ HJ.out]; exact hm4); have HB4 : Hid (Below w.heap.size w w4) := (grown_low (bTrans HBW.out (bAlloc HB1.out _)) hg4 fun g hg => (own_lt HMT.out.own hg).1); clear hm4 hg4))
     go_roundg (l.length - (j + 1))
     case measure => omega
     case rel =>
      obtain ⟨us4, h4⟩ := HM4.out
      have el : (pj p l (j + 1)).length = (pj p l j).length + 1 := by rw [pj_succ HJ.out]; simp
      exact ⟨j + 1, rfl, by omega, by go_num, ⟨A4, c4, us4, by rw [el], by rw [el]; exact h4⟩, HB4.out⟩
    ·go_wp2
     go_roundg (ls.length - (k + 1))
     case measure => omega
     case rel => exact ⟨k + 1, rfl, by omega, by go_num, ⟨A3, c3, us, by rw [pre_succ HK.out, ← HPP.out]; simp [pj, List.take_of_length_le (show l.length ≤ j by omega)], by rw [pre_succ HK.out, ← HPP.out]; simpa [pj, List.take_of_length_le (show l.length ≤ j by omega)] using hmt⟩, hb2⟩
  ·go_wp2
   go_ret
   refine ⟨_, rfl, ?_, hb⟩
   have e : pre ls k = ls.flatten := by unfold pre; rw [List.take_of_length_le (by omega)]
   rw [e] at hmt ⊢
   exact hmt.msgs2 (by have := HL.out; omega)
theorem parts1 {W : World} {v : Value} {l : List PMsg} (h : Msgs anyB anyB W v l) : Parts (W.alloc (.cells #[v] 30)) (.slice (some ⟨W.heap.size, 0, none⟩) 1 1) [l] := by
 refine ⟨_, 1, rfl, by simp, by simp, Or.inr ⟨W.heap.size, 0, rfl, trivial, by simp, fun k x hx => ?_⟩⟩
 cases k with
 | zero => cases hx; exact ⟨v, by rw [cell_of_row _ _ _ _ _ _ (heap_new _ _)]; rfl, h.below (bAlloc (bRefl _) _)⟩
 | succ k => cases hx
theorem copy_any (w : World) (v : Value) (l : List PMsg) (h : Msgs anyB anyB w v l) (hl : l.length ≤ 1000) (hx : ∀ x ∈ l, x.nt.args.length ≤ 1000) :
  Calls Tryz.prog 71 #[v] w fun e w' => ∃ u, e = .returned u ∧ Msgs (nO w.heap.size u) (nI w.heap.size u) w' u l ∧ Below w.heap.size w w' := by
 obtain ⟨A, c, rfl, hlen⟩ := h.form
 go_enter Tryz.func71, Tryz.ntmps71
 go_wp2_with (go_at_call 101; refine (join_any _ _ [l] (parts1 h) (by simpa using hl) (by simpa using hx)).mono ?_; rintro e w1 ⟨u, rfl, hm, hb⟩)
 go_ret
 refine ⟨_, rfl, ?_, bTrans (bAlloc (bRefl _) _) hb⟩
 simp only [List.flatten_cons, List.flatten_nil, List.append_nil] at hm
 exact hm.weak (nO.le (by simp)) (nI.le (by simp))
end Go.Proofs.YtfbeiedhdmndnaaGreatDoor
namespace Go.Proofs.YtfbeiedhdmndnaaGreatDoor
open Go.RowKit
attribute [local go_sem ↓] Go.wp_at_zero Go.wp_at_succ
def plc (l : List PMsg) (d : PID) : Nat := l.findIdx fun m => !lessD m.id d
theorem plc_at {l : List PMsg} {d : PID} {k : Nat} {x : PMsg} (hx : l[k]? = some x) (e : lessD x.id d = false) (h : ∀ (j : Nat) (y : PMsg), j < k → l[j]? = some y → lessD y.id d = true) : plc l d = k := by
 obtain ⟨hk, rfl⟩ := List.getElem?_eq_some_iff.1 hx
 unfold plc
 rw [List.findIdx_eq hk]
 exact ⟨by simpa using e, fun j hj => by simpa using h j _ hj (List.getElem?_eq_getElem (by omega))⟩
theorem plc_end {l : List PMsg} {d : PID} (h : ∀ (j : Nat) (y : PMsg), l[j]? = some y → lessD y.id d = true) : plc l d = l.length := by
 unfold plc
 rw [List.findIdx_eq_length]
 intro x hx
 obtain ⟨j, hj⟩ := List.mem_iff_getElem?.1 hx
 simpa using h j x hj
theorem plc_le (l : List PMsg) (d : PID) : plc l d ≤ l.length := List.findIdx_le_length
def putP (l : List PMsg) (m : PMsg) : List PMsg := l.take (plc l m.id) ++ m :: l.drop (plc l m.id)
set_option maxHeartbeats 1000000 in
theorem place_any (w : World) (v : Value) (l : List PMsg) (d : PID) (h : Msgs anyB anyB w v l) :
  Calls Tryz.prog 132 #[v, dV d] w fun e w' => e = .returned (.int .i64 (plc l d)) ∧ Below w.heap.size w w' := by
 obtain ⟨A, c, rfl, hl⟩ := h.form
 have HA : Hid (Below w.heap.size w (w.alloc (.cells #[.int .i64 d.f, .int .i64 d.n, .int .i64 d.c] 34))) := bAlloc (bRefl w) _
 obtain ⟨p0, p1, p2⟩ := blk3 (heap_new w (.cells #[.int .i64 d.f, .int .i64 d.n, .int .i64 d.c] 34))
 go_enter Tryz.func132, Tryz.ntmps132
 go_wp2
 go_loopg [5, 6, 9] l.length (fun n i5 i6 i9 wr => ∃ k : Nat, n = l.length - k ∧ k ≤ l.length ∧ i9 = .int .i64 k ∧ Hid (∀ (j : Nat) (y : PMsg), j < k → l[j]? = some y → lessD y.id d = true) ∧ Below (w.heap.size + 1) (w.alloc (.cells #[.int .i64 d.f, .int .i64 d.n, .int .i64 d.c] 34)) wr)
 case atStart => exact ⟨0, rfl, by omega, rfl, fun j y hj => by omega, Below.refl _ _⟩
 case round =>
  obtain ⟨k, rfl, hk, rfl, ht, hb'⟩ := hrel
  have hb : Below w.heap.size w wr := HA.out.trans (hb'.mono (by omega))
  by_cases hlt : k < l.length
  ·obtain ⟨b1, o1, x, v1, rfl, hx, hz1, q1, q2, q3, q4, q5, q6, hv1⟩ := h.cell hb hlt
   obtain ⟨V1, n1, rfl, _⟩ := hv1.form
   have HX : Hid (l[k]? = some x) := hx
   have HB : Hid (Below (w.heap.size + 1) (w.alloc (.cells #[.int .i64 d.f, .int .i64 d.n, .int .i64 d.c] 34)) wr) := hb'
   have k0 := (hb'.cell (p := ⟨w.heap.size, 0, none⟩) (by simp)).trans p0
   have k1 := (hb'.cell (p := ⟨w.heap.size, 1, none⟩) (by simp)).trans p1
   have k2 := (hb'.cell (p := ⟨w.heap.size, 2, none⟩) (by simp)).trans p2
   have kz : w.heap.size < wr.heap.size := by have := hb'.size; simp at this; omega
   have HS : Hid (w.heap.size + 1 ≤ wr.heap.size) := kz
   clear hx hb hb' p0 p1 p2
   cases hle : lessD x.id d with
   | true =>
    have HE : Hid (lessD x.id d = true) := hle
    go_wp2_with (go_at_call 139; refine (less_any x.id d _).mono ?_; rintro e w1 ⟨rfl, hb1⟩)
    go_roundg (l.length - (k + 1))
    case measure => omega
    case rel => exact ⟨k + 1, rfl, by omega, by go_num, fun j y hj hy => by
      by_cases ej : j = k
      ·subst ej; have := HX.out; rw [hy] at this; cases this; exact HE.out
      ·exact ht.out j y (by omega) hy, (HB.out.alloc HS.out _).trans (hb1.mono (by have := HS.out; simp; omega))⟩
   | false =>
    have HE : Hid (lessD x.id d = false) := hle
    go_wp2_with (go_at_call 139; refine (less_any x.id d _).mono ?_; rintro e w1 ⟨rfl, hb1⟩)
    go_ret
    exact ⟨ret_i (by rw [plc_at HX.out HE.out ht.out]), HA.out.trans (((HB.out.alloc HS.out _).trans (hb1.mono (by have := HS.out; simp; omega))).mono (by omega))⟩
  ·go_wp2
   go_ret
   exact ⟨ret_i (by rw [plc_end fun j y hy => ht.out j y (by have := (List.getElem?_eq_some_iff.1 hy).1; omega) hy]), hb⟩
end Go.Proofs.YtfbeiedhdmndnaaGreatDoor
namespace Go.Proofs.YtfbeiedhdmndnaaGreatDoor
open Go.RowKit
def subA (A : Option Addr) (c k : Nat) : Option Addr := if c = k then A else Option.map (fun x => x.add (k * 6)) A
theorem subA_rule (A : Option Addr) (c k : Nat) : (if c = k then A else Option.map (fun x => x.add (k * 6)) A) = subA A c k := rfl
theorem subA_rule2 (b o c k : Nat) : (if c = k then some (⟨b, o, none⟩ : Addr) else some ⟨b, o + k * 6, none⟩) = subA (some ⟨b, o, none⟩) c k := by unfold subA; simp [addr_add]
attribute [local go_sem ↓] Go.wp_at_zero Go.wp_at_succ subA_rule
section
variable {ok inn : Nat → Prop} {w : World} {A : Option Addr} {n c k : Nat} {l : List PMsg}
theorem Msgs.takeS (h : Msgs ok inn w (.slice A n c) l) (hk : k ≤ l.length) : Msgs ok inn w (.slice A k c) (l.take k) := by
 obtain ⟨A', c', e, h1, h2, h3⟩ := h
 cases e
 have e1 : (l.take k).length = k := by simp; omega
 refine ⟨A, c, by rw [e1], by omega, by omega, ?_⟩
 rcases h3 with h3 | ⟨b, o, rfl, hb, hlt, hc⟩
 ·exact Or.inl (by rw [h3]; simp)
 ·exact Or.inr ⟨b, o, rfl, hb, hlt, fun j x hx => hc j x (by rw [List.getElem?_take] at hx; split at hx; exact hx; cases hx)⟩
theorem Msgs.dropS (h : Msgs ok inn w (.slice A n c) l) (hk : k ≤ l.length) : Msgs ok inn w (.slice (subA A c k) (l.length - k) (c - k)) (l.drop k) := by
 unfold subA
 obtain ⟨A', c', e, h1, h2, h3⟩ := h
 cases e
 have e1 : (l.drop k).length = l.length - k := by simp
 refine ⟨_, c - k, by rw [e1], by omega, by omega, ?_⟩
 by_cases he : c = k
 ·exact Or.inl (List.drop_eq_nil_of_le (by omega))
 ·rw [if_neg he]
  rcases h3 with h3 | ⟨b, o, rfl, hb, hlt, hc⟩
  ·exact Or.inl (by rw [h3]; simp)
  ·refine Or.inr ⟨b, o + k * 6, by simp [addr_add], hb, hlt, fun j x hx => ?_⟩
   rw [List.getElem?_drop] at hx
   have := hc (k + j) x hx
   rwa [Nat.add_mul, ← Nat.add_assoc] at this
end
theorem parts3 {W : World} {B : Nat} {v0 v1 v2 : Value} {l0 l1 l2 : List PMsg} (hB : W.heap[B]? = some (.cells #[v0, v1, v2] 30)) (h0 : Msgs anyB anyB W v0 l0) (h1 : Msgs anyB anyB W v1 l1) (h2 : Msgs anyB anyB W v2 l2) : Parts W (.slice (some ⟨B, 0, none⟩) 3 3) [l0, l1, l2] := by
 obtain ⟨x0, x1, x2⟩ := blk3 hB
 refine ⟨_, 3, rfl, by simp, by simp, Or.inr ⟨B, 0, rfl, trivial, (Array.getElem?_eq_some_iff.1 hB).1, fun k x hx => ?_⟩⟩
 match k, hx with
 | 0, hx => cases hx; exact ⟨v0, x0, h0⟩
 | 1, hx => cases hx; exact ⟨v1, x1, h1⟩
 | 2, hx => cases hx; exact ⟨v2, x2, h2⟩
 | k + 3, hx => simp at hx
theorem parts2 {W : World} {B : Nat} {v0 v1 : Value} {l0 l1 : List PMsg} (hB : W.heap[B]? = some (.cells #[v0, v1] 30)) (h0 : Msgs anyB anyB W v0 l0) (h1 : Msgs anyB anyB W v1 l1) : Parts W (.slice (some ⟨B, 0, none⟩) 2 2) [l0, l1] := by
 refine ⟨_, 2, rfl, by simp, by simp, Or.inr ⟨B, 0, rfl, trivial, (Array.getElem?_eq_some_iff.1 hB).1, fun k x hx => ?_⟩⟩
 match k, hx with
 | 0, hx => cases hx; exact ⟨v0, by rw [cell_of_row _ _ _ _ _ _ hB]; rfl, h0⟩
 | 1, hx => cases hx; exact ⟨v1, by rw [cell_of_row _ _ _ _ _ _ hB]; rfl, h1⟩
 | k + 2, hx => simp at hx
def Few (l : List PMsg) : Prop := l.length ≤ 900 ∧ ∀ x ∈ l, x.nt.args.length ≤ 1000
set_option maxHeartbeats 1000000 in
theorem put_there (w : World) (v vm : Value) (l : List PMsg) (m : PMsg) (h : Msgs anyB anyB w v l) (hm : MsgV anyB w vm m) (k : Nat) (hf : fnd l m.id = k) :
  Calls Tryz.prog 106 #[v, vm] w fun e w' => e = .returned (.tuple #[.slice none 0 0, .int .i64 1]) ∧ Below w.heap.size w w' := by
 obtain ⟨A, c, rfl, hl⟩ := h.form
 obtain ⟨c2, rfl, hI⟩ := hm
 obtain ⟨A2, d2, rfl, _⟩ := hI.form
 have hk : (0 : Int) ≤ k := by omega
 obtain ⟨p0, p1, p2, p3, p4, p5⟩ := blk6 (heap_new w (.cells #[.int .i64 m.id.f, .int .i64 m.id.n, .int .i64 m.id.c, .int .i64 m.nt.to, .int .i64 m.nt.hd, .slice A2 m.nt.args.length d2] 90))
 go_enter Tryz.func106, Tryz.ntmps106
 go_wp2_with (first | (go_at_call 59; refine (find_any _ _ l m.id (h.below (by exact bAlloc (bRefl _) _))).mono ?_; rintro e w1 ⟨rfl, hb1⟩))
 exact bodyPost_ret (v := .tuple #[.slice none 0 0, .int .i64 1]) (by simp [results, Tryz.results106, go_sem]) rfl ⟨rfl, bTrans (bAlloc (bRefl _) _) hb1⟩
set_option maxHeartbeats 1000000 in
set_option maxRecDepth 100000 in
theorem put_new (w : World) (v vm : Value) (l : List PMsg) (m : PMsg) (h : Msgs anyB anyB w v l) (hm : MsgV anyB w vm m) (hf : fnd l m.id = -1) (hF : Few l) (hm6 : m.nt.args.length ≤ 1000) :
  Calls Tryz.prog 106 #[v, vm] w fun e w' => ∃ u, e = .returned (.tuple #[u, .int .i64 0]) ∧ Msgs (nO w.heap.size u) (nI w.heap.size u) w' u (putP l m) ∧ Below w.heap.size w w' := by
 obtain ⟨A, c, rfl, hl⟩ := h.form
 obtain ⟨c2, rfl, hI⟩ := hm
 obtain ⟨A2, d2, rfl, _⟩ := hI.form
 have hcap := h.cap
 obtain ⟨k, hp⟩ : ∃ k, plc l m.id = k := ⟨_, rfl⟩
 have hkl : k ≤ l.length := hp ▸ plc_le l m.id
 have HF : Hid (Few l) := hF
 have HP : Hid (putP l m = l.take k ++ ([m] ++ (l.drop k ++ []))) := by show _ = _; unfold putP; rw [hp]; simp
 have hi : (0 : Int) ≤ k := by omega
 have hi2 : (k : Int) ≤ l.length := by omega
 have hkc : (k : Int) ≤ c := by omega
 have HK : Hid (k ≤ l.length) := hkl
 clear hF hcap
 obtain ⟨p0, p1, p2, p3, p4, p5⟩ := blk6 (heap_new w (.cells #[.int .i64 m.id.f, .int .i64 m.id.n, .int .i64 m.id.c, .int .i64 m.nt.to, .int .i64 m.nt.hd, .slice A2 m.nt.args.length d2] 90))
 go_enter Tryz.func106, Tryz.ntmps106
 go_wp2_with (first | (go_at_call 59; refine (find_any _ _ l m.id (h.below (by exact bAlloc (bRefl _) _))).mono ?_; rintro e w1 ⟨rfl, hb1⟩; have kz := hb1.size; have k0 := (hb1.cell (p := ⟨w.heap.size, 0, none⟩) (by simp)).trans p0; have k1 := (hb1.cell (p := ⟨w.heap.size, 1, none⟩) (by simp)).trans p1; have k2 := (hb1.cell (p := ⟨w.heap.size, 2, none⟩) (by simp)).trans p2; have k3 := (hb1.cell (p := ⟨w.heap.size, 3, none⟩) (by simp)).trans p3; have k4 := (hb1.cell (p := ⟨w.heap.size, 4, none⟩) (by simp)).trans p4; have k5 := (hb1.cell (p := ⟨w.heap.size, 5, none⟩) (by simp)).trans p5; clear p0 p1 p2 p3 p4 p5) | (go_at_call 132; refine (place_any _ _ l m.id (h.below (by exact bTrans (bAlloc (bRefl _) _) hb1))).mono ?_; rintro e w2 ⟨rfl, hb2⟩))
 have hz : w.heap.size < w1.heap.size := by simp at kz; omega
 replace k0 := (hb2.cell (p := ⟨w.heap.size, 0, none⟩) hz).trans k0
 replace k1 := (hb2.cell (p := ⟨w.heap.size, 1, none⟩) hz).trans k1
 replace k2 := (hb2.cell (p := ⟨w.heap.size, 2, none⟩) hz).trans k2
 replace k3 := (hb2.cell (p := ⟨w.heap.size, 3, none⟩) hz).trans k3
 replace k4 := (hb2.cell (p := ⟨w.heap.size, 4, none⟩) hz).trans k4
 replace k5 := (hb2.cell (p := ⟨w.heap.size, 5, none⟩) hz).trans k5
 have HB : Hid (Below w.heap.size w w2) := bTrans (bTrans (bAlloc (bRefl _) _) hb1) hb2
 have hz2 : w.heap.size < w2.heap.size := Nat.lt_of_lt_of_le hz hb2.size
 clear hb1 hb2 kz hz
 go_region_held3 (fun w' => w'.cell? ⟨w.heap.size, 0, none⟩ = some (.int .i64 m.id.f) ∧ w'.cell? ⟨w.heap.size, 1, none⟩ = some (.int .i64 m.id.n) ∧ w'.cell? ⟨w.heap.size, 2, none⟩ = some (.int .i64 m.id.c) ∧ w'.cell? ⟨w.heap.size, 3, none⟩ = some (.int .i64 m.nt.to) ∧ w'.cell? ⟨w.heap.size, 4, none⟩ = some (.int .i64 m.nt.hd) ∧ w'.cell? ⟨w.heap.size, 5, none⟩ = some (.slice A2 m.nt.args.length d2)) (go_keep)
     (first | (go_at_call 101; have HW := fun (x y : Obj) => (bAlloc (bAlloc HB.out x) y).drew; refine (join_any _ _ [l.take k, [m], l.drop k] (parts3 (by exact heap_new2 (by simp)) (((h.below (HW _ _)).takeS HK.out).any2) ((one_msgs (by exact ((bAlloc (bRefl _) _).block _ (by simp)).trans (heap_new _ _)) (hI.below (HW _ _))).any2) (((h.below (HW _ _)).dropS HK.out).any2)) (by have := HF.out.1; simp; omega) (by have hF2 := HF.out.2; intro x hx; simp only [List.flatten_cons, List.flatten_nil, List.mem_append, List.append_nil] at hx; rcases hx with hx | hx | hx; exact hF2 x (List.mem_of_mem_take hx); (simp at hx; rw [hx]; exact hm6); exact hF2 x (List.mem_of_mem_drop hx))).mono ?_; rintro e w3 ⟨u, rfl, hu, hb3⟩; have HB23 := bTrans (bAlloc (bAlloc (bRefl w2) _) _).drew hb3; have y0 := (HB23.cell (p := ⟨w.heap.size, 0, none⟩) hz2).trans k0; have y1 := (HB23.cell (p := ⟨w.heap.size, 1, none⟩) hz2).trans k1; have y2 := (HB23.cell (p := ⟨w.heap.size, 2, none⟩) hz2).trans k2; have y3 := (HB23.cell (p := ⟨w.heap.size, 3, none⟩) hz2).trans k3; have y4 := (HB23.cell (p := ⟨w.heap.size, 4, none⟩) hz2).trans k4; have y5 := (HB23.cell (p := ⟨w.heap.size, 5, none⟩) hz2).trans k5; have HB3 : Hid (Below w.heap.size w w3) := bTrans (HW _ _) hb3; have HU : Hid (Msgs (nO w.heap.size u) (nI w.heap.size u) w3 u (l.take k ++ ([m] ++ (l.drop k ++ [])))) := (hu.weak (nO.le (Nat.le_trans (Nat.le_of_lt hz2) (by simp; omega))) (nI.le (Nat.le_trans (Nat.le_of_lt hz2) (by simp; omega)))); clear hu hb3 HB23))
 go_wp2
 exact bodyPost_ret (v := .tuple #[u, .int .i64 0]) (by simp [results, Tryz.results106, go_sem]) rfl ⟨u, rfl, by rw [HP.out]; exact HU.out, HB3.out⟩
end Go.Proofs.YtfbeiedhdmndnaaGreatDoor
namespace Go.Proofs.YtfbeiedhdmndnaaGreatDoor
open Go.RowKit

structure PLoc where
 regs : List Int
 armed : Bool
 down : Int
 sent : Int
 over : Int
 deriving DecidableEq, Inhabited
structure PBud where
 drop : Int
 dup : Int
 time : Int
 crash : Int
 deriving DecidableEq, Inhabited
structure PWld where
 acts : List PLoc
 mail : List PMsg
 used : PBud
 deriving DecidableEq, Inhabited

def rLoc (ok : Nat → Prop) (w : World) (b o : Nat) (x : PLoc) : Prop :=
 (∃ v, w.cell? ⟨b, o, none⟩ = some v ∧ Ints ok w v x.regs) ∧ w.cell? ⟨b, o + 1, none⟩ = some (.bool x.armed) ∧ w.cell? ⟨b, o + 2, none⟩ = some (.int .i64 x.down) ∧
 w.cell? ⟨b, o + 3, none⟩ = some (.int .i64 x.sent) ∧ w.cell? ⟨b, o + 4, none⟩ = some (.int .i64 x.over)
abbrev Locs (out inn : Nat → Prop) := Sl 5 (rLoc inn) out
abbrev lVal (x : PLoc) (c : Value) : Value := .agg #[c, .bool x.armed, .int .i64 x.down, .int .i64 x.sent, .int .i64 x.over]
def LocV (ok : Nat → Prop) (w : World) (v : Value) (x : PLoc) : Prop := ∃ c, v = lVal x c ∧ Ints ok w c x.regs
abbrev uVal (u : PBud) : Value := .agg #[.int .i64 u.drop, .int .i64 u.dup, .int .i64 u.time, .int .i64 u.crash]
abbrev wVal (u : PBud) (a b : Value) : Value := .agg #[a, b, .int .i64 u.drop, .int .i64 u.dup, .int .i64 u.time, .int .i64 u.crash]
def WldV (w : World) (v : Value) (x : PWld) : Prop := ∃ a b, v = wVal x.used a b ∧ Locs anyB anyB w a x.acts ∧ Msgs anyB anyB w b x.mail

section
variable {w w' : World} {ok ok' inn inn' : Nat → Prop} {v : Value}
theorem Locs.same {l : List PLoc} (h : Locs ok inn w v l) (s : Same ok w w') (t : Same inn w w') : Locs ok inn w' v l :=
 h.imp (fun _ h => h) s.size fun _ _ _ hk hb ⟨⟨c, h1, h2⟩, h3, h4, h5, h6⟩ => ⟨⟨c, (s.cell hk hb).trans h1, h2.same t⟩, (s.cell hk hb).trans h3, (s.cell hk hb).trans h4, (s.cell hk hb).trans h5, (s.cell hk hb).trans h6⟩
theorem Locs.below {l : List PLoc} (h : Locs ok inn w v l) (hb : Below w.heap.size w w') : Locs ok inn w' v l := h.same (Same.all hb) (Same.all hb)
theorem Locs.weak {l : List PLoc} (h : Locs ok inn w v l) (k : ∀ b, ok b → ok' b) (k' : ∀ b, inn b → inn' b) : Locs ok' inn' w v l :=
 h.imp k (Nat.le_refl _) fun _ _ _ _ _ ⟨⟨c, h1, h2⟩, h3⟩ => ⟨⟨c, h1, h2.weak k'⟩, h3⟩
theorem Locs.any2 {l : List PLoc} (h : Locs ok inn w v l) : Locs anyB anyB w v l := h.weak (fun _ _ => trivial) (fun _ _ => trivial)
theorem LocV.below {x : PLoc} (h : LocV ok w v x) (hb : Below w.heap.size w w') : LocV ok w' v x := let ⟨c, h1, h2⟩ := h; ⟨c, h1, h2.below hb⟩
theorem WldV.below {x : PWld} (h : WldV w v x) (hb : Below w.heap.size w w') : WldV w' v x := let ⟨a, b, h0, h1, h2⟩ := h; ⟨a, b, h0, h1.below hb, h2.below hb⟩
end
theorem Locs.cell {out inn : Nat → Prop} {w wr : World} {A : Option Addr} {n c : Nat} {l : List PLoc} (h : Locs out inn w (.slice A n c) l) (hb : Below w.heap.size w wr) {k : Nat} (hk : k < l.length) :
  ∃ b o x v, A = some ⟨b, o, none⟩ ∧ l[k]? = some x ∧ b < wr.heap.size ∧ wr.cell? ⟨b, o + k * 5, none⟩ = some v ∧ wr.cell? ⟨b, o + k * 5 + 1, none⟩ = some (.bool x.armed) ∧ wr.cell? ⟨b, o + k * 5 + 2, none⟩ = some (.int .i64 x.down) ∧
   wr.cell? ⟨b, o + k * 5 + 3, none⟩ = some (.int .i64 x.sent) ∧ wr.cell? ⟨b, o + k * 5 + 4, none⟩ = some (.int .i64 x.over) ∧ Ints inn wr v x.regs := by
 obtain ⟨x, hx⟩ := at_lt hk
 obtain ⟨b, o, rfl, _, hlt, hc⟩ := h.at (by omega)
 obtain ⟨⟨v, h1, h2⟩, h3, h4, h5, h6⟩ := hc k x hx
 exact ⟨b, o, x, v, rfl, hx, Nat.lt_of_lt_of_le hlt hb.size, (hb.cell (p := ⟨b, _, none⟩) hlt).trans h1, (hb.cell (p := ⟨b, _, none⟩) hlt).trans h3, (hb.cell (p := ⟨b, _, none⟩) hlt).trans h4, (hb.cell (p := ⟨b, _, none⟩) hlt).trans h5, (hb.cell (p := ⟨b, _, none⟩) hlt).trans h6, h2.below hb⟩

/-! ### What the document says, plainly -/
def chkUsed (u : PBud) : Bool := decide (0 ≤ u.drop) && (decide (0 ≤ u.dup) && (decide (0 ≤ u.time) && decide (0 ≤ u.crash)))
def chkLoc (a : PAct) (l : PLoc) : Bool :=
 ((l.regs.length : Int) == (a.regs.length : Int)) && (inB l.down 0 4 && (inB l.sent 0 2199023255551 && (inB l.over 0 2199023255551 && (!l.armed || (a.timer != -1)))))
def chkNt (p : PPrg) (n : PNte) : Bool := inB n.to 0 ((p.acs.length : Int) - 1) && (inB n.hd 0 ((p.hs.length : Int) - 1) && ((n.args.length : Int) == argsOf p.hs n.hd))
def sentP (x : PWld) (f : Int) : Int := if f = -1 then 16 else ((x.acts[f.toNat]?).map (·.sent)).getD 0
def chkD (x : PWld) (d : PID) : Bool := inB d.f (-1) ((x.acts.length : Int) - 1) && (inB d.n 0 (wrap64 (sentP x d.f - 1)) && inB d.c 0 x.used.dup)
def chkAs (p : PPrg) (l : List PLoc) : Bool := decide (l.length = p.acs.length ∧ ∀ i, i < l.length → chkLoc (p.acs.getD i default) (l.getD i default) = true)
def chkM (p : PPrg) (x : PWld) : Bool := x.mail.all (fun m => chkNt p m.nt && chkD x m.id) && srt x.mail

/-! ### Small functions -/
set_option maxHeartbeats 400000 in
theorem win_any (n lo hi : Int) (w : World) : Calls Tryz.prog 73 #[.int .i64 n, .int .i64 lo, .int .i64 hi] w fun e w' => e = .returned (.bool (inB n lo hi)) ∧ w' = w := by
 by_cases h : lo ≤ n
 ·go_enter Tryz.func73, Tryz.ntmps73
  go_wp2
  go_ret
  exact ⟨ret_bool (by simp [inB, h]), rfl⟩
 ·go_enter Tryz.func73, Tryz.ntmps73
  go_wp2
  go_ret
  exact ⟨ret_bool (by simp [inB]; omega), rfl⟩
theorem isActor_any (w : World) (v : Value) (p : PPrg) (n : Int) (h : PrgV w v p) :
  Calls Tryz.prog 137 #[v, .int .i64 n] w fun e w' => e = .returned (.bool (inB n 0 ((p.acs.length : Int) - 1))) ∧ Below w.heap.size w w' := by
 obtain ⟨va, vb, vc, rfl, h1, h2, h3⟩ := h
 obtain ⟨A2, c2, rfl, hl2⟩ := h2.form
 obtain ⟨A1, c1, rfl, hl1⟩ := h1.form
 obtain ⟨A3, c3, rfl, hl3⟩ := h3.form
 clear h1 h2 h3
 go_enter Tryz.func137, Tryz.ntmps137
 go_wp2_with (go_at_call 73; refine (win_any _ _ _ _).mono ?_; rintro e w' ⟨rfl, rfl⟩)
 go_ret
 exact ⟨rfl, bAlloc (bRefl _) _⟩
set_option maxHeartbeats 1000000 in
theorem chkUsed_any (w : World) (u : PBud) : Calls Tryz.prog 93 #[uVal u] w fun e w' => e = .returned (.bool (chkUsed u)) ∧ Below w.heap.size w w' := by
 by_cases h1 : 0 ≤ u.drop
 ·by_cases h2 : 0 ≤ u.dup
  ·by_cases h3 : 0 ≤ u.time
   ·have HR : Hid (decide (0 ≤ u.crash) = chkUsed u) := by show _ = _; unfold chkUsed; simp [h1, h2, h3]
    go_enter Tryz.func93, Tryz.ntmps93
    go_wp2
    go_ret
    exact ⟨ret_b HR.out, bAlloc (bRefl _) _⟩
   ·have HR : Hid (false = chkUsed u) := by show _ = _; unfold chkUsed; simp [h1, h2, h3]
    go_enter Tryz.func93, Tryz.ntmps93
    go_wp2
    go_ret
    exact ⟨ret_b HR.out, bAlloc (bRefl _) _⟩
  ·have HR : Hid (false = chkUsed u) := by show _ = _; unfold chkUsed; simp [h1, h2]
   go_enter Tryz.func93, Tryz.ntmps93
   go_wp2
   go_ret
   exact ⟨ret_b HR.out, bAlloc (bRefl _) _⟩
 ·have HR : Hid (false = chkUsed u) := by show _ = _; unfold chkUsed; simp [h1]
  go_enter Tryz.func93, Tryz.ntmps93
  go_wp2
  go_ret
  exact ⟨ret_b HR.out, bAlloc (bRefl _) _⟩
set_option maxHeartbeats 2000000 in
set_option maxRecDepth 100000 in
theorem chkLocal_any (w : World) (v1 v2 : Value) (a : PAct) (l : PLoc) (h1 : ActV w v1 a) (h2 : LocV anyB w v2 l) :
  Calls Tryz.prog 116 #[v1, v2] w fun e w' => e = .returned (.bool (chkLoc a l)) ∧ Below w.heap.size w w' := by
 obtain ⟨c1, rfl, h1⟩ := h1
 obtain ⟨c2, rfl, h2⟩ := h2
 obtain ⟨A1, d1, rfl, _⟩ := h1.form
 obtain ⟨A2, d2, rfl, _⟩ := h2.form
 have HB : ∀ (x y : Obj), Below w.heap.size w ((w.alloc x).alloc y) := fun x y => bAlloc (bAlloc (bRefl w) x) y
 clear h1 h2
 cases e1 : ((l.regs.length : Int) == (a.regs.length : Int)) with
 | false =>
  have HR : Hid (false = chkLoc a l) := by show _ = _; unfold chkLoc; rw [e1]; rfl
  go_enter Tryz.func116, Tryz.ntmps116
  go_wp2
  go_ret
  exact ⟨ret_b HR.out, HB _ _⟩
 | true =>
  cases e2 : inB l.down 0 4 with
  | false =>
   have HR : Hid (false = chkLoc a l) := by show _ = _; unfold chkLoc; rw [e1, e2]; rfl
   go_enter Tryz.func116, Tryz.ntmps116
   go_wp2_with (go_at_call 73; refine (win_any _ _ _ _).mono ?_; rintro e w' ⟨rfl, rfl⟩)
   go_ret
   exact ⟨ret_b HR.out, HB _ _⟩
  | true =>
   cases e3 : inB l.sent 0 2199023255551 with
   | false =>
    have HR : Hid (false = chkLoc a l) := by show _ = _; unfold chkLoc; rw [e1, e2, e3]; rfl
    go_enter Tryz.func116, Tryz.ntmps116
    go_wp2_with (go_at_call 73; refine (win_any _ _ _ _).mono ?_; rintro e w' ⟨rfl, rfl⟩)
    go_ret
    exact ⟨ret_b HR.out, HB _ _⟩
   | true =>
    cases e4 : inB l.over 0 2199023255551 with
    | false =>
     have HR : Hid (false = chkLoc a l) := by show _ = _; unfold chkLoc; rw [e1, e2, e3, e4]; rfl
     go_enter Tryz.func116, Tryz.ntmps116
     go_wp2_with (go_at_call 73; refine (win_any _ _ _ _).mono ?_; rintro e w' ⟨rfl, rfl⟩)
     go_ret
     exact ⟨ret_b HR.out, HB _ _⟩
    | true =>
     cases e5 : l.armed with
     | false =>
      have HR : Hid (true = chkLoc a l) := by show _ = _; unfold chkLoc; rw [e1, e2, e3, e4, e5]; rfl
      go_enter Tryz.func116, Tryz.ntmps116
      go_wp2_with (go_at_call 73; refine (win_any _ _ _ _).mono ?_; rintro e w' ⟨rfl, rfl⟩)
      go_ret
      exact ⟨ret_b HR.out, HB _ _⟩
     | true =>
      have HR : Hid ((a.timer != -1) = chkLoc a l) := by show _ = _; unfold chkLoc; rw [e1, e2, e3, e4, e5]; rfl
      go_enter Tryz.func116, Tryz.ntmps116
      go_wp2_with (go_at_call 73; refine (win_any _ _ _ _).mono ?_; rintro e w' ⟨rfl, rfl⟩)
      go_ret
      exact ⟨ret_b HR.out, HB _ _⟩
set_option maxHeartbeats 1000000 in
theorem sentBy_any (w : World) (v : Value) (x : PWld) (f : Int) (h : WldV w v x) (hf : f = -1 ∨ (0 ≤ f ∧ f < x.acts.length)) :
  Calls Tryz.prog 138 #[v, .int .i64 f] w fun e w' => e = .returned (.int .i64 (sentP x f)) ∧ Below w.heap.size w w' := by
 obtain ⟨va, vb, rfl, h1, h2⟩ := h
 obtain ⟨A1, c1, rfl, hl1⟩ := h1.form
 obtain ⟨A2, c2, rfl, hl2⟩ := h2.form
 by_cases e : f = -1
 ·subst e
  go_enter Tryz.func138, Tryz.ntmps138
  go_wp2
  go_ret
  exact ⟨rfl, bAlloc (bRefl _) _⟩
 ·have e' : (f == -1) = false := by simp [e]
  have hf' : 0 ≤ f ∧ f < x.acts.length := by omega
  obtain ⟨k, rfl⟩ := Int.eq_ofNat_of_zero_le hf'.1
  have hk : k < x.acts.length := by omega
  obtain ⟨b1, o1, y, v1, rfl, hx, hz1, q1, q2, q3, q4, q5, hv1⟩ := h1.cell (bRefl w) hk
  have HR : Hid (y.sent = sentP x (k : Int)) := by show _ = _; unfold sentP; rw [if_neg e, Int.toNat_natCast, hx]; rfl
  clear hx hf hf' e h1 h2 hv1
  go_enter Tryz.func138, Tryz.ntmps138
  go_wp2
  go_ret
  exact ⟨ret_i HR.out, bAlloc (bRefl _) _⟩
set_option maxHeartbeats 1000000 in
theorem firstN_any (w : World) (v : Value) (x : PWld) (f n : Int) (h : WldV w v x) (hf : f = -1 ∨ (0 ≤ f ∧ f < x.acts.length)) :
  Calls Tryz.prog 74 #[v, .int .i64 f, .int .i64 n] w fun e w' => e = .returned (.int .i64 (if f = -1 then 0 else wrap64 (sentP x f - n))) ∧ Below w.heap.size w w' := by
 obtain ⟨va, vb, rfl, h1, h2⟩ := h
 obtain ⟨A1, c1, rfl, hl1⟩ := h1.form
 obtain ⟨A2, c2, rfl, hl2⟩ := h2.form
 by_cases e : f = -1
 ·subst e
  rw [if_pos rfl]
  go_enter Tryz.func74, Tryz.ntmps74
  go_wp2
  go_ret
  exact ⟨rfl, bAlloc (bRefl _) _⟩
 ·have e' : (f == -1) = false := by simp [e]
  have hf' : 0 ≤ f ∧ f < x.acts.length := by omega
  rw [if_neg e]
  obtain ⟨k, rfl⟩ := Int.eq_ofNat_of_zero_le hf'.1
  have hk : k < x.acts.length := by omega
  obtain ⟨b1, o1, y, v1, rfl, hx, hz1, q1, q2, q3, q4, q5, hv1⟩ := h1.cell (bRefl w) hk
  have HR : Hid (y.sent = sentP x (k : Int)) := by show _ = _; unfold sentP; rw [if_neg e, Int.toNat_natCast, hx]; rfl
  clear hx hf hf' e h1 h2 hv1
  go_enter Tryz.func74, Tryz.ntmps74
  go_wp2
  go_ret
  exact ⟨ret_i (by rw [← HR.out]), bAlloc (bRefl _) _⟩
end Go.Proofs.YtfbeiedhdmndnaaGreatDoor
namespace Go.Proofs.YtfbeiedhdmndnaaGreatDoor
open Go.RowKit
attribute [local go_sem ↓] Go.wp_at_zero Go.wp_at_succ

theorem info3 : (Tryz.prog.info? 3).map (fun i => (i.zero, i.size, i.bytes)) = some (some (.int .i64 0), 1, 8) := by kernel_rfl

noncomputable def de (hs : List PHnd) (code : List PIns) : Int := if (dp hs code).isSome then 0 else 5
noncomputable def dl (hs : List PHnd) (code : List PIns) : List Int := (dp hs code).getD []
theorem Good.de {hs : List PHnd} {code : List PIns} {l : List Int} (g : Good hs code l) : de hs code = 0 := by unfold YtfbeiedhdmndnaaGreatDoor.de; rw [g.dp]; rfl
theorem Good.dl {hs : List PHnd} {code : List PIns} {l : List Int} (g : Good hs code l) : dl hs code = l := by unfold YtfbeiedhdmndnaaGreatDoor.dl; rw [g.dp]; rfl
theorem Bad.de {hs : List PHnd} {code : List PIns} (g : Bad hs code) : de hs code = 5 := by unfold YtfbeiedhdmndnaaGreatDoor.de; rw [g.dp]; rfl
theorem Bad.dl {hs : List PHnd} {code : List PIns} (g : Bad hs code) : dl hs code = [] := by unfold YtfbeiedhdmndnaaGreatDoor.dl; rw [g.dp]; rfl

def ini (n k : Nat) : List Int := List.replicate k (-1) ++ List.replicate (n - k) 0
theorem ini_len {n k : Nat} (h : k ≤ n) : (ini n k).length = n := by simp [ini]; omega
theorem ini_set {n k : Nat} (h : k < n) : (ini n k).set k (-1) = ini n (k + 1) := by
 unfold ini
 obtain ⟨m, hm⟩ : ∃ m, n - k = m + 1 := ⟨n - k - 1, by omega⟩
 rw [hm, List.set_append, if_neg (by simp), show n - (k + 1) = m by omega, List.replicate_succ, List.replicate_succ']
 simp
theorem ini_all (n : Nat) : ini n n = List.replicate n (-1) := by simp [ini]

theorem DW.start (w : World) (n : Nat) : DW w w.heap.size (ini n 0) (.slice none 0 0) [] (w.alloc (.cells (madeCells #[.int .i64 0] n) 3)) := by
 refine ⟨bAlloc (bRefl w) _, ?_, Nat.le_refl _, ⟨rfl, Or.inl ⟨rfl, rfl⟩⟩, by simp [Value.ownBlock]⟩
 rw [ini_len (Nat.zero_le _)]
 refine (World.rowIs_made w (.int .i64 0) n 3).congr fun i hi => ?_
 simp [ini, List.getD_eq_getElem?_getD, hi]
theorem DW.first {w wr : World} {D B : Nat} {l : List Int} (h : DW w D l (.slice none 0 0) [] wr) (hB : wr.heap.size = B) : DW w D l (.slice (some ⟨B, 0, none⟩) 1 1) [0] (wr.alloc (.cells #[.int .i64 0] 3)) := by
 subst hB
 have h1 := h.below (bAlloc (bRefl wr) (.cells #[.int .i64 0] 3))
 refine ⟨h1.low, h1.row, h1.base, ⟨rfl, Or.inr ⟨wr.heap.size, 1, #[.int .i64 0], rfl, h.low.size, heap_new _ _, by simp, by simp [maxLen], rfl, rfl⟩⟩, ?_⟩
 have := h.lt
 simp [Value.ownBlock]; omega

theorem DW.len {w wr : World} {D : Nat} {l : List Int} {v : Value} {t : List Nat} (h : DW w D l v t wr) : ∃ A c, v = .slice A t.length c ∧ c ≤ maxLen := by
 obtain ⟨h1, h2⟩ := h.own
 rcases h2 with ⟨rfl, h2⟩ | ⟨g, cap, cur, rfl, hb, hh, h3, h4, _⟩
 ·exact ⟨none, 0, by rw [h2], Nat.zero_le _⟩
 ·exact ⟨_, cap, rfl, h4⟩
theorem DW.ints {w wr : World} {D c : Nat} {l : List Int} {v : Value} {t : List Nat} (h : DW w D l v t wr) (hl : l.length ≤ 1000) (hc : l.length ≤ c := by first | exact Nat.le_refl _ | (simp; done) | omega) : Ints anyB wr (.slice (some ⟨D, 0, none⟩) l.length c) l :=
 ⟨_, c, rfl, by omega, hc, Or.inr ⟨D, 0, rfl, trivial, h.lt, fun k x hx => by
  have := h.cell hx
  rw [Nat.mul_one, Nat.zero_add]; exact this⟩⟩
theorem DW.intsN {w wr : World} {D c : Nat} {l : List Int} {v : Value} {t : List Nat} (h : DW w D l v t wr) (hl : l.length ≤ 1000) (hc : l.length ≤ c := by first | exact Nat.le_refl _ | (simp; done) | omega) : Ints (fun b => w.heap.size ≤ b) wr (.slice (some ⟨D, 0, none⟩) l.length c) l :=
 ⟨_, c, rfl, by omega, hc, Or.inr ⟨D, 0, rfl, h.base, h.lt, fun k x hx => by
  have := h.cell hx
  rw [Nat.mul_one, Nat.zero_add]; exact this⟩⟩
theorem Ints.up {ok ok' : Nat → Prop} {w : World} {v : Value} {l : List Int} (h : Ints ok w v l) (hk : ∀ b, ok b → ok' b) : Ints ok' w v l := h.imp hk (Nat.le_refl _) fun _ _ _ _ _ h => h
theorem sl0 {α : Type} {sz : Nat} {R : World → Nat → Nat → α → Prop} {ok : Nat → Prop} {w : World} {A : Option Addr} {c : Nat} : Sl sz R ok w (.slice A 0 c) [] :=
 ⟨_, c, rfl, by simp, by simp, Or.inl rfl⟩
theorem new_cell {W : World} {B : Nat} {x : Value} {T : TypeId} (h : W.heap.size = B) : (W.alloc (.cells #[x] T)).cell? ((⟨B, 0, none⟩ : Addr).add 0) = some x := by
 subst h
 simp [Addr.add]
theorem ini_cnt {n : Nat} (h : n ≤ 64) : 2 * ((List.replicate (n + 1) (-1 : Int)).set 0 0).count (-1) + [0].length ≤ 131 := by
 have := List.count_le_length (a := (-1 : Int)) (l := (List.replicate (n + 1) (-1 : Int)).set 0 0)
 simp at this
 simp
 omega
theorem int_ne {a b : Int} (h : a ≠ b) : (a == b) = false := by simp [h]
theorem int_eq {a b : Int} (h : a = b) : (a == b) = true := by simp [h]
theorem snoc_of {t : List Nat} (h : 0 < t.length) : ∃ s k, t = s ++ [k] := by
 rcases List.eq_nil_or_concat t with rfl | ⟨s, k, rfl⟩
 ·simp at h
 ·exact ⟨s, k, by simp⟩
theorem Wk.lt {hs : List PHnd} {code : List PIns} {l : List Int} {t : List Nat} {k : Nat} (h : Wk hs code l (t ++ [k])) : k ≤ code.length := by
 obtain ⟨d, hd, _⟩ := h.here
 have := (List.getElem?_eq_some_iff.1 hd).1
 have := h.len
 omega
theorem nxt_le {hs : List PHnd} {code : List PIns} {i : PIns} {k m j : Nat} (hi : OkI hs code.length i) (hk : k < code.length) (h : (nxt i k)[m]? = some j) : j ≤ code.length := by
 have hm := List.mem_of_getElem? h
 unfold nxt at hm
 split at hm
 ·cases hm
 ·split at hm
  ·rename_i h2
   have := (hi.tgt (Or.inl h2)).2
   rw [List.mem_singleton] at hm; omega
  ·split at hm
   ·rename_i h3
    have := (hi.tgt (Or.inr h3)).2
    simp only [List.mem_cons, List.not_mem_nil, or_false] at hm
    rcases hm with hm | hm <;> omega
   ·rw [List.mem_singleton] at hm; omega

set_option maxHeartbeats 8000000 in
set_option maxRecDepth 100000 in
theorem walk_any (w : World) (vc vh : Value) (code : List PIns) (hs : List PHnd) (ht : Tab w) (hc : Code anyB w vc code) (hh : Hnds anyB anyB w vh hs) (ha : OkH hs) (hi : ∀ i ∈ code, OkI hs code.length i) (hlen : code.length ≤ 64) :
  Calls Tryz.prog 100 #[vc, vh] w fun e w' => ∃ v, e = .returned (.tuple #[v, .int .i64 (de hs code)]) ∧ Ints (fun b => w.heap.size ≤ b) w' v (dl hs code) ∧ Below w.heap.size w w' := by
 obtain ⟨A, c, rfl, hl⟩ := hc.form
 obtain ⟨A2, c2, rfl, hl2⟩ := hh.form
 have HT : Hid (Tab w) := ht
 clear ht
 obtain ⟨i0, hi0, hz0, hz1, hz2⟩ := info_parts info3
 have hmk := run_make_row' (P := Tryz.prog) 54 3 (.int .i64 0) 8 Tryz.underlying54 info3 rfl .i64 .i64 (code.length + 1) (by omega) (by omega)
 have ec : ((code.length + 1 : Nat) : Int) = (code.length : Int) + 1 := by omega
 rw [ec] at hmk
 clear ec
 go_enter Tryz.func100, Tryz.ntmps100
 go_wp2
 go_loopg [7, 20] (code.length + 1) (fun g i7 i20 wr => ∃ k : Nat, g = code.length + 1 - k ∧ k ≤ code.length + 1 ∧ i20 = .int .i64 k ∧ Hid (DW w w.heap.size (ini (code.length + 1) k) (.slice none 0 0) [] wr))
 case atStart => exact ⟨0, rfl, by omega, rfl, DW.start w _⟩
 case round =>
  obtain ⟨k, rfl, hk, rfl, hd⟩ := hrel
  have hz := hd.out.lt
  have hf := fun j => hd.out.row.frozen j
  by_cases hlt : k < code.length + 1
  ·obtain ⟨x, hx⟩ := at_lt (l := ini (code.length + 1) k) (k := k) (by rw [ini_len hk]; exact hlt)
   have hcell := hd.out.cell hx
   clear hx
   have HN : Hid (DW w w.heap.size (ini (code.length + 1) (k + 1)) (.slice none 0 0) [] (wr.setCell ⟨w.heap.size, k, none⟩ (.int .i64 (-1)))) := by
    have := hd.out.set k (-1)
    rw [ini_set hlt] at this
    exact this
   go_wp2
   go_roundg (code.length + 1 - (k + 1))
   case measure => omega
   case rel => exact ⟨k + 1, rfl, by omega, by go_num, HN⟩
  ·obtain rfl : k = code.length + 1 := by omega
   have h0 := hd.out.cell (j := 0) (x := -1) (by rw [ini_all]; simp)
   have HN : Hid (DW w w.heap.size ((List.replicate (code.length + 1) (-1)).set 0 0) (.slice none 0 0) [] (wr.setCell ⟨w.heap.size, 0, none⟩ (.int .i64 0))) := by
    have := hd.out.set 0 0
    rw [ini_all] at this
    exact this
   clear hd
   go_wp2
   go_loopg [8, 9, 10, 11, 13] (2 * ((List.replicate (code.length + 1) (-1 : Int)).set 0 0).count (-1) + 1) (fun g i8 i9 i10 i11 i13 wr => ∃ l t, g = 2 * l.count (-1) + t.length ∧ 2 * l.count (-1) + t.length ≤ 131 ∧ Hid (Wk hs code l t) ∧ Hid (DW w w.heap.size l i8 t wr))
   case atStart => exact ⟨_, [0], rfl, ini_cnt hlen, Wk.begin, HN.out.first (by simp)⟩
   case round =>
    clear HN hf hz h0
    obtain ⟨l, t, rfl, hbd, hw, hd⟩ := hrel
    obtain ⟨wo, hwo⟩ : ∃ wo, wo = wr := ⟨wr, rfl⟩
    subst hwo
    have hln := hw.out.len
    by_cases h0 : 0 < t.length
    ·obtain ⟨s, k, rfl⟩ := snoc_of h0
     clear h0
     rw [List.length_append, List.length_singleton] at hbd
     obtain ⟨g, cap, rfl, hcap, hg, hcm, hlast, hd1⟩ := hd.out.form
     have hk := hw.out.lt
     have HD : Hid (DW w w.heap.size l (.slice (some ⟨g, 0, none⟩) s.length cap) s wo) := hd1
     clear hd1
     unfold maxLen at hcm
     by_cases hkn : k = code.length
     ·subst hkn
      have hkk := int_eq (rfl : (code.length : Int) = code.length)
      go_wp2
      go_roundg (2 * l.count (-1) + s.length)
      case measure => simp
      case rel => exact ⟨l, s, rfl, by omega, hw.out.pop (by simp), HD⟩
     ·have hkk : ((k : Int) == (code.length : Int)) = false := int_ne (by omega)
      have hk2 : k < code.length := by omega
      have hk3 : (k : Int) < (code.length : Int) + 1 := by omega
      have hk4 : k < code.length + 1 := by omega
      obtain ⟨b1, o1, x, rfl, hx, q1, q2⟩ := hc.cell hd.out.low hk2
      have hzb : b1 < wo.heap.size := World.block_lt_of_cell? _ _ q1
      obtain ⟨d, hd0, hdn⟩ := hw.out.here
      have q3 := hd.out.cell hd0
      have hd8 := (hw.out.toSnd.rch hd0 hdn).le
      have HX : Hid (code[k]? = some x) := hx
      have HO : Hid (OkI hs code.length x) := hi x (List.mem_of_getElem? hx)
      have HD0 : Hid (l[k]? = some d) := hd0
      have hzD := hd.out.lt
      have hlow : Hid (Below w.heap.size w wo) := hd.out.low
      clear hkn hx hd0 hd
      by_cases hok : okI hs x d
      ·have HK : Hid (okI hs x d) := hok
       go_wp2
       go_region_held3 (fun w' => w'.cell? ⟨b1, o1 + k * 2, none⟩ = some (.int .i64 x.op) ∧ w'.cell? ⟨b1, o1 + k * 2 + 1, none⟩ = some (.int .i64 x.a) ∧ w'.cell? ⟨w.heap.size, k, none⟩ = some (.int .i64 d)) (go_keep)
        (first | (go_at_call 127; refine (leaves_yes _ x d _ hs (HT.out.below (by first | exact hlow.out | exact hlow.out.drew)) (hh.below (by first | exact hlow.out | exact hlow.out.drew)) ha _ HO.out hdn hd8 HK.out).mono ?_; rintro e w1 ⟨rfl, hb1⟩; have hc1 := bcell (undrew hb1)))
       go_wp2_with (go_at_call 128; refine (follow_any _ x k hs _ HO.out (by omega)).mono ?_; rintro e w2 ⟨u, rfl, hfo, hb2⟩; have fw := FW.start (HD.out.below (undrew hb1)) hfo; obtain ⟨Au, cu, rfl, hul⟩ := fw.form)
       have HD2 : Hid (DW w w.heap.size l (.slice (some ⟨g, 0, none⟩) s.length cap) s w2) := (HD.out.below (undrew hb1)).below hb2
       have HF2 : Hid (FW w.heap.size (.slice (some ⟨g, 0, none⟩) s.length cap) (.slice Au (nxt x k).length cu) (nxt x k) w2) := fw
       have HM : Hid (Wm hs code l s k d x 0) := hw.out.into HD0.out
       clear hfo fw HD hc1 hb1 hb2 q1 q2 q3 hlast hlow hzD hzb hg hw
       go_loopg [8, 13, 70] (nxt x k).length (fun g i8 i13 i70 wr => ∃ m l' t', g = (nxt x k).length - m ∧ m ≤ (nxt x k).length ∧ i70 = .int .i64 (m : Nat) ∧ 2 * l'.count (-1) + t'.length ≤ 2 * l.count (-1) + s.length ∧ Hid (Wm hs code l' t' k d x m) ∧ Hid (DW w w.heap.size l' i8 t' wr) ∧ Hid (FW w.heap.size i8 (.slice Au (nxt x k).length cu) (nxt x k) wr))
       case atStart => exact ⟨0, l, s, rfl, by omega, rfl, Nat.le_refl _, HM, HD2, HF2⟩
       case round =>
        clear HM HD2 HF2
        obtain ⟨m, l', t', rfl, hm, rfl, hms, hwm, hd', hfw⟩ := hrel
        obtain ⟨A3, c3, rfl, hcm'⟩ := hd'.out.len
        have hln' := hwm.out.len
        by_cases hlt : m < (nxt x k).length
        ·obtain ⟨j, hj⟩ := at_lt hlt
         obtain ⟨b3, c4, hu, hbD, hb3, q4⟩ := hfw.out.cell hj
         simp only [Value.slice.injEq] at hu
         obtain ⟨rfl, _, rfl⟩ := hu
         have hjn := nxt_le HO.out hk2 hj
         obtain ⟨y, hy⟩ := at_lt (l := l') (k := j) (by omega)
         have q5 := hd'.out.cell hy
         have hjI : (j : Int) < (code.length : Int) + 1 := by omega
         have hzD := hd'.out.lt
         have hfz := fun j => hd'.out.row.frozen j
         have HJ : Hid ((nxt x k)[m]? = some j) := hj
         have HY : Hid (l'[j]? = some y) := hy
         clear hj hy
         by_cases hy1 : y = -1
         ·have HY1 : Hid (l'[j]? = some (-1)) := by rw [← hy1]; exact HY
          subst hy1
          have HS : Hid (DW w w.heap.size (l'.set j (lft hs x d)) (.slice A3 t'.length c3) t' (wr.setCell ⟨w.heap.size, j, none⟩ (.int .i64 (lft hs x d)))) := hd'.out.set j _
          have HFS : Hid (FW w.heap.size (.slice A3 t'.length c3) (.slice (some ⟨b3, 0, none⟩) (nxt x k).length cu) (nxt x k) (wr.setCell ⟨w.heap.size, j, none⟩ (.int .i64 (lft hs x d)))) := hfw.out.set j _
          go_wp2_with (at_builtin; refine wpList_append_lies _ rfl _ _ 54 rfl w.heap.size 3 i0 _ 1 8 Tryz.underlying54 hi0 hz0 hz1 hz2 rfl (by decide) _ t'.length _ rfl (HS.out.below (bAlloc (bRefl _) _)).own ⟨wr.heap.size, 0, none⟩ 1 1 [.int .i64 (j : Int)] rfl rfl ?c1 ?c2 (by decide) ?c3 ?c4 ?c5 (wr.heap.size + 1) ?c6 ?_)
          case c1 =>
           intro j' u' hj'
           match j', hj' with
           | 0, hj' => simp at hj'; subst hj'; exact new_cell (by simp)
          case c2 => intro u' hu'; simp at hu'; subst hu'; rfl
          case c3 => unfold maxLen; omega
          case c4 => omega
          case c5 => have := HS.out.low.size; simp at this; simp; omega
          case c6 => simp
          intro gn cn w4 hown hgr hat hgl2
          have hat' : (Value.slice A3 t'.length c3).ownBlock = some gn ∨ gn = ((wr.setCell ⟨w.heap.size, j, none⟩ (.int .i64 (lft hs x d))).alloc (.cells #[.int .i64 (j : Int)] 3)).heap.size := by simpa using hat
          have HN : Hid (DW w w.heap.size (l'.set j (lft hs x d)) (.slice (some ⟨gn, 0, none⟩) (t'.length + 1) cn) (t' ++ [j]) w4) := HS.out.push (bAlloc (bRefl _) _) hown hgr hat'
          have HFN : Hid (FW w.heap.size (.slice (some ⟨gn, 0, none⟩) (t'.length + 1) cn) (.slice (some ⟨b3, 0, none⟩) (nxt x k).length cu) (nxt x k) w4) := HFS.out.push (bAlloc (bRefl _) _) hgr hat'
          have HWN : Hid (Wm hs code (l'.set j (lft hs x d)) (t' ++ [j]) k d x (m + 1)) := hwm.out.new hdn HX.out HK.out HJ.out HY1.out
          have HC : Hid ((l'.set j (lft hs x d)).count (-1) + 1 = l'.count (-1)) := count_set_less HY1.out (lft_nonneg HK.out)
          have q6 : w4.cell? ⟨w.heap.size, j, none⟩ = some (.int .i64 (lft hs x d)) := HN.out.cell (List.getElem?_set_self (by omega))
          have hz4 := HN.out.lt
          clear hown hgr hat hat' HS HFS
          go_wp2
          go_roundg ((nxt x k).length - (m + 1))
          case measure => omega
          case rel => exact ⟨m + 1, _, _, rfl, by omega, by go_num, by have := HC.out; simp; omega, HWN, HN, HFN⟩
         ·have e1 := int_ne hy1
          by_cases hy2 : y = lft hs x d
          ·have e2 := ne_no hy2
           have HWN : Hid (Wm hs code l' t' k d x (m + 1)) := hwm.out.old HJ.out (by rw [← hy2]; exact HY)
           clear hy1 hy2
           go_wp2
           go_roundg ((nxt x k).length - (m + 1))
           case measure => omega
           case rel => exact ⟨m + 1, l', t', rfl, by omega, by go_num, hms, HWN, hd', hfw⟩
          ·have e2 := ne_yes hy2
           have HB : Hid (Bad hs code) := hwm.out.two hdn HX.out HK.out HJ.out HY.out hy1 hy2
           clear hy1 hy2
           go_wp2
           go_ret2
           exact ⟨_, by rw [HB.out.de]; rfl, by rw [HB.out.dl]; exact sl0, hd'.out.low⟩
        ·go_wp2
         go_roundg (2 * l'.count (-1) + t'.length)
         case measure => simp; omega
         case rel => exact ⟨l', t', rfl, by omega, hwm.out.out HX.out HK.out (by omega), hd'⟩
      ·have HB : Hid (Bad hs code) := (hw.out.into (i := x) HD0.out).bad hdn HX.out hok
       have HK : Hid (¬ okI hs x d) := hok
       clear hok
       go_wp2
       go_region_held3 (fun w' => w'.cell? ⟨b1, o1 + k * 2, none⟩ = some (.int .i64 x.op) ∧ w'.cell? ⟨b1, o1 + k * 2 + 1, none⟩ = some (.int .i64 x.a) ∧ w'.cell? ⟨w.heap.size, k, none⟩ = some (.int .i64 d)) (go_keep)
        (first | (go_at_call 127; refine (leaves_no _ x d _ hs (HT.out.below (by first | exact hlow.out | exact hlow.out.drew)) (hh.below (by first | exact hlow.out | exact hlow.out.drew)) ha _ HO.out hdn hd8 HK.out).mono ?_; rintro e w1 ⟨rfl, hb1⟩; have hc1 := bcell (undrew hb1)))
       go_wp2
       go_ret2
       exact ⟨_, by rw [HB.out.de]; rfl, by rw [HB.out.dl]; exact sl0, bTrans hlow.out (undrew hb1)⟩
    ·obtain rfl : t = [] := by cases t with | nil => rfl | cons _ _ => simp at h0
     obtain ⟨A3, c3, rfl, hcm⟩ := hd.out.len
     have HG : Hid (Good hs code l) := hw.out.good
     go_wp2
     go_ret2
     exact ⟨_, by rw [HG.out.de]; rfl, by rw [HG.out.dl]; have := hd.out.intsN (c := code.length + 1) (by omega); rw [hln] at this; exact this, hd.out.low⟩
end Go.Proofs.YtfbeiedhdmndnaaGreatDoor
namespace Go.Proofs.YtfbeiedhdmndnaaGreatDoor
open Go.RowKit

theorem boxed {w wr : World} {x : Obj} (hb : Below (w.heap.size + 1) (w.alloc x) wr) :
  Below w.heap.size w wr ∧ (∀ o, wr.cell? ⟨w.heap.size, o, none⟩ = (w.alloc x).cell? ⟨w.heap.size, o, none⟩) ∧ w.heap.size < wr.heap.size :=
 ⟨bTrans (bAlloc (bRefl w) x) (by simpa using hb), fun o => hb.cell (p := ⟨w.heap.size, o, none⟩) (Nat.lt_succ_self _), by have := hb.size; simp at this; omega⟩
theorem boxed_next {w wr w1 : World} {x y : Obj} (hb : Below (w.heap.size + 1) (w.alloc x) wr) (hb1 : Below (wr.alloc y).heap.size (wr.alloc y) w1) : Below (w.heap.size + 1) (w.alloc x) w1 := by
 have hz : w.heap.size + 1 ≤ wr.heap.size := by have := hb.size; simpa using this
 exact hb.trans (((Below.refl _ _).alloc hz _).trans (hb1.mono (by simp; omega)))

set_option maxHeartbeats 2000000 in
theorem check_any (w : World) (v : Value) (p : PPrg) (ht : Tab w) (h : PrgV w v p) :
  Calls Tryz.prog 99 #[v] w fun e w' => e = .returned (.int .i64 (chk p)) ∧ Below w.heap.size w w' := by
 obtain ⟨va, vb, vc, rfl, h1, h2, h3⟩ := h
 obtain ⟨A1, c1, rfl, hl1⟩ := h1.form
 obtain ⟨A2, c2, rfl, hl2⟩ := h2.form
 obtain ⟨A3, c3, rfl, hl3⟩ := h3.form
 have HP : Hid (PrgV w (.agg #[.slice A1 p.hs.length c1, .slice A2 p.acs.length c2, .slice A3 p.bs.length c3, .int .i64 p.fuel]) p) := ⟨_, _, _, rfl, h1, h2, h3⟩
 have HT : Hid (Tab w) := ht
 clear ht
 have HB : ∀ (x : Obj), Below w.heap.size w (w.alloc x) := fun x => bAlloc (bRefl w) x
 by_cases e0 : chkC p = 0
 ·have hn : p.hs.length ≤ 16 := by
   unfold chkC at e0
   by_cases h : p.hs.length ≤ 16 ∧ p.acs.length ≤ 8 ∧ p.bs.length ≤ 16
   ·exact h.1
   ·rw [if_neg h] at e0; simp at e0
  have e0' := ne0_no e0
  have HC : Hid (chk p = if scan (chkH p.hs.length) p.hs = 0 then (if scan (chkA p.hs) p.acs = 0 then scan (chkN p.acs.length p.hs) p.bs else scan (chkA p.hs) p.acs) else scan (chkH p.hs.length) p.hs) := by unfold chk; rw [if_pos e0]; rfl
  clear e0
  go_enter Tryz.func99, Tryz.ntmps99
  go_wp2_with (go_at_call 123; refine (counts_any _ _ p (HP.out.below (by exact HB _))).mono ?_; rintro e w0 ⟨rfl, hb0⟩; have hc0 := bcell hb0)
  go_loopg [5, 6, 21] p.hs.length (fun g i5 i6 i21 wr => ∃ k : Nat, g = p.hs.length - k ∧ k ≤ p.hs.length ∧ i21 = .int .i64 k ∧ Hid (scan (chkH p.hs.length) (p.hs.drop k) = scan (chkH p.hs.length) p.hs) ∧ Below (w.heap.size + 1) (w.alloc (.cells #[.slice A1 p.hs.length c1, .slice A2 p.acs.length c2, .slice A3 p.bs.length c3, .int .i64 p.fuel] 26)) wr)
  case atStart => exact ⟨0, rfl, by omega, rfl, rfl, by simpa using hb0⟩
  case round =>
   obtain ⟨k, rfl, hk, rfl, hsc, hb⟩ := hrel
   obtain ⟨hb', hcb, hz⟩ := boxed hb
   by_cases hlt : k < p.hs.length
   ·obtain ⟨b1, o1, x, v1, rfl, hx, hz1, q1, q2, hv1⟩ := h1.cell hb' hlt
    obtain ⟨V1, n1, rfl, _⟩ := hv1.form
    have HS : Hid (scan (chkH p.hs.length) (p.hs.drop k) = if chkH p.hs.length x = 0 then scan (chkH p.hs.length) (p.hs.drop (k + 1)) else chkH p.hs.length x) := scan_step hx
    clear hx
    by_cases he : chkH p.hs.length x = 0
    ·have he' := ne0_no he
     have HE : Hid (chkH p.hs.length x = 0) := he
     clear he
     go_wp2_with (go_at_call 124; refine (hnd_any _ _ x _ (HT.out.below (by exact bAlloc hb' _)) ⟨_, rfl, (hv1.below (by exact bAlloc (bRefl _) _)).any⟩ (by omega) (by omega)).mono ?_; rintro e w1 ⟨rfl, hb1⟩)
     go_roundg (p.hs.length - (k + 1))
     case measure => omega
     case rel => exact ⟨k + 1, rfl, by omega, by go_num, by rw [← hsc.out, HS.out, if_pos HE.out]; rfl, boxed_next hb hb1⟩
    ·have he' := ne0_yes he
     have HE : Hid (chkH p.hs.length x = chk p) := by
      have e1 : scan (chkH p.hs.length) p.hs = chkH p.hs.length x := by rw [← hsc.out, HS.out, if_neg he]
      rw [HC.out, e1, if_neg he]; rfl
     clear he
     go_wp2_with (go_at_call 124; refine (hnd_any _ _ x _ (HT.out.below (by exact bAlloc hb' _)) ⟨_, rfl, (hv1.below (by exact bAlloc (bRefl _) _)).any⟩ (by omega) (by omega)).mono ?_; rintro e w1 ⟨rfl, hb1⟩)
     go_ret
     exact ⟨ret_int HE.out, bTrans (bAlloc hb' _) hb1⟩
   ·have HD : Hid (chk p = if scan (chkA p.hs) p.acs = 0 then scan (chkN p.acs.length p.hs) p.bs else scan (chkA p.hs) p.acs) := by
     rw [HC.out, if_pos (by rw [← hsc.out, scan_end hlt])]; rfl
    clear hsc HC
    go_wp2
    go_loopg [8, 9, 37] p.acs.length (fun g i8 i9 i37 wr => ∃ k : Nat, g = p.acs.length - k ∧ k ≤ p.acs.length ∧ i37 = .int .i64 k ∧ Hid (scan (chkA p.hs) (p.acs.drop k) = scan (chkA p.hs) p.acs) ∧ Below (w.heap.size + 1) (w.alloc (.cells #[.slice A1 p.hs.length c1, .slice A2 p.acs.length c2, .slice A3 p.bs.length c3, .int .i64 p.fuel] 26)) wr)
    case atStart => exact ⟨0, rfl, by omega, rfl, rfl, hb⟩
    case round =>
     clear hb hb' hcb hz
     obtain ⟨k2, rfl, hk2, rfl, hsc, hb⟩ := hrel
     obtain ⟨hb', hcb, hz⟩ := boxed hb
     by_cases hlt2 : k2 < p.acs.length
     ·obtain ⟨b1, o1, x, v1, rfl, hx, hz1, q1, q2, q3, q4, hv1⟩ := h2.cell hb' hlt2
      obtain ⟨V1, n1, rfl, _⟩ := hv1.form
      have HS : Hid (scan (chkA p.hs) (p.acs.drop k2) = if chkA p.hs x = 0 then scan (chkA p.hs) (p.acs.drop (k2 + 1)) else chkA p.hs x) := scan_step hx
      clear hx
      by_cases he : chkA p.hs x = 0
      ·have he' := ne0_no he
       have HE : Hid (chkA p.hs x = 0) := he
       clear he
       go_wp2_with (go_at_call 125; refine (act_any _ _ _ x _ ⟨_, rfl, (hv1.below (by exact bAlloc (bRefl _) _)).any⟩ (h1.below (by exact bAlloc hb' _))).mono ?_; rintro e w1 ⟨rfl, hb1⟩)
       go_roundg (p.acs.length - (k2 + 1))
       case measure => omega
       case rel => exact ⟨k2 + 1, rfl, by omega, by go_num, by rw [← hsc.out, HS.out, if_pos HE.out]; rfl, boxed_next hb hb1⟩
      ·have he' := ne0_yes he
       have HE : Hid (chkA p.hs x = chk p) := by
        have e1 : scan (chkA p.hs) p.acs = chkA p.hs x := by rw [← hsc.out, HS.out, if_neg he]
        rw [HD.out, e1, if_neg he]; rfl
       clear he
       go_wp2_with (go_at_call 125; refine (act_any _ _ _ x _ ⟨_, rfl, (hv1.below (by exact bAlloc (bRefl _) _)).any⟩ (h1.below (by exact bAlloc hb' _))).mono ?_; rintro e w1 ⟨rfl, hb1⟩)
       go_ret
       exact ⟨ret_int HE.out, bTrans (bAlloc hb' _) hb1⟩
     ·have HF : Hid (chk p = scan (chkN p.acs.length p.hs) p.bs) := by
       rw [HD.out, if_pos (by rw [← hsc.out, scan_end hlt2])]; rfl
      clear hsc HD
      go_wp2
      go_loopg [11, 12, 52] p.bs.length (fun g i11 i12 i52 wr => ∃ k : Nat, g = p.bs.length - k ∧ k ≤ p.bs.length ∧ i52 = .int .i64 k ∧ Hid (scan (chkN p.acs.length p.hs) (p.bs.drop k) = scan (chkN p.acs.length p.hs) p.bs) ∧ Below (w.heap.size + 1) (w.alloc (.cells #[.slice A1 p.hs.length c1, .slice A2 p.acs.length c2, .slice A3 p.bs.length c3, .int .i64 p.fuel] 26)) wr)
      case atStart => exact ⟨0, rfl, by omega, rfl, rfl, hb⟩
      case round =>
       clear hb hb' hcb hz
       obtain ⟨k3, rfl, hk3, rfl, hsc, hb⟩ := hrel
       obtain ⟨hb', hcb, hz⟩ := boxed hb
       by_cases hlt3 : k3 < p.bs.length
       ·obtain ⟨b1, o1, x, v1, rfl, hx, hz1, q1, q2, q3, hv1⟩ := h3.cell hb' hlt3
        obtain ⟨V1, n1, rfl, _⟩ := hv1.form
        have HS : Hid (scan (chkN p.acs.length p.hs) (p.bs.drop k3) = if chkN p.acs.length p.hs x = 0 then scan (chkN p.acs.length p.hs) (p.bs.drop (k3 + 1)) else chkN p.acs.length p.hs x) := scan_step hx
        clear hx
        by_cases he : chkN p.acs.length p.hs x = 0
        ·have he' := ne0_no he
         have HE : Hid (chkN p.acs.length p.hs x = 0) := he
         clear he
         go_wp2_with (go_at_call 126; refine (nte_any _ _ _ x p ⟨_, rfl, (hv1.below (by exact bAlloc (bRefl _) _)).any⟩ (HP.out.below (by exact bAlloc hb' _))).mono ?_; rintro e w1 ⟨rfl, hb1⟩)
         go_roundg (p.bs.length - (k3 + 1))
         case measure => omega
         case rel => exact ⟨k3 + 1, rfl, by omega, by go_num, by rw [← hsc.out, HS.out, if_pos HE.out]; rfl, boxed_next hb hb1⟩
        ·have he' := ne0_yes he
         have HE : Hid (chkN p.acs.length p.hs x = chk p) := by
          rw [HF.out, ← hsc.out, HS.out, if_neg he]; rfl
         clear he
         go_wp2_with (go_at_call 126; refine (nte_any _ _ _ x p ⟨_, rfl, (hv1.below (by exact bAlloc (bRefl _) _)).any⟩ (HP.out.below (by exact bAlloc hb' _))).mono ?_; rintro e w1 ⟨rfl, hb1⟩)
         go_ret
         exact ⟨ret_int HE.out, bTrans (bAlloc hb' _) hb1⟩
       ·go_wp2
        go_ret
        exact ⟨ret_int (by rw [HF.out, ← hsc.out, scan_end hlt3]), hb'⟩
 ·have e0' := ne0_yes e0
  have HC : Hid (chkC p = chk p) := by unfold chk; rw [if_neg e0]; rfl
  clear e0
  go_enter Tryz.func99, Tryz.ntmps99
  go_wp2_with (go_at_call 123; refine (counts_any _ _ p (HP.out.below (by exact HB _))).mono ?_; rintro e w0 ⟨rfl, hb0⟩)
  go_ret
  exact ⟨ret_int HC.out, bTrans (HB _) hb0⟩
end Go.Proofs.YtfbeiedhdmndnaaGreatDoor
namespace Go.Proofs.YtfbeiedhdmndnaaGreatDoor
open Go.RowKit
attribute [local go_sem ↓] Go.wp_at_zero Go.wp_at_succ

theorem scan_zero {α : Type} {f : α → Int} : ∀ {l : List α}, scan f l = 0 → ∀ x ∈ l, f x = 0
 | [], _, x, hx => by cases hx
 | y :: r, h, x, hx => by
  unfold scan at h
  by_cases e : f y = 0
  ·rw [if_pos e] at h
   rcases List.mem_cons.1 hx with rfl | hx
   ·exact e
   ·exact scan_zero h x hx
  ·rw [if_neg e] at h; exact absurd h e
theorem okI_of {hs : List PHnd} {n : Nat} {args : Int} {i : PIns} (h : chkI n args hs.length i = 0) : OkI hs n i := by
 have hv : vl i.op = true := by
  cases e : vl i.op with
  | true => rfl
  | false => rw [← chkI_bad e] at h; cases h
 refine ⟨hv, fun e => ?_, fun e => ?_⟩
 ·have ho : opd i.op = 4 := by rcases e with e | e <;> (rw [e]; decide)
  rw [← chkI_4 hv ho] at h
  unfold unl inB at h
  by_cases hr : 0 ≤ i.a ∧ i.a ≤ n
  ·exact hr
  ·rw [decide_eq_false hr] at h; simp at h
 ·have ho : opd i.op = 5 := by rw [e]; decide
  rw [← chkI_5 hv ho] at h
  unfold unl inB at h
  by_cases hr : 0 ≤ i.a ∧ i.a ≤ (hs.length : Int) - 1
  ·omega
  ·rw [decide_eq_false hr] at h; simp at h
theorem chk_hs {p : PPrg} (h : chk p = 0) : ∀ x ∈ p.hs, chkH p.hs.length x = 0 := by
 unfold chk at h
 by_cases e0 : chkC p = 0
 ·rw [if_pos e0] at h
  by_cases e1 : scan (chkH p.hs.length) p.hs = 0
  ·exact scan_zero e1
  ·rw [if_neg e1] at h; exact absurd h e1
 ·rw [if_neg e0] at h; exact absurd h e0
theorem chkH_parts {hs : List PHnd} {x : PHnd} (h : chkH hs.length x = 0) : (0 ≤ x.args ∧ x.args ≤ 4) ∧ x.code.length ≤ 64 ∧ ∀ i ∈ x.code, OkI hs x.code.length i := by
 unfold chkH at h
 by_cases e0 : 0 ≤ x.args ∧ x.args ≤ 4
 ·rw [if_pos e0] at h
  by_cases e1 : x.code.length ≤ 64
  ·rw [if_pos e1] at h
   exact ⟨e0, e1, fun i hi => okI_of (scan_zero h i hi)⟩
  ·rw [if_neg e1] at h; cases h
 ·rw [if_neg e0] at h; cases h
theorem chk_ok {p : PPrg} (h : chk p = 0) : OkH p.hs ∧ ∀ x ∈ p.hs, x.code.length ≤ 64 ∧ ∀ i ∈ x.code, OkI p.hs x.code.length i :=
 ⟨fun x hx => (chkH_parts (chk_hs h x hx)).1, fun x hx => (chkH_parts (chk_hs h x hx)).2⟩

def fcode (p : PPrg) (h : Int) : List PIns := ((p.hs[h.toNat]?).map (·.code)).getD []
noncomputable def fe (p : PPrg) (h : Int) : Int := if chk p = 0 then (if 0 ≤ h ∧ h < p.hs.length then de p.hs (fcode p h) else 7) else chk p
noncomputable def fl (p : PPrg) (h : Int) : List Int := if chk p = 0 then (if 0 ≤ h ∧ h < p.hs.length then dl p.hs (fcode p h) else []) else []
noncomputable def fm (p : PPrg) (h : Int) : Int := if fe p h = 0 then mxl (fl p h) else -1
noncomputable def fc (p : PPrg) : Int := if chk p = 0 then scan (fun h => de p.hs h.code) p.hs else chk p
theorem fcode_at {p : PPrg} {k : Nat} {x : PHnd} (h : p.hs[k]? = some x) : fcode p (k : Int) = x.code := by unfold fcode; rw [Int.toNat_natCast, h]; rfl

end Go.Proofs.YtfbeiedhdmndnaaGreatDoor
namespace Go.Proofs.YtfbeiedhdmndnaaGreatDoor
open Go.RowKit
attribute [local go_sem ↓] Go.wp_at_zero Go.wp_at_succ

theorem dp_some {hs : List PHnd} {code : List PIns} (h : de hs code = 0) : Good hs code (dl hs code) := by
 unfold de at h
 cases e : dp hs code with
 | none => rw [e] at h; simp at h
 | some l => unfold dl; rw [e]; exact dp_good e
theorem Good.pos {hs : List PHnd} {code : List PIns} {l : List Int} (g : Good hs code l) : 0 < l.length := by rw [g.len]; omega
set_option maxHeartbeats 4000000 in
theorem fcheck_any (w : World) (v : Value) (p : PPrg) (ht : Tab w) (hp : PrgV w v p) :
  Calls Tryz.prog 68 #[v] w fun e w' => e = .returned (.int .i64 (fc p)) ∧ Below w.heap.size w w' := by
 have HP : Hid (PrgV w v p) := hp
 obtain ⟨va, vb, vc, rfl, h1, h2, h3⟩ := hp
 obtain ⟨A1, c1, rfl, hl1⟩ := h1.form
 obtain ⟨A2, c2, rfl, hl2⟩ := h2.form
 obtain ⟨A3, c3, rfl, hl3⟩ := h3.form
 have HT : Hid (Tab w) := ht
 have HB : ∀ (x : Obj), Below w.heap.size w (w.alloc x) := fun x => bAlloc (bRefl w) x
 clear ht h2 h3
 by_cases e0 : chk p = 0
 ·have e0' := ne0_no e0
  have HO : Hid (OkH p.hs ∧ ∀ x ∈ p.hs, x.code.length ≤ 64 ∧ ∀ i ∈ x.code, OkI p.hs x.code.length i) := chk_ok e0
  have HC : Hid (fc p = scan (fun h => de p.hs h.code) p.hs) := by unfold fc; rw [if_pos e0]; rfl
  clear e0
  go_enter Tryz.func68, Tryz.ntmps68
  go_wp2_with (go_at_call 99; refine (check_any _ _ p (HT.out.below (by exact HB _)) (HP.out.below (by exact HB _))).mono ?_; rintro e w0 ⟨rfl, hb0⟩; have hc0 := bcell hb0)
  go_loopg [5, 6, 7, 16] p.hs.length (fun g i5 i6 i7 i16 wr => ∃ k : Nat, g = p.hs.length - k ∧ k ≤ p.hs.length ∧ i16 = .int .i64 k ∧ Hid (scan (fun h => de p.hs h.code) (p.hs.drop k) = fc p) ∧ Below (w.heap.size + 1) (w.alloc (.cells #[.slice A1 p.hs.length c1, .slice A2 p.acs.length c2, .slice A3 p.bs.length c3, .int .i64 p.fuel] 26)) wr)
  case atStart => exact ⟨0, rfl, by omega, rfl, HC.out.symm, by simpa using hb0⟩
  case round =>
   obtain ⟨k, rfl, hk, rfl, hsc, hb⟩ := hrel
   obtain ⟨hb', hcb, hz⟩ := boxed hb
   by_cases hlt : k < p.hs.length
   ·obtain ⟨b1, o1, x, v1, rfl, hx, hz1, q1, q2, hv1⟩ := h1.cell hb' hlt
    obtain ⟨V1, n1, rfl, _⟩ := hv1.form
    have HS : Hid (scan (fun h => de p.hs h.code) (p.hs.drop k) = if de p.hs x.code = 0 then scan (fun h => de p.hs h.code) (p.hs.drop (k + 1)) else de p.hs x.code) := scan_step hx
    have HX : Hid (x ∈ p.hs) := List.mem_of_getElem? hx
    clear hx
    by_cases he : de p.hs x.code = 0
    ·have he' := ne0_no he
     have HE : Hid (de p.hs x.code = 0) := he
     clear he
     go_wp2_with (go_at_call 100; refine (walk_any _ _ _ x.code p.hs (HT.out.below (by exact bAlloc hb' _)) ((hv1.below (by exact bAlloc (bRefl _) _)).any) (h1.below (by exact bAlloc hb' _)) HO.out.1 (HO.out.2 x HX.out).2 (HO.out.2 x HX.out).1).mono ?_; rintro e w2 ⟨u, rfl, hu, hb2⟩; obtain ⟨Au, cu, rfl, hul⟩ := hu.form)
     go_roundg (p.hs.length - (k + 1))
     case measure => omega
     case rel => exact ⟨k + 1, rfl, by omega, by go_num, by rw [← hsc.out, HS.out, if_pos HE.out]; rfl, boxed_next hb hb2⟩
    ·have he' := ne0_yes he
     have HE : Hid (de p.hs x.code = fc p) := by rw [← hsc.out, HS.out, if_neg he]; rfl
     clear he
     go_wp2_with (go_at_call 100; refine (walk_any _ _ _ x.code p.hs (HT.out.below (by exact bAlloc hb' _)) ((hv1.below (by exact bAlloc (bRefl _) _)).any) (h1.below (by exact bAlloc hb' _)) HO.out.1 (HO.out.2 x HX.out).2 (HO.out.2 x HX.out).1).mono ?_; rintro e w2 ⟨u, rfl, hu, hb2⟩; obtain ⟨Au, cu, rfl, hul⟩ := hu.form)
     go_ret
     exact ⟨ret_int HE.out, bTrans (bAlloc hb' _) hb2⟩
   ·go_wp2
    go_ret
    exact ⟨ret_int (by rw [← hsc.out, scan_end hlt]), hb'⟩
 ·have e0' := ne0_yes e0
  have HC : Hid (chk p = fc p) := by unfold fc; rw [if_neg e0]; rfl
  clear e0
  go_enter Tryz.func68, Tryz.ntmps68
  go_wp2_with (go_at_call 99; refine (check_any _ _ p (HT.out.below (by exact HB _)) (HP.out.below (by exact HB _))).mono ?_; rintro e w0 ⟨rfl, hb0⟩; have hc0 := bcell hb0)
  go_ret
  exact ⟨ret_int HC.out, bTrans (HB _) hb0⟩
end Go.Proofs.YtfbeiedhdmndnaaGreatDoor
