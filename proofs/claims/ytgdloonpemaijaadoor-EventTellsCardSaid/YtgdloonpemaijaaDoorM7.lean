/-
  Messages appended to a row of the call's own, that lie wherever; several lists as one new list: join, Copy. Condition: the lists are short.
-/
import Derived.Test.YtgdloonpemaijaaDoorM6
namespace Go.Proofs.YtgdloonpemaijaaDoor
open Go.RowKit
attribute [local go_sem ↓] Go.wp_at_zero Go.wp_at_succ
theorem run_append_own0 {P : Program} {w : World} {base e size k : Nat} {v : Value} {xs : List Value} (t ty : TypeId) (i : TypeInfo) (ht : P.underlying t = some (.slice e)) (hi : P.info? e = some i) (h : w.ownsRow base e size v k xs) (A : Option Addr) (c : Nat) :
    (Builtin.append_ #[t, t] ty #[v, .slice A 0 c]).run P w = .ok v w := by
  obtain ⟨h1, h2⟩ := h
  rcases h2 with ⟨rfl, _⟩ | ⟨g, cap, cur, rfl, hb, hh, h3, h4, h5, h6⟩
  · exact run_append_empty t ty e i ht hi A c
  · cases A with
    | none =>
      have hst : ∀ a : Addr, (storeCells a []).run P w = .ok () w := fun a => by rw [storeCells]; rfl
      simp [Builtin.append_, run_underlying ht, sizeOf, typeInfo, hi, Builtin.lenOf, Builtin.firstCells, h3, hst, Result.andThen]
    | some a =>
      have := run_append_room_cells (P := P) w t ty e i ht hi g 0 k cap a 0 c [] (by simp) (by simp) (by simp) (by omega) (by simp) (by simp)
      rw [this]
      rfl
theorem addr_add (b o j : Nat) : (⟨b, o, none⟩ : Addr).add j = ⟨b, o + j, none⟩ := by
  unfold Addr.add
  by_cases h0 : j = 0
  · subst h0; rfl
  · rw [if_neg h0]
theorem Ints.one {ok : Nat → Prop} {w : World} {v : Value} {l : List Int} (h : Ints ok w v l) : v.oneCell' = true := by obtain ⟨A, c, rfl, _⟩ := h.form; rfl
/-- The cells of messages that are read. -/
theorem Msgs.raw {ok inn : Nat → Prop} {w : World} {A : Option Addr} {n c : Nat} {ms : List PMsg} (h : Msgs ok inn w (.slice A n c) ms) :
    ∃ xs : List Value, xs.length = ms.length ∧ (∀ (k : Nat) (m : PMsg) (u : Value), ms[k]? = some m → xs[k]? = some u → Ints inn w u m.nt.args) ∧
      (∀ u ∈ (List.zipWith mrow ms xs).flatten, u.oneCell' = true) ∧ (ms = [] ∨ ∃ b o, A = some ⟨b, o, none⟩ ∧ ∀ j u, ((List.zipWith mrow ms xs).flatten)[j]? = some u → w.cell? ((⟨b, o, none⟩ : Addr).add j) = some u) := by
  by_cases h0 : ms = []
  · subst h0; exact ⟨[], rfl, fun k m u hm => by simp at hm, fun u hu => by simp at hu, Or.inl rfl⟩
  · obtain ⟨b, o, rfl, _, hlt, hc⟩ := h.at (List.length_pos_iff.2 h0)
    let xs : List Value := (List.range ms.length).map fun k => (w.cell? ⟨b, o + k * 6 + 5, none⟩).getD (.bool false)
    have hxl : xs.length = ms.length := by simp [xs]
    have hx : ∀ (k : Nat) (m : PMsg) (u : Value), ms[k]? = some m → xs[k]? = some u → w.cell? ⟨b, o + k * 6 + 5, none⟩ = some u ∧ Ints inn w u m.nt.args := fun k m u hm hu => by
      obtain ⟨_, _, _, _, _, v, h6, h7⟩ := hc k m hm
      have hk := (List.getElem?_eq_some_iff.1 hm).1
      have e : xs[k]? = some v := by simp [xs, hk, h6]
      rw [e] at hu
      cases hu
      exact ⟨h6, h7⟩
    refine ⟨xs, hxl, fun k m u hm hu => (hx k m u hm hu).2, fun u hu => ?_, Or.inr ⟨b, o, rfl, fun j u hu => ?_⟩⟩
    · rw [List.mem_flatten] at hu
      obtain ⟨r, hr, hu⟩ := hu
      obtain ⟨k, hk⟩ := List.mem_iff_getElem?.1 hr
      rw [List.getElem?_zipWith] at hk
      cases hm : ms[k]? with
      | none => rw [hm] at hk; cases hk
      | some m =>
        cases hxk : xs[k]? with
        | none => rw [hm, hxk] at hk; cases hk
        | some y =>
          rw [hm, hxk] at hk
          cases hk
          have hy := (hx k m y hm hxk).2.one
          unfold mrow at hu
          simp only [List.mem_cons, List.not_mem_nil, or_false] at hu
          rcases hu with rfl | rfl | rfl | rfl | rfl | rfl
          all_goals first | rfl | exact hy
    · have hj : j < ms.length * 6 := by
        have h1 := (List.getElem?_eq_some_iff.1 hu).1
        have h2 : ((List.zipWith mrow ms xs).flatten).length = ms.length * 6 := by
          rw [List.length_flatten]
          have : (List.zipWith mrow ms xs).map List.length = List.replicate ms.length 6 := by
            rw [List.eq_replicate_iff]
            refine ⟨by simp [hxl], fun z hz => ?_⟩
            obtain ⟨e, he, rfl⟩ := List.mem_map.1 hz
            exact zip_len ms xs e he
          rw [this]; simp
        omega
      have hq : j / 6 < ms.length := by omega
      obtain ⟨m, hm⟩ := at_lt hq
      obtain ⟨y, hy⟩ := at_lt (l := xs) (k := j / 6) (by omega)
      have e1 : j / 6 * 6 + j % 6 = j := by omega
      have e2 := flat_at _ (zip_len ms xs) (j / 6) (j % 6) (by omega)
      rw [e1, hu, List.getElem?_zipWith, hm, hy] at e2
      obtain ⟨h1, h2, h3, h4, h5, -⟩ := hc _ m hm
      have h6 := (hx _ m y hm hy).1
      rw [addr_add]
      have e3 : some u = (mrow m y)[j % 6]? := e2
      obtain ⟨q, hqq⟩ : ∃ q, j / 6 = q := ⟨_, rfl⟩
      rw [hqq] at h1 h2 h3 h4 h5 h6 e1
      have hr : j % 6 < 6 := by omega
      obtain ⟨r, hrr⟩ : ∃ r, j % 6 = r := ⟨_, rfl⟩
      rw [hrr] at e3 e1 hr
      rw [e3, ← e1]
      match r, hr with
      | 0, _ => exact h1
      | 1, _ => rw [← Nat.add_assoc]; exact h2
      | 2, _ => rw [← Nat.add_assoc]; exact h3
      | 3, _ => rw [← Nat.add_assoc]; exact h4
      | 4, _ => rw [← Nat.add_assoc]; exact h5
      | 5, _ => rw [← Nat.add_assoc]; exact h6
section
variable {P ok inn : Nat → Prop} {base : Nat} {w W : World} {v : Value} {l ms : List PMsg} {us : List Value}
/-- What an append of messages leaves. -/
def MA (P : Nat → Prop) (base : Nat) (W : World) (v : Value) (l : List PMsg) (v' : Value) (W' : World) : Prop :=
  (∃ us', MT P base W' v' l us') ∧ W.grownBy W' v.ownBlock ∧ (v'.ownBlock = v.ownBlock ∨ v'.ownBlock = some W.heap.size)
theorem run_appM (ty : TypeId) (h : MT P base W v l us) {A : Option Addr} {c n : Nat} (hm : Msgs ok inn W (.slice A n c) ms) (hin : ∀ b, inn b → P b ∧ v.ownBlock ≠ some b) (hl : l.length + ms.length ≤ 1000000) (hbase : base ≤ W.heap.size) :
    ∃ A' c' W', (Builtin.append_ #[40, 40] ty #[v, .slice A n c]).run Tryd.prog W = .ok (.slice A' (l.length + ms.length) c') W' ∧ MA P base W v (l ++ ms) (.slice A' (l.length + ms.length) c') W' := by
  obtain ⟨i0, hi0, hz0, hz1, hz2⟩ := info_parts infoM
  obtain ⟨xs, hxl, hxi, hx1, hxr⟩ := hm.raw
  obtain ⟨A1, c1, e1, _⟩ := hm.form
  cases e1
  by_cases h0 : ms = []
  · subst h0
    obtain ⟨A2, c2, rfl⟩ := h.form
    refine ⟨A2, c2, W, run_append_own0 40 ty i0 Tryd.underlying40 hi0 h.own A c, ⟨us, by simpa using h⟩, ⟨rfl, rfl, rfl, Nat.le_refl _, fun _ _ _ => rfl⟩, Or.inl rfl⟩
  · rcases hxr with hxr | ⟨b, o, rfl, hcell⟩
    · exact absurd hxr h0
    · have hlen : ((List.zipWith mrow ms xs).flatten).length = ms.length * 6 := by
        rw [List.length_flatten]
        have : (List.zipWith mrow ms xs).map List.length = List.replicate ms.length 6 := by
          rw [List.eq_replicate_iff]
          refine ⟨by simp [hxl], fun z hz => ?_⟩
          obtain ⟨e, he, rfl⟩ := List.mem_map.1 hz
          exact zip_len ms xs e he
        rw [this]; simp
      obtain ⟨g, cap, W', hr, ho, hg, hat, _⟩ := run_append_lies (P := Tryd.prog) W 40 ty base 58 i0 _ 6 64 Tryd.underlying40 hi0 hz0 hz1 hz2 rfl (by decide) v l.length _ h.own ⟨b, o, none⟩ ms.length c _ hlen hcell hx1 (List.length_pos_iff.2 h0) (by unfold maxLen; omega) (by omega) hbase W.heap.size rfl
      refine ⟨_, cap, W', hr, ⟨us ++ xs, h.push rfl hxl ho hg hat fun k m u hm hu => (hxi k m u hm hu).weak hin⟩, hg, ?_⟩
      rcases hat with hat | hat
      · exact Or.inl hat.symm
      · subst hat; exact Or.inr rfl
variable {ops : Array Oper} {rest : List Oper} {o : Oper} {a : Act} {Q : Exit → Act → World → Prop} {K : Act → World → Prop}
theorem wp_appM (s x : Operand) (ho : o.op = .call { callee := .builtin .append, args := #[s, x], argTypes := #[40, 40] }) {A : Option Addr} {c n : Nat} (h : MT P base W v l us) (hs : a.eval s = v) (hx : a.eval x = .slice A n c)
    (hm : Msgs ok inn W (.slice A n c) ms) (hin : ∀ b, inn b → P b ∧ v.ownBlock ≠ some b) (hl : l.length + ms.length ≤ 1000000) (hbase : base ≤ W.heap.size)
    (hK : ∀ A' c' W', MA P base W v (l ++ ms) (.slice A' (l.length + ms.length) c') W' → K (a.put o.dst (.slice A' (l.length + ms.length) c')) W') : o.wp Tryd.prog a W K Q := by
  obtain ⟨A', c', W', hr, hma⟩ := run_appM o.type h hm hin hl hbase
  unfold Oper.wp execOp
  simp only [ho, resolve, invoke, builtin, Sem.run_bind, Sem.run_pure, Result.andThen_ok, List.map_toArray, List.map_cons, List.map_nil, hs, hx, hr]
  exact hK A' c' W' hma
theorem appM (hgd : o.guard = none) (s x : Operand) (ho : o.op = .call { callee := .builtin .append, args := #[s, x], argTypes := #[40, 40] }) {A : Option Addr} {c n : Nat} (h : MT P base W v l us) (hs : a.eval s = v) (hx : a.eval x = .slice A n c)
    (hm : Msgs ok inn W (.slice A n c) ms) (hin : ∀ b, inn b → P b ∧ v.ownBlock ≠ some b) (hl : l.length + ms.length ≤ 1000000) (hbase : base ≤ W.heap.size)
    (hK : ∀ A' c' W', MA P base W v (l ++ ms) (.slice A' (l.length + ms.length) c') W' → wpList Tryd.prog ops Q rest (a.put o.dst (.slice A' (l.length + ms.length) c')) W') : wpList Tryd.prog ops Q (o :: rest) a W :=
  wpList_plain hgd fun _ hK' => wp_appM s x ho h hs hx hm hin hl hbase fun A' c' W' hma => hK' _ _ (hK A' c' W' hma)
theorem step_appM (hgd : o.guard = none) (s x : Operand) (ho : o.op = .call { callee := .builtin .append, args := #[s, x], argTypes := #[40, 40] }) {A : Option Addr} {c n : Nat} {E : Prop} (h : MT P base W v l us) (hs : a.eval s = v) (hx : a.eval x = .slice A n c)
    (hm : Msgs ok inn W (.slice A n c) ms) (hin : ∀ b, inn b → P b ∧ v.ownBlock ≠ some b) (hl : l.length + ms.length ≤ 1000000) (hbase : base ≤ W.heap.size)
    (hK : ∀ A' c' W', MA P base W v (l ++ ms) (.slice A' (l.length + ms.length) c') W' → K (a.put o.dst (.slice A' (l.length + ms.length) c')) W') :
    if Region.wanted o (yielded ops a.tmps) = true then Oper.wp Tryd.prog o a W K Q else E := by
  have hw : Region.wanted o (yielded ops a.tmps) = true := by simp [Region.wanted, hgd]
  rw [if_pos hw]
  exact wp_appM s x ho h hs hx hm hin hl hbase hK
end
/-- One message in a block of its own, as a list. -/
theorem one_msgs {ok : Nat → Prop} {W : World} {B : Nat} {m : PMsg} {u : Value} (hB : W.heap[B]? = some (.cells #[.int .i64 m.id.f, .int .i64 m.id.n, .int .i64 m.id.c, .int .i64 m.nt.to, .int .i64 m.nt.hd, u] 58)) (hu : Ints ok W u m.nt.args) :
    Msgs (fun b => b = B) ok W (.slice (some ⟨B, 0, none⟩) 1 1) [m] := by
  obtain ⟨x0, x1, x2, x3, x4, x5⟩ := blk6 hB
  refine ⟨_, 1, rfl, by simp, by simp, Or.inr ⟨B, 0, rfl, rfl, (Array.getElem?_eq_some_iff.1 hB).1, fun k x hx => ?_⟩⟩
  cases k with
  | zero => cases hx; exact ⟨x0, x1, x2, x3, x4, u, x5, hu⟩
  | succ k => cases hx

/-- Several lists. -/
def rPart (w : World) (b o : Nat) (l : List PMsg) : Prop := ∃ v, w.cell? ⟨b, o, none⟩ = some v ∧ Msgs anyB anyB w v l
abbrev Parts := Sl 1 rPart anyB
theorem Parts.cell {w wr : World} {A : Option Addr} {n c : Nat} {ls : List (List PMsg)} (h : Parts w (.slice A n c) ls) (hb : Below w.heap.size w wr) {k : Nat} (hk : k < ls.length) :
    ∃ b o l v, A = some ⟨b, o, none⟩ ∧ ls[k]? = some l ∧ wr.cell? ⟨b, o + k, none⟩ = some v ∧ Msgs anyB anyB w v l := by
  obtain ⟨l, hx⟩ := at_lt hk
  obtain ⟨b, o, rfl, _, hlt, hc⟩ := h.at (by omega)
  obtain ⟨v, h1, h2⟩ := hc k l hx
  rw [Nat.mul_one] at h1
  exact ⟨b, o, l, v, rfl, hx, (hb.cell (p := ⟨b, o + k, none⟩) hlt).trans h1, h2⟩
/-- The first k lists, as one. -/
def pre (ls : List (List PMsg)) (k : Nat) : List PMsg := (ls.take k).flatten
theorem pre_succ {ls : List (List PMsg)} {k : Nat} {l : List PMsg} (h : ls[k]? = some l) : pre ls (k + 1) = pre ls k ++ l := by unfold pre; rw [List.take_add_one, h]; simp
theorem pre_len (ls : List (List PMsg)) (k : Nat) : (pre ls k).length ≤ ls.flatten.length := by
  unfold pre
  conv => rhs; rw [← List.take_append_drop k ls, List.flatten_append, List.length_append]
  omega
/-- A part of a list ahead of place j. -/
def pj (p l : List PMsg) (j : Nat) : List PMsg := p ++ l.take j
theorem pj_succ {p l : List PMsg} {j : Nat} {x : PMsg} (h : l[j]? = some x) : pj p l (j + 1) = pj p l j ++ [x] := by unfold pj; rw [List.take_add_one, h]; simp
theorem pj_len {p l : List PMsg} {j : Nat} : (pj p l j).length ≤ p.length + l.length := by unfold pj; simp; omega
set_option maxHeartbeats 4000000 in
set_option maxRecDepth 100000 in
theorem join_any (w : World) (v : Value) (ls : List (List PMsg)) (h : Parts w v ls) (hl : ls.flatten.length ≤ 1000) (hx6 : ∀ x ∈ ls.flatten, x.nt.args.length ≤ 1000) :
    Calls Tryd.prog 101 #[v] w fun e w' => ∃ u, e = .returned u ∧ Msgs (nO w.heap.size u) (nI w.heap.size u) w' u ls.flatten ∧ Below w.heap.size w w' := by
  obtain ⟨A, c, rfl, hlen⟩ := h.form
  have HL : Hid (ls.flatten.length ≤ 1000) := hl
  have HX : Hid (∀ x ∈ ls.flatten, x.nt.args.length ≤ 1000) := hx6
  clear hl hx6
  go_enter Tryd.func101, Tryd.ntmps101
  go_wp2
  go_loopg [3, 10] ls.length (fun n i3 i10 wr => ∃ k : Nat, n = ls.length - k ∧ k ≤ ls.length ∧ i10 = .int .i64 k ∧ (∃ A3 c3 us, i3 = .slice A3 (pre ls k).length c3 ∧ MT (fun b => w.heap.size ≤ b) w.heap.size wr (.slice A3 (pre ls k).length c3) (pre ls k) us) ∧ Below w.heap.size w wr)
  case atStart => exact ⟨0, rfl, by omega, rfl, ⟨none, 0, [], rfl, MT.nil _ _ _⟩, bRefl w⟩
  case round =>
    obtain ⟨k, rfl, hk, rfl, ⟨A3, c3, us, rfl, hmt⟩, hb⟩ := hrel
    by_cases hlt : k < ls.length
    · obtain ⟨b1, o1, l, v1, rfl, hx, q1, hv1⟩ := h.cell hb hlt
      obtain ⟨V1, n1, rfl, hl1⟩ := hv1.form
      have HK : Hid (ls[k]? = some l) := hx
      have HP : Hid ((pre ls k).length + l.length ≤ 1000) := by
        show _ ≤ _
        have h1 := pre_len ls (k + 1)
        rw [pre_succ hx, List.length_append] at h1
        have := HL.out; omega
      have HM : Hid (∀ x ∈ l, x.nt.args.length ≤ 1000) := fun x hxl => HX.out x (List.mem_flatten.2 ⟨l, List.mem_of_getElem? hx, hxl⟩)
      obtain ⟨p, hp⟩ : ∃ p, p = pre ls k := ⟨_, rfl⟩
      have HPP : Hid (p = pre ls k) := hp
      rw [← hp] at hmt HP ⊢
      clear hx hp
      obtain ⟨wo, hwo⟩ : ∃ wo, wo = wr := ⟨_, rfl⟩
      subst hwo
      go_wp2
      go_loopg [3, 16] l.length (fun n i3 i16 wr => ∃ j : Nat, n = l.length - j ∧ j ≤ l.length ∧ i16 = .int .i64 j ∧ (∃ A3 c3 us, i3 = .slice A3 (pj p l j).length c3 ∧ MT (fun b => w.heap.size ≤ b) w.heap.size wr (.slice A3 (pj p l j).length c3) (pj p l j) us) ∧ Below w.heap.size w wr)
      case atStart => exact ⟨0, rfl, by omega, rfl, ⟨A3, c3, us, by simp [pj], by simpa [pj] using hmt⟩, hb⟩
      case round =>
        obtain ⟨j, rfl, hj, rfl, ⟨A3, c3, us, rfl, hmt⟩, hb2⟩ := hrel
        by_cases hjl : j < l.length
        · obtain ⟨b2, o2, x, v2, rfl, hx, hz2, s1, s2, s3, s4, s5, s6, hv2⟩ := hv1.cell hb2 hjl
          obtain ⟨V2, n2, rfl, _⟩ := hv2.form
          have HJ : Hid (l[j]? = some x) := hx
          have hx1 : x.nt.args.length ≤ 1000 := HM.out x (List.mem_of_getElem? hx)
          have HBW : Hid (Below w.heap.size w wr) := hb2
          have HMT : Hid (MT (fun b => w.heap.size ≤ b) w.heap.size wr (.slice A3 (pj p l j).length c3) (pj p l j) us) := hmt
          have HW : Hid (w.heap.size ≤ wr.heap.size) := hb2.size
          clear hx hb2 hmt
          go_wp2_with (first
            | (go_at_call 138; refine (another_any anyB _ _ x ⟨_, rfl, hv2.below (by exact bAlloc (bRefl _) _)⟩ hx1).mono ?_; rintro e w1 ⟨u, rfl, hu, hb1⟩; obtain ⟨A5, d5, rfl, _⟩ := hu.form; have HU : Hid (Ints (fun b => wr.heap.size ≤ b) w1 (.slice A5 x.nt.args.length d5) x.nt.args) := hu.weak (fun b hb => by simp at hb; omega); have HB1 : Hid (Below wr.heap.size wr w1) := bTrans (bAlloc (bRefl _) _) hb1; clear hu hb1)
            | (at_builtin; refine appM rfl _ _ rfl (HMT.out.below (by exact bAlloc HB1.out _)) rfl rfl (one_msgs (heap_new2 (by rfl)) (HU.out.below (by exact bAlloc (bRefl _) _))) (fun b hb => ⟨Nat.le_trans HW.out hb, fun e => by have := (own_lt HMT.out.own e).2; omega⟩) (by have := @pj_len p l j; have := HP.out; simp; omega) (by have := HW.out; have := HB1.out.size; simp; omega) ?_; rintro A4 c4 w4 ⟨hm4, hg4, -⟩; have HM4 : Hid (∃ us, MT (fun b => w.heap.size ≤ b) w.heap.size w4 (.slice A4 ((pj p l j).length + 1) c4) (pj p l (j + 1)) us) := (by rw [pj_succ HJ.out]; exact hm4); have HB4 : Hid (Below w.heap.size w w4) := (grown_low (bTrans HBW.out (bAlloc HB1.out _)) hg4 fun g hg => (own_lt HMT.out.own hg).1); clear hm4 hg4))
          go_roundg (l.length - (j + 1))
          case measure => omega
          case rel =>
            obtain ⟨us4, h4⟩ := HM4.out
            have el : (pj p l (j + 1)).length = (pj p l j).length + 1 := by rw [pj_succ HJ.out]; simp
            exact ⟨j + 1, rfl, by omega, by go_num, ⟨A4, c4, us4, by rw [el], by rw [el]; exact h4⟩, HB4.out⟩
        · go_wp2
          go_roundg (ls.length - (k + 1))
          case measure => omega
          case rel => exact ⟨k + 1, rfl, by omega, by go_num, ⟨A3, c3, us, by rw [pre_succ HK.out, ← HPP.out]; simp [pj, List.take_of_length_le (show l.length ≤ j by omega)], by rw [pre_succ HK.out, ← HPP.out]; simpa [pj, List.take_of_length_le (show l.length ≤ j by omega)] using hmt⟩, hb2⟩
    · go_wp2
      go_ret
      refine ⟨_, rfl, ?_, hb⟩
      have e : pre ls k = ls.flatten := by unfold pre; rw [List.take_of_length_le (by omega)]
      rw [e] at hmt ⊢
      exact hmt.msgs2 (by have := HL.out; omega)
theorem parts1 {W : World} {v : Value} {l : List PMsg} (h : Msgs anyB anyB W v l) : Parts (W.alloc (.cells #[v] 40)) (.slice (some ⟨W.heap.size, 0, none⟩) 1 1) [l] := by
  refine ⟨_, 1, rfl, by simp, by simp, Or.inr ⟨W.heap.size, 0, rfl, trivial, by simp, fun k x hx => ?_⟩⟩
  cases k with
  | zero => cases hx; exact ⟨v, by rw [cell_of_row _ _ _ _ _ _ (heap_new _ _)]; rfl, h.below (bAlloc (bRefl _) _)⟩
  | succ k => cases hx
theorem copy_any (w : World) (v : Value) (l : List PMsg) (h : Msgs anyB anyB w v l) (hl : l.length ≤ 1000) (hx : ∀ x ∈ l, x.nt.args.length ≤ 1000) :
    Calls Tryd.prog 60 #[v] w fun e w' => ∃ u, e = .returned u ∧ Msgs (nO w.heap.size u) (nI w.heap.size u) w' u l ∧ Below w.heap.size w w' := by
  obtain ⟨A, c, rfl, hlen⟩ := h.form
  go_enter Tryd.func60, Tryd.ntmps60
  go_wp2_with (go_at_call 101; refine (join_any _ _ [l] (parts1 h) (by simpa using hl) (by simpa using hx)).mono ?_; rintro e w1 ⟨u, rfl, hm, hb⟩)
  go_ret
  refine ⟨_, rfl, ?_, bTrans (bAlloc (bRefl _) _) hb⟩
  simp only [List.flatten_cons, List.flatten_nil, List.append_nil] at hm
  exact hm.weak (nO.le (by simp)) (nI.le (by simp))
end Go.Proofs.YtgdloonpemaijaaDoor
