/-
  The machine sends: a note behind those ahead, or it goes down. Conditions: the handler is there, with 0 to 4 arguments; the stack has them, and the one to whom.
-/
import Derived.Test.YtpcffhhednplaaaDoorVw1
import Derived.Deep.RegionLaw
import Derived.Deep.AppendLies
import Derived.OwnWalk
namespace Go.Proofs.YtpcffhhednplaaaDoor
open Go.RowKit
attribute [local go_sem ↓] Go.wp_at_zero Go.wp_at_succ

theorem wpList_append_run {P : Program} {w : World} {ops : Array Oper} {rest : List Oper} {o : Oper} {a : Act} {Q : Exit → Act → World → Prop} (hgd : o.guard = none) (s x : Operand) (t : TypeId)
    (ho : o.op = .call { callee := .builtin .append, args := #[s, x], argTypes := #[t, t] }) (v1 v2 v' : Value) (w' : World) (hs : a.eval s = v1) (hx : a.eval x = v2)
    (hrun : ∀ ty, (Builtin.append_ #[t, t] ty #[v1, v2]).run P w = .ok v' w') (h : wpList P ops Q rest (a.put o.dst v') w') : wpList P ops Q (o :: rest) a w := by
  refine wpList_plain hgd fun K hK => ?_
  unfold Oper.wp
  simp [execOp, ho, resolve, invoke, builtin, hs, hx, hrun, Result.andThen]
  exact hK _ _ h
theorem step_append_run {P : Program} {ops : Array Oper} {o : Oper} {a : Act} {w : World} {K : Act → World → Prop} {Q : Exit → Act → World → Prop} {E : Prop} (hgd : o.guard = none) (s x : Operand) (t : TypeId)
    (ho : o.op = .call { callee := .builtin .append, args := #[s, x], argTypes := #[t, t] }) (v1 v2 v' : Value) (w' : World) (hs : a.eval s = v1) (hx : a.eval x = v2)
    (hrun : ∀ ty, (Builtin.append_ #[t, t] ty #[v1, v2]).run P w = .ok v' w') (h : K (a.put o.dst v') w') : if Region.wanted o (yielded ops a.tmps) = true then Oper.wp P o a w K Q else E := by
  have hw : Region.wanted o (yielded ops a.tmps) = true := by simp [Region.wanted, hgd]
  rw [if_pos hw]
  unfold Oper.wp
  simp [execOp, ho, resolve, invoke, builtin, hs, hx, hrun, Result.andThen]
  exact h
theorem run_append_empty {P : Program} {w : World} (t ty e : TypeId) (i : TypeInfo) (ht : P.underlying t = some (.slice e)) (hi : P.info? e = some i) (A : Option Addr) (c : Nat) :
    (Builtin.append_ #[t, t] ty #[.slice none 0 0, .slice A 0 c]).run P w = .ok (.slice none 0 0) w := by
  cases A with
  | none => simp [Builtin.append_, run_underlying ht, sizeOf, typeInfo, hi, Builtin.lenOf, Builtin.firstCells]
  | some a =>
    have hf := run_firstCells_some (P := P) w i.size 0 a 0 c [] (by simp) (by simp)
    simp [Builtin.append_, run_underlying ht, sizeOf, typeInfo, hi, Builtin.lenOf, hf]
/-- Numbers are copied into new memory. -/
def NewI (w : World) (w' : World) (v : Value) (l : List Int) : Prop := Ints (fun b => w.heap.size ≤ b) w' v l ∧ Below w.heap.size w w' ∧ ∃ A c, v = .slice A l.length c
theorem run_copyI (w : World) (A : Option Addr) (n c : Nat) (l : List Int) (hl : l.length = n) (hn : n ≤ 1000) (h : n = 0 ∨ ∃ b o, A = some ⟨b, o, none⟩ ∧ ∀ k y, l[k]? = some y → w.cell? ⟨b, o + k, none⟩ = some (.int .i64 y)) :
    ∃ A' c' w', (∀ ty, (Builtin.append_ #[27, 27] ty #[.slice none 0 0, .slice A n c]).run Tryd.prog w = .ok (.slice A' n c') w') ∧ NewI w w' (.slice A' n c') l := by
  obtain ⟨i0, hi0, hz0, hz1, hz2⟩ := info_parts info3
  subst hl
  by_cases h0 : l = []
  · subst h0
    exact ⟨none, 0, w, fun ty => run_append_empty 27 ty 3 i0 Tryd.underlying27 hi0 A c, ⟨_, _, rfl, by simp, Or.inl rfl⟩, bRefl w, _, _, rfl⟩
  · rcases h with h | ⟨b, o, rfl, hc⟩
    · exact absurd (List.eq_nil_of_length_eq_zero h) h0
    · have hp : 0 < l.length := List.length_pos_iff.2 h0
      have hadd : ∀ j, (⟨b, o, none⟩ : Addr).add j = ⟨b, o + j, none⟩ := fun j => by
        unfold Addr.add
        by_cases h0 : j = 0
        · subst h0; rfl
        · rw [if_neg h0]
      have hr := fun ty => run_append_nil w 27 ty 3 i0 _ Tryd.underlying27 hi0 hz0 ⟨b, o, none⟩ l.length c (l.map (Value.int .i64)) (by simp [hz1]) (fun j u hu => by
        rw [hadd]
        rw [List.getElem?_map] at hu
        cases hx : l[j]? with
        | none => rw [hx] at hu; cases hu
        | some y => rw [hx] at hu; cases hu; exact hc j y hx) (by omega) (by omega) (by rw [hz2]; omega)
      refine ⟨_, _, _, hr, ⟨_, _, rfl, by omega, Or.inr ⟨w.heap.size, 0, rfl, Nat.le_refl _, by simp, fun k y hy => ?_⟩⟩, bAlloc (bRefl w).drew _, _, _, rfl⟩
      have hk := (List.getElem?_eq_some_iff.1 hy).1
      show World.cell? _ ⟨w.heap.size, 0 + k * 1, none⟩ = _
      rw [Nat.zero_add, Nat.mul_one]
      have hh : ∀ (cs : Array Value), (w.drew.alloc (.cells cs 3)).cell? ⟨w.heap.size, k, none⟩ = cs[k]? := fun cs => by
        have h2 : (w.drew.alloc (.cells cs 3)).heap[w.heap.size]? = some (.cells cs 3) := heap_new w.drew (.cells cs 3)
        rw [cell_of_row _ _ _ _ _ _ h2]
      rw [hh, Array.getElem?_append_left (by simpa using hk)]
      simp [hy]
section
variable {w0 w w1 w' : World} {B : Nat} {x : FX} {vn : Value} {us : List Value} {sk : List Int} {s : MS}
/-- So many are taken. -/
theorem RM.drop (h : RM w0 B x vn us sk s w) (k : Nat) (hk : k ≤ s.st.length) : RM w0 B x vn us sk { s with st := s.st.drop k } (w.setCell ⟨B, 21, none⟩ (.int .i64 ((s.st.length : Int) - k))) := by
  refine h.setB _ _ { s with st := s.st.drop k } _ rfl rfl h.skl ?_ (by have := h.st8; simp; omega) ?_
  · show sk.take (s.st.drop k).length = (s.st.drop k).reverse
    have := congrArg (List.take (s.st.drop k).length) h.stk
    rw [List.take_take, Nat.min_eq_left (by simp)] at this
    rw [this]
    have e : s.st.reverse = (s.st.drop k).reverse ++ (s.st.take k).reverse := by rw [← List.reverse_append, List.take_append_drop]
    rw [e, List.take_append_of_le_length (by rw [List.length_reverse]; exact Nat.le_refl _), List.take_of_length_le (by rw [List.length_reverse]; exact Nat.le_refl _)]
  · have e : (((s.st.drop k).length : Nat) : Int) = (s.st.length : Int) - k := by simp; omega
    show ∀ i, i < 24 → _ = rv x s.armed vn _ (((s.st.drop k).length : Nat) : Int) s.pc s.steps i
    rw [e]
    exact rv_dep
/-- The numbers that are sent. -/
theorem RM.sent (h : RM w0 B x vn us sk s w) {k j : Nat} {y : Int} (hk : k ≤ s.st.length) (hj : (s.st.take k).reverse[j]? = some y) : s.st.length - k + j < 8 ∧ sk.getD (s.st.length - k + j) 0 = y := by
  have hjk : j < k := by have := (List.getElem?_eq_some_iff.1 hj).1; simp at this; omega
  have h8 := h.st8
  have e : s.st.length - k + j = s.st.length - 1 - (k - 1 - j) := by omega
  refine ⟨by omega, ?_⟩
  rw [e, sk_at h.stk (by omega)]
  rw [List.getElem?_reverse (by simp; omega), List.length_take, Nat.min_eq_left hk, List.getElem?_take, if_pos (by omega)] at hj
  rw [List.getD_eq_getElem?_getD, hj]; rfl
theorem slice8 (W : World) (B m k : Nat) (hm : m < 8) (h : m + k ≤ 8) : (Instr.sliceAt 64 (.pointer (some ⟨B, 13, none⟩)) (some (.int .i64 (m : Int))) (some (.int .i64 ((m : Int) + k))) none).run Tryd.prog W = .ok (.slice (some ⟨B, 13 + m, none⟩) k (8 - m)) W := by
  have al : Tryd.prog.arrayLen 64 = 8 := by kernel_rfl
  have el : Tryd.prog.elem 64 = 3 := by kernel_rfl
  obtain ⟨i0, hi0, hz0, hz1, hz2⟩ := info_parts info3
  have hu : Tryd.prog.underlying 64 = some (.array (Tryd.prog.arrayLen 64) (Tryd.prog.elem 64)) := by rw [al, el]; exact Tryd.underlying64
  rw [run_sliceAt_array_lh W 64 ⟨B, 13, none⟩ hu .i64 .i64 (m : Int) ((m : Int) + k) (by omega) (by omega) (by rw [al]; omega)]
  have e1 : ((m : Int) + k).toNat = m + k := by omega
  have e2 : (⟨B, 13, none⟩ : Addr).add m = ⟨B, 13 + m, none⟩ := by
    unfold Addr.add
    by_cases h0 : m = 0
    · subst h0; rfl
    · rw [if_neg h0]
  simp [sizeOf, typeInfo, el, hi0, hz1, al, slicedAt, Result.andThen, e1, e2]
  omega
/-- A note is put behind. -/
theorem rv_nt {x : FX} {ar : Bool} {vn vn' : Value} {sk : List Int} {d a st : Int} : ∀ i, i < 24 → (if i = 12 then vn' else rv x ar vn sk d a st i) = rv x ar vn' sk d a st i := by
  intro i hi
  by_cases e : i = 12
  · rw [if_pos e, e]; rfl
  · rw [if_neg e]
    unfold rv
    split <;> first | rfl | omega
theorem RM.push {g cap : Nat} {n : PNte} {u : Value} (h : RM w0 B x vn us sk s w) (hb1 : Below w.heap.size w w1)
    (ho : w'.ownsRow w0.heap.size 47 3 (.slice (some ⟨g, 0, none⟩) (s.notes.length + 1) cap) (s.notes.length + 1) ((List.zipWith (fun (n : PNte) u => [Value.int .i64 n.to, Value.int .i64 n.hd, u]) s.notes us).flatten ++ [Value.int .i64 n.to, Value.int .i64 n.hd, u]))
    (hg : w1.grownBy w' vn.ownBlock) (hat : vn.ownBlock = some g ∨ g = w1.heap.size) (hu : Ints (fun b => w.heap.size ≤ b) w1 u n.args) :
    RM w0 B x (.slice (some ⟨g, 0, none⟩) (s.notes.length + 1) cap) (us ++ [u]) sk { s with notes := s.notes ++ [n] } (w'.setCell ⟨B, 12, none⟩ (.slice (some ⟨g, 0, none⟩) (s.notes.length + 1) cap)) ∧ w'.cell? ⟨B, 12, none⟩ = some vn ∧ w'.frozen? ⟨B, 12, none⟩ = false ∧ B < w'.heap.size := by
  have hex : ∀ b, (b = B ∨ hb x.vr = some b) → b < w.heap.size := fun b hb => by
    rcases hb with rfl | hb
    · exact h.lt
    · exact (h.regs.hb hb).2.2
  have hN := h.nts.push h.low.size hb1 hex ho hg hat hu
  have hs := hb1.size
  have hBl := h.lt
  have hot : ∀ b, (b = B ∨ hb x.vr = some b) → w'.heap[b]? = w.heap[b]? := fun b hb => by
    rw [hg.block b (Nat.lt_of_lt_of_le (hex b hb) hs) (fun e => h.nts.nx b e.symm hb), hb1.block b (hex b hb)]
  have hrow : w'.rowIs B 66 24 (rv x s.armed vn sk s.st.length s.pc s.steps) := h.row.of_block (hot B (Or.inl rfl))
  have hne : ∀ b, b ≠ B → (w'.setCell ⟨B, 12, none⟩ (.slice (some ⟨g, 0, none⟩) (s.notes.length + 1) cap)).heap[b]? = w'.heap[b]? := fun b hb => Below.heap_setCell _ _ _ _ (fun e => hb (by have e' : b = B := e; exact e'))
  have hlow : Below w0.heap.size w0 w' := grown_low (bTrans h.low hb1) hg fun k hk => (own_lt h.nts.own hk).1
  refine ⟨⟨hlow.setCell h.base _, (hrow.set 12 _).congr rv_nt, h.base, h.skl, h.stk, h.st8, ?_, ?_⟩, hrow.cell (by omega), hrow.frozen 12, hrow.lt⟩
  · exact h.regs.same fun b e => (hne b (h.regs.hb e).2.1).trans (hot b (Or.inr e))
  · exact hN.same (by simp) fun b _ hb => hne b (fun e => hb (Or.inl e))

theorem vwithin_any (n m : Int) (w : World) : Calls Tryd.prog 24 #[.int .i64 n, .int .i64 m] w fun e w' => e = .returned (.bool (decide (0 ≤ n ∧ n < m))) ∧ w' = w := by
  by_cases h1 : 0 ≤ n <;> by_cases h2 : n < m
  all_goals
    go_enter Tryd.func24, Tryd.ntmps24
    go_wp2
    go_ret
    exact ⟨ret_b (by simp [h1, h2]), rfl⟩
end
end Go.Proofs.YtpcffhhednplaaaDoor
