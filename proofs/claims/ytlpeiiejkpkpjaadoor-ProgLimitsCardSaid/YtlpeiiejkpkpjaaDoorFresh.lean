/-
  A list made anew (the elements' cells copied into new memory): what comes back, and the world behind. Condition: the list is short.
-/
import Derived.Test.YtlpeiiejkpkpjaaDoorMem
namespace Go.Proofs.YtlpeiiejkpkpjaaDoor
open Go.RowKit

theorem wpList_append_run {P : Program} {w : World} {ops : Array Oper} {rest : List Oper} {o : Oper} {a : Act} {Q : Exit → Act → World → Prop} (hgd : o.guard = none) (s x : Operand) (t : TypeId)
    (ho : o.op = .call { callee := .builtin .append, args := #[s, x], argTypes := #[t, t] }) (v1 v2 v' : Value) (w' : World) (hs : a.eval s = v1) (hx : a.eval x = v2)
    (hrun : ∀ ty, (Builtin.append_ #[t, t] ty #[v1, v2]).run P w = .ok v' w') (h : wpList P ops Q rest (a.put o.dst v') w') : wpList P ops Q (o :: rest) a w := by
  refine wpList_plain hgd fun K hK => ?_
  unfold Oper.wp
  simp [execOp, ho, resolve, invoke, builtin, hs, hx, hrun, Result.andThen]
  exact hK _ _ h

theorem run_append_empty {P : Program} {w : World} (t ty e : TypeId) (i : TypeInfo) (ht : P.underlying t = some (.slice e)) (hi : P.info? e = some i) (A : Option Addr) (c : Nat) :
    (Builtin.append_ #[t, t] ty #[.slice none 0 0, .slice A 0 c]).run P w = .ok (.slice none 0 0) w := by
  cases A with
  | none => simp [Builtin.append_, run_underlying ht, sizeOf, typeInfo, hi, Builtin.lenOf, Builtin.firstCells]
  | some a =>
    have hf := run_firstCells_some (P := P) w i.size 0 a 0 c [] (by simp) (by simp)
    simp [Builtin.append_, run_underlying ht, sizeOf, typeInfo, hi, Builtin.lenOf, hf]

/-- The cells, as they stand. -/
def raw (w : World) (b o m : Nat) : List Value := (List.range m).map fun j => (w.cell? ⟨b, o + j, none⟩).getD (.bool false)
theorem raw_length (w : World) (b o m : Nat) : (raw w b o m).length = m := by simp [raw]
theorem raw_at {w : World} {b o m : Nat} (h : ∀ j, j < m → (w.cell? ⟨b, o + j, none⟩).isSome = true) {j : Nat} (hj : j < m) : (raw w b o m)[j]? = w.cell? ⟨b, o + j, none⟩ := by
  have := h j hj
  rw [Option.isSome_iff_exists] at this
  obtain ⟨u, hu⟩ := this
  simp [raw, hj, hu]
theorem raw_cell {w : World} {b o m : Nat} (h : ∀ j, j < m → (w.cell? ⟨b, o + j, none⟩).isSome = true) (j : Nat) (u : Value) (hu : (raw w b o m)[j]? = some u) : w.cell? ((⟨b, o, none⟩ : Addr).add j) = some u := by
  have hj : j < m := by
    have := (List.getElem?_eq_some_iff.1 hu).1
    rwa [raw_length] at this
  rw [raw_at h hj] at hu
  rw [← hu]
  unfold Addr.add
  by_cases h0 : j = 0
  · subst h0; rfl
  · rw [if_neg h0]

/-- The slice A', in w', is that of A, in w, made anew. -/
def Cloned (w : World) (A : Option Addr) (n sz E : Nat) (w' : World) (A' : Option Addr) : Prop :=
  (n = 0 ∧ w' = w ∧ A' = none) ∨
  (0 < n ∧ ∃ b o cs, A = some ⟨b, o, none⟩ ∧ A' = some ⟨w.heap.size, 0, none⟩ ∧ w' = w.drew.alloc (.cells cs E) ∧ ∀ j, j < n * sz → cs[j]? = w.cell? ⟨b, o + j, none⟩)

/-- The elements' cells are there. -/
def There (w : World) (A : Option Addr) (n sz : Nat) : Prop := n = 0 ∨ ∃ b o, A = some ⟨b, o, none⟩ ∧ ∀ j, j < n * sz → (w.cell? ⟨b, o + j, none⟩).isSome = true

theorem run_fresh {P : Program} (w : World) (t e : TypeId) (i : TypeInfo) (z : Value) (ht : P.underlying t = some (.slice e)) (hi : P.info? e = some i) (hz : i.zero = some z) (A : Option Addr) (n c : Nat)
    (hth : There w A n i.size) (hn : n ≤ 1000) (hby : i.bytes ≤ 1000) :
    ∃ A' c' w', (∀ ty, (Builtin.append_ #[t, t] ty #[.slice none 0 0, .slice A n c]).run P w = .ok (.slice A' n c') w') ∧ Cloned w A n i.size e w' A' := by
  by_cases h0 : n = 0
  · subst h0
    exact ⟨none, 0, w, fun ty => run_append_empty t ty e i ht hi A c, Or.inl ⟨rfl, rfl, rfl⟩⟩
  · rcases hth with h | ⟨b, o, rfl, hc⟩
    · exact absurd h h0
    · have hm : n * i.bytes ≤ 1000 * 1000 := Nat.mul_le_mul hn hby
      refine ⟨_, _, _, fun ty => run_append_nil w t ty e i z ht hi hz ⟨b, o, none⟩ n c (raw w b o (n * i.size)) (raw_length _ _ _ _) (raw_cell hc) (by omega) (by omega) (by omega), Or.inr ⟨by omega, b, o, _, rfl, rfl, rfl, fun j hj => ?_⟩⟩
      rw [Array.getElem?_append_left (by simpa [raw_length] using hj), List.getElem?_toArray, raw_at hc hj]

theorem infofreshH : ∃ i z, Tryd.prog.info? 31 = some i ∧ i.zero = some z ∧ i.size = 2 ∧ i.bytes = 32 := by
  have h : (Tryd.prog.info? 31).map (fun i => (i.zero.isSome, i.size, i.bytes)) = some (true, 2, 32) := by kernel_rfl
  obtain ⟨i, hi, he⟩ := Option.map_eq_some_iff.1 h
  simp only [Prod.mk.injEq] at he
  obtain ⟨z, hz⟩ := Option.isSome_iff_exists.1 he.1
  exact ⟨i, z, hi, hz, he.2.1, he.2.2⟩
set_option maxHeartbeats 400000 in
theorem freshH (w : World) (A : Option Addr) (n c : Nat) (hth : There w A n 2) (hn : n ≤ 1000) :
    Calls Tryd.prog 35 #[.slice A n c] w fun e w' => ∃ A' c', e = .returned (.slice A' n c') ∧ Cloned w A n 2 31 w' A' := by
  obtain ⟨i, z, hi, hz, hs, hb⟩ := infofreshH
  obtain ⟨A', c', w', hrun, hcl⟩ := run_fresh w 22 31 i z Tryd.underlying22 hi hz A n c (by rw [hs]; exact hth) hn (by omega)
  rw [hs] at hcl
  have HR : Hid (∀ ty, (Builtin.append_ #[22, 22] ty #[.slice none 0 0, .slice A n c]).run Tryd.prog w = .ok (.slice A' n c') w') := hrun
  clear hrun
  go_enter Tryd.func35, Tryd.ntmps35
  go_wp2_with (at_builtin; refine wpList_append_run rfl _ _ 22 rfl _ _ _ _ rfl rfl HR.out ?_)
  go_ret
  exact ⟨A', c', rfl, hcl⟩

theorem infofreshA : ∃ i z, Tryd.prog.info? 41 = some i ∧ i.zero = some z ∧ i.size = 4 ∧ i.bytes = 48 := by
  have h : (Tryd.prog.info? 41).map (fun i => (i.zero.isSome, i.size, i.bytes)) = some (true, 4, 48) := by kernel_rfl
  obtain ⟨i, hi, he⟩ := Option.map_eq_some_iff.1 h
  simp only [Prod.mk.injEq] at he
  obtain ⟨z, hz⟩ := Option.isSome_iff_exists.1 he.1
  exact ⟨i, z, hi, hz, he.2.1, he.2.2⟩
set_option maxHeartbeats 400000 in
theorem freshA (w : World) (A : Option Addr) (n c : Nat) (hth : There w A n 4) (hn : n ≤ 1000) :
    Calls Tryd.prog 36 #[.slice A n c] w fun e w' => ∃ A' c', e = .returned (.slice A' n c') ∧ Cloned w A n 4 41 w' A' := by
  obtain ⟨i, z, hi, hz, hs, hb⟩ := infofreshA
  obtain ⟨A', c', w', hrun, hcl⟩ := run_fresh w 23 41 i z Tryd.underlying23 hi hz A n c (by rw [hs]; exact hth) hn (by omega)
  rw [hs] at hcl
  have HR : Hid (∀ ty, (Builtin.append_ #[23, 23] ty #[.slice none 0 0, .slice A n c]).run Tryd.prog w = .ok (.slice A' n c') w') := hrun
  clear hrun
  go_enter Tryd.func36, Tryd.ntmps36
  go_wp2_with (at_builtin; refine wpList_append_run rfl _ _ 23 rfl _ _ _ _ rfl rfl HR.out ?_)
  go_ret
  exact ⟨A', c', rfl, hcl⟩

theorem infofreshN : ∃ i z, Tryd.prog.info? 43 = some i ∧ i.zero = some z ∧ i.size = 3 ∧ i.bytes = 40 := by
  have h : (Tryd.prog.info? 43).map (fun i => (i.zero.isSome, i.size, i.bytes)) = some (true, 3, 40) := by kernel_rfl
  obtain ⟨i, hi, he⟩ := Option.map_eq_some_iff.1 h
  simp only [Prod.mk.injEq] at he
  obtain ⟨z, hz⟩ := Option.isSome_iff_exists.1 he.1
  exact ⟨i, z, hi, hz, he.2.1, he.2.2⟩
set_option maxHeartbeats 400000 in
theorem freshN (w : World) (A : Option Addr) (n c : Nat) (hth : There w A n 3) (hn : n ≤ 1000) :
    Calls Tryd.prog 37 #[.slice A n c] w fun e w' => ∃ A' c', e = .returned (.slice A' n c') ∧ Cloned w A n 3 43 w' A' := by
  obtain ⟨i, z, hi, hz, hs, hb⟩ := infofreshN
  obtain ⟨A', c', w', hrun, hcl⟩ := run_fresh w 24 43 i z Tryd.underlying24 hi hz A n c (by rw [hs]; exact hth) hn (by omega)
  rw [hs] at hcl
  have HR : Hid (∀ ty, (Builtin.append_ #[24, 24] ty #[.slice none 0 0, .slice A n c]).run Tryd.prog w = .ok (.slice A' n c') w') := hrun
  clear hrun
  go_enter Tryd.func37, Tryd.ntmps37
  go_wp2_with (at_builtin; refine wpList_append_run rfl _ _ 24 rfl _ _ _ _ rfl rfl HR.out ?_)
  go_ret
  exact ⟨A', c', rfl, hcl⟩

theorem infofreshC : ∃ i z, Tryd.prog.info? 38 = some i ∧ i.zero = some z ∧ i.size = 2 ∧ i.bytes = 16 := by
  have h : (Tryd.prog.info? 38).map (fun i => (i.zero.isSome, i.size, i.bytes)) = some (true, 2, 16) := by kernel_rfl
  obtain ⟨i, hi, he⟩ := Option.map_eq_some_iff.1 h
  simp only [Prod.mk.injEq] at he
  obtain ⟨z, hz⟩ := Option.isSome_iff_exists.1 he.1
  exact ⟨i, z, hi, hz, he.2.1, he.2.2⟩
set_option maxHeartbeats 400000 in
theorem freshC (w : World) (A : Option Addr) (n c : Nat) (hth : There w A n 2) (hn : n ≤ 1000) :
    Calls Tryd.prog 38 #[.slice A n c] w fun e w' => ∃ A' c', e = .returned (.slice A' n c') ∧ Cloned w A n 2 38 w' A' := by
  obtain ⟨i, z, hi, hz, hs, hb⟩ := infofreshC
  obtain ⟨A', c', w', hrun, hcl⟩ := run_fresh w 29 38 i z Tryd.underlying29 hi hz A n c (by rw [hs]; exact hth) hn (by omega)
  rw [hs] at hcl
  have HR : Hid (∀ ty, (Builtin.append_ #[29, 29] ty #[.slice none 0 0, .slice A n c]).run Tryd.prog w = .ok (.slice A' n c') w') := hrun
  clear hrun
  go_enter Tryd.func38, Tryd.ntmps38
  go_wp2_with (at_builtin; refine wpList_append_run rfl _ _ 29 rfl _ _ _ _ rfl rfl HR.out ?_)
  go_ret
  exact ⟨A', c', rfl, hcl⟩

theorem infofreshI : ∃ i z, Tryd.prog.info? 3 = some i ∧ i.zero = some z ∧ i.size = 1 ∧ i.bytes = 8 := by
  have h : (Tryd.prog.info? 3).map (fun i => (i.zero.isSome, i.size, i.bytes)) = some (true, 1, 8) := by kernel_rfl
  obtain ⟨i, hi, he⟩ := Option.map_eq_some_iff.1 h
  simp only [Prod.mk.injEq] at he
  obtain ⟨z, hz⟩ := Option.isSome_iff_exists.1 he.1
  exact ⟨i, z, hi, hz, he.2.1, he.2.2⟩
set_option maxHeartbeats 400000 in
theorem freshI (w : World) (A : Option Addr) (n c : Nat) (hth : There w A n 1) (hn : n ≤ 1000) :
    Calls Tryd.prog 39 #[.slice A n c] w fun e w' => ∃ A' c', e = .returned (.slice A' n c') ∧ Cloned w A n 1 3 w' A' := by
  obtain ⟨i, z, hi, hz, hs, hb⟩ := infofreshI
  obtain ⟨A', c', w', hrun, hcl⟩ := run_fresh w 39 3 i z Tryd.underlying39 hi hz A n c (by rw [hs]; exact hth) hn (by omega)
  rw [hs] at hcl
  have HR : Hid (∀ ty, (Builtin.append_ #[39, 39] ty #[.slice none 0 0, .slice A n c]).run Tryd.prog w = .ok (.slice A' n c') w') := hrun
  clear hrun
  go_enter Tryd.func39, Tryd.ntmps39
  go_wp2_with (at_builtin; refine wpList_append_run rfl _ _ 39 rfl _ _ _ _ rfl rfl HR.out ?_)
  go_ret
  exact ⟨A', c', rfl, hcl⟩

end Go.Proofs.YtlpeiiejkpkpjaaDoor
