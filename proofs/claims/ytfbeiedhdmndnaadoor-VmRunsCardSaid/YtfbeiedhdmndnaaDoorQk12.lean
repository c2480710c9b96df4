/-
  The end of one that falls, in the reference's Run: the result is stored. No conditions. The reference's Run: a send. Condition: the stack is short. The reference's Run: a send that is sent. Condition: the stack is short. The reference's Run: the two topmost numbers change places. Condition: the stack is short. The loop's head of the reference's Run: an instruction is read. No conditions. The end of the reference's Run: the state and the notes are answered. No conditions. The loop's condition in the reference's Run: whether there is another instruction. No conditions.
-/
import Derived.Test.YtfbeiedhdmndnaaDoorQk11
namespace Go.Proofs.YtfbeiedhdmndnaaDoor
open Go.RowKit
attribute [local go_sem ↓] Go.wp_at_zero Go.wp_at_succ
theorem cell_set {w : World} {b i j : Nat} {v u : Value} (h : w.cell? ⟨b, j, none⟩ = some u) : (w.setCell ⟨b, i, none⟩ v).cell? ⟨b, j, none⟩ = if i = j then some v else some u := by
  unfold World.cell? at h ⊢
  simp only [World.setCell, Array.getElem?_modify] at h ⊢
  cases hb : w.heap[b]? with
  | none => rw [hb] at h; cases h
  | some o =>
    rw [hb] at h
    cases o with
    | cells c e f =>
      simp at h ⊢
      by_cases e : i = j
      · subst e
        have hl := (Array.getElem?_eq_some_iff.1 h).1
        simp [hl]
      · rw [if_neg e, Array.getElem?_setIfInBounds_ne e]; exact h
    | _ => cases h
set_option maxHeartbeats 2000000 in
theorem fall_end {t1 t2 t3 t4 id d1 d2 d3 : Nat} {p1 p2 p3 p4 : String} {e1 e2 e3 e4 : Array Edge} {a : Act} {Q : Exit → Act → World → Prop} {w : World} {Bf Rb nF cF : Nat} {F : Option Addr} {fa : Bool} {fd fs fo sp : Int} {c0 c1 c2 c3 c4 c5 c6 : Value}
    (hs : a.tmps.size = 330) (hd : 53 ≤ d1 ∧ d1 < 330 ∧ 53 ≤ d2 ∧ d2 < 330 ∧ 53 ≤ d3 ∧ d3 < 330) (hn : d1 ≠ d2) (h13 : a.tmps[13]? = some (.pointer (some ⟨Bf, 0, none⟩))) (h16 : a.tmps[16]? = some (.int .i64 sp)) (h10 : a.tmps[10]? = some (.pointer (some ⟨Rb, 0, none⟩)))
    (f0 : w.cell? ⟨Bf, 0, none⟩ = some (.slice F nF cF)) (f1 : w.cell? ⟨Bf, 1, none⟩ = some (.bool fa)) (f2 : w.cell? ⟨Bf, 2, none⟩ = some (.int .i64 fd)) (f3 : w.cell? ⟨Bf, 3, none⟩ = some (.int .i64 fs)) (f4 : w.cell? ⟨Bf, 4, none⟩ = some (.int .i64 fo))
    (r0 : w.cell? ⟨Rb, 0, none⟩ = some c0) (r1 : w.cell? ⟨Rb, 1, none⟩ = some c1) (r2 : w.cell? ⟨Rb, 2, none⟩ = some c2) (r3 : w.cell? ⟨Rb, 3, none⟩ = some c3) (r4 : w.cell? ⟨Rb, 4, none⟩ = some c4) (r5 : w.cell? ⟨Rb, 5, none⟩ = some c5) (r6 : w.cell? ⟨Rb, 6, none⟩ = some c6) (rf : ∀ o, w.frozen? ⟨Rb, o, none⟩ = false)
    (H : ∀ b, b.defers = a.defers → b.tmps[10]? = some (.pointer (some ⟨Rb, 0, none⟩)) → Q .normal b (put7 w Rb (.slice F nF cF) (.bool fa) (.int .i64 fd) (.int .i64 fs) (.int .i64 fo) (.slice none 0 0) (.int .i64 sp))) :
    Go.Code.wp Tryd.prog (Go.Code.region id #[{ dst := some d1, op := .load 29 (.tmp 13), type := t1, pos := p1, after := e1, guard := none }, { dst := some d2, op := .move (.tmp 16), type := t2, pos := p2, after := e2, guard := none }, { dst := some d3, op := .build 37 #[(0, .tmp d1), (2, .tmp d2)], type := t3, pos := p3, after := e3, guard := none }, { dst := none, op := .store 37 (.tmp 10) (.tmp d3), type := t4, pos := p4, after := e4, guard := none }] false) Q a w := by
  have k13 := at_of hs (by decide) h13
  have k16 := at_of hs (by decide) h16
  have k10 := at_of hs (by decide) h10
  obtain ⟨g1, g2, g3, g4, g5, g6⟩ := hd
  have n1 : d1 ≠ 10 := by omega
  have n2 : d2 ≠ 10 := by omega
  have n3 : d3 ≠ 10 := by omega
  have n4 : d1 ≠ 13 := by omega
  have n5 : d1 ≠ 16 := by omega
  have n6 : d2 ≠ d1 := fun e => hn e.symm
  have H10 := hid_mk h10
  clear h13 h16 h10
  go_wp2
  exact H _ rfl (by rw [Array.getElem?_setIfInBounds_ne n3, Array.getElem?_setIfInBounds_ne n2, Array.getElem?_setIfInBounds_ne n1]; exact H10.out)
section
variable {a : Act} {Q : Exit → Act → World → Prop} {w : World} {A : Option Addr} {cs : Nat} {st : List Int}
set_option maxHeartbeats 4000000 in
theorem two_down {C g m : Nat} {op x y : Int} (hs : a.tmps.size = 330) (h15 : a.tmps[15]? = some (.slice A st.length cs)) (h18 : a.tmps[18]? = some (.pointer (some ⟨C, 0, none⟩))) (h19 : a.tmps[19]? = some (.int .i64 ((m : Int) + 2))) (hA : A = some ⟨g, 0, none⟩) (hst : st.length = m + 2) (ho : w.cell? ⟨C, 0, none⟩ = some (.int .i64 op)) (hx : w.cell? ⟨g, m, none⟩ = some (.int .i64 x)) (hy : w.cell? ⟨g, m + 1, none⟩ = some (.int .i64 y)) (hd : dn op y ≠ 0) {Bf Rb nF cF : Nat} {F : Option Addr} {fa : Bool} {fd fs fo sp : Int} {c0 c1 c2 c3 c4 c5 c6 : Value} (h13 : a.tmps[13]? = some (.pointer (some ⟨Bf, 0, none⟩))) (h16 : a.tmps[16]? = some (.int .i64 sp)) (h10 : a.tmps[10]? = some (.pointer (some ⟨Rb, 0, none⟩))) (nfr : Bf ≠ Rb)
    (f0 : w.cell? ⟨Bf, 0, none⟩ = some (.slice F nF cF)) (f1 : w.cell? ⟨Bf, 1, none⟩ = some (.bool fa)) (f2 : w.cell? ⟨Bf, 2, none⟩ = some (.int .i64 fd)) (f3 : w.cell? ⟨Bf, 3, none⟩ = some (.int .i64 fs)) (f4 : w.cell? ⟨Bf, 4, none⟩ = some (.int .i64 fo)) (ff : ∀ o, w.frozen? ⟨Bf, o, none⟩ = false)
    (r0 : w.cell? ⟨Rb, 0, none⟩ = some c0) (r1 : w.cell? ⟨Rb, 1, none⟩ = some c1) (r2 : w.cell? ⟨Rb, 2, none⟩ = some c2) (r3 : w.cell? ⟨Rb, 3, none⟩ = some c3) (r4 : w.cell? ⟨Rb, 4, none⟩ = some c4) (r5 : w.cell? ⟨Rb, 5, none⟩ = some c5) (r6 : w.cell? ⟨Rb, 6, none⟩ = some c6) (rf : ∀ o, w.frozen? ⟨Rb, o, none⟩ = false) (hm : m ≤ 100)
    (H : ∀ b, b.defers = a.defers → b.tmps[10]? = some (.pointer (some ⟨Rb, 0, none⟩)) → Q .ret b (put7 (w.setCell ⟨Bf, 2, none⟩ (.int .i64 (dn op y))).drew Rb (.slice F nF cF) (.bool fa) (.int .i64 (dn op y)) (.int .i64 fs) (.int .i64 fo) (.slice none 0 0) (.int .i64 sp))) : nd15.wp Tryd.prog Q a w := by
  rw [hst] at h15
  have k15 := at_of hs (by decide) h15
  have k18 := at_of hs (by decide) h18
  have k19 := at_of hs (by decide) h19
  have k13 := at_of hs (by decide) h13
  have i0 : (0 : Int) ≤ m := by omega
  have i2 : (m : Int) < (m : Int) + 2 := by omega
  have i4 : (m : Int) + 1 < (m : Int) + 2 := by omega
  have i5 : (0 : Int) ≤ (m : Int) + 1 := by omega
  have i3 : IntKind.i64.wrap (m : Int) = m := by rw [IntKind.wrap_i64]; omega
  have i7 : (m : Int) + 2 - 1 = (m : Int) + 1 := by omega
  have i9 : IntKind.i64.wrap ((m : Int) + 1) = (m : Int) + 1 := by rw [IntKind.wrap_i64]; omega
  have i10 : ((m : Int) + 1).toNat = m + 1 := by omega
  have nrf : Rb ≠ Bf := fun e => nfr e.symm
  have hdb : (dn op y != 0) = true := by simpa using hd
  have H13 := hid_mk h13
  have H16 := hid_mk h16
  have H10 := hid_mk h10
  clear h15 h18 h19 h13 h16 h10
  subst hA
  unfold nd15 nd14 nd13 nd12 nd11 nd10 nd9 nd8 nd7 nd6 nd5 nd4 nd3 nd2 nd1 nd0 sw
  simp only [Tryd.f12, Option.getD_some, cBV, cAV, cI, cE]
  refine wp_seq_k fun K0 h0 => ?_
  have HH0 := hid_mk h0
  clear h0
  refine wp_region_noPanic ?_
  refine wp_region_held_drew (S := fun w' => w'.cell? ⟨C, 0, none⟩ = some (.int .i64 op) ∧ w'.cell? ⟨g, m, none⟩ = some (.int .i64 x) ∧ w'.cell? ⟨g, m + 1, none⟩ = some (.int .i64 y)) (by kernel_rfl) ?_ (fun hHeld => ?_)
  · try dsimp only
    go_keep
  refine wpAnyH_take (i := 0) (oi := ⟨some 78, .fieldAddr 68 (.tmp 18) 0, 0, "vm.go:530", #[], none⟩) (v := ?_) rfl (by kernel_rfl) (by kernel_rfl) (by kernel_rfl) (fun _ _ _ h => h) (Or.inl ⟨by rfl, ?_⟩) (by assumption) ?_
  rotate_left
  · intro w hSw
    try dsimp only at hSw
    go_simp
    try with_reducible rfl
  try simp only [Act.put]
  refine wpAnyH_take (i := 1) (oi := ⟨some 79, .load 3 (.tmp 78), 3, "vm.go:530", #[⟨0, .data⟩], none⟩) (v := ?_) rfl (by kernel_rfl) (by kernel_rfl) (by kernel_rfl) (fun _ _ _ h => h) (Or.inl ⟨by rfl, ?_⟩) (by assumption) ?_
  rotate_left
  · intro w hSw
    try dsimp only at hSw
    go_simp
    try with_reducible rfl
  try simp only [Act.put]
  refine wpAnyH_take (i := 2) (oi := ⟨some 80, .move (.tmp 15), 27, "vm.go:530", #[], none⟩) (v := ?_) rfl (by kernel_rfl) (by kernel_rfl) (by kernel_rfl) (fun _ _ _ h => h) (Or.inl ⟨by rfl, ?_⟩) (by assumption) ?_
  rotate_left
  · intro w hSw
    try dsimp only at hSw
    go_simp
    try with_reducible rfl
  try simp only [Act.put]
  refine wpAnyH_take (i := 3) (oi := ⟨some 81, .move (.tmp 19), 3, "vm.go:530", #[], none⟩) (v := ?_) rfl (by kernel_rfl) (by kernel_rfl) (by kernel_rfl) (fun _ _ _ h => h) (Or.inl ⟨by rfl, ?_⟩) (by assumption) ?_
  rotate_left
  · intro w hSw
    try dsimp only at hSw
    go_simp
    try with_reducible rfl
  try simp only [Act.put]
  refine wpAnyH_take (i := 4) (oi := ⟨some 82, .binOp .sub 3 (.tmp 81) (.const (.int .i64 2)) 3, 3, "vm.go:530", #[⟨3, .data⟩], none⟩) (v := ?_) rfl (by kernel_rfl) (by kernel_rfl) (by kernel_rfl) (fun _ _ _ h => h) (Or.inl ⟨by rfl, ?_⟩) (by assumption) ?_
  rotate_left
  · intro w hSw
    try dsimp only at hSw
    go_simp
    try with_reducible rfl
  try simp only [Act.put]
  refine wpAnyH_take (i := 5) (oi := ⟨some 83, .indexAddr 27 (.tmp 80) (.tmp 82), 0, "vm.go:530", #[⟨2, .data⟩, ⟨4, .data⟩], none⟩) (v := ?_) rfl (by kernel_rfl) (by kernel_rfl) (by kernel_rfl) (fun _ _ _ h => h) (Or.inl ⟨by rfl, ?_⟩) (by assumption) ?_
  rotate_left
  · intro w hSw
    try dsimp only at hSw
    go_simp
    try with_reducible rfl
  try simp only [Act.put]
  refine wpAnyH_take (i := 6) (oi := ⟨some 84, .load 3 (.tmp 83), 3, "vm.go:530", #[⟨5, .data⟩], none⟩) (v := ?_) rfl (by kernel_rfl) (by kernel_rfl) (by kernel_rfl) (fun _ _ _ h => h) (Or.inl ⟨by rfl, ?_⟩) (by assumption) ?_
  rotate_left
  · intro w hSw
    try dsimp only at hSw
    go_simp
    try with_reducible rfl
  try simp only [Act.put]
  refine wpAnyH_take (i := 7) (oi := ⟨some 85, .move (.tmp 15), 27, "vm.go:530", #[], none⟩) (v := ?_) rfl (by kernel_rfl) (by kernel_rfl) (by kernel_rfl) (fun _ _ _ h => h) (Or.inl ⟨by rfl, ?_⟩) (by assumption) ?_
  rotate_left
  · intro w hSw
    try dsimp only at hSw
    go_simp
    try with_reducible rfl
  try simp only [Act.put]
  refine wpAnyH_take (i := 8) (oi := ⟨some 86, .move (.tmp 19), 3, "vm.go:530", #[], none⟩) (v := ?_) rfl (by kernel_rfl) (by kernel_rfl) (by kernel_rfl) (fun _ _ _ h => h) (Or.inl ⟨by rfl, ?_⟩) (by assumption) ?_
  rotate_left
  · intro w hSw
    try dsimp only at hSw
    go_simp
    try with_reducible rfl
  try simp only [Act.put]
  refine wpAnyH_take (i := 9) (oi := ⟨some 87, .binOp .sub 3 (.tmp 86) (.const (.int .i64 1)) 3, 3, "vm.go:530", #[⟨8, .data⟩], none⟩) (v := ?_) rfl (by kernel_rfl) (by kernel_rfl) (by kernel_rfl) (fun _ _ _ h => h) (Or.inl ⟨by rfl, ?_⟩) (by assumption) ?_
  rotate_left
  · intro w hSw
    try dsimp only at hSw
    go_simp
    try with_reducible rfl
  try simp only [Act.put]
  refine wpAnyH_take (i := 10) (oi := ⟨some 88, .indexAddr 27 (.tmp 85) (.tmp 87), 0, "vm.go:530", #[⟨7, .data⟩, ⟨9, .data⟩], none⟩) (v := ?_) rfl (by kernel_rfl) (by kernel_rfl) (by kernel_rfl) (fun _ _ _ h => h) (Or.inl ⟨by rfl, ?_⟩) (by assumption) ?_
  rotate_left
  · intro w hSw
    try dsimp only at hSw
    go_simp
    try with_reducible rfl
  try simp only [Act.put]
  refine wpAnyH_take (i := 11) (oi := ⟨some 89, .load 3 (.tmp 88), 3, "vm.go:530", #[⟨10, .data⟩], none⟩) (v := ?_) rfl (by kernel_rfl) (by kernel_rfl) (by kernel_rfl) (fun _ _ _ h => h) (Or.inl ⟨by rfl, ?_⟩) (by assumption) ?_
  rotate_left
  · intro w hSw
    try dsimp only at hSw
    go_simp
    try with_reducible rfl
  try simp only [Act.put]
  refine wpAnyH_ready (rs := [12]) (by kernel_rfl) (by simp) ?_
  refine AllReadyH.cons (o := ⟨some 90, .call { callee := .value (.func 31), args := #[.tmp 79, .tmp 84, .tmp 89], argTypes := #[3, 3, 3] }, 81, "vm.go:530", #[⟨1, .data⟩, ⟨6, .data⟩, ⟨11, .data⟩], none⟩) rfl (fun K hK => ?_) AllReadyH.nil
  go_simp
  go_at_call 31
  refine (rtwo_any _ _ _ _).mono ?_
  rintro e w' ⟨rfl, hw'⟩
  subst hw'
  try (go_wp2_with fail)
  refine hK.out _ _ ?_ (fun hHeld => ?_)
  · try dsimp only
    exact hHeld
  clear hK K
  try simp only [Act.put]
  refine wpAnyH_take (i := 13) (oi := ⟨some 77, .move (.tmp 90), 81, "vm.go:530", #[⟨12, .data⟩], none⟩) (v := ?_) rfl (by kernel_rfl) (by kernel_rfl) (by kernel_rfl) (fun _ _ _ h => h) (Or.inl ⟨by rfl, ?_⟩) (by assumption) ?_
  rotate_left
  · intro w hSw
    try dsimp only at hSw
    go_simp
    try with_reducible rfl
  try simp only [Act.put]
  refine wpAnyH_take (i := 14) (oi := ⟨some 91, .extract (.tmp 77) 0, 3, "vm.go:530", #[⟨13, .data⟩], none⟩) (v := ?_) rfl (by kernel_rfl) (by kernel_rfl) (by kernel_rfl) (fun _ _ _ h => h) (Or.inl ⟨by rfl, ?_⟩) (by assumption) ?_
  rotate_left
  · intro w hSw
    try dsimp only at hSw
    go_simp
    try with_reducible rfl
  try simp only [Act.put]
  refine wpAnyH_take (i := 15) (oi := ⟨some 92, .extract (.tmp 77) 1, 3, "vm.go:530", #[⟨13, .data⟩, ⟨16, .gcOnly .lateStores⟩], none⟩) (v := ?_) rfl (by kernel_rfl) (by kernel_rfl) (by kernel_rfl) (fun _ _ _ h => h) (Or.inl ⟨by rfl, ?_⟩) (by assumption) ?_
  rotate_left
  · intro w hSw
    try dsimp only at hSw
    go_simp
    try with_reducible rfl
  try simp only [Act.put]
  refine wpAnyH_take (i := 16) (oi := ⟨some 25, .assign (.tmp 91), 3, "vm.go:530", #[⟨14, .data⟩, ⟨12, .chain⟩, ⟨0, .phase⟩, ⟨1, .phase⟩, ⟨2, .phase⟩, ⟨3, .phase⟩, ⟨4, .phase⟩, ⟨5, .phase⟩, ⟨6, .phase⟩, ⟨7, .phase⟩, ⟨8, .phase⟩, ⟨9, .phase⟩, ⟨10, .phase⟩, ⟨11, .phase⟩, ⟨12, .phase⟩, ⟨13, .phase⟩, ⟨14, .phase⟩, ⟨15, .textOnly .lateStores⟩], none⟩) (v := ?_) rfl (by kernel_rfl) (by kernel_rfl) (by kernel_rfl) (fun _ _ _ h => h) (Or.inl ⟨by rfl, ?_⟩) (by assumption) ?_
  rotate_left
  · intro w hSw
    try dsimp only at hSw
    go_simp
    try with_reducible rfl
  try simp only [Act.put]
  refine wpAnyH_take (i := 17) (oi := ⟨some 26, .assign (.tmp 92), 3, "vm.go:530", #[⟨15, .data⟩, ⟨16, .chain⟩, ⟨0, .phase⟩, ⟨1, .phase⟩, ⟨2, .phase⟩, ⟨3, .phase⟩, ⟨4, .phase⟩, ⟨5, .phase⟩, ⟨6, .phase⟩, ⟨7, .phase⟩, ⟨8, .phase⟩, ⟨9, .phase⟩, ⟨10, .phase⟩, ⟨11, .phase⟩, ⟨12, .phase⟩, ⟨13, .phase⟩, ⟨14, .phase⟩, ⟨15, .phase⟩, ⟨16, .phase⟩], none⟩) (v := ?_) rfl (by kernel_rfl) (by kernel_rfl) (by kernel_rfl) (fun _ _ _ h => h) (Or.inl ⟨by rfl, ?_⟩) (by assumption) ?_
  rotate_left
  · intro w hSw
    try dsimp only at hSw
    go_simp
    try with_reducible rfl
  try simp only [Act.put]
  refine wpAnyH_done (by kernel_rfl) ?_ _
  refine NoPanic.normal ?_
  go_wp2
  refine HH0.out _ _ ?_
  refine wp_seq_k fun K1 h1 => ?_
  refine wp_seq_k fun K2 h2 => ?_
  have HH2 := hid_mk h2
  clear h1 h2
  go_wp2
  refine HH2.out _ _ ?_
  refine wp_cond_true (by simp [Act.eval, hs]) ?_
  refine wp_seq_k fun K3 h3 => ?_
  have HH3 := hid_mk h3
  clear h3
  go_wp2
  refine HH3.out _ _ ?_
  refine wp_seq_k fun K4 h4 => ?_
  have HH4 := hid_mk h4
  clear h4
  refine fall_end (c0 := c0) (c1 := c1) (c2 := c2) (c3 := c3) (c4 := c4) (c5 := c5) (c6 := c6) (Bf := Bf) (Rb := Rb) (nF := nF) (cF := cF) (F := F) (fa := fa) (fd := dn op y) (fs := fs) (fo := fo) (sp := sp) (by simp [hs]) (by decide) (by decide) (by simp [H13.out]) (by simp [H16.out]) (by simp [H10.out]) ?_ ?_ ?_ ?_ ?_ ?_ ?_ ?_ ?_ ?_ ?_ ?_ ?_ ?_
  all_goals try go_keep
  · exact cell_set (i := 2) f0
  · exact cell_set (i := 2) f1
  · exact cell_set (i := 2) f2
  · exact cell_set (i := 2) f3
  · exact cell_set (i := 2) f4
  · intro b hdf hb
    refine HH4.out _ _ ?_
    refine wp_ret ?_
    exact H b (hdf.trans rfl) hb
end
end Go.Proofs.YtfbeiedhdmndnaaDoor
namespace Go.Proofs.YtfbeiedhdmndnaaDoor
open Go.RowKit
attribute [local go_sem ↓] Go.wp_at_zero Go.wp_at_succ
section
variable {a : Act} {Q : Exit → Act → World → Prop} {w : World} {A : Option Addr} {cs : Nat} {st : List Int}
set_option maxHeartbeats 4000000 in
theorem lf22_neg {C g m P0 gH oH nh ch k : Nat} {tt ar : Int} (hs : a.tmps.size = 330) (h15 : a.tmps[15]? = some (.slice A (m + 1) cs)) (h18 : a.tmps[18]? = some (.pointer (some ⟨C, 0, none⟩))) (h19 : a.tmps[19]? = some (.int .i64 ((m : Int) + 1))) (h5 : a.tmps[5]? = some (.pointer (some ⟨P0, 0, none⟩))) (hA : A = some ⟨g, 0, none⟩) (hx : w.cell? ⟨g, m, none⟩ = some (.int .i64 tt)) (hc : w.cell? ⟨C, 1, none⟩ = some (.int .i64 (k : Int))) (hp0 : w.cell? ⟨P0, 0, none⟩ = some (.slice (some ⟨gH, oH, none⟩) nh ch)) (hha : w.cell? ⟨gH, oH + k * 2, none⟩ = some (.int .i64 ar)) (hk : k < nh) (hto : tt < 0) {Bf Rb nF cF : Nat} {F : Option Addr} {fa : Bool} {fd fs fo sp : Int} {c0 c1 c2 c3 c4 c5 c6 : Value} (h13 : a.tmps[13]? = some (.pointer (some ⟨Bf, 0, none⟩))) (h16 : a.tmps[16]? = some (.int .i64 sp)) (h10 : a.tmps[10]? = some (.pointer (some ⟨Rb, 0, none⟩))) (nfr : Bf ≠ Rb)
    (f0 : w.cell? ⟨Bf, 0, none⟩ = some (.slice F nF cF)) (f1 : w.cell? ⟨Bf, 1, none⟩ = some (.bool fa)) (f2 : w.cell? ⟨Bf, 2, none⟩ = some (.int .i64 fd)) (f3 : w.cell? ⟨Bf, 3, none⟩ = some (.int .i64 fs)) (f4 : w.cell? ⟨Bf, 4, none⟩ = some (.int .i64 fo)) (ff : ∀ o, w.frozen? ⟨Bf, o, none⟩ = false)
    (r0 : w.cell? ⟨Rb, 0, none⟩ = some c0) (r1 : w.cell? ⟨Rb, 1, none⟩ = some c1) (r2 : w.cell? ⟨Rb, 2, none⟩ = some c2) (r3 : w.cell? ⟨Rb, 3, none⟩ = some c3) (r4 : w.cell? ⟨Rb, 4, none⟩ = some c4) (r5 : w.cell? ⟨Rb, 5, none⟩ = some c5) (r6 : w.cell? ⟨Rb, 6, none⟩ = some c6) (rf : ∀ o, w.frozen? ⟨Rb, o, none⟩ = false) (hm : m ≤ 100)
    (H : ∀ b, b.defers = a.defers → b.tmps[10]? = some (.pointer (some ⟨Rb, 0, none⟩)) → Q .ret b (put7 (w.setCell ⟨Bf, 2, none⟩ (.int .i64 4)) Rb (.slice F nF cF) (.bool fa) (.int .i64 4) (.int .i64 fs) (.int .i64 fo) (.slice none 0 0) (.int .i64 sp))) : lf22.wp Tryd.prog Q a w := by
  have k5 := at_of hs (by decide) h5
  have k15 := at_of hs (by decide) h15
  have k18 := at_of hs (by decide) h18
  have k19 := at_of hs (by decide) h19
  have k13 := at_of hs (by decide) h13
  have i0 : (0 : Int) ≤ m := by omega
  have i2 : (m : Int) < (m : Int) + 1 := by omega
  have i3 : IntKind.i64.wrap (m : Int) = m := by rw [IntKind.wrap_i64]; omega
  have j0 : (0 : Int) ≤ k := by omega
  have j1 : (k : Int) < nh := by omega
  have nrf : Rb ≠ Bf := fun e => nfr e.symm
  have H13 := hid_mk h13
  have H16 := hid_mk h16
  have H10 := hid_mk h10
  clear h5 h15 h18 h19 h13 h16 h10
  subst hA
  unfold lf22 nd11 nd10 nd9 nd8 nd7 nd6 nd5 nd4 nd3 nd2 nd1 nd0 sw
  simp only [Tryd.f12, Option.getD_some, cBV, cAV, cI, cT, cE]
  refine wp_seq_k fun K0 h0 => ?_
  have HH0 := hid_mk h0
  clear h0
  go_wp2
  refine HH0.out _ _ ?_
  refine wp_seq_k fun K5 h5 => ?_
  have HH5 := hid_mk h5
  clear h5
  go_wp2
  refine HH5.out _ _ ?_
  refine wp_seq_k fun K1 h1 => ?_
  refine wp_seq_k fun K2 h2 => ?_
  have HH2 := hid_mk h2
  clear h1 h2
  go_wp2
  refine HH2.out _ _ ?_
  refine wp_cond_true (by simp [Act.eval, hs]) ?_
  refine wp_seq_k fun K3 h3 => ?_
  have HH3 := hid_mk h3
  clear h3
  go_wp2
  refine HH3.out _ _ ?_
  refine wp_seq_k fun K4 h4 => ?_
  have HH4 := hid_mk h4
  clear h4
  refine fall_end (c0 := c0) (c1 := c1) (c2 := c2) (c3 := c3) (c4 := c4) (c5 := c5) (c6 := c6) (Bf := Bf) (Rb := Rb) (nF := nF) (cF := cF) (F := F) (fa := fa) (fd := 4) (fs := fs) (fo := fo) (sp := sp) (by simp [hs]) (by decide) (by decide) (by simp [H13.out]) (by simp [H16.out]) (by simp [H10.out]) ?_ ?_ ?_ ?_ ?_ ?_ ?_ ?_ ?_ ?_ ?_ ?_ ?_ ?_
  all_goals try go_keep
  · exact cell_set (i := 2) f0
  · exact cell_set (i := 2) f1
  · exact cell_set (i := 2) f2
  · exact cell_set (i := 2) f3
  · exact cell_set (i := 2) f4
  · intro b hdf hb
    refine HH4.out _ _ ?_
    refine wp_ret ?_
    exact H b (hdf.trans rfl) hb
set_option maxHeartbeats 4000000 in
theorem lf22_big {C g m P0 gH oH nh ch na ca k : Nat} {AA : Option Addr} {tt ar : Int} (hs : a.tmps.size = 330) (h15 : a.tmps[15]? = some (.slice A (m + 1) cs)) (h18 : a.tmps[18]? = some (.pointer (some ⟨C, 0, none⟩))) (h19 : a.tmps[19]? = some (.int .i64 ((m : Int) + 1))) (h5 : a.tmps[5]? = some (.pointer (some ⟨P0, 0, none⟩))) (hA : A = some ⟨g, 0, none⟩) (hx : w.cell? ⟨g, m, none⟩ = some (.int .i64 tt)) (hc : w.cell? ⟨C, 1, none⟩ = some (.int .i64 (k : Int))) (hp0 : w.cell? ⟨P0, 0, none⟩ = some (.slice (some ⟨gH, oH, none⟩) nh ch)) (hp1 : w.cell? ⟨P0, 1, none⟩ = some (.slice AA na ca)) (hha : w.cell? ⟨gH, oH + k * 2, none⟩ = some (.int .i64 ar)) (hk : k < nh) (hto : ¬ tt < 0) (hto2 : (na : Int) ≤ tt) {Bf Rb nF cF : Nat} {F : Option Addr} {fa : Bool} {fd fs fo sp : Int} {c0 c1 c2 c3 c4 c5 c6 : Value} (h13 : a.tmps[13]? = some (.pointer (some ⟨Bf, 0, none⟩))) (h16 : a.tmps[16]? = some (.int .i64 sp)) (h10 : a.tmps[10]? = some (.pointer (some ⟨Rb, 0, none⟩))) (nfr : Bf ≠ Rb)
    (f0 : w.cell? ⟨Bf, 0, none⟩ = some (.slice F nF cF)) (f1 : w.cell? ⟨Bf, 1, none⟩ = some (.bool fa)) (f2 : w.cell? ⟨Bf, 2, none⟩ = some (.int .i64 fd)) (f3 : w.cell? ⟨Bf, 3, none⟩ = some (.int .i64 fs)) (f4 : w.cell? ⟨Bf, 4, none⟩ = some (.int .i64 fo)) (ff : ∀ o, w.frozen? ⟨Bf, o, none⟩ = false)
    (r0 : w.cell? ⟨Rb, 0, none⟩ = some c0) (r1 : w.cell? ⟨Rb, 1, none⟩ = some c1) (r2 : w.cell? ⟨Rb, 2, none⟩ = some c2) (r3 : w.cell? ⟨Rb, 3, none⟩ = some c3) (r4 : w.cell? ⟨Rb, 4, none⟩ = some c4) (r5 : w.cell? ⟨Rb, 5, none⟩ = some c5) (r6 : w.cell? ⟨Rb, 6, none⟩ = some c6) (rf : ∀ o, w.frozen? ⟨Rb, o, none⟩ = false) (hm : m ≤ 100)
    (H : ∀ b, b.defers = a.defers → b.tmps[10]? = some (.pointer (some ⟨Rb, 0, none⟩)) → Q .ret b (put7 (w.setCell ⟨Bf, 2, none⟩ (.int .i64 4)) Rb (.slice F nF cF) (.bool fa) (.int .i64 4) (.int .i64 fs) (.int .i64 fo) (.slice none 0 0) (.int .i64 sp))) : lf22.wp Tryd.prog Q a w := by
  have k5 := at_of hs (by decide) h5
  have k15 := at_of hs (by decide) h15
  have k18 := at_of hs (by decide) h18
  have k19 := at_of hs (by decide) h19
  have k13 := at_of hs (by decide) h13
  have i0 : (0 : Int) ≤ m := by omega
  have i2 : (m : Int) < (m : Int) + 1 := by omega
  have i3 : IntKind.i64.wrap (m : Int) = m := by rw [IntKind.wrap_i64]; omega
  have j0 : (0 : Int) ≤ k := by omega
  have j1 : (k : Int) < nh := by omega
  have nrf : Rb ≠ Bf := fun e => nfr e.symm
  have H13 := hid_mk h13
  have H16 := hid_mk h16
  have H10 := hid_mk h10
  clear h5 h15 h18 h19 h13 h16 h10
  subst hA
  unfold lf22 nd11 nd10 nd9 nd8 nd7 nd6 nd5 nd4 nd3 nd2 nd1 nd0 sw
  simp only [Tryd.f12, Option.getD_some, cBV, cAV, cI, cT, cE]
  refine wp_seq_k fun K0 h0 => ?_
  have HH0 := hid_mk h0
  clear h0
  go_wp2
  refine HH0.out _ _ ?_
  refine wp_seq_k fun K5 h5 => ?_
  have HH5 := hid_mk h5
  clear h5
  go_wp2
  refine HH5.out _ _ ?_
  refine wp_seq_k fun K1 h1 => ?_
  refine wp_seq_k fun K2 h2 => ?_
  have HH2 := hid_mk h2
  clear h1 h2
  go_wp2
  refine HH2.out _ _ ?_
  refine wp_cond_true (by simp [Act.eval, hs]) ?_
  refine wp_seq_k fun K3 h3 => ?_
  have HH3 := hid_mk h3
  clear h3
  go_wp2
  refine HH3.out _ _ ?_
  refine wp_seq_k fun K4 h4 => ?_
  have HH4 := hid_mk h4
  clear h4
  refine fall_end (c0 := c0) (c1 := c1) (c2 := c2) (c3 := c3) (c4 := c4) (c5 := c5) (c6 := c6) (Bf := Bf) (Rb := Rb) (nF := nF) (cF := cF) (F := F) (fa := fa) (fd := 4) (fs := fs) (fo := fo) (sp := sp) (by simp [hs]) (by decide) (by decide) (by simp [H13.out]) (by simp [H16.out]) (by simp [H10.out]) ?_ ?_ ?_ ?_ ?_ ?_ ?_ ?_ ?_ ?_ ?_ ?_ ?_ ?_
  all_goals try go_keep
  · exact cell_set (i := 2) f0
  · exact cell_set (i := 2) f1
  · exact cell_set (i := 2) f2
  · exact cell_set (i := 2) f3
  · exact cell_set (i := 2) f4
  · intro b hdf hb
    refine HH4.out _ _ ?_
    refine wp_ret ?_
    exact H b (hdf.trans rfl) hb
end
end Go.Proofs.YtfbeiedhdmndnaaDoor
namespace Go.Proofs.YtfbeiedhdmndnaaDoor
open Go.RowKit
attribute [local go_sem ↓] Go.wp_at_zero Go.wp_at_succ
section
variable {a : Act} {Q : Exit → Act → World → Prop} {w w1 : World} {A An : Option Addr} {cs cn : Nat} {Bn gR : Nat} {l : PLoc} {vr : Value} {us : List Value} {s : MS}
theorem ints_mid {base g n c d ar : Nat} {W : World} {L : List Int} (h : OwnIV base W (.slice (some ⟨g, 0, none⟩) n c) L) (hl : d + ar < L.length) (hL : L.length ≤ 1000) : Ints (fun _ => True) W (.slice (some ⟨g, d, none⟩) ar (c - d)) ((L.drop d).take ar) := by
  have e : ((L.drop d).take ar).length = ar := by simp; omega
  obtain ⟨x0, hx0⟩ := at_lt (l := L) (k := 0) (by omega)
  obtain ⟨g', e', _, hlt, _, _, hc⟩ := h.cell hx0
  cases e'
  refine ⟨_, c - d, by rw [e], by omega, by omega, Or.inr ⟨g, d, rfl, trivial, hlt, fun k x hx => ?_⟩⟩
  have hk : k < ar := by have := (List.getElem?_eq_some_iff.1 hx).1; omega
  rw [List.getElem?_take, if_pos hk, List.getElem?_drop] at hx
  obtain ⟨g', e', _, _, h5, _⟩ := h.cell hx
  cases e'
  show W.cell? ⟨g, d + k * 1, none⟩ = _
  rw [Nat.mul_one]; exact h5
theorem run_note2 {W : World} {B : Nat} {vs vn u : Value} {n : PNte} (ty : TypeId) (h : RS w1 Bn gR l vr vs vn us s w) (hb : Below w.heap.size w W) (hB : W.heap[B]? = some (.cells #[.int .i64 n.to, .int .i64 n.hd, u] 50)) (hu : Ints (fun b => w.heap.size ≤ b) W u n.args) (hl : s.notes.length ≤ 1000) :
    ∃ g cap W', (Builtin.append_ #[24, 24] ty #[vn, .slice (some ⟨B, 0, none⟩) 1 1]).run Tryd.prog W = .ok (.slice (some ⟨g, 0, none⟩) (s.notes.length + 1) cap) W' ∧ NA w1 Bn gR l vr vs us s n u (.slice (some ⟨g, 0, none⟩) (s.notes.length + 1) cap) W' ∧ ∀ b, b < W.heap.size → vn.ownBlock ≠ some b → W'.heap[b]? = W.heap[b]? := by
  obtain ⟨g, cap, W', hr, hna⟩ := run_note ty h hb hB hu hl
  refine ⟨g, cap, W', hr, hna, ?_⟩
  obtain ⟨i0, hi0, hz0, hz1, hz2⟩ := info_parts infoNt
  have hW := h.below hb
  obtain ⟨g2, cap2, W2, hr2, ho, hg, hat, _⟩ := run_append_lies (P := Tryd.prog) W 24 ty w1.heap.size 50 i0 _ 3 40 Tryd.underlying24 hi0 hz0 hz1 hz2 rfl (by decide) vn s.notes.length _ hW.nt.own ⟨B, 0, none⟩ 1 1 [.int .i64 n.to, .int .i64 n.hd, u] rfl (fun j v hv => World.news_of_block hB j v (by simpa using hv))
    (fun v hv => by
      obtain ⟨A, c, rfl, _⟩ := hu.form
      simp only [List.mem_cons, List.not_mem_nil, or_false] at hv
      rcases hv with rfl | rfl | rfl <;> rfl) (by decide) (by unfold maxLen; omega) (by omega) hW.sz W.heap.size rfl
  rw [hr] at hr2
  injection hr2 with e1 e2
  subst e2
  exact fun b hb hn => hg.block b hb fun e => hn e.symm
theorem step_note2 {W : World} {B : Nat} {vs vn u : Value} {n : PNte} {ops : Array Oper} {o : Oper} {ac : Act} {K : Act → World → Prop} (hgd : o.guard = none) (a x : Operand) (ho : o.op = .call { callee := .builtin .append, args := #[a, x], argTypes := #[24, 24] }) {E : Prop} (h : RS w1 Bn gR l vr vs vn us s w) (hs : ac.eval a = vn) (hx : ac.eval x = .slice (some ⟨B, 0, none⟩) 1 1)
    (hb : Below w.heap.size w W) (hB : W.heap[B]? = some (.cells #[.int .i64 n.to, .int .i64 n.hd, u] 50)) (hu : Ints (fun b => w.heap.size ≤ b) W u n.args) (hl : s.notes.length ≤ 1000)
    (hK : ∀ g cap W', NA w1 Bn gR l vr vs us s n u (.slice (some ⟨g, 0, none⟩) (s.notes.length + 1) cap) W' → (∀ b, b < W.heap.size → vn.ownBlock ≠ some b → W'.heap[b]? = W.heap[b]?) → K (ac.put o.dst (.slice (some ⟨g, 0, none⟩) (s.notes.length + 1) cap)) W') :
    if Region.wanted o (yielded ops ac.tmps) = true then Oper.wp Tryd.prog o ac W K Q else E := by
  have hw : Region.wanted o (yielded ops ac.tmps) = true := by simp [Region.wanted, hgd]
  rw [if_pos hw]
  obtain ⟨g, cap, W', hr, hna, hk⟩ := run_note2 o.type h hb hB hu hl
  unfold Oper.wp execOp
  simp only [ho, resolve, invoke, builtin, Sem.run_bind, Sem.run_pure, Result.andThen_ok, List.map_toArray, List.map_cons, List.map_nil, hs, hx, hr]
  exact hK g cap W' hna hk
set_option maxHeartbeats 8000000 in
theorem lf22_on {C g m P0 gH oH nh ch na ca k ar tt : Nat} {AA : Option Addr} (hs : a.tmps.size = 330) (h15 : a.tmps[15]? = some (.slice A (m + 1) cs)) (h18 : a.tmps[18]? = some (.pointer (some ⟨C, 0, none⟩))) (h19 : a.tmps[19]? = some (.int .i64 ((m : Int) + 1))) (h14 : a.tmps[14]? = some (.slice An s.notes.length cn)) (h5 : a.tmps[5]? = some (.pointer (some ⟨P0, 0, none⟩))) (hA : A = some ⟨g, 0, none⟩) (hx : w.cell? ⟨g, m, none⟩ = some (.int .i64 (tt : Int))) (hc : w.cell? ⟨C, 1, none⟩ = some (.int .i64 (k : Int))) (hzC : C < w.heap.size) (hp0 : w.cell? ⟨P0, 0, none⟩ = some (.slice (some ⟨gH, oH, none⟩) nh ch)) (hp1 : w.cell? ⟨P0, 1, none⟩ = some (.slice AA na ca)) (hha : w.cell? ⟨gH, oH + k * 2, none⟩ = some (.int .i64 (ar : Int))) (hk : k < nh) (hCn : (Value.slice An s.notes.length cn).ownBlock ≠ some C) (hto : tt < na) (har : ar ≤ m) (hm : m ≤ 100) (hcs : m + 1 ≤ cs)
    (hsl : s.st.length = m + 1) (hr : RS w1 Bn gR l vr (.slice A (m + 1) cs) (.slice An s.notes.length cn) us s w) (hl : s.notes.length ≤ 1000)
    (H : ∀ b u Ax cx W', NA w1 Bn gR l vr (.slice A (m + 1) cs) us s ⟨(tt : Int), (k : Int), (s.st.reverse.drop (m - ar)).take ar⟩ u (.slice Ax (s.notes.length + 1) cx) W' → Stay a b → b.tmps[14]? = some (.slice Ax (s.notes.length + 1) cx) → b.tmps[15]? = some (.slice A (m - ar) cs) → b.tmps[17]? = a.tmps[17]? → Q .normal b W') : lf22.wp Tryd.prog Q a w := by
  have k5 := at_of hs (by decide) h5
  have k15 := at_of hs (by decide) h15
  have k18 := at_of hs (by decide) h18
  have k19 := at_of hs (by decide) h19
  have k14 := at_of hs (by decide) h14
  have i0 : (0 : Int) ≤ m := by omega
  have i2 : (m : Int) < (m : Int) + 1 := by omega
  have i3 : IntKind.i64.wrap (m : Int) = m := by rw [IntKind.wrap_i64]; omega
  have j0 : (0 : Int) ≤ k := by omega
  have j1 : (k : Int) < nh := by omega
  have q0 : ¬ (tt : Int) < 0 := by omega
  have q1 : ¬ (na : Int) ≤ (tt : Int) := by omega
  obtain ⟨d, hd⟩ : ∃ d, m = d + ar := ⟨m - ar, by omega⟩
  have r0 : IntKind.i64.wrap ((m : Int) - (ar : Int)) = (d : Int) := by rw [IntKind.wrap_i64]; omega
  have r1 : (0 : Int) ≤ d := by omega
  have r2 : (d : Int) ≤ m := by omega
  have r3 : (m : Int) ≤ cs := by omega
  have r4 : m - d = ar := by omega
  have r5 : (d : Int) ≤ cs := by omega
  have r6 : ¬ cs = d := by omega
  rw [show m - ar = d by omega] at H
  have HT0 : Hid (Ints (fun _ => True) (w.alloc (.cells #[] 3)).drew (.slice (some ⟨g, d, none⟩) ar (cs - d)) ((s.st.reverse.drop d).take ar)) := by
    subst hA
    exact Ints.below (ints_mid hr.st (by simp; omega) (by simp; omega)) (bAlloc (bRefl w) _).drew
  have HLN : Hid (((s.st.reverse.drop d).take ar).length = ar) := by show _ = _; simp; omega
  have HD := hid_mk hd
  have HR := hid_mk hr
  have HSL := hid_mk hsl
  clear h5 h15 h18 h19 h14 hr hsl hd
  subst hA
  unfold lf22 nd11 nd10 nd9 nd8 nd7 nd6 nd5 nd4 nd3 nd2 nd1 nd0 sw
  simp only [Tryd.f12, Option.getD_some, cBV, cAV, cI, cT, cE]
  refine wp_seq_k fun K0 h0 => ?_
  have HH0 := hid_mk h0
  clear h0
  go_wp2
  refine HH0.out _ _ ?_
  refine wp_seq_k fun K5 h5 => ?_
  have HH5 := hid_mk h5
  clear h5
  go_wp2
  refine HH5.out _ _ ?_
  refine wp_seq_k fun K1 h1 => ?_
  refine wp_seq_k fun K2 h2 => ?_
  have HH1 := hid_mk h1
  have HH2 := hid_mk h2
  clear h1 h2
  go_wp2
  refine HH2.out _ _ ?_
  refine wp_cond_false (by simp [Act.eval, hs, hto]) ?_
  go_wp2
  refine HH1.out _ _ ?_
  refine wp_seq_k fun K6 h6 => ?_
  have HH6 := hid_mk h6
  clear h6
  refine wp_region_noPanic ?_
  refine wp_region_held_drew (S := fun w' => w'.cell? ⟨C, 1, none⟩ = some (.int .i64 (k : Int))) (by kernel_rfl) ?_ (fun hHeld => ?_)
  · try dsimp only
    go_keep
  refine wpAnyH_take (i := 0) (oi := ⟨some 276, .move (.tmp 14), 24, "vm.go:521", #[], none⟩) (v := ?_) rfl (by kernel_rfl) (by kernel_rfl) (by kernel_rfl) (fun _ _ _ h => h) (Or.inl ⟨by rfl, ?_⟩) (by assumption) ?_
  rotate_left
  · intro w hSw
    try dsimp only at hSw
    go_simp
    try with_reducible rfl
  try simp only [Act.put]
  refine wpAnyH_take (i := 1) (oi := ⟨some 277, .move (.tmp 24), 3, "vm.go:521", #[], none⟩) (v := ?_) rfl (by kernel_rfl) (by kernel_rfl) (by kernel_rfl) (fun _ _ _ h => h) (Or.inl ⟨by rfl, ?_⟩) (by assumption) ?_
  rotate_left
  · intro w hSw
    try dsimp only at hSw
    go_simp
    try with_reducible rfl
  try simp only [Act.put]
  refine wpAnyH_take (i := 2) (oi := ⟨some 278, .fieldAddr 68 (.tmp 18) 1, 0, "vm.go:521", #[], none⟩) (v := ?_) rfl (by kernel_rfl) (by kernel_rfl) (by kernel_rfl) (fun _ _ _ h => h) (Or.inl ⟨by rfl, ?_⟩) (by assumption) ?_
  rotate_left
  · intro w hSw
    try dsimp only at hSw
    go_simp
    try with_reducible rfl
  try simp only [Act.put]
  refine wpAnyH_take (i := 3) (oi := ⟨some 279, .load 3 (.tmp 278), 3, "vm.go:521", #[⟨2, .data⟩], none⟩) (v := ?_) rfl (by kernel_rfl) (by kernel_rfl) (by kernel_rfl) (fun _ _ _ h => h) (Or.inl ⟨by rfl, ?_⟩) (by assumption) ?_
  rotate_left
  · intro w hSw
    try dsimp only at hSw
    go_simp
    try with_reducible rfl
  try simp only [Act.put]
  refine wpAnyH_take (i := 5) (oi := ⟨some 281, .move (.tmp 15), 27, "vm.go:521", #[], none⟩) (v := ?_) rfl (by kernel_rfl) (by kernel_rfl) (by kernel_rfl) (fun _ _ _ h => h) (Or.inl ⟨by rfl, ?_⟩) (by assumption) ?_
  rotate_left
  · intro w hSw
    try dsimp only at hSw
    go_simp
    try with_reducible rfl
  try simp only [Act.put]
  refine wpAnyH_take (i := 6) (oi := ⟨some 282, .move (.tmp 19), 3, "vm.go:521", #[], none⟩) (v := ?_) rfl (by kernel_rfl) (by kernel_rfl) (by kernel_rfl) (fun _ _ _ h => h) (Or.inl ⟨by rfl, ?_⟩) (by assumption) ?_
  rotate_left
  · intro w hSw
    try dsimp only at hSw
    go_simp
    try with_reducible rfl
  try simp only [Act.put]
  refine wpAnyH_take (i := 7) (oi := ⟨some 283, .binOp .sub 3 (.tmp 282) (.const (.int .i64 1)) 3, 3, "vm.go:521", #[⟨6, .data⟩], none⟩) (v := ?_) rfl (by kernel_rfl) (by kernel_rfl) (by kernel_rfl) (fun _ _ _ h => h) (Or.inl ⟨by rfl, ?_⟩) (by assumption) ?_
  rotate_left
  · intro w hSw
    try dsimp only at hSw
    go_simp
    try with_reducible rfl
  try simp only [Act.put]
  refine wpAnyH_take (i := 8) (oi := ⟨some 284, .move (.tmp 23), 3, "vm.go:521", #[], none⟩) (v := ?_) rfl (by kernel_rfl) (by kernel_rfl) (by kernel_rfl) (fun _ _ _ h => h) (Or.inl ⟨by rfl, ?_⟩) (by assumption) ?_
  rotate_left
  · intro w hSw
    try dsimp only at hSw
    go_simp
    try with_reducible rfl
  try simp only [Act.put]
  refine wpAnyH_take (i := 9) (oi := ⟨some 285, .binOp .sub 3 (.tmp 283) (.tmp 284) 3, 3, "vm.go:521", #[⟨7, .data⟩, ⟨8, .data⟩], none⟩) (v := ?_) rfl (by kernel_rfl) (by kernel_rfl) (by kernel_rfl) (fun _ _ _ h => h) (Or.inl ⟨by rfl, ?_⟩) (by assumption) ?_
  rotate_left
  · intro w hSw
    try dsimp only at hSw
    go_simp
    try with_reducible rfl
  try simp only [Act.put]
  refine wpAnyH_take (i := 10) (oi := ⟨some 286, .move (.tmp 19), 3, "vm.go:521", #[], none⟩) (v := ?_) rfl (by kernel_rfl) (by kernel_rfl) (by kernel_rfl) (fun _ _ _ h => h) (Or.inl ⟨by rfl, ?_⟩) (by assumption) ?_
  rotate_left
  · intro w hSw
    try dsimp only at hSw
    go_simp
    try with_reducible rfl
  try simp only [Act.put]
  refine wpAnyH_take (i := 11) (oi := ⟨some 287, .binOp .sub 3 (.tmp 286) (.const (.int .i64 1)) 3, 3, "vm.go:521", #[⟨10, .data⟩], none⟩) (v := ?_) rfl (by kernel_rfl) (by kernel_rfl) (by kernel_rfl) (fun _ _ _ h => h) (Or.inl ⟨by rfl, ?_⟩) (by assumption) ?_
  rotate_left
  · intro w hSw
    try dsimp only at hSw
    go_simp
    try with_reducible rfl
  try simp only [Act.put]
  refine wpAnyH_take (i := 12) (oi := ⟨some 288, .slice 27 (.tmp 281) (some (.tmp 285)) (some (.tmp 287)) none, 27, "vm.go:521", #[⟨5, .data⟩, ⟨9, .data⟩, ⟨11, .data⟩], none⟩) (v := ?_) rfl (by kernel_rfl) (by kernel_rfl) (by kernel_rfl) (fun _ _ _ h => h) (Or.inl ⟨by rfl, ?_⟩) (by assumption) ?_
  rotate_left
  · intro w hSw
    try dsimp only at hSw
    go_simp
    try with_reducible rfl
  try simp only [Act.put]
  refine wpAnyH_ready (rs := [4]) (by kernel_rfl) (by simp) ?_
  refine AllReadyH.cons (o := ⟨some 280, .buildSlice 27 0 #[], 27, "vm.go:521", #[], none⟩) rfl (fun K hK => ?_) AllReadyH.nil
  go_simp
  refine hK.out _ _ ?_ (fun hHeld => ?_)
  · try dsimp only
    go_keep
  clear hK K
  try simp only [Act.put]
  refine wpAnyH_ready (rs := [13]) (by kernel_rfl) (by simp) ?_
  refine AllReadyH.cons (o := ⟨some 289, .call { callee := .builtin .append, args := #[.tmp 280, .tmp 288], argTypes := #[27, 27] }, 27, "vm.go:521", #[⟨4, .data⟩, ⟨12, .data⟩], none⟩) rfl (fun K hK => ?_) AllReadyH.nil
  refine step_appIV (base := w.heap.size) (v := .slice (some ⟨w.heap.size, 0, none⟩) 0 0) (a := []) (A := some ⟨g, d, none⟩) (c := cs - d) (n := ar) (b := (s.st.reverse.drop d).take ar) rfl _ _ rfl (OwnIV.empty (heap_newD w) (Nat.le_refl _)) ?_ ?_ HT0.out ?_ ?_ ?_
  · simp [Act.eval, hs]
  · simp [Act.eval, hs]
  · rw [HLN.out]; simp; omega
  · simp
  rintro A1 c1 W1 hi1
  have hla : ([] : List Int).length + ((s.st.reverse.drop d).take ar).length = ar := by rw [HLN.out]; simp
  rw [hla, List.nil_append] at hi1
  rw [hla]
  clear hla
  have HI1 := hid_mk hi1
  clear hi1
  have HB1 : Hid (Below w.heap.size w W1) := grown_low (w := w) (wr := (w.alloc (.cells #[] 3)).drew) (bAlloc (bRefl w) _).drew HI1.out.2.1 (fun g e => by have e' : w.heap.size = g := Option.some.inj e; omega)
  refine hK.out _ _ ?_ (fun hHeld => ?_)
  · try dsimp only
    exact (HB1.out.cell (p := ⟨C, 1, none⟩) hzC).trans hc
  clear hK K
  try simp only [Act.put]
  refine wpAnyH_take (i := 14) (oi := ⟨some 290, .build 50 #[(0, .tmp 277), (1, .tmp 279), (2, .tmp 289)], 50, "vm.go:521", #[⟨1, .data⟩, ⟨3, .data⟩, ⟨13, .data⟩], none⟩) (v := ?_) rfl (by kernel_rfl) (by kernel_rfl) (by kernel_rfl) (fun _ _ _ h => h) (Or.inl ⟨by rfl, ?_⟩) (by assumption) ?_
  rotate_left
  · intro w hSw
    try dsimp only at hSw
    go_simp
    try with_reducible rfl
  try simp only [Act.put]
  refine wpAnyH_ready (rs := [15]) (by kernel_rfl) (by simp) ?_
  refine AllReadyH.cons (o := ⟨some 291, .buildSlice 24 1 #[(0, .tmp 290)], 24, "vm.go:521", #[⟨14, .data⟩], none⟩) rfl (fun K hK => ?_) AllReadyH.nil
  go_simp
  refine hK.out _ _ ?_ (fun hHeld => ?_)
  · try dsimp only
    go_keep
  clear hK K
  try simp only [Act.put]
  refine wpAnyH_ready (rs := [16]) (by kernel_rfl) (by simp) ?_
  refine AllReadyH.cons (o := ⟨some 292, .call { callee := .builtin .append, args := #[.tmp 276, .tmp 291], argTypes := #[24, 24] }, 24, "vm.go:521", #[⟨0, .data⟩, ⟨15, .data⟩, ⟨13, .chain⟩], none⟩) rfl (fun K hK => ?_) AllReadyH.nil
  have hB2 := bTrans HB1.out (bAlloc (bRefl W1) (.cells #[.int .i64 (tt : Int), .int .i64 (k : Int), .slice A1 ar c1] 50))
  refine step_note2 (n := ⟨(tt : Int), (k : Int), (s.st.reverse.drop d).take ar⟩) (B := W1.heap.size) (u := .slice A1 ar c1) rfl _ _ rfl HR.out ?_ ?_ hB2 (heap_new W1 _) (Ints.below (Ints.weak (HI1.out.1.ints (by rw [HLN.out]; omega)) fun _ h => h.1) (bAlloc (bRefl W1) _)) hl ?_
  · simp [Act.eval, hs]
  · simp [Act.eval, hs]
  rintro g2 c2 W2 hna hkb
  have HNA := hid_mk hna
  have HC2 : Hid (W2.cell? ⟨C, 1, none⟩ = some (.int .i64 (k : Int))) := (World.cell?_of_block (hkb C (Nat.lt_of_lt_of_le hzC hB2.size) hCn)).trans ((hB2.cell (p := ⟨C, 1, none⟩) hzC).trans hc)
  clear hna hkb hB2
  refine hK.out _ _ ?_ (fun hHeld => ?_)
  · try dsimp only
    exact HC2.out
  clear hK K
  try simp only [Act.put]
  refine wpAnyH_take (i := 17) (oi := ⟨some 14, .assign (.tmp 292), 24, "vm.go:521", #[⟨16, .data⟩, ⟨16, .chain⟩, ⟨0, .phase⟩, ⟨1, .phase⟩, ⟨2, .phase⟩, ⟨3, .phase⟩, ⟨4, .phase⟩, ⟨5, .phase⟩, ⟨6, .phase⟩, ⟨7, .phase⟩, ⟨8, .phase⟩, ⟨9, .phase⟩, ⟨10, .phase⟩, ⟨11, .phase⟩, ⟨12, .phase⟩, ⟨13, .phase⟩, ⟨14, .phase⟩, ⟨15, .phase⟩, ⟨16, .phase⟩], none⟩) (v := ?_) rfl (by kernel_rfl) (by kernel_rfl) (by kernel_rfl) (fun _ _ _ h => h) (Or.inl ⟨by rfl, ?_⟩) (by assumption) ?_
  rotate_left
  · intro w hSw
    try dsimp only at hSw
    go_simp
    try with_reducible rfl
  try simp only [Act.put]
  refine wpAnyH_done (by kernel_rfl) ?_ _
  refine NoPanic.normal ?_
  go_wp2
  refine HH6.out _ _ ?_
  go_wp2
  exact H _ _ _ _ _ HNA.out ⟨by simp [hs], rfl, by simp⟩ (by simp [hs]) (by simp [hs]) (by simp)
end
end Go.Proofs.YtfbeiedhdmndnaaDoor
namespace Go.Proofs.YtfbeiedhdmndnaaDoor
open Go.RowKit
attribute [local go_sem ↓] Go.wp_at_zero Go.wp_at_succ
section
variable {a : Act} {Q : Exit → Act → World → Prop} {w : World} {A : Option Addr} {cs base : Nat} {st : List Int}
theorem hpA (w : World) (o : Obj) : ((w.alloc o).drew).heap[w.heap.size]? = some o := heap_new w o
theorem hpB (w : World) (o q : Obj) : (((w.alloc o).alloc q).drew).heap[w.heap.size]? = some o := ((bAlloc (bRefl (w.alloc o)) q).block w.heap.size (by simp)).trans (heap_new w o)
theorem hpC (w : World) (o q : Obj) : (((w.alloc q).alloc o).drew).heap[w.heap.size + 1]? = some o := by
  have h := heap_new (w.alloc q) o
  have e : (w.alloc q).heap.size = w.heap.size + 1 := by simp
  rw [e] at h; exact h
set_option maxHeartbeats 8000000 in
theorem lf4_any {g m : Nat} {x y : Int} (hs : a.tmps.size = 330) (h15 : a.tmps[15]? = some (.slice A (m + 2) cs)) (h19 : a.tmps[19]? = some (.int .i64 ((m : Int) + 2))) (hA : A = some ⟨g, 0, none⟩) (hst : st.length = m + 2) (hx : w.cell? ⟨g, m, none⟩ = some (.int .i64 x)) (hy : w.cell? ⟨g, m + 1, none⟩ = some (.int .i64 y)) (own : OwnIV base w (.slice A st.length cs) st) (hm : m ≤ 100) (hcs : m ≤ cs)
    (H : ∀ b Ax cx W', OwnIV w.heap.size W' (.slice Ax (m + 2) cx) (st.take m ++ [y, x]) → Below w.heap.size w W' → Stay a b → b.tmps[14]? = a.tmps[14]? → b.tmps[15]? = some (.slice Ax (m + 2) cx) → b.tmps[17]? = a.tmps[17]? → Q .normal b W') : lf4.wp Tryd.prog Q a w := by
  have k15 := at_of hs (by decide) h15
  have k19 := at_of hs (by decide) h19
  have i0 : (0 : Int) ≤ m := by omega
  have i1 : (m : Int) ≤ cs := by omega
  have i2 : (m : Int) < (m : Int) + 2 := by omega
  have i4 : (m : Int) + 1 < (m : Int) + 2 := by omega
  have i5 : (0 : Int) ≤ (m : Int) + 1 := by omega
  have i3 : IntKind.i64.wrap (m : Int) = m := by rw [IntKind.wrap_i64]; omega
  have i7 : (m : Int) + 2 - 1 = (m : Int) + 1 := by omega
  have i9 : IntKind.i64.wrap ((m : Int) + 1) = (m : Int) + 1 := by rw [IntKind.wrap_i64]; omega
  have i10 : ((m : Int) + 1).toNat = m + 1 := by omega
  have HT : Hid (Ints (fun _ => True) w (.slice A m cs) (st.take m)) := ((own.take (m := m) (by omega)).ints (by simp; omega)).imp (fun _ _ => trivial) (Nat.le_refl _) fun _ _ _ _ _ h => h
  have HLN : Hid ((st.take m).length = m) := by show _ = _; simp; omega
  obtain ⟨x0, hx0⟩ := at_lt (l := st) (k := 0) (by omega)
  have hgz : g < w.heap.size := by
    obtain ⟨g', e', _, h3, _⟩ := own.cell hx0
    rw [hA] at e'
    cases e'
    exact h3
  clear h15 h19 own hst hx0 x0
  subst hA
  unfold lf4 nd3 nd2 nd1 nd0 sw
  simp only [Tryd.f12, Option.getD_some, cBV, cAV, cI, cT, cE]
  refine wp_region_noPanic ?_
  refine wp_region_held_drew (S := fun w' => w'.cell? ⟨g, m, none⟩ = some (.int .i64 x) ∧ w'.cell? ⟨g, m + 1, none⟩ = some (.int .i64 y)) (by kernel_rfl) ?_ (fun hHeld => ?_)
  · try dsimp only
    go_keep
  refine wpAnyH_take (i := 1) (oi := ⟨some 135, .move (.tmp 15), 27, "vm.go:488", #[], none⟩) (v := ?_) rfl (by kernel_rfl) (by kernel_rfl) (by kernel_rfl) (fun _ _ _ h => h) (Or.inl ⟨by rfl, ?_⟩) (by assumption) ?_
  rotate_left
  · intro w hSw
    try dsimp only at hSw
    go_simp
    try with_reducible rfl
  try simp only [Act.put]
  refine wpAnyH_take (i := 2) (oi := ⟨some 136, .move (.tmp 19), 3, "vm.go:488", #[], none⟩) (v := ?_) rfl (by kernel_rfl) (by kernel_rfl) (by kernel_rfl) (fun _ _ _ h => h) (Or.inl ⟨by rfl, ?_⟩) (by assumption) ?_
  rotate_left
  · intro w hSw
    try dsimp only at hSw
    go_simp
    try with_reducible rfl
  try simp only [Act.put]
  refine wpAnyH_take (i := 3) (oi := ⟨some 137, .binOp .sub 3 (.tmp 136) (.const (.int .i64 2)) 3, 3, "vm.go:488", #[⟨2, .data⟩], none⟩) (v := ?_) rfl (by kernel_rfl) (by kernel_rfl) (by kernel_rfl) (fun _ _ _ h => h) (Or.inl ⟨by rfl, ?_⟩) (by assumption) ?_
  rotate_left
  · intro w hSw
    try dsimp only at hSw
    go_simp
    try with_reducible rfl
  try simp only [Act.put]
  refine wpAnyH_take (i := 4) (oi := ⟨some 138, .slice 27 (.tmp 135) none (some (.tmp 137)) none, 27, "vm.go:488", #[⟨1, .data⟩, ⟨3, .data⟩], none⟩) (v := ?_) rfl (by kernel_rfl) (by kernel_rfl) (by kernel_rfl) (fun _ _ _ h => h) (Or.inl ⟨by rfl, ?_⟩) (by assumption) ?_
  rotate_left
  · intro w hSw
    try dsimp only at hSw
    go_simp
    try with_reducible rfl
  try simp only [Act.put]
  refine wpAnyH_take (i := 6) (oi := ⟨some 140, .move (.tmp 15), 27, "vm.go:488", #[], none⟩) (v := ?_) rfl (by kernel_rfl) (by kernel_rfl) (by kernel_rfl) (fun _ _ _ h => h) (Or.inl ⟨by rfl, ?_⟩) (by assumption) ?_
  rotate_left
  · intro w hSw
    try dsimp only at hSw
    go_simp
    try with_reducible rfl
  try simp only [Act.put]
  refine wpAnyH_take (i := 7) (oi := ⟨some 141, .move (.tmp 19), 3, "vm.go:488", #[], none⟩) (v := ?_) rfl (by kernel_rfl) (by kernel_rfl) (by kernel_rfl) (fun _ _ _ h => h) (Or.inl ⟨by rfl, ?_⟩) (by assumption) ?_
  rotate_left
  · intro w hSw
    try dsimp only at hSw
    go_simp
    try with_reducible rfl
  try simp only [Act.put]
  refine wpAnyH_take (i := 8) (oi := ⟨some 142, .binOp .sub 3 (.tmp 141) (.const (.int .i64 1)) 3, 3, "vm.go:488", #[⟨7, .data⟩], none⟩) (v := ?_) rfl (by kernel_rfl) (by kernel_rfl) (by kernel_rfl) (fun _ _ _ h => h) (Or.inl ⟨by rfl, ?_⟩) (by assumption) ?_
  rotate_left
  · intro w hSw
    try dsimp only at hSw
    go_simp
    try with_reducible rfl
  try simp only [Act.put]
  refine wpAnyH_take (i := 9) (oi := ⟨some 143, .indexAddr 27 (.tmp 140) (.tmp 142), 0, "vm.go:488", #[⟨6, .data⟩, ⟨8, .data⟩], none⟩) (v := ?_) rfl (by kernel_rfl) (by kernel_rfl) (by kernel_rfl) (fun _ _ _ h => h) (Or.inl ⟨by rfl, ?_⟩) (by assumption) ?_
  rotate_left
  · intro w hSw
    try dsimp only at hSw
    go_simp
    try with_reducible rfl
  try simp only [Act.put]
  refine wpAnyH_take (i := 10) (oi := ⟨some 144, .load 3 (.tmp 143), 3, "vm.go:488", #[⟨9, .data⟩], none⟩) (v := ?_) rfl (by kernel_rfl) (by kernel_rfl) (by kernel_rfl) (fun _ _ _ h => h) (Or.inl ⟨by rfl, ?_⟩) (by assumption) ?_
  rotate_left
  · intro w hSw
    try dsimp only at hSw
    go_simp
    try with_reducible rfl
  try simp only [Act.put]
  refine wpAnyH_take (i := 11) (oi := ⟨some 145, .move (.tmp 15), 27, "vm.go:488", #[], none⟩) (v := ?_) rfl (by kernel_rfl) (by kernel_rfl) (by kernel_rfl) (fun _ _ _ h => h) (Or.inl ⟨by rfl, ?_⟩) (by assumption) ?_
  rotate_left
  · intro w hSw
    try dsimp only at hSw
    go_simp
    try with_reducible rfl
  try simp only [Act.put]
  refine wpAnyH_take (i := 12) (oi := ⟨some 146, .move (.tmp 19), 3, "vm.go:488", #[], none⟩) (v := ?_) rfl (by kernel_rfl) (by kernel_rfl) (by kernel_rfl) (fun _ _ _ h => h) (Or.inl ⟨by rfl, ?_⟩) (by assumption) ?_
  rotate_left
  · intro w hSw
    try dsimp only at hSw
    go_simp
    try with_reducible rfl
  try simp only [Act.put]
  refine wpAnyH_take (i := 13) (oi := ⟨some 147, .binOp .sub 3 (.tmp 146) (.const (.int .i64 2)) 3, 3, "vm.go:488", #[⟨12, .data⟩], none⟩) (v := ?_) rfl (by kernel_rfl) (by kernel_rfl) (by kernel_rfl) (fun _ _ _ h => h) (Or.inl ⟨by rfl, ?_⟩) (by assumption) ?_
  rotate_left
  · intro w hSw
    try dsimp only at hSw
    go_simp
    try with_reducible rfl
  try simp only [Act.put]
  refine wpAnyH_take (i := 14) (oi := ⟨some 148, .indexAddr 27 (.tmp 145) (.tmp 147), 0, "vm.go:488", #[⟨11, .data⟩, ⟨13, .data⟩], none⟩) (v := ?_) rfl (by kernel_rfl) (by kernel_rfl) (by kernel_rfl) (fun _ _ _ h => h) (Or.inl ⟨by rfl, ?_⟩) (by assumption) ?_
  rotate_left
  · intro w hSw
    try dsimp only at hSw
    go_simp
    try with_reducible rfl
  try simp only [Act.put]
  refine wpAnyH_take (i := 15) (oi := ⟨some 149, .load 3 (.tmp 148), 3, "vm.go:488", #[⟨14, .data⟩], none⟩) (v := ?_) rfl (by kernel_rfl) (by kernel_rfl) (by kernel_rfl) (fun _ _ _ h => h) (Or.inl ⟨by rfl, ?_⟩) (by assumption) ?_
  rotate_left
  · intro w hSw
    try dsimp only at hSw
    go_simp
    try with_reducible rfl
  try simp only [Act.put]
  refine wpAnyH_ready (rs := [0, 16]) (by kernel_rfl) (by simp) ?_
  refine AllReadyH.cons (o := ⟨some 134, .buildSlice 27 0 #[], 27, "vm.go:488", #[], none⟩) rfl (fun K hK => ?_) (AllReadyH.cons (o := ⟨some 150, .buildSlice 27 2 #[(0, .tmp 144), (1, .tmp 149)], 27, "vm.go:488", #[⟨10, .data⟩, ⟨15, .data⟩], none⟩) rfl (fun K hK => ?_) AllReadyH.nil)
  · go_simp
    refine hK.out _ _ ?_ (fun hHeld => ?_)
    · try dsimp only
      go_keep
    clear hK K
    try simp only [Act.put]
    refine wpAnyH_ready (rs := [5, 16]) (by kernel_rfl) (by simp) ?_
    refine AllReadyH.cons (o := ⟨some 139, .call { callee := .builtin .append, args := #[.tmp 134, .tmp 138], argTypes := #[27, 27] }, 27, "vm.go:488", #[⟨0, .data⟩, ⟨4, .data⟩], none⟩) rfl (fun K hK => ?_) (AllReadyH.cons (o := ⟨some 150, .buildSlice 27 2 #[(0, .tmp 144), (1, .tmp 149)], 27, "vm.go:488", #[⟨10, .data⟩, ⟨15, .data⟩], none⟩) rfl (fun K hK => ?_) AllReadyH.nil)
    · first
      | (refine step_appIV (base := w.heap.size) (v := .slice (some ⟨w.heap.size, 0, none⟩) 0 0) (a := []) (A := some ⟨g, 0, none⟩) (c := cs) (n := m) (b := st.take m) rfl _ _ rfl (OwnIV.empty (hpA w _) (Nat.le_refl _)) (by simp [Act.eval, hs]) (by simp [Act.eval, hs]) (Ints.below HT.out (bAlloc (bRefl w) _).drew) (by rw [HLN.out]; simp; omega) (by simp <;> omega) ?_
         rintro A1 c1 W1 hi1
         have hla : ([] : List Int).length + (st.take m).length = m := by rw [HLN.out]; simp
         rw [hla, List.nil_append] at hi1
         rw [hla]
         clear hla
         have HI1 := hid_mk hi1.1
         have HB1 : Hid (Below w.heap.size w W1) := grown_low (w := w) (bAlloc (bRefl w) _).drew hi1.2.1 (fun g e => by have e' : w.heap.size = g := Option.some.inj e; omega)
         clear hi1)
      | (refine step_appIV (base := w.heap.size) (v := .slice (some ⟨w.heap.size, 0, none⟩) 0 0) (a := []) (A := some ⟨g, 0, none⟩) (c := cs) (n := m) (b := st.take m) rfl _ _ rfl (OwnIV.empty (hpB w _ _) (Nat.le_refl _)) (by simp [Act.eval, hs]) (by simp [Act.eval, hs]) (Ints.below HT.out (bTrans (bAlloc (bRefl w) _) (bAlloc (bRefl _) _)).drew) (by rw [HLN.out]; simp; omega) (by simp <;> omega) ?_
         rintro A1 c1 W1 hi1
         have hla : ([] : List Int).length + (st.take m).length = m := by rw [HLN.out]; simp
         rw [hla, List.nil_append] at hi1
         rw [hla]
         clear hla
         have HI1 := hid_mk hi1.1
         have HB1 : Hid (Below w.heap.size w W1) := grown_low (w := w) (bTrans (bAlloc (bRefl w) _) (bAlloc (bRefl _) _)).drew hi1.2.1 (fun g e => by have e' : w.heap.size = g := Option.some.inj e; omega)
         have HP1 : Hid (W1.heap[w.heap.size + 1]? = some (.cells #[.int .i64 y, .int .i64 x] 3)) := (hi1.2.1.block _ (by simp <;> omega) fun e => by have e' : w.heap.size + 1 = w.heap.size := Option.some.inj e; omega).trans (hpC w _ _)
         clear hi1)
      | (refine step_appIV (base := w.heap.size) (v := .slice (some ⟨w.heap.size + 1, 0, none⟩) 0 0) (a := []) (A := some ⟨g, 0, none⟩) (c := cs) (n := m) (b := st.take m) rfl _ _ rfl (OwnIV.empty (hpC w _ _) (Nat.le_succ _)) (by simp [Act.eval, hs]) (by simp [Act.eval, hs]) (Ints.below HT.out (bTrans (bAlloc (bRefl w) _) (bAlloc (bRefl _) _)).drew) (by rw [HLN.out]; simp; omega) (by simp <;> omega) ?_
         rintro A1 c1 W1 hi1
         have hla : ([] : List Int).length + (st.take m).length = m := by rw [HLN.out]; simp
         rw [hla, List.nil_append] at hi1
         rw [hla]
         clear hla
         have HI1 := hid_mk hi1.1
         have HB1 : Hid (Below w.heap.size w W1) := grown_low (w := w) (bTrans (bAlloc (bRefl w) _) (bAlloc (bRefl _) _)).drew hi1.2.1 (fun g e => by have e' : w.heap.size + 1 = g := Option.some.inj e; omega)
         have HP1 : Hid (W1.heap[w.heap.size]? = some (.cells #[.int .i64 y, .int .i64 x] 3)) := (hi1.2.1.block _ (by simp <;> omega) fun e => by have e' : w.heap.size = w.heap.size + 1 := Option.some.inj e; omega).trans (hpB w _ _)
         clear hi1)
      refine hK.out _ _ ?_ (fun hHeld => ?_)
      · try dsimp only
        exact ⟨(HB1.out.cell (p := ⟨g, m, none⟩) hgz).trans hx, (HB1.out.cell (p := ⟨g, m + 1, none⟩) hgz).trans hy⟩
      clear hK K
      try simp only [Act.put]
      refine wpAnyH_ready (rs := [16]) (by kernel_rfl) (by simp) ?_
      refine AllReadyH.cons (o := ⟨some 150, .buildSlice 27 2 #[(0, .tmp 144), (1, .tmp 149)], 27, "vm.go:488", #[⟨10, .data⟩, ⟨15, .data⟩], none⟩) rfl (fun K hK => ?_) AllReadyH.nil
      go_simp
      refine hK.out _ _ ?_ (fun hHeld => ?_)
      · try dsimp only
        go_keep
      clear hK K
      try simp only [Act.put]
      refine wpAnyH_ready (rs := [17]) (by kernel_rfl) (by simp) ?_
      refine AllReadyH.cons (o := ⟨some 151, .call { callee := .builtin .append, args := #[.tmp 139, .tmp 150], argTypes := #[27, 27] }, 27, "vm.go:488", #[⟨5, .data⟩, ⟨16, .data⟩, ⟨5, .chain⟩], none⟩) rfl (fun K hK => ?_) AllReadyH.nil
      first
      | (refine step_appIV (base := w.heap.size) (v := .slice A1 m c1) (a := st.take m) (A := some ⟨_, 0, none⟩) (c := 2) (n := 2) (b := [y, x]) rfl _ _ rfl (HI1.out.same fun g hg => (bAlloc (bRefl W1) (.cells #[.int .i64 y, .int .i64 x] 3)).block g (own_lt HI1.out hg).2) (by simp [Act.eval, hs]) (by simp [Act.eval, hs]) (ints2V (heap_new W1 _)) (by rw [HLN.out]; simp; omega) (Nat.le_trans HB1.out.size (bAlloc (bRefl W1) (.cells #[.int .i64 y, .int .i64 x] 3)).size) ?_
         rintro A2 c2 W2 hi2
         have hla : (st.take m).length + ([y, x] : List Int).length = m + 2 := by rw [HLN.out]; rfl
         rw [hla] at hi2
         rw [hla]
         clear hla
         have HO2 := hid_mk hi2.1
         have HB2 : Hid (Below w.heap.size w W2) := grown_low (w := w) (bTrans HB1.out (bAlloc (bRefl W1) (.cells #[.int .i64 y, .int .i64 x] 3))) hi2.2.1 (fun g e => (own_lt HI1.out e).1)
         clear hi2)
      | (refine step_appIV (base := w.heap.size) (v := .slice A1 m c1) (a := st.take m) (A := some ⟨_, 0, none⟩) (c := 2) (n := 2) (b := [y, x]) rfl _ _ rfl HI1.out (by simp [Act.eval, hs]) (by simp [Act.eval, hs]) (ints2V HP1.out) (by rw [HLN.out]; simp; omega) HB1.out.size ?_
         rintro A2 c2 W2 hi2
         have hla : (st.take m).length + ([y, x] : List Int).length = m + 2 := by rw [HLN.out]; rfl
         rw [hla] at hi2
         rw [hla]
         clear hla
         have HO2 := hid_mk hi2.1
         have HB2 : Hid (Below w.heap.size w W2) := grown_low (w := w) HB1.out hi2.2.1 (fun g e => (own_lt HI1.out e).1)
         clear hi2)
      refine hK.out _ _ ?_ (fun hHeld => ?_)
      · try dsimp only
        exact ⟨(HB2.out.cell (p := ⟨g, m, none⟩) hgz).trans hx, (HB2.out.cell (p := ⟨g, m + 1, none⟩) hgz).trans hy⟩
      clear hK K
      try simp only [Act.put]
      refine wpAnyH_take (i := 18) (oi := ⟨some 15, .assign (.tmp 151), 27, "vm.go:488", #[⟨17, .data⟩, ⟨17, .chain⟩, ⟨0, .phase⟩, ⟨1, .phase⟩, ⟨2, .phase⟩, ⟨3, .phase⟩, ⟨4, .phase⟩, ⟨5, .phase⟩, ⟨6, .phase⟩, ⟨7, .phase⟩, ⟨8, .phase⟩, ⟨9, .phase⟩, ⟨10, .phase⟩, ⟨11, .phase⟩, ⟨12, .phase⟩, ⟨13, .phase⟩, ⟨14, .phase⟩, ⟨15, .phase⟩, ⟨16, .phase⟩, ⟨17, .phase⟩], none⟩) (v := ?_) rfl (by kernel_rfl) (by kernel_rfl) (by kernel_rfl) (fun _ _ _ h => h) (Or.inl ⟨by rfl, ?_⟩) (by assumption) ?_
      rotate_left
      · intro w hSw
        try dsimp only at hSw
        go_simp
        try with_reducible rfl
      try simp only [Act.put]
      refine wpAnyH_done (by kernel_rfl) ?_ _
      refine NoPanic.normal ?_
      exact H _ _ _ _ HO2.out HB2.out ⟨by simp [hs], rfl, by simp⟩ (by simp) (by simp [hs]) (by simp)
    · go_simp
      refine hK.out _ _ ?_ (fun hHeld => ?_)
      · try dsimp only
        go_keep
      clear hK K
      try simp only [Act.put]
      refine wpAnyH_ready (rs := [5]) (by kernel_rfl) (by simp) ?_
      refine AllReadyH.cons (o := ⟨some 139, .call { callee := .builtin .append, args := #[.tmp 134, .tmp 138], argTypes := #[27, 27] }, 27, "vm.go:488", #[⟨0, .data⟩, ⟨4, .data⟩], none⟩) rfl (fun K hK => ?_) AllReadyH.nil
      first
      | (refine step_appIV (base := w.heap.size) (v := .slice (some ⟨w.heap.size, 0, none⟩) 0 0) (a := []) (A := some ⟨g, 0, none⟩) (c := cs) (n := m) (b := st.take m) rfl _ _ rfl (OwnIV.empty (hpA w _) (Nat.le_refl _)) (by simp [Act.eval, hs]) (by simp [Act.eval, hs]) (Ints.below HT.out (bAlloc (bRefl w) _).drew) (by rw [HLN.out]; simp; omega) (by simp <;> omega) ?_
         rintro A1 c1 W1 hi1
         have hla : ([] : List Int).length + (st.take m).length = m := by rw [HLN.out]; simp
         rw [hla, List.nil_append] at hi1
         rw [hla]
         clear hla
         have HI1 := hid_mk hi1.1
         have HB1 : Hid (Below w.heap.size w W1) := grown_low (w := w) (bAlloc (bRefl w) _).drew hi1.2.1 (fun g e => by have e' : w.heap.size = g := Option.some.inj e; omega)
         clear hi1)
      | (refine step_appIV (base := w.heap.size) (v := .slice (some ⟨w.heap.size, 0, none⟩) 0 0) (a := []) (A := some ⟨g, 0, none⟩) (c := cs) (n := m) (b := st.take m) rfl _ _ rfl (OwnIV.empty (hpB w _ _) (Nat.le_refl _)) (by simp [Act.eval, hs]) (by simp [Act.eval, hs]) (Ints.below HT.out (bTrans (bAlloc (bRefl w) _) (bAlloc (bRefl _) _)).drew) (by rw [HLN.out]; simp; omega) (by simp <;> omega) ?_
         rintro A1 c1 W1 hi1
         have hla : ([] : List Int).length + (st.take m).length = m := by rw [HLN.out]; simp
         rw [hla, List.nil_append] at hi1
         rw [hla]
         clear hla
         have HI1 := hid_mk hi1.1
         have HB1 : Hid (Below w.heap.size w W1) := grown_low (w := w) (bTrans (bAlloc (bRefl w) _) (bAlloc (bRefl _) _)).drew hi1.2.1 (fun g e => by have e' : w.heap.size = g := Option.some.inj e; omega)
         have HP1 : Hid (W1.heap[w.heap.size + 1]? = some (.cells #[.int .i64 y, .int .i64 x] 3)) := (hi1.2.1.block _ (by simp <;> omega) fun e => by have e' : w.heap.size + 1 = w.heap.size := Option.some.inj e; omega).trans (hpC w _ _)
         clear hi1)
      | (refine step_appIV (base := w.heap.size) (v := .slice (some ⟨w.heap.size + 1, 0, none⟩) 0 0) (a := []) (A := some ⟨g, 0, none⟩) (c := cs) (n := m) (b := st.take m) rfl _ _ rfl (OwnIV.empty (hpC w _ _) (Nat.le_succ _)) (by simp [Act.eval, hs]) (by simp [Act.eval, hs]) (Ints.below HT.out (bTrans (bAlloc (bRefl w) _) (bAlloc (bRefl _) _)).drew) (by rw [HLN.out]; simp; omega) (by simp <;> omega) ?_
         rintro A1 c1 W1 hi1
         have hla : ([] : List Int).length + (st.take m).length = m := by rw [HLN.out]; simp
         rw [hla, List.nil_append] at hi1
         rw [hla]
         clear hla
         have HI1 := hid_mk hi1.1
         have HB1 : Hid (Below w.heap.size w W1) := grown_low (w := w) (bTrans (bAlloc (bRefl w) _) (bAlloc (bRefl _) _)).drew hi1.2.1 (fun g e => by have e' : w.heap.size + 1 = g := Option.some.inj e; omega)
         have HP1 : Hid (W1.heap[w.heap.size]? = some (.cells #[.int .i64 y, .int .i64 x] 3)) := (hi1.2.1.block _ (by simp <;> omega) fun e => by have e' : w.heap.size = w.heap.size + 1 := Option.some.inj e; omega).trans (hpB w _ _)
         clear hi1)
      refine hK.out _ _ ?_ (fun hHeld => ?_)
      · try dsimp only
        exact ⟨(HB1.out.cell (p := ⟨g, m, none⟩) hgz).trans hx, (HB1.out.cell (p := ⟨g, m + 1, none⟩) hgz).trans hy⟩
      clear hK K
      try simp only [Act.put]
      refine wpAnyH_ready (rs := [17]) (by kernel_rfl) (by simp) ?_
      refine AllReadyH.cons (o := ⟨some 151, .call { callee := .builtin .append, args := #[.tmp 139, .tmp 150], argTypes := #[27, 27] }, 27, "vm.go:488", #[⟨5, .data⟩, ⟨16, .data⟩, ⟨5, .chain⟩], none⟩) rfl (fun K hK => ?_) AllReadyH.nil
      first
      | (refine step_appIV (base := w.heap.size) (v := .slice A1 m c1) (a := st.take m) (A := some ⟨_, 0, none⟩) (c := 2) (n := 2) (b := [y, x]) rfl _ _ rfl (HI1.out.same fun g hg => (bAlloc (bRefl W1) (.cells #[.int .i64 y, .int .i64 x] 3)).block g (own_lt HI1.out hg).2) (by simp [Act.eval, hs]) (by simp [Act.eval, hs]) (ints2V (heap_new W1 _)) (by rw [HLN.out]; simp; omega) (Nat.le_trans HB1.out.size (bAlloc (bRefl W1) (.cells #[.int .i64 y, .int .i64 x] 3)).size) ?_
         rintro A2 c2 W2 hi2
         have hla : (st.take m).length + ([y, x] : List Int).length = m + 2 := by rw [HLN.out]; rfl
         rw [hla] at hi2
         rw [hla]
         clear hla
         have HO2 := hid_mk hi2.1
         have HB2 : Hid (Below w.heap.size w W2) := grown_low (w := w) (bTrans HB1.out (bAlloc (bRefl W1) (.cells #[.int .i64 y, .int .i64 x] 3))) hi2.2.1 (fun g e => (own_lt HI1.out e).1)
         clear hi2)
      | (refine step_appIV (base := w.heap.size) (v := .slice A1 m c1) (a := st.take m) (A := some ⟨_, 0, none⟩) (c := 2) (n := 2) (b := [y, x]) rfl _ _ rfl HI1.out (by simp [Act.eval, hs]) (by simp [Act.eval, hs]) (ints2V HP1.out) (by rw [HLN.out]; simp; omega) HB1.out.size ?_
         rintro A2 c2 W2 hi2
         have hla : (st.take m).length + ([y, x] : List Int).length = m + 2 := by rw [HLN.out]; rfl
         rw [hla] at hi2
         rw [hla]
         clear hla
         have HO2 := hid_mk hi2.1
         have HB2 : Hid (Below w.heap.size w W2) := grown_low (w := w) HB1.out hi2.2.1 (fun g e => (own_lt HI1.out e).1)
         clear hi2)
      refine hK.out _ _ ?_ (fun hHeld => ?_)
      · try dsimp only
        exact ⟨(HB2.out.cell (p := ⟨g, m, none⟩) hgz).trans hx, (HB2.out.cell (p := ⟨g, m + 1, none⟩) hgz).trans hy⟩
      clear hK K
      try simp only [Act.put]
      refine wpAnyH_take (i := 18) (oi := ⟨some 15, .assign (.tmp 151), 27, "vm.go:488", #[⟨17, .data⟩, ⟨17, .chain⟩, ⟨0, .phase⟩, ⟨1, .phase⟩, ⟨2, .phase⟩, ⟨3, .phase⟩, ⟨4, .phase⟩, ⟨5, .phase⟩, ⟨6, .phase⟩, ⟨7, .phase⟩, ⟨8, .phase⟩, ⟨9, .phase⟩, ⟨10, .phase⟩, ⟨11, .phase⟩, ⟨12, .phase⟩, ⟨13, .phase⟩, ⟨14, .phase⟩, ⟨15, .phase⟩, ⟨16, .phase⟩, ⟨17, .phase⟩], none⟩) (v := ?_) rfl (by kernel_rfl) (by kernel_rfl) (by kernel_rfl) (fun _ _ _ h => h) (Or.inl ⟨by rfl, ?_⟩) (by assumption) ?_
      rotate_left
      · intro w hSw
        try dsimp only at hSw
        go_simp
        try with_reducible rfl
      try simp only [Act.put]
      refine wpAnyH_done (by kernel_rfl) ?_ _
      refine NoPanic.normal ?_
      exact H _ _ _ _ HO2.out HB2.out ⟨by simp [hs], rfl, by simp⟩ (by simp) (by simp [hs]) (by simp)
  · go_simp
    refine hK.out _ _ ?_ (fun hHeld => ?_)
    · try dsimp only
      go_keep
    clear hK K
    try simp only [Act.put]
    refine wpAnyH_ready (rs := [0]) (by kernel_rfl) (by simp) ?_
    refine AllReadyH.cons (o := ⟨some 134, .buildSlice 27 0 #[], 27, "vm.go:488", #[], none⟩) rfl (fun K hK => ?_) AllReadyH.nil
    go_simp
    refine hK.out _ _ ?_ (fun hHeld => ?_)
    · try dsimp only
      go_keep
    clear hK K
    try simp only [Act.put]
    refine wpAnyH_ready (rs := [5]) (by kernel_rfl) (by simp) ?_
    refine AllReadyH.cons (o := ⟨some 139, .call { callee := .builtin .append, args := #[.tmp 134, .tmp 138], argTypes := #[27, 27] }, 27, "vm.go:488", #[⟨0, .data⟩, ⟨4, .data⟩], none⟩) rfl (fun K hK => ?_) AllReadyH.nil
    first
    | (refine step_appIV (base := w.heap.size) (v := .slice (some ⟨w.heap.size, 0, none⟩) 0 0) (a := []) (A := some ⟨g, 0, none⟩) (c := cs) (n := m) (b := st.take m) rfl _ _ rfl (OwnIV.empty (hpA w _) (Nat.le_refl _)) (by simp [Act.eval, hs]) (by simp [Act.eval, hs]) (Ints.below HT.out (bAlloc (bRefl w) _).drew) (by rw [HLN.out]; simp; omega) (by simp <;> omega) ?_
       rintro A1 c1 W1 hi1
       have hla : ([] : List Int).length + (st.take m).length = m := by rw [HLN.out]; simp
       rw [hla, List.nil_append] at hi1
       rw [hla]
       clear hla
       have HI1 := hid_mk hi1.1
       have HB1 : Hid (Below w.heap.size w W1) := grown_low (w := w) (bAlloc (bRefl w) _).drew hi1.2.1 (fun g e => by have e' : w.heap.size = g := Option.some.inj e; omega)
       clear hi1)
    | (refine step_appIV (base := w.heap.size) (v := .slice (some ⟨w.heap.size, 0, none⟩) 0 0) (a := []) (A := some ⟨g, 0, none⟩) (c := cs) (n := m) (b := st.take m) rfl _ _ rfl (OwnIV.empty (hpB w _ _) (Nat.le_refl _)) (by simp [Act.eval, hs]) (by simp [Act.eval, hs]) (Ints.below HT.out (bTrans (bAlloc (bRefl w) _) (bAlloc (bRefl _) _)).drew) (by rw [HLN.out]; simp; omega) (by simp <;> omega) ?_
       rintro A1 c1 W1 hi1
       have hla : ([] : List Int).length + (st.take m).length = m := by rw [HLN.out]; simp
       rw [hla, List.nil_append] at hi1
       rw [hla]
       clear hla
       have HI1 := hid_mk hi1.1
       have HB1 : Hid (Below w.heap.size w W1) := grown_low (w := w) (bTrans (bAlloc (bRefl w) _) (bAlloc (bRefl _) _)).drew hi1.2.1 (fun g e => by have e' : w.heap.size = g := Option.some.inj e; omega)
       have HP1 : Hid (W1.heap[w.heap.size + 1]? = some (.cells #[.int .i64 y, .int .i64 x] 3)) := (hi1.2.1.block _ (by simp <;> omega) fun e => by have e' : w.heap.size + 1 = w.heap.size := Option.some.inj e; omega).trans (hpC w _ _)
       clear hi1)
    | (refine step_appIV (base := w.heap.size) (v := .slice (some ⟨w.heap.size + 1, 0, none⟩) 0 0) (a := []) (A := some ⟨g, 0, none⟩) (c := cs) (n := m) (b := st.take m) rfl _ _ rfl (OwnIV.empty (hpC w _ _) (Nat.le_succ _)) (by simp [Act.eval, hs]) (by simp [Act.eval, hs]) (Ints.below HT.out (bTrans (bAlloc (bRefl w) _) (bAlloc (bRefl _) _)).drew) (by rw [HLN.out]; simp; omega) (by simp <;> omega) ?_
       rintro A1 c1 W1 hi1
       have hla : ([] : List Int).length + (st.take m).length = m := by rw [HLN.out]; simp
       rw [hla, List.nil_append] at hi1
       rw [hla]
       clear hla
       have HI1 := hid_mk hi1.1
       have HB1 : Hid (Below w.heap.size w W1) := grown_low (w := w) (bTrans (bAlloc (bRefl w) _) (bAlloc (bRefl _) _)).drew hi1.2.1 (fun g e => by have e' : w.heap.size + 1 = g := Option.some.inj e; omega)
       have HP1 : Hid (W1.heap[w.heap.size]? = some (.cells #[.int .i64 y, .int .i64 x] 3)) := (hi1.2.1.block _ (by simp <;> omega) fun e => by have e' : w.heap.size = w.heap.size + 1 := Option.some.inj e; omega).trans (hpB w _ _)
       clear hi1)
    refine hK.out _ _ ?_ (fun hHeld => ?_)
    · try dsimp only
      exact ⟨(HB1.out.cell (p := ⟨g, m, none⟩) hgz).trans hx, (HB1.out.cell (p := ⟨g, m + 1, none⟩) hgz).trans hy⟩
    clear hK K
    try simp only [Act.put]
    refine wpAnyH_ready (rs := [17]) (by kernel_rfl) (by simp) ?_
    refine AllReadyH.cons (o := ⟨some 151, .call { callee := .builtin .append, args := #[.tmp 139, .tmp 150], argTypes := #[27, 27] }, 27, "vm.go:488", #[⟨5, .data⟩, ⟨16, .data⟩, ⟨5, .chain⟩], none⟩) rfl (fun K hK => ?_) AllReadyH.nil
    first
    | (refine step_appIV (base := w.heap.size) (v := .slice A1 m c1) (a := st.take m) (A := some ⟨_, 0, none⟩) (c := 2) (n := 2) (b := [y, x]) rfl _ _ rfl (HI1.out.same fun g hg => (bAlloc (bRefl W1) (.cells #[.int .i64 y, .int .i64 x] 3)).block g (own_lt HI1.out hg).2) (by simp [Act.eval, hs]) (by simp [Act.eval, hs]) (ints2V (heap_new W1 _)) (by rw [HLN.out]; simp; omega) (Nat.le_trans HB1.out.size (bAlloc (bRefl W1) (.cells #[.int .i64 y, .int .i64 x] 3)).size) ?_
       rintro A2 c2 W2 hi2
       have hla : (st.take m).length + ([y, x] : List Int).length = m + 2 := by rw [HLN.out]; rfl
       rw [hla] at hi2
       rw [hla]
       clear hla
       have HO2 := hid_mk hi2.1
       have HB2 : Hid (Below w.heap.size w W2) := grown_low (w := w) (bTrans HB1.out (bAlloc (bRefl W1) (.cells #[.int .i64 y, .int .i64 x] 3))) hi2.2.1 (fun g e => (own_lt HI1.out e).1)
       clear hi2)
    | (refine step_appIV (base := w.heap.size) (v := .slice A1 m c1) (a := st.take m) (A := some ⟨_, 0, none⟩) (c := 2) (n := 2) (b := [y, x]) rfl _ _ rfl HI1.out (by simp [Act.eval, hs]) (by simp [Act.eval, hs]) (ints2V HP1.out) (by rw [HLN.out]; simp; omega) HB1.out.size ?_
       rintro A2 c2 W2 hi2
       have hla : (st.take m).length + ([y, x] : List Int).length = m + 2 := by rw [HLN.out]; rfl
       rw [hla] at hi2
       rw [hla]
       clear hla
       have HO2 := hid_mk hi2.1
       have HB2 : Hid (Below w.heap.size w W2) := grown_low (w := w) HB1.out hi2.2.1 (fun g e => (own_lt HI1.out e).1)
       clear hi2)
    refine hK.out _ _ ?_ (fun hHeld => ?_)
    · try dsimp only
      exact ⟨(HB2.out.cell (p := ⟨g, m, none⟩) hgz).trans hx, (HB2.out.cell (p := ⟨g, m + 1, none⟩) hgz).trans hy⟩
    clear hK K
    try simp only [Act.put]
    refine wpAnyH_take (i := 18) (oi := ⟨some 15, .assign (.tmp 151), 27, "vm.go:488", #[⟨17, .data⟩, ⟨17, .chain⟩, ⟨0, .phase⟩, ⟨1, .phase⟩, ⟨2, .phase⟩, ⟨3, .phase⟩, ⟨4, .phase⟩, ⟨5, .phase⟩, ⟨6, .phase⟩, ⟨7, .phase⟩, ⟨8, .phase⟩, ⟨9, .phase⟩, ⟨10, .phase⟩, ⟨11, .phase⟩, ⟨12, .phase⟩, ⟨13, .phase⟩, ⟨14, .phase⟩, ⟨15, .phase⟩, ⟨16, .phase⟩, ⟨17, .phase⟩], none⟩) (v := ?_) rfl (by kernel_rfl) (by kernel_rfl) (by kernel_rfl) (fun _ _ _ h => h) (Or.inl ⟨by rfl, ?_⟩) (by assumption) ?_
    rotate_left
    · intro w hSw
      try dsimp only at hSw
      go_simp
      try with_reducible rfl
    try simp only [Act.put]
    refine wpAnyH_done (by kernel_rfl) ?_ _
    refine NoPanic.normal ?_
    exact H _ _ _ _ HO2.out HB2.out ⟨by simp [hs], rfl, by simp⟩ (by simp) (by simp [hs]) (by simp)
end
end Go.Proofs.YtfbeiedhdmndnaaDoor
namespace Go.Proofs.YtfbeiedhdmndnaaDoor
open Go.RowKit
attribute [local go_sem ↓] Go.wp_at_zero Go.wp_at_succ
noncomputable def lbody : Go.Code := cI (cI (cAV (cBV (cBV (cBV (cBV (cBV (cBV (cBV (cBV (cBV (cBV (cBV (Tryd.f12.body.getD .skip))))))))))))))
noncomputable def lin : Go.Code := cI (cBV lbody)
theorem lin_sw : cI (cBV (cBV (cBV (cBV (cBV (cBV lin)))))) = sw := rfl
/-- What a round's head leaves. -/
def Hd (a b : Act) : Prop := b.tmps.size = 330 ∧ b.defers = a.defers ∧ ∀ t ∈ [1, 4, 5, 7, 10, 11, 12, 13, 14, 15], b.tmps[t]? = a.tmps[t]?
section
variable {a : Act} {Q : Exit → Act → World → Prop} {w : World} {A CA : Option Addr} {cs k P0 gC oC nC cC pc sp : Nat} {op ar fuel : Int}
set_option maxHeartbeats 4000000 in
theorem lin_go {rest : Go.Code} (hs : a.tmps.size = 330) (h5 : a.tmps[5]? = some (.pointer (some ⟨P0, 0, none⟩))) (h11 : a.tmps[11]? = some (.slice (some ⟨gC, oC, none⟩) nC cC)) (h15 : a.tmps[15]? = some (.slice A k cs)) (h16 : a.tmps[16]? = some (.int .i64 (sp : Int))) (h17 : a.tmps[17]? = some (.int .i64 (pc : Int)))
    (hf : w.cell? ⟨P0, 3, none⟩ = some (.int .i64 fuel)) (hlt : (sp : Int) < fuel) (hpc : pc < nC) (ho : w.cell? ⟨gC, oC + pc * 2, none⟩ = some (.int .i64 op)) (ha : w.cell? ⟨gC, oC + pc * 2 + 1, none⟩ = some (.int .i64 ar)) (hsp : sp ≤ 1000000) (hpn : pc ≤ 1000000)
    (H : ∀ b, Hd a b → b.tmps[16]? = some (.int .i64 ((sp : Int) + 1)) → b.tmps[17]? = some (.int .i64 ((pc : Int) + 1)) → b.tmps[18]? = some (.pointer (some ⟨w.heap.size, 0, none⟩)) → b.tmps[19]? = some (.int .i64 (k : Int)) → b.tmps[76]? = some (.int .i64 op) →
      rest.wp Tryd.prog Q b (w.alloc (.cells #[.int .i64 op, .int .i64 ar] 68))) :
    Go.Code.wp Tryd.prog (.seq (cAV lin) (.seq (cAV (cBV lin)) (.seq (cAV (cBV (cBV lin))) (.seq (cAV (cBV (cBV (cBV lin)))) (.seq (cAV (cBV (cBV (cBV (cBV lin))))) (.seq (cAV (cBV (cBV (cBV (cBV (cBV lin)))))) rest)))))) Q a w := by
  have k5 := at_of hs (by decide) h5
  have k11 := at_of hs (by decide) h11
  have k15 := at_of hs (by decide) h15
  have k16 := at_of hs (by decide) h16
  have k17 := at_of hs (by decide) h17
  have j0 : (0 : Int) ≤ pc := by omega
  have j1 : (pc : Int) < nC := by omega
  have q0 : ¬ fuel ≤ (sp : Int) := by omega
  have i1 : IntKind.i64.wrap ((sp : Int) + 1) = (sp : Int) + 1 := by rw [IntKind.wrap_i64]; omega
  have i2 : IntKind.i64.wrap ((pc : Int) + 1) = (pc : Int) + 1 := by rw [IntKind.wrap_i64]; omega
  clear h5 h11 h15 h16 h17
  unfold lin lbody
  simp only [Tryd.f12, Option.getD_some, cBV, cAV, cI]
  refine wp_seq_k fun K1 h1 => ?_
  have HH1 := hid_mk h1
  clear h1
  refine wp_seq_k fun K2 h2 => ?_
  have HH2 := hid_mk h2
  clear h2
  go_wp2
  refine HH2.out _ _ ?_
  refine wp_cond_false (by simp [Act.eval, hs]) ?_
  go_wp2
  refine HH1.out _ _ ?_
  refine wp_seq_k fun K3 h3 => ?_
  have HH3 := hid_mk h3
  clear h3
  go_wp2
  refine HH3.out _ _ ?_
  refine wp_seq_k fun K4 h4 => ?_
  have HH4 := hid_mk h4
  clear h4
  go_wp2
  refine HH4.out _ _ ?_
  refine wp_seq_k fun K5 h5 => ?_
  have HH5 := hid_mk h5
  clear h5
  go_wp2
  refine HH5.out _ _ ?_
  refine wp_seq_k fun K6 h6 => ?_
  have HH6 := hid_mk h6
  clear h6
  go_wp2
  refine HH6.out _ _ ?_
  refine wp_seq_k fun K7 h7 => ?_
  have HH7 := hid_mk h7
  clear h7
  go_wp2
  refine HH7.out _ _ ?_
  refine H _ ⟨by simp [hs], rfl, by simp⟩ (by simp [hs]) (by simp [hs]) (by simp [hs]) (by simp [hs]) (by simp [hs])
set_option maxHeartbeats 4000000 in
theorem lin_out {rest : Go.Code} (hs : a.tmps.size = 330) (h5 : a.tmps[5]? = some (.pointer (some ⟨P0, 0, none⟩))) (hf : w.cell? ⟨P0, 3, none⟩ = some (.int .i64 fuel)) (hge : fuel ≤ (sp : Int)) {Bf Rb nF cF : Nat} {F : Option Addr} {fa : Bool} {fd fs fo : Int} {c0 c1 c2 c3 c4 c5 c6 : Value} (h13 : a.tmps[13]? = some (.pointer (some ⟨Bf, 0, none⟩))) (h16 : a.tmps[16]? = some (.int .i64 (sp : Int))) (h10 : a.tmps[10]? = some (.pointer (some ⟨Rb, 0, none⟩))) (nfr : Bf ≠ Rb)
    (f0 : w.cell? ⟨Bf, 0, none⟩ = some (.slice F nF cF)) (f1 : w.cell? ⟨Bf, 1, none⟩ = some (.bool fa)) (f2 : w.cell? ⟨Bf, 2, none⟩ = some (.int .i64 fd)) (f3 : w.cell? ⟨Bf, 3, none⟩ = some (.int .i64 fs)) (f4 : w.cell? ⟨Bf, 4, none⟩ = some (.int .i64 fo)) (ff : ∀ o, w.frozen? ⟨Bf, o, none⟩ = false)
    (r0 : w.cell? ⟨Rb, 0, none⟩ = some c0) (r1 : w.cell? ⟨Rb, 1, none⟩ = some c1) (r2 : w.cell? ⟨Rb, 2, none⟩ = some c2) (r3 : w.cell? ⟨Rb, 3, none⟩ = some c3) (r4 : w.cell? ⟨Rb, 4, none⟩ = some c4) (r5 : w.cell? ⟨Rb, 5, none⟩ = some c5) (r6 : w.cell? ⟨Rb, 6, none⟩ = some c6) (rf : ∀ o, w.frozen? ⟨Rb, o, none⟩ = false) 
    (H : ∀ b, b.defers = a.defers → b.tmps[10]? = some (.pointer (some ⟨Rb, 0, none⟩)) → Q .ret b (put7 (w.setCell ⟨Bf, 2, none⟩ (.int .i64 2)) Rb (.slice F nF cF) (.bool fa) (.int .i64 2) (.int .i64 fs) (.int .i64 fo) (.slice none 0 0) (.int .i64 (sp : Int)))) : Go.Code.wp Tryd.prog (.seq (cAV lin) rest) Q a w := by
  have k5 := at_of hs (by decide) h5
  have k13 := at_of hs (by decide) h13
  have k16 := at_of hs (by decide) h16
  have nrf : Rb ≠ Bf := fun e => nfr e.symm
  have H13 := hid_mk h13
  have H16 := hid_mk h16
  have H10 := hid_mk h10
  clear h5 h13 h16 h10
  unfold lin lbody
  simp only [Tryd.f12, Option.getD_some, cBV, cAV, cI]
  refine wp_seq_k fun K1 h1 => ?_
  clear h1
  refine wp_seq_k fun K2 h2 => ?_
  have HH2 := hid_mk h2
  clear h2
  go_wp2
  refine HH2.out _ _ ?_
  refine wp_cond_true (by simp [Act.eval, hs]) ?_
  refine wp_seq_k fun K3 h3 => ?_
  have HH3 := hid_mk h3
  clear h3
  go_wp2
  refine HH3.out _ _ ?_
  refine wp_seq_k fun K4 h4 => ?_
  have HH4 := hid_mk h4
  clear h4
  refine fall_end (c0 := c0) (c1 := c1) (c2 := c2) (c3 := c3) (c4 := c4) (c5 := c5) (c6 := c6) (Bf := Bf) (Rb := Rb) (nF := nF) (cF := cF) (F := F) (fa := fa) (fd := 2) (fs := fs) (fo := fo) (sp := (sp : Int)) (by simp [hs]) (by decide) (by decide) (by simp [H13.out]) (by simp [H16.out]) (by simp [H10.out]) ?_ ?_ ?_ ?_ ?_ ?_ ?_ ?_ ?_ ?_ ?_ ?_ ?_ ?_
  all_goals try go_keep
  · exact cell_set (i := 2) f0
  · exact cell_set (i := 2) f1
  · exact cell_set (i := 2) f2
  · exact cell_set (i := 2) f3
  · exact cell_set (i := 2) f4
  · intro b hdf hb
    refine HH4.out _ _ ?_
    refine wp_ret ?_
    exact H b (hdf.trans rfl) hb
end
end Go.Proofs.YtfbeiedhdmndnaaDoor
namespace Go.Proofs.YtfbeiedhdmndnaaDoor
open Go.RowKit
attribute [local go_sem ↓] Go.wp_at_zero Go.wp_at_succ
set_option maxHeartbeats 2000000 in
theorem tell_end {t1 t2 t3 t4 t5 id d1 d2 d3 d4 : Nat} {p1 p2 p3 p4 p5 : String} {e1 e2 e3 e4 e5 : Array Edge} {a : Act} {Q : Exit → Act → World → Prop} {w : World} {Bf Rb nF cF nn cn : Nat} {F An : Option Addr} {fa : Bool} {fd fs fo sp : Int} {c0 c1 c2 c3 c4 c5 c6 : Value}
    (hs : a.tmps.size = 330) (hd : 53 ≤ d1 ∧ d1 < 330 ∧ 53 ≤ d2 ∧ d2 < 330 ∧ 53 ≤ d3 ∧ d3 < 330 ∧ 53 ≤ d4 ∧ d4 < 330) (hn : d1 ≠ d2 ∧ d1 ≠ d3 ∧ d2 ≠ d3) (h12 : a.tmps[12]? = some (.pointer (some ⟨Bf, 0, none⟩))) (h14 : a.tmps[14]? = some (.slice An nn cn)) (h16 : a.tmps[16]? = some (.int .i64 sp)) (h10 : a.tmps[10]? = some (.pointer (some ⟨Rb, 0, none⟩)))
    (f0 : w.cell? ⟨Bf, 0, none⟩ = some (.slice F nF cF)) (f1 : w.cell? ⟨Bf, 1, none⟩ = some (.bool fa)) (f2 : w.cell? ⟨Bf, 2, none⟩ = some (.int .i64 fd)) (f3 : w.cell? ⟨Bf, 3, none⟩ = some (.int .i64 fs)) (f4 : w.cell? ⟨Bf, 4, none⟩ = some (.int .i64 fo))
    (r0 : w.cell? ⟨Rb, 0, none⟩ = some c0) (r1 : w.cell? ⟨Rb, 1, none⟩ = some c1) (r2 : w.cell? ⟨Rb, 2, none⟩ = some c2) (r3 : w.cell? ⟨Rb, 3, none⟩ = some c3) (r4 : w.cell? ⟨Rb, 4, none⟩ = some c4) (r5 : w.cell? ⟨Rb, 5, none⟩ = some c5) (r6 : w.cell? ⟨Rb, 6, none⟩ = some c6) (rf : ∀ o, w.frozen? ⟨Rb, o, none⟩ = false)
    (H : ∀ b, b.defers = a.defers → b.tmps[10]? = some (.pointer (some ⟨Rb, 0, none⟩)) → Q .normal b (put7 w Rb (.slice F nF cF) (.bool fa) (.int .i64 fd) (.int .i64 fs) (.int .i64 fo) (.slice An nn cn) (.int .i64 sp))) :
    Go.Code.wp Tryd.prog (Go.Code.region id #[{ dst := some d1, op := .load 29 (.tmp 12), type := t1, pos := p1, after := e1, guard := none }, { dst := some d2, op := .move (.tmp 14), type := t2, pos := p2, after := e2, guard := none }, { dst := some d3, op := .move (.tmp 16), type := t3, pos := p3, after := e3, guard := none }, { dst := some d4, op := .build 37 #[(0, .tmp d1), (1, .tmp d2), (2, .tmp d3)], type := t4, pos := p4, after := e4, guard := none }, { dst := none, op := .store 37 (.tmp 10) (.tmp d4), type := t5, pos := p5, after := e5, guard := none }] false) Q a w := by
  have k12 := at_of hs (by decide) h12
  have k14 := at_of hs (by decide) h14
  have k16 := at_of hs (by decide) h16
  have k10 := at_of hs (by decide) h10
  obtain ⟨g1, g2, g3, g4, g5, g6, g7, g8⟩ := hd
  obtain ⟨m1, m2, m3⟩ := hn
  have n1 : d1 ≠ 10 := by omega
  have n2 : d2 ≠ 10 := by omega
  have n3 : d3 ≠ 10 := by omega
  have n0 : d4 ≠ 10 := by omega
  have n4 : d1 ≠ 14 := by omega
  have n5 : d1 ≠ 16 := by omega
  have n7 : d2 ≠ 16 := by omega
  have n8 : d2 ≠ d1 := fun e => m1 e.symm
  have n9 : d3 ≠ d1 := fun e => m2 e.symm
  have n6 : d3 ≠ d2 := fun e => m3 e.symm
  have H10 := hid_mk h10
  clear h12 h14 h16 h10
  go_wp2
  exact H _ rfl (by rw [Array.getElem?_setIfInBounds_ne n0, Array.getElem?_setIfInBounds_ne n3, Array.getElem?_setIfInBounds_ne n2, Array.getElem?_setIfInBounds_ne n1]; exact H10.out)
noncomputable def tl : Go.Code := cBV (cBV (cBV (cBV (cBV (cBV (cBV (cBV (cBV (cBV (cBV (cBV (Tryd.f12.body.getD .skip))))))))))))
set_option maxHeartbeats 4000000 in
theorem tl_go {a : Act} {Q : Exit → Act → World → Prop} {w : World} {Bf Rb nF cF nn cn : Nat} {F An : Option Addr} {fa : Bool} {fd fs fo sp : Int} {c0 c1 c2 c3 c4 c5 c6 : Value}
    (hs : a.tmps.size = 330) (h12 : a.tmps[12]? = some (.pointer (some ⟨Bf, 0, none⟩))) (h14 : a.tmps[14]? = some (.slice An nn cn)) (h16 : a.tmps[16]? = some (.int .i64 sp)) (h10 : a.tmps[10]? = some (.pointer (some ⟨Rb, 0, none⟩))) (nfr : Bf ≠ Rb)
    (f0 : w.cell? ⟨Bf, 0, none⟩ = some (.slice F nF cF)) (f1 : w.cell? ⟨Bf, 1, none⟩ = some (.bool fa)) (f2 : w.cell? ⟨Bf, 2, none⟩ = some (.int .i64 fd)) (f3 : w.cell? ⟨Bf, 3, none⟩ = some (.int .i64 fs)) (f4 : w.cell? ⟨Bf, 4, none⟩ = some (.int .i64 fo)) (ff : ∀ o, w.frozen? ⟨Bf, o, none⟩ = false)
    (r0 : w.cell? ⟨Rb, 0, none⟩ = some c0) (r1 : w.cell? ⟨Rb, 1, none⟩ = some c1) (r2 : w.cell? ⟨Rb, 2, none⟩ = some c2) (r3 : w.cell? ⟨Rb, 3, none⟩ = some c3) (r4 : w.cell? ⟨Rb, 4, none⟩ = some c4) (r5 : w.cell? ⟨Rb, 5, none⟩ = some c5) (r6 : w.cell? ⟨Rb, 6, none⟩ = some c6) (rf : ∀ o, w.frozen? ⟨Rb, o, none⟩ = false) {fz : Int} (hfz : IntKind.i64.wrap (fs + (nn : Int)) = fz)
    (H : ∀ b, b.defers = a.defers → b.tmps[10]? = some (.pointer (some ⟨Rb, 0, none⟩)) → Q .ret b (put7 (w.setCell ⟨Bf, 3, none⟩ (.int .i64 fz)) Rb (.slice F nF cF) (.bool fa) (.int .i64 fd) (.int .i64 fz) (.int .i64 fo) (.slice An nn cn) (.int .i64 sp))) :
    tl.wp Tryd.prog Q a w := by
  have k12 := at_of hs (by decide) h12
  have k14 := at_of hs (by decide) h14
  have nrf : Rb ≠ Bf := fun e => nfr e.symm
  have H12 := hid_mk h12
  have H14 := hid_mk h14
  have H16 := hid_mk h16
  have H10 := hid_mk h10
  clear h12 h14 h16 h10
  unfold tl
  simp only [Tryd.f12, Option.getD_some, cBV]
  refine wp_seq_k fun K3 h3 => ?_
  have HH3 := hid_mk h3
  clear h3
  go_wp2
  refine HH3.out _ _ ?_
  refine wp_seq_k fun K4 h4 => ?_
  have HH4 := hid_mk h4
  clear h4
  refine tell_end (c0 := c0) (c1 := c1) (c2 := c2) (c3 := c3) (c4 := c4) (c5 := c5) (c6 := c6) (Bf := Bf) (Rb := Rb) (nF := nF) (cF := cF) (F := F) (fa := fa) (fd := fd) (fs := fz) (fo := fo) (sp := sp) (An := An) (nn := nn) (cn := cn) (by simp [hs]) (by decide) (by decide) (by simp [H12.out]) (by simp [H14.out]) (by simp [H16.out]) (by simp [H10.out]) ?_ ?_ ?_ ?_ ?_ ?_ ?_ ?_ ?_ ?_ ?_ ?_ ?_ ?_
  all_goals try go_keep
  · exact cell_set (i := 3) f0
  · exact cell_set (i := 3) f1
  · exact cell_set (i := 3) f2
  · exact cell_set (i := 3) f3
  · exact cell_set (i := 3) f4
  · intro b hdf hb
    refine HH4.out _ _ ?_
    refine wp_ret ?_
    exact H b (hdf.trans rfl) hb
end Go.Proofs.YtfbeiedhdmndnaaDoor
namespace Go.Proofs.YtfbeiedhdmndnaaDoor
open Go.RowKit
attribute [local go_sem ↓] Go.wp_at_zero Go.wp_at_succ
/-- The variables are as they were. -/
def Vs (a b : Act) : Prop := b.tmps.size = 330 ∧ b.defers = a.defers ∧ ∀ t, t < 53 → b.tmps[t]? = a.tmps[t]?
theorem vs_put {a b : Act} (h : Vs a b) {d : Nat} (hd : 53 ≤ d) (v : Value) : Vs a ⟨b.tmps.setIfInBounds d v, b.defers⟩ :=
  ⟨by simp [h.1], h.2.1, fun t ht => by
    show (b.tmps.setIfInBounds d v)[t]? = _
    rw [Array.getElem?_setIfInBounds_ne (by omega)]; exact h.2.2 t ht⟩
section
variable {a : Act} {Q : Exit → Act → World → Prop} {w : World} {CA : Option Addr} {nC cC pc : Nat}
set_option maxHeartbeats 1000000 in
theorem lb_in {rest : Go.Code} (hs : a.tmps.size = 330) (h11 : a.tmps[11]? = some (.slice CA nC cC)) (h17 : a.tmps[17]? = some (.int .i64 (pc : Int))) (hpc : pc < nC)
    (H : ∀ b, Vs a b → rest.wp Tryd.prog Q b w) : Go.Code.wp Tryd.prog (.seq (cAV lbody) rest) Q a w := by
  have k11 := at_of hs (by decide) h11
  have k17 := at_of hs (by decide) h17
  have j1 : (pc : Int) < nC := by omega
  clear h11 h17
  unfold lbody
  simp only [Tryd.f12, Option.getD_some, cBV, cAV, cI]
  refine wp_seq_k fun K1 h1 => ?_
  have HH1 := hid_mk h1
  clear h1
  refine wp_seq_k fun K2 h2 => ?_
  have HH2 := hid_mk h2
  clear h2
  go_wp2
  refine HH2.out _ _ ?_
  refine wp_cond_true (by simp [Act.eval, hs]) ?_
  go_wp2
  refine HH1.out _ _ ?_
  exact H _ (vs_put (vs_put (vs_put (vs_put ⟨hs, rfl, fun _ _ => rfl⟩ (by decide) _) (by decide) _) (by decide) _) (by decide) _)
set_option maxHeartbeats 1000000 in
theorem lb_out {rest : Go.Code} (hs : a.tmps.size = 330) (h11 : a.tmps[11]? = some (.slice CA nC cC)) (h17 : a.tmps[17]? = some (.int .i64 (pc : Int))) (hpc : ¬ pc < nC)
    (H : ∀ b, Vs a b → Q (.exit 0) b w) : Go.Code.wp Tryd.prog (.seq (cAV lbody) rest) Q a w := by
  have k11 := at_of hs (by decide) h11
  have k17 := at_of hs (by decide) h17
  have j1 : ¬ (pc : Int) < nC := by omega
  have HQ : Hid (∀ b, Vs a b → Q (.exit 0) b w) := H
  clear h11 h17 H
  unfold lbody
  simp only [Tryd.f12, Option.getD_some, cBV, cAV, cI]
  refine wp_seq_k fun K1 h1 => ?_
  clear h1
  refine wp_seq_k fun K2 h2 => ?_
  have HH2 := hid_mk h2
  clear h2
  go_wp2
  refine HH2.out _ _ ?_
  refine wp_cond_false (by simp [Act.eval, hs]) ?_
  go_wp2
  exact HQ.out _ (vs_put (vs_put (vs_put (vs_put ⟨hs, rfl, fun _ _ => rfl⟩ (by decide) _) (by decide) _) (by decide) _) (by decide) _)
end
end Go.Proofs.YtfbeiedhdmndnaaDoor
