/-
  The reference's names of events: Name, walked. Condition: numbers of 64 bits.
-/
import Derived.Test.YtdgialhigibnlaaDoorRk
import Derived.Test.YtdgialhigibnlaaDoorI8
namespace Go.Proofs.YtdgialhigibnlaaDoor
open Go.RowKit
attribute [local go_sem ↓] Go.wp_at_zero Go.wp_at_succ eq6 eq10
theorem wpAnyH_more {P : Program} {ops : Array Oper} {Q : Exit → Act → World → Prop} {md : Region.Mode} {S S' : World → Prop} (hs : ∀ w, S' w → S w) :
    ∀ (fuel : Nat) (listed : Array Bool) (a : Act) (w : World), wpAnyH P md ops Q S' fuel listed a w → wpAnyH P md ops Q S fuel listed a w
  | 0, _, _, _, h => h
  | fuel + 1, _, _, _, h => ⟨h.1, fun i hi => wpOp_mono (fun a' w' h' => ⟨hs _ h'.1, wpAnyH_more hs fuel _ a' w' h'.2⟩) (h.2 i hi)⟩
set_option maxHeartbeats 2000000 in
set_option maxRecDepth 100000 in
theorem rname_msg (x : PEv) (m : Nat) (w : World) (hr : RgE x) (hk : x.k = m) (h1 : 1 ≤ m) (h3 : m ≤ 3) (hw : x.who = 0) :
    Calls Tryd.prog 20 #[.agg #[.int .i64 m, .int .i64 x.id.f, .int .i64 x.id.n, .int .i64 x.id.c, .int .i64 x.who]] w fun e w' => e = .returned (.string (bs (nameE x))) ∧ Below w.heap.size w w' := by
  have hm : msgK (m : Int) = true := decide_eq_true (by omega)
  have hq : (x.who == 0) = true := by simp [hw]
  have HN : Hid (nameE x = wdK m ++ 32 :: tid x.id) := by show _ = _; rw [nameE_msg (by rw [hk]; exact hm) hw, hk]; rfl
  have HR : Hid (RgE x) := hr
  have m6 : m < 6 := by omega
  have m6' : (m : Int) < 6 := by omega
  have m1' : (1 : Int) ≤ m := by omega
  have m3' : (m : Int) ≤ 3 := by omega
  clear hr hk hw hm
  have y1 : (bs (wdK m)).size ≤ 7 := by rw [bs_size]; exact wdK_len m
  have y2 : (bs (tid x.id)).size ≤ 65 := by rw [bs_size]; have := tid_len HR.out.2.1; omega
  have z1 : ¬ 9223372036854775807 < (bs (wdK m)).size + 1 := by omega
  have z2 : ¬ 9223372036854775807 < (bs (wdK m)).size + 1 + (bs (tid x.id)).size := by omega
  clear y1 y2
  go_enter Tryd.func20, Tryd.ntmps20
  go_wp2_with fail
  have hA : (w.alloc (.cells #[.int .i64 m, .int .i64 x.id.f, .int .i64 x.id.n, .int .i64 x.id.c, .int .i64 x.who] 25)).heap[w.heap.size]? = some (.cells #[.int .i64 m, .int .i64 x.id.f, .int .i64 x.id.n, .int .i64 x.id.c, .int .i64 x.who] 25) := heap_new _ _
  have HL : Hid (Below w.heap.size w (w.alloc (.cells #[.int .i64 m, .int .i64 x.id.f, .int .i64 x.id.n, .int .i64 x.id.c, .int .i64 x.who] 25))) := bAlloc (bRefl _) _
  have hs0 : w.heap.size < (w.alloc (.cells #[.int .i64 m, .int .i64 x.id.f, .int .i64 x.id.n, .int .i64 x.id.c, .int .i64 x.who] 25)).heap.size := by simp
  generalize (w.alloc (.cells #[.int .i64 m, .int .i64 x.id.f, .int .i64 x.id.n, .int .i64 x.id.c, .int .i64 x.who] 25)) = w1 at hA HL hs0 ⊢
  obtain ⟨p0, p1, p2, p3, p4⟩ := blk5 hA
  have hbb : Below w1.heap.size w1 w1 := bRefl w1
  clear hA
  refine wp_region_held_drew (S := fun w' => w'.cell? ⟨w.heap.size, 0, none⟩ = some (.int .i64 m) ∧ w'.cell? ⟨w.heap.size, 1, none⟩ = some (.int .i64 x.id.f) ∧ w'.cell? ⟨w.heap.size, 2, none⟩ = some (.int .i64 x.id.n) ∧ w'.cell? ⟨w.heap.size, 3, none⟩ = some (.int .i64 x.id.c) ∧ w'.cell? ⟨w.heap.size, 4, none⟩ = some (.int .i64 x.who)) (by kernel_rfl) ?_ (fun hHeld => ?_)
  · try dsimp only
    go_keep
  refine wpAnyH_take (i := 1) (oi := { dst := Option.some 18, op := Go.Op.fieldAddr 25 (Go.Operand.tmp 1) 0, type := 0, pos := "world.go:63", after := #[], guard := Option.none }) (v := ?_) rfl (by kernel_rfl) (by kernel_rfl) (by kernel_rfl) (fun _ _ _ h => h) (Or.inl ⟨by rfl, ?_⟩) (by assumption) ?_
  rotate_left
  · intro w hSw
    try dsimp only at hSw
    go_simp
    try with_reducible rfl
  try simp only [Act.put, List.setIfInBounds_toArray, List.set_cons_zero, List.set_cons_succ]
  refine wpAnyH_take (i := 2) (oi := { dst := Option.some 19, op := Go.Op.load 3 (Go.Operand.tmp 18), type := 3, pos := "world.go:63", after := #[{ on := 1, ground := Go.Ground.data }], guard := Option.none }) (v := ?_) rfl (by kernel_rfl) (by kernel_rfl) (by kernel_rfl) (fun _ _ _ h => h) (Or.inl ⟨by rfl, ?_⟩) (by assumption) ?_
  rotate_left
  · intro w hSw
    try dsimp only at hSw
    go_simp
    try with_reducible rfl
  try simp only [Act.put, List.setIfInBounds_toArray, List.set_cons_zero, List.set_cons_succ]
  refine wpAnyH_take (i := 6) (oi := { dst := Option.some 23, op := Go.Op.fieldAddr 25 (Go.Operand.tmp 1) 1, type := 0, pos := "world.go:63", after := #[], guard := Option.none }) (v := ?_) rfl (by kernel_rfl) (by kernel_rfl) (by kernel_rfl) (fun _ _ _ h => h) (Or.inl ⟨by rfl, ?_⟩) (by assumption) ?_
  rotate_left
  · intro w hSw
    try dsimp only at hSw
    go_simp
    try with_reducible rfl
  try simp only [Act.put, List.setIfInBounds_toArray, List.set_cons_zero, List.set_cons_succ]
  refine wpAnyH_take (i := 7) (oi := { dst := Option.some 24, op := Go.Op.load 23 (Go.Operand.tmp 23), type := 23, pos := "world.go:63", after := #[{ on := 6, ground := Go.Ground.data }], guard := Option.none }) (v := ?_) rfl (by kernel_rfl) (by kernel_rfl) (by kernel_rfl) (fun _ _ _ h => h) (Or.inl ⟨by rfl, ?_⟩) (by assumption) ?_
  rotate_left
  · intro w hSw
    try dsimp only at hSw
    go_simp
    try with_reducible rfl
  try simp only [Act.put, List.setIfInBounds_toArray, List.set_cons_zero, List.set_cons_succ]
  refine wpAnyH_ready (rs := [0]) (by kernel_rfl) (by simp) ?_
  refine AllReadyH.cons (o := { dst := Option.some 17, op := Go.Op.call { callee := Go.Callee.value (Go.Operand.func 28), args := #[], argTypes := #[] }, type := 52, pos := "world.go:63", after := #[], guard := Option.none }) rfl (fun K hK => ?_) AllReadyH.nil
  go_simp
  go_at_call 28
  refine (rkinds_any _).mono ?_
  rintro e w2 ⟨rfl, hk2, hk3, hb⟩
  have hkc : w2.cell? ⟨w1.heap.size, m, none⟩ = some (.string (bs (wdK m))) := hk2 m m6
  have hk4 : w1.heap.size < w2.heap.size := hk3
  clear hk2 hk3
  have hb1 : Below w1.heap.size w1 w2 := (by first | exact undrew hb | exact hb)
  clear hb
  have hc1 := bcell hb1
  replace hbb := bTrans hbb hb1
  have hz1 := Nat.lt_of_lt_of_le hs0 hbb.size
  try (go_wp2_with fail)
  refine hK.out _ _ ?_ (fun hHeld => ?_)
  · try dsimp only
    go_keep
  clear hK K
  try simp only [Act.put, List.setIfInBounds_toArray, List.set_cons_zero, List.set_cons_succ]
  refine wpAnyH_more (S' := fun w' => w'.cell? ⟨w1.heap.size, m, none⟩ = some (.string (bs (wdK m))) ∧ (fun w' => w'.cell? ⟨w.heap.size, 0, none⟩ = some (.int .i64 m) ∧ w'.cell? ⟨w.heap.size, 1, none⟩ = some (.int .i64 x.id.f) ∧ w'.cell? ⟨w.heap.size, 2, none⟩ = some (.int .i64 x.id.n) ∧ w'.cell? ⟨w.heap.size, 3, none⟩ = some (.int .i64 x.id.c) ∧ w'.cell? ⟨w.heap.size, 4, none⟩ = some (.int .i64 x.who)) w') (fun _ h => h.2) _ _ _ _ ?_
  have hHeld2 := And.intro hkc hHeld
  refine wpAnyH_take (i := 3) (oi := { dst := Option.some 20, op := Go.Op.indexAddr 52 (Go.Operand.tmp 17) (Go.Operand.tmp 19), type := 0, pos := "world.go:63", after := #[{ on := 0, ground := Go.Ground.data }, { on := 2, ground := Go.Ground.data }], guard := Option.none }) (v := ?_) rfl (by kernel_rfl) (by kernel_rfl) (by kernel_rfl) (fun _ _ _ h => h) (Or.inl ⟨by rfl, ?_⟩) (by assumption) ?_
  rotate_left
  · intro w hSw
    try dsimp only at hSw
    go_simp
    try with_reducible rfl
  try simp only [Act.put, List.setIfInBounds_toArray, List.set_cons_zero, List.set_cons_succ]
  refine wpAnyH_take (i := 4) (oi := { dst := Option.some 21, op := Go.Op.load 9 (Go.Operand.tmp 20), type := 9, pos := "world.go:63", after := #[{ on := 3, ground := Go.Ground.data }], guard := Option.none }) (v := ?_) rfl (by kernel_rfl) (by kernel_rfl) (by kernel_rfl) (fun _ _ _ h => h) (Or.inl ⟨by rfl, ?_⟩) (by assumption) ?_
  rotate_left
  · intro w hSw
    try dsimp only at hSw
    go_simp
    try with_reducible rfl
  try simp only [Act.put, List.setIfInBounds_toArray, List.set_cons_zero, List.set_cons_succ]
  refine wpAnyH_take (i := 5) (oi := { dst := Option.some 22, op := Go.Op.binOp Go.BinOp.add 9 (Go.Operand.tmp 21) (Go.Operand.const (Go.Value.string { data := #[32] })) 9, type := 9, pos := "world.go:63", after := #[{ on := 4, ground := Go.Ground.data }], guard := Option.none }) (v := ?_) rfl (by kernel_rfl) (by kernel_rfl) (by kernel_rfl) (fun _ _ _ h => h) (Or.inl ⟨by rfl, ?_⟩) (by assumption) ?_
  rotate_left
  · intro w hSw
    try dsimp only at hSw
    go_simp
    try with_reducible rfl
  try simp only [Act.put, List.setIfInBounds_toArray, List.set_cons_zero, List.set_cons_succ]
  refine wpAnyH_ready (rs := [8]) (by kernel_rfl) (by simp) ?_
  refine AllReadyH.cons (o := { dst := Option.some 25, op := Go.Op.call { callee := Go.Callee.value (Go.Operand.func 16), args := #[Go.Operand.tmp 24], argTypes := #[23] }, type := 9, pos := "world.go:63", after := #[{ on := 7, ground := Go.Ground.data }, { on := 0, ground := Go.Ground.chain }], guard := Option.none }) rfl (fun K hK => ?_) AllReadyH.nil
  go_simp
  go_at_call 16
  refine (rtext_any x.id _ HR.out.2.1).mono ?_
  rintro e w3 ⟨rfl, hb⟩
  have hb2 : Below w2.heap.size w2 w3 := (by first | exact undrew hb | exact hb)
  clear hb
  have hc2 := bcell hb2
  replace hbb := bTrans hbb hb2
  have hz2 := Nat.lt_of_lt_of_le hs0 hbb.size
  try (go_wp2_with fail)
  refine hK.out _ _ ?_ (fun hHeld => ?_)
  · try dsimp only
    go_keep
  clear hK K
  try simp only [Act.put, List.setIfInBounds_toArray, List.set_cons_zero, List.set_cons_succ]
  refine wpAnyH_take (i := 9) (oi := { dst := Option.some 26, op := Go.Op.binOp Go.BinOp.add 9 (Go.Operand.tmp 22) (Go.Operand.tmp 25) 9, type := 9, pos := "world.go:63", after := #[{ on := 5, ground := Go.Ground.data }, { on := 8, ground := Go.Ground.data }], guard := Option.none }) (v := ?_) rfl (by kernel_rfl) (by kernel_rfl) (by kernel_rfl) (fun _ _ _ h => h) (Or.inl ⟨by rfl, ?_⟩) (by assumption) ?_
  rotate_left
  · intro w hSw
    try dsimp only at hSw
    go_simp
    try with_reducible rfl
  try simp only [Act.put, List.setIfInBounds_toArray, List.set_cons_zero, List.set_cons_succ]
  refine wpAnyH_take (i := 10) (oi := { dst := Option.some 2, op := Go.Op.assign (Go.Operand.tmp 26), type := 9, pos := "world.go:63", after := #[{ on := 9, ground := Go.Ground.data }, { on := 8, ground := Go.Ground.chain }, { on := 0, ground := Go.Ground.phase }, { on := 1, ground := Go.Ground.phase }, { on := 2, ground := Go.Ground.phase }, { on := 3, ground := Go.Ground.phase }, { on := 4, ground := Go.Ground.phase }, { on := 5, ground := Go.Ground.phase }, { on := 6, ground := Go.Ground.phase }, { on := 7, ground := Go.Ground.phase }, { on := 8, ground := Go.Ground.phase }, { on := 9, ground := Go.Ground.phase }], guard := Option.none }) (v := ?_) rfl (by kernel_rfl) (by kernel_rfl) (by kernel_rfl) (fun _ _ _ h => h) (Or.inl ⟨by rfl, ?_⟩) (by assumption) ?_
  rotate_left
  · intro w hSw
    try dsimp only at hSw
    go_simp
    try with_reducible rfl
  try simp only [Act.put, List.setIfInBounds_toArray, List.set_cons_zero, List.set_cons_succ]
  refine wpAnyH_done (by kernel_rfl) ?_ _
  go_wp2_with fail
  go_ret
  exact ⟨ret_str (cat_b HN.out), bTrans HL.out hbb⟩
set_option maxHeartbeats 2000000 in
set_option maxRecDepth 100000 in
theorem rname_a4 (x : PEv) (m : Nat) (w : World) (hr : RgE x) (hk : x.k = m) (h1 : m = 4) (hi : x.id = id0) :
    Calls Tryd.prog 20 #[.agg #[.int .i64 m, .int .i64 x.id.f, .int .i64 x.id.n, .int .i64 x.id.c, .int .i64 x.who]] w fun e w' => e = .returned (.string (bs (nameE x))) ∧ Below w.heap.size w w' := by
  have ha : actK (m : Int) = true := decide_eq_true (by omega)
  have hq : sameD ⟨x.id.f, x.id.n, x.id.c⟩ ⟨0, 0, 0⟩ = true := sameD_yes hi
  have hgD := gD
  have HN : Hid (nameE x = wdK m ++ 32 :: Lib.itoa x.who) := by show _ = _; rw [nameE_act (by rw [hk]; exact ha) hi, hk]; rfl
  have HR : Hid (RgE x) := hr
  have m6 : m < 6 := by omega
  have m6' : (m : Int) < 6 := by omega
  have m3' : ¬ (m : Int) ≤ 3 := by omega
  have m1' : (1 : Int) ≤ m := by omega
  have e4 : ((m : Int) == 4) = true := by simp; omega
  clear hr hk hi ha h1
  have y1 : (bs (wdK m)).size ≤ 7 := by rw [bs_size]; exact wdK_len m
  have y2 : (bs (Lib.itoa x.who)).size ≤ 65 := by rw [bs_size]; have := Lib.itoa_length_le x.who HR.out.2.2.1 HR.out.2.2.2; omega
  have z1 : ¬ 9223372036854775807 < (bs (wdK m)).size + 1 := by omega
  have z2 : ¬ 9223372036854775807 < (bs (wdK m)).size + 1 + (bs (Lib.itoa x.who)).size := by omega
  clear y1 y2
  go_enter Tryd.func20, Tryd.ntmps20
  go_wp2_with fail
  have hA : (w.alloc (.cells #[.int .i64 m, .int .i64 x.id.f, .int .i64 x.id.n, .int .i64 x.id.c, .int .i64 x.who] 25)).heap[w.heap.size]? = some (.cells #[.int .i64 m, .int .i64 x.id.f, .int .i64 x.id.n, .int .i64 x.id.c, .int .i64 x.who] 25) := heap_new _ _
  have HL : Hid (Below w.heap.size w (w.alloc (.cells #[.int .i64 m, .int .i64 x.id.f, .int .i64 x.id.n, .int .i64 x.id.c, .int .i64 x.who] 25))) := bAlloc (bRefl _) _
  have hs0 : w.heap.size < (w.alloc (.cells #[.int .i64 m, .int .i64 x.id.f, .int .i64 x.id.n, .int .i64 x.id.c, .int .i64 x.who] 25)).heap.size := by simp
  generalize (w.alloc (.cells #[.int .i64 m, .int .i64 x.id.f, .int .i64 x.id.n, .int .i64 x.id.c, .int .i64 x.who] 25)) = w1 at hA HL hs0 ⊢
  obtain ⟨p0, p1, p2, p3, p4⟩ := blk5 hA
  have hbb : Below w1.heap.size w1 w1 := bRefl w1
  clear hA
  refine wp_region_held_drew (S := fun w' => w'.cell? ⟨w.heap.size, 0, none⟩ = some (.int .i64 m) ∧ w'.cell? ⟨w.heap.size, 1, none⟩ = some (.int .i64 x.id.f) ∧ w'.cell? ⟨w.heap.size, 2, none⟩ = some (.int .i64 x.id.n) ∧ w'.cell? ⟨w.heap.size, 3, none⟩ = some (.int .i64 x.id.c) ∧ w'.cell? ⟨w.heap.size, 4, none⟩ = some (.int .i64 x.who)) (by kernel_rfl) ?_ (fun hHeld => ?_)
  · try dsimp only
    go_keep
  refine wpAnyH_take (i := 1) (oi := { dst := Option.some 43, op := Go.Op.fieldAddr 25 (Go.Operand.tmp 1) 0, type := 0, pos := "world.go:65", after := #[], guard := Option.none }) (v := ?_) rfl (by kernel_rfl) (by kernel_rfl) (by kernel_rfl) (fun _ _ _ h => h) (Or.inl ⟨by rfl, ?_⟩) (by assumption) ?_
  rotate_left
  · intro w hSw
    try dsimp only at hSw
    go_simp
    try with_reducible rfl
  try simp only [Act.put, List.setIfInBounds_toArray, List.set_cons_zero, List.set_cons_succ]
  refine wpAnyH_take (i := 2) (oi := { dst := Option.some 44, op := Go.Op.load 3 (Go.Operand.tmp 43), type := 3, pos := "world.go:65", after := #[{ on := 1, ground := Go.Ground.data }], guard := Option.none }) (v := ?_) rfl (by kernel_rfl) (by kernel_rfl) (by kernel_rfl) (fun _ _ _ h => h) (Or.inl ⟨by rfl, ?_⟩) (by assumption) ?_
  rotate_left
  · intro w hSw
    try dsimp only at hSw
    go_simp
    try with_reducible rfl
  try simp only [Act.put, List.setIfInBounds_toArray, List.set_cons_zero, List.set_cons_succ]
  refine wpAnyH_take (i := 6) (oi := { dst := Option.some 48, op := Go.Op.fieldAddr 25 (Go.Operand.tmp 1) 2, type := 0, pos := "world.go:65", after := #[], guard := Option.none }) (v := ?_) rfl (by kernel_rfl) (by kernel_rfl) (by kernel_rfl) (fun _ _ _ h => h) (Or.inl ⟨by rfl, ?_⟩) (by assumption) ?_
  rotate_left
  · intro w hSw
    try dsimp only at hSw
    go_simp
    try with_reducible rfl
  try simp only [Act.put, List.setIfInBounds_toArray, List.set_cons_zero, List.set_cons_succ]
  refine wpAnyH_take (i := 7) (oi := { dst := Option.some 49, op := Go.Op.load 3 (Go.Operand.tmp 48), type := 3, pos := "world.go:65", after := #[{ on := 6, ground := Go.Ground.data }], guard := Option.none }) (v := ?_) rfl (by kernel_rfl) (by kernel_rfl) (by kernel_rfl) (fun _ _ _ h => h) (Or.inl ⟨by rfl, ?_⟩) (by assumption) ?_
  rotate_left
  · intro w hSw
    try dsimp only at hSw
    go_simp
    try with_reducible rfl
  try simp only [Act.put, List.setIfInBounds_toArray, List.set_cons_zero, List.set_cons_succ]
  refine wpAnyH_ready (rs := [0]) (by kernel_rfl) (by simp) ?_
  refine AllReadyH.cons (o := { dst := Option.some 42, op := Go.Op.call { callee := Go.Callee.value (Go.Operand.func 28), args := #[], argTypes := #[] }, type := 52, pos := "world.go:65", after := #[], guard := Option.none }) rfl (fun K hK => ?_) AllReadyH.nil
  go_simp
  go_at_call 28
  refine (rkinds_any _).mono ?_
  rintro e w2 ⟨rfl, hk2, hk3, hb⟩
  have hkc : w2.cell? ⟨w1.heap.size, m, none⟩ = some (.string (bs (wdK m))) := hk2 m m6
  have hk4 : w1.heap.size < w2.heap.size := hk3
  clear hk2 hk3
  have hb1 : Below w1.heap.size w1 w2 := (by first | exact undrew hb | exact hb)
  clear hb
  have hc1 := bcell hb1
  replace hbb := bTrans hbb hb1
  have hz1 := Nat.lt_of_lt_of_le hs0 hbb.size
  try (go_wp2_with fail)
  refine hK.out _ _ ?_ (fun hHeld => ?_)
  · try dsimp only
    go_keep
  clear hK K
  try simp only [Act.put, List.setIfInBounds_toArray, List.set_cons_zero, List.set_cons_succ]
  refine wpAnyH_more (S' := fun w' => w'.cell? ⟨w1.heap.size, m, none⟩ = some (.string (bs (wdK m))) ∧ (fun w' => w'.cell? ⟨w.heap.size, 0, none⟩ = some (.int .i64 m) ∧ w'.cell? ⟨w.heap.size, 1, none⟩ = some (.int .i64 x.id.f) ∧ w'.cell? ⟨w.heap.size, 2, none⟩ = some (.int .i64 x.id.n) ∧ w'.cell? ⟨w.heap.size, 3, none⟩ = some (.int .i64 x.id.c) ∧ w'.cell? ⟨w.heap.size, 4, none⟩ = some (.int .i64 x.who)) w') (fun _ h => h.2) _ _ _ _ ?_
  have hHeld2 := And.intro hkc hHeld
  refine wpAnyH_take (i := 3) (oi := { dst := Option.some 45, op := Go.Op.indexAddr 52 (Go.Operand.tmp 42) (Go.Operand.tmp 44), type := 0, pos := "world.go:65", after := #[{ on := 0, ground := Go.Ground.data }, { on := 2, ground := Go.Ground.data }], guard := Option.none }) (v := ?_) rfl (by kernel_rfl) (by kernel_rfl) (by kernel_rfl) (fun _ _ _ h => h) (Or.inl ⟨by rfl, ?_⟩) (by assumption) ?_
  rotate_left
  · intro w hSw
    try dsimp only at hSw
    go_simp
    try with_reducible rfl
  try simp only [Act.put, List.setIfInBounds_toArray, List.set_cons_zero, List.set_cons_succ]
  refine wpAnyH_take (i := 4) (oi := { dst := Option.some 46, op := Go.Op.load 9 (Go.Operand.tmp 45), type := 9, pos := "world.go:65", after := #[{ on := 3, ground := Go.Ground.data }], guard := Option.none }) (v := ?_) rfl (by kernel_rfl) (by kernel_rfl) (by kernel_rfl) (fun _ _ _ h => h) (Or.inl ⟨by rfl, ?_⟩) (by assumption) ?_
  rotate_left
  · intro w hSw
    try dsimp only at hSw
    go_simp
    try with_reducible rfl
  try simp only [Act.put, List.setIfInBounds_toArray, List.set_cons_zero, List.set_cons_succ]
  refine wpAnyH_take (i := 5) (oi := { dst := Option.some 47, op := Go.Op.binOp Go.BinOp.add 9 (Go.Operand.tmp 46) (Go.Operand.const (Go.Value.string { data := #[32] })) 9, type := 9, pos := "world.go:65", after := #[{ on := 4, ground := Go.Ground.data }], guard := Option.none }) (v := ?_) rfl (by kernel_rfl) (by kernel_rfl) (by kernel_rfl) (fun _ _ _ h => h) (Or.inl ⟨by rfl, ?_⟩) (by assumption) ?_
  rotate_left
  · intro w hSw
    try dsimp only at hSw
    go_simp
    try with_reducible rfl
  try simp only [Act.put, List.setIfInBounds_toArray, List.set_cons_zero, List.set_cons_succ]
  refine wpAnyH_ready (rs := [8]) (by kernel_rfl) (by simp) ?_
  refine AllReadyH.cons (o := { dst := Option.some 50, op := Go.Op.call { callee := Go.Callee.value (Go.Operand.func 31), args := #[Go.Operand.tmp 49], argTypes := #[3] }, type := 9, pos := "world.go:65", after := #[{ on := 7, ground := Go.Ground.data }, { on := 0, ground := Go.Ground.chain }], guard := Option.none }) rfl (fun K hK => ?_) AllReadyH.nil
  go_simp
  go_at_call 31
  refine (decimal_any _ x.who HR.out.2.2).mono ?_
  rintro e w3 ⟨rfl, hb⟩
  have hb2 : Below w2.heap.size w2 w3 := (by first | exact undrew hb | exact hb)
  clear hb
  have hc2 := bcell hb2
  replace hbb := bTrans hbb hb2
  have hz2 := Nat.lt_of_lt_of_le hs0 hbb.size
  try (go_wp2_with fail)
  refine hK.out _ _ ?_ (fun hHeld => ?_)
  · try dsimp only
    go_keep
  clear hK K
  try simp only [Act.put, List.setIfInBounds_toArray, List.set_cons_zero, List.set_cons_succ]
  refine wpAnyH_take (i := 9) (oi := { dst := Option.some 51, op := Go.Op.binOp Go.BinOp.add 9 (Go.Operand.tmp 47) (Go.Operand.tmp 50) 9, type := 9, pos := "world.go:65", after := #[{ on := 5, ground := Go.Ground.data }, { on := 8, ground := Go.Ground.data }], guard := Option.none }) (v := ?_) rfl (by kernel_rfl) (by kernel_rfl) (by kernel_rfl) (fun _ _ _ h => h) (Or.inl ⟨by rfl, ?_⟩) (by assumption) ?_
  rotate_left
  · intro w hSw
    try dsimp only at hSw
    go_simp
    try with_reducible rfl
  try simp only [Act.put, List.setIfInBounds_toArray, List.set_cons_zero, List.set_cons_succ]
  refine wpAnyH_take (i := 10) (oi := { dst := Option.some 2, op := Go.Op.assign (Go.Operand.tmp 51), type := 9, pos := "world.go:65", after := #[{ on := 9, ground := Go.Ground.data }, { on := 8, ground := Go.Ground.chain }, { on := 0, ground := Go.Ground.phase }, { on := 1, ground := Go.Ground.phase }, { on := 2, ground := Go.Ground.phase }, { on := 3, ground := Go.Ground.phase }, { on := 4, ground := Go.Ground.phase }, { on := 5, ground := Go.Ground.phase }, { on := 6, ground := Go.Ground.phase }, { on := 7, ground := Go.Ground.phase }, { on := 8, ground := Go.Ground.phase }, { on := 9, ground := Go.Ground.phase }], guard := Option.none }) (v := ?_) rfl (by kernel_rfl) (by kernel_rfl) (by kernel_rfl) (fun _ _ _ h => h) (Or.inl ⟨by rfl, ?_⟩) (by assumption) ?_
  rotate_left
  · intro w hSw
    try dsimp only at hSw
    go_simp
    try with_reducible rfl
  try simp only [Act.put, List.setIfInBounds_toArray, List.set_cons_zero, List.set_cons_succ]
  refine wpAnyH_done (by kernel_rfl) ?_ _
  go_wp2_with fail
  go_ret
  exact ⟨ret_str (cat_b HN.out), bTrans HL.out hbb⟩
set_option maxHeartbeats 2000000 in
set_option maxRecDepth 100000 in
theorem rname_a5 (x : PEv) (m : Nat) (w : World) (hr : RgE x) (hk : x.k = m) (h1 : m = 5) (hi : x.id = id0) :
    Calls Tryd.prog 20 #[.agg #[.int .i64 m, .int .i64 x.id.f, .int .i64 x.id.n, .int .i64 x.id.c, .int .i64 x.who]] w fun e w' => e = .returned (.string (bs (nameE x))) ∧ Below w.heap.size w w' := by
  have ha : actK (m : Int) = true := decide_eq_true (by omega)
  have hq : sameD ⟨x.id.f, x.id.n, x.id.c⟩ ⟨0, 0, 0⟩ = true := sameD_yes hi
  have hgD := gD
  have HN : Hid (nameE x = wdK m ++ 32 :: Lib.itoa x.who) := by show _ = _; rw [nameE_act (by rw [hk]; exact ha) hi, hk]; rfl
  have HR : Hid (RgE x) := hr
  have m6 : m < 6 := by omega
  have m6' : (m : Int) < 6 := by omega
  have m3' : ¬ (m : Int) ≤ 3 := by omega
  have m1' : (1 : Int) ≤ m := by omega
  have e4 : ((m : Int) == 4) = false := by simp; omega
  have e5 : ((m : Int) == 5) = true := by simp; omega
  clear hr hk hi ha h1
  have y1 : (bs (wdK m)).size ≤ 7 := by rw [bs_size]; exact wdK_len m
  have y2 : (bs (Lib.itoa x.who)).size ≤ 65 := by rw [bs_size]; have := Lib.itoa_length_le x.who HR.out.2.2.1 HR.out.2.2.2; omega
  have z1 : ¬ 9223372036854775807 < (bs (wdK m)).size + 1 := by omega
  have z2 : ¬ 9223372036854775807 < (bs (wdK m)).size + 1 + (bs (Lib.itoa x.who)).size := by omega
  clear y1 y2
  go_enter Tryd.func20, Tryd.ntmps20
  go_wp2_with fail
  have hA : (w.alloc (.cells #[.int .i64 m, .int .i64 x.id.f, .int .i64 x.id.n, .int .i64 x.id.c, .int .i64 x.who] 25)).heap[w.heap.size]? = some (.cells #[.int .i64 m, .int .i64 x.id.f, .int .i64 x.id.n, .int .i64 x.id.c, .int .i64 x.who] 25) := heap_new _ _
  have HL : Hid (Below w.heap.size w (w.alloc (.cells #[.int .i64 m, .int .i64 x.id.f, .int .i64 x.id.n, .int .i64 x.id.c, .int .i64 x.who] 25))) := bAlloc (bRefl _) _
  have hs0 : w.heap.size < (w.alloc (.cells #[.int .i64 m, .int .i64 x.id.f, .int .i64 x.id.n, .int .i64 x.id.c, .int .i64 x.who] 25)).heap.size := by simp
  generalize (w.alloc (.cells #[.int .i64 m, .int .i64 x.id.f, .int .i64 x.id.n, .int .i64 x.id.c, .int .i64 x.who] 25)) = w1 at hA HL hs0 ⊢
  obtain ⟨p0, p1, p2, p3, p4⟩ := blk5 hA
  have hbb : Below w1.heap.size w1 w1 := bRefl w1
  clear hA
  refine wp_region_held_drew (S := fun w' => w'.cell? ⟨w.heap.size, 0, none⟩ = some (.int .i64 m) ∧ w'.cell? ⟨w.heap.size, 1, none⟩ = some (.int .i64 x.id.f) ∧ w'.cell? ⟨w.heap.size, 2, none⟩ = some (.int .i64 x.id.n) ∧ w'.cell? ⟨w.heap.size, 3, none⟩ = some (.int .i64 x.id.c) ∧ w'.cell? ⟨w.heap.size, 4, none⟩ = some (.int .i64 x.who)) (by kernel_rfl) ?_ (fun hHeld => ?_)
  · try dsimp only
    go_keep
  refine wpAnyH_take (i := 1) (oi := { dst := Option.some 43, op := Go.Op.fieldAddr 25 (Go.Operand.tmp 1) 0, type := 0, pos := "world.go:65", after := #[], guard := Option.none }) (v := ?_) rfl (by kernel_rfl) (by kernel_rfl) (by kernel_rfl) (fun _ _ _ h => h) (Or.inl ⟨by rfl, ?_⟩) (by assumption) ?_
  rotate_left
  · intro w hSw
    try dsimp only at hSw
    go_simp
    try with_reducible rfl
  try simp only [Act.put, List.setIfInBounds_toArray, List.set_cons_zero, List.set_cons_succ]
  refine wpAnyH_take (i := 2) (oi := { dst := Option.some 44, op := Go.Op.load 3 (Go.Operand.tmp 43), type := 3, pos := "world.go:65", after := #[{ on := 1, ground := Go.Ground.data }], guard := Option.none }) (v := ?_) rfl (by kernel_rfl) (by kernel_rfl) (by kernel_rfl) (fun _ _ _ h => h) (Or.inl ⟨by rfl, ?_⟩) (by assumption) ?_
  rotate_left
  · intro w hSw
    try dsimp only at hSw
    go_simp
    try with_reducible rfl
  try simp only [Act.put, List.setIfInBounds_toArray, List.set_cons_zero, List.set_cons_succ]
  refine wpAnyH_take (i := 6) (oi := { dst := Option.some 48, op := Go.Op.fieldAddr 25 (Go.Operand.tmp 1) 2, type := 0, pos := "world.go:65", after := #[], guard := Option.none }) (v := ?_) rfl (by kernel_rfl) (by kernel_rfl) (by kernel_rfl) (fun _ _ _ h => h) (Or.inl ⟨by rfl, ?_⟩) (by assumption) ?_
  rotate_left
  · intro w hSw
    try dsimp only at hSw
    go_simp
    try with_reducible rfl
  try simp only [Act.put, List.setIfInBounds_toArray, List.set_cons_zero, List.set_cons_succ]
  refine wpAnyH_take (i := 7) (oi := { dst := Option.some 49, op := Go.Op.load 3 (Go.Operand.tmp 48), type := 3, pos := "world.go:65", after := #[{ on := 6, ground := Go.Ground.data }], guard := Option.none }) (v := ?_) rfl (by kernel_rfl) (by kernel_rfl) (by kernel_rfl) (fun _ _ _ h => h) (Or.inl ⟨by rfl, ?_⟩) (by assumption) ?_
  rotate_left
  · intro w hSw
    try dsimp only at hSw
    go_simp
    try with_reducible rfl
  try simp only [Act.put, List.setIfInBounds_toArray, List.set_cons_zero, List.set_cons_succ]
  refine wpAnyH_ready (rs := [0]) (by kernel_rfl) (by simp) ?_
  refine AllReadyH.cons (o := { dst := Option.some 42, op := Go.Op.call { callee := Go.Callee.value (Go.Operand.func 28), args := #[], argTypes := #[] }, type := 52, pos := "world.go:65", after := #[], guard := Option.none }) rfl (fun K hK => ?_) AllReadyH.nil
  go_simp
  go_at_call 28
  refine (rkinds_any _).mono ?_
  rintro e w2 ⟨rfl, hk2, hk3, hb⟩
  have hkc : w2.cell? ⟨w1.heap.size, m, none⟩ = some (.string (bs (wdK m))) := hk2 m m6
  have hk4 : w1.heap.size < w2.heap.size := hk3
  clear hk2 hk3
  have hb1 : Below w1.heap.size w1 w2 := (by first | exact undrew hb | exact hb)
  clear hb
  have hc1 := bcell hb1
  replace hbb := bTrans hbb hb1
  have hz1 := Nat.lt_of_lt_of_le hs0 hbb.size
  try (go_wp2_with fail)
  refine hK.out _ _ ?_ (fun hHeld => ?_)
  · try dsimp only
    go_keep
  clear hK K
  try simp only [Act.put, List.setIfInBounds_toArray, List.set_cons_zero, List.set_cons_succ]
  refine wpAnyH_more (S' := fun w' => w'.cell? ⟨w1.heap.size, m, none⟩ = some (.string (bs (wdK m))) ∧ (fun w' => w'.cell? ⟨w.heap.size, 0, none⟩ = some (.int .i64 m) ∧ w'.cell? ⟨w.heap.size, 1, none⟩ = some (.int .i64 x.id.f) ∧ w'.cell? ⟨w.heap.size, 2, none⟩ = some (.int .i64 x.id.n) ∧ w'.cell? ⟨w.heap.size, 3, none⟩ = some (.int .i64 x.id.c) ∧ w'.cell? ⟨w.heap.size, 4, none⟩ = some (.int .i64 x.who)) w') (fun _ h => h.2) _ _ _ _ ?_
  have hHeld2 := And.intro hkc hHeld
  refine wpAnyH_take (i := 3) (oi := { dst := Option.some 45, op := Go.Op.indexAddr 52 (Go.Operand.tmp 42) (Go.Operand.tmp 44), type := 0, pos := "world.go:65", after := #[{ on := 0, ground := Go.Ground.data }, { on := 2, ground := Go.Ground.data }], guard := Option.none }) (v := ?_) rfl (by kernel_rfl) (by kernel_rfl) (by kernel_rfl) (fun _ _ _ h => h) (Or.inl ⟨by rfl, ?_⟩) (by assumption) ?_
  rotate_left
  · intro w hSw
    try dsimp only at hSw
    go_simp
    try with_reducible rfl
  try simp only [Act.put, List.setIfInBounds_toArray, List.set_cons_zero, List.set_cons_succ]
  refine wpAnyH_take (i := 4) (oi := { dst := Option.some 46, op := Go.Op.load 9 (Go.Operand.tmp 45), type := 9, pos := "world.go:65", after := #[{ on := 3, ground := Go.Ground.data }], guard := Option.none }) (v := ?_) rfl (by kernel_rfl) (by kernel_rfl) (by kernel_rfl) (fun _ _ _ h => h) (Or.inl ⟨by rfl, ?_⟩) (by assumption) ?_
  rotate_left
  · intro w hSw
    try dsimp only at hSw
    go_simp
    try with_reducible rfl
  try simp only [Act.put, List.setIfInBounds_toArray, List.set_cons_zero, List.set_cons_succ]
  refine wpAnyH_take (i := 5) (oi := { dst := Option.some 47, op := Go.Op.binOp Go.BinOp.add 9 (Go.Operand.tmp 46) (Go.Operand.const (Go.Value.string { data := #[32] })) 9, type := 9, pos := "world.go:65", after := #[{ on := 4, ground := Go.Ground.data }], guard := Option.none }) (v := ?_) rfl (by kernel_rfl) (by kernel_rfl) (by kernel_rfl) (fun _ _ _ h => h) (Or.inl ⟨by rfl, ?_⟩) (by assumption) ?_
  rotate_left
  · intro w hSw
    try dsimp only at hSw
    go_simp
    try with_reducible rfl
  try simp only [Act.put, List.setIfInBounds_toArray, List.set_cons_zero, List.set_cons_succ]
  refine wpAnyH_ready (rs := [8]) (by kernel_rfl) (by simp) ?_
  refine AllReadyH.cons (o := { dst := Option.some 50, op := Go.Op.call { callee := Go.Callee.value (Go.Operand.func 31), args := #[Go.Operand.tmp 49], argTypes := #[3] }, type := 9, pos := "world.go:65", after := #[{ on := 7, ground := Go.Ground.data }, { on := 0, ground := Go.Ground.chain }], guard := Option.none }) rfl (fun K hK => ?_) AllReadyH.nil
  go_simp
  go_at_call 31
  refine (decimal_any _ x.who HR.out.2.2).mono ?_
  rintro e w3 ⟨rfl, hb⟩
  have hb2 : Below w2.heap.size w2 w3 := (by first | exact undrew hb | exact hb)
  clear hb
  have hc2 := bcell hb2
  replace hbb := bTrans hbb hb2
  have hz2 := Nat.lt_of_lt_of_le hs0 hbb.size
  try (go_wp2_with fail)
  refine hK.out _ _ ?_ (fun hHeld => ?_)
  · try dsimp only
    go_keep
  clear hK K
  try simp only [Act.put, List.setIfInBounds_toArray, List.set_cons_zero, List.set_cons_succ]
  refine wpAnyH_take (i := 9) (oi := { dst := Option.some 51, op := Go.Op.binOp Go.BinOp.add 9 (Go.Operand.tmp 47) (Go.Operand.tmp 50) 9, type := 9, pos := "world.go:65", after := #[{ on := 5, ground := Go.Ground.data }, { on := 8, ground := Go.Ground.data }], guard := Option.none }) (v := ?_) rfl (by kernel_rfl) (by kernel_rfl) (by kernel_rfl) (fun _ _ _ h => h) (Or.inl ⟨by rfl, ?_⟩) (by assumption) ?_
  rotate_left
  · intro w hSw
    try dsimp only at hSw
    go_simp
    try with_reducible rfl
  try simp only [Act.put, List.setIfInBounds_toArray, List.set_cons_zero, List.set_cons_succ]
  refine wpAnyH_take (i := 10) (oi := { dst := Option.some 2, op := Go.Op.assign (Go.Operand.tmp 51), type := 9, pos := "world.go:65", after := #[{ on := 9, ground := Go.Ground.data }, { on := 8, ground := Go.Ground.chain }, { on := 0, ground := Go.Ground.phase }, { on := 1, ground := Go.Ground.phase }, { on := 2, ground := Go.Ground.phase }, { on := 3, ground := Go.Ground.phase }, { on := 4, ground := Go.Ground.phase }, { on := 5, ground := Go.Ground.phase }, { on := 6, ground := Go.Ground.phase }, { on := 7, ground := Go.Ground.phase }, { on := 8, ground := Go.Ground.phase }, { on := 9, ground := Go.Ground.phase }], guard := Option.none }) (v := ?_) rfl (by kernel_rfl) (by kernel_rfl) (by kernel_rfl) (fun _ _ _ h => h) (Or.inl ⟨by rfl, ?_⟩) (by assumption) ?_
  rotate_left
  · intro w hSw
    try dsimp only at hSw
    go_simp
    try with_reducible rfl
  try simp only [Act.put, List.setIfInBounds_toArray, List.set_cons_zero, List.set_cons_succ]
  refine wpAnyH_done (by kernel_rfl) ?_ _
  go_wp2_with fail
  go_ret
  exact ⟨ret_str (cat_b HN.out), bTrans HL.out hbb⟩
set_option maxHeartbeats 1000000 in
theorem rname_no (x : PEv) (w : World) (h1 : ¬ (msgK x.k = true ∧ x.who = 0)) (h2 : ¬ (actK x.k = true ∧ x.id = id0)) :
    Calls Tryd.prog 20 #[eV x] w fun e w' => e = .returned (.string (bs (nameE x))) ∧ Below w.heap.size w w' := by
  have HN : Hid (nameE x = []) := nameE_no h1 h2
  have hgD := gD
  have q1 : 1 ≤ x.k ∧ x.k ≤ 3 → (x.who == 0) = false := fun h => by
    have : x.who ≠ 0 := fun e => h1 ⟨decide_eq_true h, e⟩
    simp [this]
  have q2 : x.k = 4 ∨ x.k = 5 → sameD ⟨x.id.f, x.id.n, x.id.c⟩ ⟨0, 0, 0⟩ = false := fun h => sameD_no (fun e => h2 ⟨decide_eq_true h, e⟩)
  clear h1 h2
  rcases (by omega : (1 ≤ x.k ∧ x.k ≤ 3) ∨ x.k = 4 ∨ x.k = 5 ∨ x.k < 1 ∨ 5 < x.k) with h | h | h | h | h
  · have g1 : 1 ≤ x.k := by omega
    have g3 : x.k ≤ 3 := by omega
    have hq := q1 h
    have e4 : (x.k == 4) = false := by simp; omega
    have e5 : (x.k == 5) = false := by simp; omega
    clear q1 q2 h
    go_enter Tryd.func20, Tryd.ntmps20
    go_wp2_with fail
    go_ret
    exact ⟨ret_str (by rw [HN.out]; rfl), bAlloc (bRefl _) _⟩
  · have g1 : 1 ≤ x.k := by omega
    have g3 : ¬ x.k ≤ 3 := by omega
    have hq := q2 (Or.inl h)
    have e4 : (x.k == 4) = true := by simp; omega
    clear q1 q2 h
    go_enter Tryd.func20, Tryd.ntmps20
    go_wp2_with fail
    go_ret
    exact ⟨ret_str (by rw [HN.out]; rfl), bAlloc (bRefl _) _⟩
  · have g1 : 1 ≤ x.k := by omega
    have g3 : ¬ x.k ≤ 3 := by omega
    have hq := q2 (Or.inr h)
    have e4 : (x.k == 4) = false := by simp; omega
    have e5 : (x.k == 5) = true := by simp; omega
    clear q1 q2 h
    go_enter Tryd.func20, Tryd.ntmps20
    go_wp2_with fail
    go_ret
    exact ⟨ret_str (by rw [HN.out]; rfl), bAlloc (bRefl _) _⟩
  · have g1 : ¬ 1 ≤ x.k := by omega
    have e4 : (x.k == 4) = false := by simp; omega
    have e5 : (x.k == 5) = false := by simp; omega
    clear q1 q2 h
    go_enter Tryd.func20, Tryd.ntmps20
    go_wp2_with fail
    go_ret
    exact ⟨ret_str (by rw [HN.out]; rfl), bAlloc (bRefl _) _⟩
  · have g1 : 1 ≤ x.k := by omega
    have g3 : ¬ x.k ≤ 3 := by omega
    have e4 : (x.k == 4) = false := by simp; omega
    have e5 : (x.k == 5) = false := by simp; omega
    clear q1 q2 h
    go_enter Tryd.func20, Tryd.ntmps20
    go_wp2_with fail
    go_ret
    exact ⟨ret_str (by rw [HN.out]; rfl), bAlloc (bRefl _) _⟩
theorem rname_any (x : PEv) (w : World) (hr : RgE x) :
    Calls Tryd.prog 20 #[eV x] w fun e w' => e = .returned (.string (bs (nameE x))) ∧ Below w.heap.size w w' := by
  by_cases h1 : msgK x.k = true ∧ x.who = 0
  · have hb := of_decide_eq_true h1.1
    obtain ⟨m, hm⟩ : ∃ m : Nat, x.k = m := ⟨x.k.toNat, by omega⟩
    have := rname_msg x m w hr hm (by omega) (by omega) h1.2
    rw [← hm] at this
    exact this
  · by_cases h2 : actK x.k = true ∧ x.id = id0
    · have hb := of_decide_eq_true h2.1
      obtain ⟨m, hm⟩ : ∃ m : Nat, x.k = m := ⟨x.k.toNat, by omega⟩
      rcases (by omega : m = 4 ∨ m = 5) with e | e
      · have := rname_a4 x m w hr hm e h2.2
        rw [← hm] at this
        exact this
      · have := rname_a5 x m w hr hm e h2.2
        rw [← hm] at this
        exact this
    · exact rname_no x w h1 h2
end Go.Proofs.YtdgialhigibnlaaDoor
