/-
  The fourth law of chapter 7. Conditions: numbers of 64 bits; what it reads is there.
-/
import Derived.Test.YtdgialhigibnlaaDoorIa
import Derived.Deep.DeepCutAuto
namespace Go.Proofs.YtdgialhigibnlaaDoor
open Go.RowKit
attribute [local go_sem ↓] Go.wp_at_zero Go.wp_at_succ eq6 eq10
theorem hid_mk {p : Prop} (h : p) : Hid p := h
set_option maxHeartbeats 8000000 in
set_option maxRecDepth 100000 in
theorem names_a1 (w : World) (he : Env w) (d : PID) (hr : RgE ⟨1, d, 0⟩)  :
    Calls Tryd.prog 6 #[.agg #[.int .i64 1, .int .i64 d.f, .int .i64 d.n, .int .i64 d.c, .int .i64 0]] w fun e w' => e = .returned (.bool true) ∧ Below w.heap.size w w' := by
  have HE : Hid (Env w) := he
  have HR : Hid (RgE ⟨1, d, 0⟩) := hr
  have hgD := gD
  obtain ⟨N, hnm⟩ : ∃ N, nameE ⟨1, d, 0⟩ = N := ⟨_, rfl⟩
  have HN : Hid (N = [100, 101, 108, 105, 118, 101, 114] ++ 32 :: tid d) := by rw [← hnm]; exact nameE_msg (x := ⟨1, d, 0⟩) rfl rfl
  have he0 : (bs N).toList.isEmpty = false := emp_no (by rw [HN.out]; simp)
  clear he hr
  go_enter Tryd.func6, Tryd.ntmps6
  go_wp2_with fail
  refine (name_any ⟨1, d, 0⟩ _ HR.out (HE.out.below (bAlloc (bRefl _) _))).mono ?_
  rw [hnm]
  rintro e w1 ⟨rfl, hb1⟩
  have HL : Hid (Below w.heap.size w w1) := bTrans (bAlloc (bRefl _) _) hb1
  have k1 : w1.heap[w.heap.size]? = some (.cells #[.int .i64 1, .int .i64 d.f, .int .i64 d.n, .int .i64 d.c, .int .i64 0] 25) := (hb1.block _ (by simp)).trans (heap_new _ _)
  have hs0 : w.heap.size < w1.heap.size := (Array.getElem?_eq_some_iff.1 k1).1
  obtain ⟨x0, x1, x2, x3, x4⟩ := blk5 k1
  have K1 : Hid (w1.heap[w.heap.size]? = some (.cells #[.int .i64 1, .int .i64 d.f, .int .i64 d.n, .int .i64 d.c, .int .i64 0] 25)) := k1
  have hbb : Below w1.heap.size w1 w1 := bRefl w1
  have hf : faultE ⟨1, d, 0⟩ = false := rfl
  clear hb1 k1
  go_wp2_with fail
  go_cut [56] (fun i56 wc => i56 = .bool false ∧ Hid (Below w1.heap.size w1 wc))
  case first =>
    refine wp_region_held_drew (S := (fun w' => w'.cell? ⟨w.heap.size, 0, none⟩ = some (.int .i64 1) ∧ w'.cell? ⟨w.heap.size, 1, none⟩ = some (.int .i64 d.f) ∧ w'.cell? ⟨w.heap.size, 2, none⟩ = some (.int .i64 d.n) ∧ w'.cell? ⟨w.heap.size, 3, none⟩ = some (.int .i64 d.c) ∧ w'.cell? ⟨w.heap.size, 4, none⟩ = some (.int .i64 0))) (by kernel_rfl) ?_ (fun hHeld => ?_)
    · try dsimp only
      go_keep
    refine wpAnyH_take (i := 0) (oi := { dst := some 37, op := Go.Op.move (Go.Operand.tmp 3), type := 9, pos := "law.go:56", after := #[], guard := none }) (v := ?_) rfl (by kernel_rfl) (by kernel_rfl) (by kernel_rfl) (fun _ _ _ h => h) (Or.inl ⟨by rfl, ?_⟩) (by assumption) ?_
    rotate_left
    · intro w hSw
      try dsimp only at hSw
      go_simp
      try with_reducible rfl
    try simp only [Act.put, List.setIfInBounds_toArray, List.set_cons_zero, List.set_cons_succ]
    refine wpAnyH_take (i := 1) (oi := { dst := some 38, op := Go.Op.binOp Go.BinOp.neq 9 (Go.Operand.tmp 37) (Go.Operand.const (Go.Value.string { data := #[] })) 9, type := 4, pos := "law.go:56", after := #[{ on := 0, ground := Go.Ground.data }], guard := none }) (v := ?_) rfl (by kernel_rfl) (by kernel_rfl) (by kernel_rfl) (fun _ _ _ h => h) (Or.inl ⟨by rfl, ?_⟩) (by assumption) ?_
    rotate_left
    · intro w hSw
      try dsimp only at hSw
      go_simp
      try with_reducible rfl
    try simp only [Act.put, List.setIfInBounds_toArray, List.set_cons_zero, List.set_cons_succ]
    refine wpAnyH_take (i := 2) (oi := { dst := some 39, op := Go.Op.move (Go.Operand.tmp 4), type := 4, pos := "law.go:56", after := #[], guard := none }) (v := ?_) rfl (by kernel_rfl) (by kernel_rfl) (by kernel_rfl) (fun _ _ _ h => h) (Or.inl ⟨by rfl, ?_⟩) (by assumption) ?_
    rotate_left
    · intro w hSw
      try dsimp only at hSw
      go_simp
      try with_reducible rfl
    try simp only [Act.put, List.setIfInBounds_toArray, List.set_cons_zero, List.set_cons_succ]
    refine wpAnyH_take (i := 3) (oi := { dst := some 40, op := Go.Op.move (Go.Operand.tmp 39), type := 4, pos := "law.go:56", after := #[{ on := 2, ground := Go.Ground.data }], guard := none }) (v := ?_) rfl (by kernel_rfl) (by kernel_rfl) (by kernel_rfl) (fun _ _ _ h => h) (Or.inl ⟨by rfl, ?_⟩) (by assumption) ?_
    rotate_left
    · intro w hSw
      try dsimp only at hSw
      go_simp
      try with_reducible rfl
    try simp only [Act.put, List.setIfInBounds_toArray, List.set_cons_zero, List.set_cons_succ]
    refine wpAnyH_take (i := 4) (oi := { dst := some 41, op := Go.Op.move (Go.Operand.tmp 5), type := 4, pos := "law.go:56", after := #[{ on := 3, ground := Go.Ground.guard }], guard := some (3, false) }) (v := undef) rfl (by kernel_rfl) (by kernel_rfl) (by kernel_rfl) (fun _ _ _ h => h) (Or.inr ⟨by rfl, rfl⟩) (by assumption) ?_
    try simp only [Act.put, List.setIfInBounds_toArray, List.set_cons_zero, List.set_cons_succ]
    refine wpAnyH_take (i := 5) (oi := { dst := some 42, op := Go.Op.pick (Go.Operand.tmp 40) (Go.Operand.const (Go.Value.bool true)) (Go.Operand.tmp 41), type := 4, pos := "law.go:56", after := #[{ on := 3, ground := Go.Ground.data }, { on := 4, ground := Go.Ground.data }], guard := none }) (v := ?_) rfl (by kernel_rfl) (by kernel_rfl) (by kernel_rfl) (fun _ _ _ h => h) (Or.inl ⟨by rfl, ?_⟩) (by assumption) ?_
    rotate_left
    · intro w hSw
      try dsimp only at hSw
      go_simp
      try with_reducible rfl
    try simp only [Act.put, List.setIfInBounds_toArray, List.set_cons_zero, List.set_cons_succ]
    refine wpAnyH_take (i := 6) (oi := { dst := some 43, op := Go.Op.binOp Go.BinOp.neq 4 (Go.Operand.tmp 38) (Go.Operand.tmp 42) 4, type := 4, pos := "law.go:56", after := #[{ on := 1, ground := Go.Ground.data }, { on := 5, ground := Go.Ground.data }], guard := none }) (v := ?_) rfl (by kernel_rfl) (by kernel_rfl) (by kernel_rfl) (fun _ _ _ h => h) (Or.inl ⟨by rfl, ?_⟩) (by assumption) ?_
    rotate_left
    · intro w hSw
      try dsimp only at hSw
      go_simp
      try with_reducible rfl
    try simp only [Act.put, List.setIfInBounds_toArray, List.set_cons_zero, List.set_cons_succ]
    refine wpAnyH_take (i := 7) (oi := { dst := some 44, op := Go.Op.move (Go.Operand.tmp 43), type := 4, pos := "law.go:56", after := #[{ on := 6, ground := Go.Ground.data }, { on := 3, ground := Go.Ground.chain }], guard := none }) (v := ?_) rfl (by kernel_rfl) (by kernel_rfl) (by kernel_rfl) (fun _ _ _ h => h) (Or.inl ⟨by rfl, ?_⟩) (by assumption) ?_
    rotate_left
    · intro w hSw
      try dsimp only at hSw
      go_simp
      try with_reducible rfl
    try simp only [Act.put, List.setIfInBounds_toArray, List.set_cons_zero, List.set_cons_succ]
    refine wpAnyH_take (i := 8) (oi := { dst := some 45, op := Go.Op.load 25 (Go.Operand.tmp 1), type := 25, pos := "law.go:56", after := #[{ on := 7, ground := Go.Ground.guard }], guard := some (7, false) }) (v := ?_) rfl (by kernel_rfl) (by kernel_rfl) (by kernel_rfl) (fun _ _ _ h => h) (Or.inl ⟨by rfl, ?_⟩) (by assumption) ?_
    rotate_left
    · intro w hSw
      try dsimp only at hSw
      go_simp
      try with_reducible rfl
    try simp only [Act.put, List.setIfInBounds_toArray, List.set_cons_zero, List.set_cons_succ]
    refine wpAnyH_take (i := 10) (oi := { dst := some 47, op := Go.Op.fieldAddr 25 (Go.Operand.tmp 1) 0, type := 0, pos := "law.go:56", after := #[{ on := 7, ground := Go.Ground.guard }], guard := some (7, false) }) (v := ?_) rfl (by kernel_rfl) (by kernel_rfl) (by kernel_rfl) (fun _ _ _ h => h) (Or.inl ⟨by rfl, ?_⟩) (by assumption) ?_
    rotate_left
    · intro w hSw
      try dsimp only at hSw
      go_simp
      try with_reducible rfl
    try simp only [Act.put, List.setIfInBounds_toArray, List.set_cons_zero, List.set_cons_succ]
    refine wpAnyH_take (i := 11) (oi := { dst := some 48, op := Go.Op.load 3 (Go.Operand.tmp 47), type := 3, pos := "law.go:56", after := #[{ on := 10, ground := Go.Ground.data }, { on := 7, ground := Go.Ground.guard }], guard := some (7, false) }) (v := ?_) rfl (by kernel_rfl) (by kernel_rfl) (by kernel_rfl) (fun _ _ _ h => h) (Or.inl ⟨by rfl, ?_⟩) (by assumption) ?_
    rotate_left
    · intro w hSw
      try dsimp only at hSw
      go_simp
      try with_reducible rfl
    try simp only [Act.put, List.setIfInBounds_toArray, List.set_cons_zero, List.set_cons_succ]
    refine wpAnyH_take (i := 12) (oi := { dst := some 49, op := Go.Op.binOp Go.BinOp.geq 3 (Go.Operand.tmp 48) (Go.Operand.const (Go.Value.int Go.IntKind.i64 2)) 3, type := 4, pos := "law.go:56", after := #[{ on := 11, ground := Go.Ground.data }, { on := 7, ground := Go.Ground.guard }], guard := some (7, false) }) (v := ?_) rfl (by kernel_rfl) (by kernel_rfl) (by kernel_rfl) (fun _ _ _ h => h) (Or.inl ⟨by rfl, ?_⟩) (by assumption) ?_
    rotate_left
    · intro w hSw
      try dsimp only at hSw
      go_simp
      try with_reducible rfl
    try simp only [Act.put, List.setIfInBounds_toArray, List.set_cons_zero, List.set_cons_succ]
    refine wpAnyH_ready (rs := [9]) (by kernel_rfl) (by simp) ?_
    refine AllReadyH.cons (o := { dst := some 46, op := Go.Op.call { callee := Go.Callee.value (Go.Operand.func 21), args := #[Go.Operand.tmp 45], argTypes := #[25] }, type := 4, pos := "law.go:56", after := #[{ on := 8, ground := Go.Ground.data }, { on := 7, ground := Go.Ground.chain }, { on := 7, ground := Go.Ground.guard }], guard := some (7, false) }) rfl (fun K hK => ?_) AllReadyH.nil
    go_simp
    refine (fault_any ⟨1, d, 0⟩ _).mono ?_
    rw [hf]
    rintro e w2 ⟨rfl, hb2⟩
    have hc2 := (by first | exact bcell (undrew hb2) | exact bcell hb2)
    replace hbb := (by first | exact bTrans hbb (undrew hb2) | exact bTrans hbb hb2)
    have hz0 := Nat.lt_of_lt_of_le hs0 hbb.size
    try (go_wp2_with fail)
    refine hK.out _ _ ?_ (fun hHeld => ?_)
    · try dsimp only
      go_keep
    clear hK K
    try simp only [Act.put, List.setIfInBounds_toArray, List.set_cons_zero, List.set_cons_succ]
    refine wpAnyH_take (i := 13) (oi := { dst := some 50, op := Go.Op.move (Go.Operand.tmp 49), type := 4, pos := "law.go:56", after := #[{ on := 12, ground := Go.Ground.data }, { on := 9, ground := Go.Ground.chain }, { on := 7, ground := Go.Ground.guard }], guard := some (7, false) }) (v := ?_) rfl (by kernel_rfl) (by kernel_rfl) (by kernel_rfl) (fun _ _ _ h => h) (Or.inl ⟨by rfl, ?_⟩) (by assumption) ?_
    rotate_left
    · intro w hSw
      try dsimp only at hSw
      go_simp
      try with_reducible rfl
    try simp only [Act.put, List.setIfInBounds_toArray, List.set_cons_zero, List.set_cons_succ]
    refine wpAnyH_take (i := 14) (oi := { dst := some 51, op := Go.Op.fieldAddr 25 (Go.Operand.tmp 1) 0, type := 0, pos := "law.go:56", after := #[{ on := 13, ground := Go.Ground.guard }], guard := some (13, true) }) (v := undef) rfl (by kernel_rfl) (by kernel_rfl) (by kernel_rfl) (fun _ _ _ h => h) (Or.inr ⟨by rfl, rfl⟩) (by assumption) ?_
    try simp only [Act.put, List.setIfInBounds_toArray, List.set_cons_zero, List.set_cons_succ]
    refine wpAnyH_take (i := 15) (oi := { dst := some 52, op := Go.Op.load 3 (Go.Operand.tmp 51), type := 3, pos := "law.go:56", after := #[{ on := 14, ground := Go.Ground.data }, { on := 13, ground := Go.Ground.guard }], guard := some (13, true) }) (v := undef) rfl (by kernel_rfl) (by kernel_rfl) (by kernel_rfl) (fun _ _ _ h => h) (Or.inr ⟨by rfl, rfl⟩) (by assumption) ?_
    try simp only [Act.put, List.setIfInBounds_toArray, List.set_cons_zero, List.set_cons_succ]
    refine wpAnyH_take (i := 16) (oi := { dst := some 53, op := Go.Op.binOp Go.BinOp.leq 3 (Go.Operand.tmp 52) (Go.Operand.const (Go.Value.int Go.IntKind.i64 5)) 3, type := 4, pos := "law.go:56", after := #[{ on := 15, ground := Go.Ground.data }, { on := 13, ground := Go.Ground.guard }], guard := some (13, true) }) (v := undef) rfl (by kernel_rfl) (by kernel_rfl) (by kernel_rfl) (fun _ _ _ h => h) (Or.inr ⟨by rfl, rfl⟩) (by assumption) ?_
    try simp only [Act.put, List.setIfInBounds_toArray, List.set_cons_zero, List.set_cons_succ]
    refine wpAnyH_take (i := 17) (oi := { dst := some 54, op := Go.Op.pick (Go.Operand.tmp 50) (Go.Operand.tmp 53) (Go.Operand.const (Go.Value.bool false)), type := 4, pos := "law.go:56", after := #[{ on := 13, ground := Go.Ground.data }, { on := 16, ground := Go.Ground.data }, { on := 7, ground := Go.Ground.guard }], guard := some (7, false) }) (v := ?_) rfl (by kernel_rfl) (by kernel_rfl) (by kernel_rfl) (fun _ _ _ h => h) (Or.inl ⟨by rfl, ?_⟩) (by assumption) ?_
    rotate_left
    · intro w hSw
      try dsimp only at hSw
      go_simp
      try with_reducible rfl
    try simp only [Act.put, List.setIfInBounds_toArray, List.set_cons_zero, List.set_cons_succ]
    refine wpAnyH_take (i := 18) (oi := { dst := some 55, op := Go.Op.binOp Go.BinOp.neq 4 (Go.Operand.tmp 46) (Go.Operand.tmp 54) 4, type := 4, pos := "law.go:56", after := #[{ on := 9, ground := Go.Ground.data }, { on := 17, ground := Go.Ground.data }, { on := 7, ground := Go.Ground.guard }], guard := some (7, false) }) (v := ?_) rfl (by kernel_rfl) (by kernel_rfl) (by kernel_rfl) (fun _ _ _ h => h) (Or.inl ⟨by rfl, ?_⟩) (by assumption) ?_
    rotate_left
    · intro w hSw
      try dsimp only at hSw
      go_simp
      try with_reducible rfl
    try simp only [Act.put, List.setIfInBounds_toArray, List.set_cons_zero, List.set_cons_succ]
    refine wpAnyH_take (i := 19) (oi := { dst := some 56, op := Go.Op.pick (Go.Operand.tmp 44) (Go.Operand.const (Go.Value.bool true)) (Go.Operand.tmp 55), type := 4, pos := "law.go:56", after := #[{ on := 7, ground := Go.Ground.data }, { on := 18, ground := Go.Ground.data }], guard := none }) (v := ?_) rfl (by kernel_rfl) (by kernel_rfl) (by kernel_rfl) (fun _ _ _ h => h) (Or.inl ⟨by rfl, ?_⟩) (by assumption) ?_
    rotate_left
    · intro w hSw
      try dsimp only at hSw
      go_simp
      try with_reducible rfl
    try simp only [Act.put, List.setIfInBounds_toArray, List.set_cons_zero, List.set_cons_succ]
    refine wpAnyH_done (by kernel_rfl) ?_ _
    all_goals (go_wp2_with fail; go_meet)
    all_goals exact ⟨rfl, hid_mk hbb⟩
  case rest =>
    obtain ⟨rfl, HC⟩ := hcut
    have HW : Hid (Below w.heap.size w wc) := bTrans HL.out HC.out
    have k2 : wc.heap[w.heap.size]? = some (.cells #[.int .i64 1, .int .i64 d.f, .int .i64 d.n, .int .i64 d.c, .int .i64 0] 25) := (HC.out.block _ hs0).trans K1.out
    have hs1 : w.heap.size < wc.heap.size := Nat.lt_of_lt_of_le hs0 HC.out.size
    clear x0 x1 x2 x3 x4 hbb hs0 HC K1 HL
    obtain ⟨x0, x1, x2, x3, x4⟩ := blk5 k2
    go_wp2_with fail
    refine (text_any d (wc.alloc (.cells #[.int .i64 1, .int .i64 d.f, .int .i64 d.n, .int .i64 d.c, .int .i64 1] 25)) HR.out.2.1 (HE.out.below (bAlloc HW.out _))).mono ?_
    rintro e w3 ⟨rfl, hb3⟩
    have HW3 : Hid (Below w.heap.size w w3) := bTrans (bAlloc HW.out _) hb3
    have k3 : w3.heap[wc.heap.size]? = some (.cells #[.int .i64 1, .int .i64 d.f, .int .i64 d.n, .int .i64 d.c, .int .i64 1] 25) := (hb3.block _ (by simp)).trans (heap_new _ _)
    obtain ⟨y0, y1, y2, y3, y4⟩ := blk5 k3
    clear hb3 k3 k2 x0 x1 x2 x3 x4
    obtain ⟨T, hT⟩ : ∃ T, tid d = T := ⟨_, rfl⟩
    have HT : Hid (N = [100, 101, 108, 105, 118, 101, 114] ++ 32 :: T) := by rw [← hT]; exact HN
    rw [hT]
    clear hT HN
    have z0 : (bs N).size = 7 + 1 + (bs T).size := by rw [HT.out, bs_size, bs_size]; simp; try omega
    have z1 : (bs T).size < (bs N).size := by omega
    have z2 : (bs N).extract (7 + 1) (7 + 1 + (bs T).size) = bs T := by
      rw [HT.out]
      apply ByteArray.ext
      rw [ByteArray.data_extract]
      simp [bs, ByteArray.size]
    have z3 : ((bs N).extract 8 (8 + (bs T).size)).toList = (bs T).toList := congrArg ByteArray.toList z2
    have z4 : ((bs N).extract 8 (8 + (bs T).size)) = bs T := z2
    have z5 : (bs T).toList = (bs T).toList := rfl
    have hn2 : nameE ⟨1, d, 1⟩ = [] := nameE_no (fun h => by cases h.2) (fun h => by cases h.1)
    have HR2 : Hid (RgE ⟨1, d, 1⟩) := ⟨HR.out.1, HR.out.2.1, (show Rg 1 from ⟨by decide, by decide⟩)⟩
    have he1 := emp_yes (l := []) rfl
    go_wp2_with fail
    refine (name_any ⟨1, d, 1⟩ w3 HR2.out (HE.out.below HW3.out)).mono ?_
    rw [hn2]
    rintro e w5 ⟨rfl, hb5⟩
    go_wp2_with (go_at_call 8; refine (awake_any _ (HE.out.below (bTrans HW3.out hb5))).mono ?_; rintro e w9 ⟨rfl, hb9⟩)
    go_ret
    exact ⟨rfl, bTrans (bTrans HW3.out hb5) hb9⟩
set_option maxHeartbeats 8000000 in
set_option maxRecDepth 100000 in
theorem names_b1 (w : World) (he : Env w) (d : PID) (u : Int) (hr : RgE ⟨1, d, u⟩) (hu : u ≠ 0) :
    Calls Tryd.prog 6 #[.agg #[.int .i64 1, .int .i64 d.f, .int .i64 d.n, .int .i64 d.c, .int .i64 u]] w fun e w' => e = .returned (.bool true) ∧ Below w.heap.size w w' := by
  have HE : Hid (Env w) := he
  have HR : Hid (RgE ⟨1, d, u⟩) := hr
  have hgD := gD
  obtain ⟨N, hnm⟩ : ∃ N, nameE ⟨1, d, u⟩ = N := ⟨_, rfl⟩
  have he0 : (bs N).toList.isEmpty = true := emp_yes (by rw [← hnm]; exact nameE_no (fun h => hu h.2) (fun h => by cases h.1))
  have q1 : (u == 0) = false := by simp [hu]
  clear he hr
  go_enter Tryd.func6, Tryd.ntmps6
  go_wp2_with fail
  refine (name_any ⟨1, d, u⟩ _ HR.out (HE.out.below (bAlloc (bRefl _) _))).mono ?_
  rw [hnm]
  rintro e w1 ⟨rfl, hb1⟩
  have HL : Hid (Below w.heap.size w w1) := bTrans (bAlloc (bRefl _) _) hb1
  have k1 : w1.heap[w.heap.size]? = some (.cells #[.int .i64 1, .int .i64 d.f, .int .i64 d.n, .int .i64 d.c, .int .i64 u] 25) := (hb1.block _ (by simp)).trans (heap_new _ _)
  have hs0 : w.heap.size < w1.heap.size := (Array.getElem?_eq_some_iff.1 k1).1
  obtain ⟨x0, x1, x2, x3, x4⟩ := blk5 k1
  have K1 : Hid (w1.heap[w.heap.size]? = some (.cells #[.int .i64 1, .int .i64 d.f, .int .i64 d.n, .int .i64 d.c, .int .i64 u] 25)) := k1
  have hbb : Below w1.heap.size w1 w1 := bRefl w1
  have hf : faultE ⟨1, d, u⟩ = false := rfl
  clear hb1 k1
  go_wp2_with fail
  go_cut [56] (fun i56 wc => i56 = .bool false ∧ Hid (Below w1.heap.size w1 wc))
  case first =>
    refine wp_region_held_drew (S := (fun w' => w'.cell? ⟨w.heap.size, 0, none⟩ = some (.int .i64 1) ∧ w'.cell? ⟨w.heap.size, 1, none⟩ = some (.int .i64 d.f) ∧ w'.cell? ⟨w.heap.size, 2, none⟩ = some (.int .i64 d.n) ∧ w'.cell? ⟨w.heap.size, 3, none⟩ = some (.int .i64 d.c) ∧ w'.cell? ⟨w.heap.size, 4, none⟩ = some (.int .i64 u))) (by kernel_rfl) ?_ (fun hHeld => ?_)
    · try dsimp only
      go_keep
    refine wpAnyH_take (i := 0) (oi := { dst := some 37, op := Go.Op.move (Go.Operand.tmp 3), type := 9, pos := "law.go:56", after := #[], guard := none }) (v := ?_) rfl (by kernel_rfl) (by kernel_rfl) (by kernel_rfl) (fun _ _ _ h => h) (Or.inl ⟨by rfl, ?_⟩) (by assumption) ?_
    rotate_left
    · intro w hSw
      try dsimp only at hSw
      go_simp
      try with_reducible rfl
    try simp only [Act.put, List.setIfInBounds_toArray, List.set_cons_zero, List.set_cons_succ]
    refine wpAnyH_take (i := 1) (oi := { dst := some 38, op := Go.Op.binOp Go.BinOp.neq 9 (Go.Operand.tmp 37) (Go.Operand.const (Go.Value.string { data := #[] })) 9, type := 4, pos := "law.go:56", after := #[{ on := 0, ground := Go.Ground.data }], guard := none }) (v := ?_) rfl (by kernel_rfl) (by kernel_rfl) (by kernel_rfl) (fun _ _ _ h => h) (Or.inl ⟨by rfl, ?_⟩) (by assumption) ?_
    rotate_left
    · intro w hSw
      try dsimp only at hSw
      go_simp
      try with_reducible rfl
    try simp only [Act.put, List.setIfInBounds_toArray, List.set_cons_zero, List.set_cons_succ]
    refine wpAnyH_take (i := 2) (oi := { dst := some 39, op := Go.Op.move (Go.Operand.tmp 4), type := 4, pos := "law.go:56", after := #[], guard := none }) (v := ?_) rfl (by kernel_rfl) (by kernel_rfl) (by kernel_rfl) (fun _ _ _ h => h) (Or.inl ⟨by rfl, ?_⟩) (by assumption) ?_
    rotate_left
    · intro w hSw
      try dsimp only at hSw
      go_simp
      try with_reducible rfl
    try simp only [Act.put, List.setIfInBounds_toArray, List.set_cons_zero, List.set_cons_succ]
    refine wpAnyH_take (i := 3) (oi := { dst := some 40, op := Go.Op.move (Go.Operand.tmp 39), type := 4, pos := "law.go:56", after := #[{ on := 2, ground := Go.Ground.data }], guard := none }) (v := ?_) rfl (by kernel_rfl) (by kernel_rfl) (by kernel_rfl) (fun _ _ _ h => h) (Or.inl ⟨by rfl, ?_⟩) (by assumption) ?_
    rotate_left
    · intro w hSw
      try dsimp only at hSw
      go_simp
      try with_reducible rfl
    try simp only [Act.put, List.setIfInBounds_toArray, List.set_cons_zero, List.set_cons_succ]
    refine wpAnyH_take (i := 4) (oi := { dst := some 41, op := Go.Op.move (Go.Operand.tmp 5), type := 4, pos := "law.go:56", after := #[{ on := 3, ground := Go.Ground.guard }], guard := some (3, false) }) (v := ?_) rfl (by kernel_rfl) (by kernel_rfl) (by kernel_rfl) (fun _ _ _ h => h) (Or.inl ⟨by rfl, ?_⟩) (by assumption) ?_
    rotate_left
    · intro w hSw
      try dsimp only at hSw
      go_simp
      try with_reducible rfl
    try simp only [Act.put, List.setIfInBounds_toArray, List.set_cons_zero, List.set_cons_succ]
    refine wpAnyH_take (i := 5) (oi := { dst := some 42, op := Go.Op.pick (Go.Operand.tmp 40) (Go.Operand.const (Go.Value.bool true)) (Go.Operand.tmp 41), type := 4, pos := "law.go:56", after := #[{ on := 3, ground := Go.Ground.data }, { on := 4, ground := Go.Ground.data }], guard := none }) (v := ?_) rfl (by kernel_rfl) (by kernel_rfl) (by kernel_rfl) (fun _ _ _ h => h) (Or.inl ⟨by rfl, ?_⟩) (by assumption) ?_
    rotate_left
    · intro w hSw
      try dsimp only at hSw
      go_simp
      try with_reducible rfl
    try simp only [Act.put, List.setIfInBounds_toArray, List.set_cons_zero, List.set_cons_succ]
    refine wpAnyH_take (i := 6) (oi := { dst := some 43, op := Go.Op.binOp Go.BinOp.neq 4 (Go.Operand.tmp 38) (Go.Operand.tmp 42) 4, type := 4, pos := "law.go:56", after := #[{ on := 1, ground := Go.Ground.data }, { on := 5, ground := Go.Ground.data }], guard := none }) (v := ?_) rfl (by kernel_rfl) (by kernel_rfl) (by kernel_rfl) (fun _ _ _ h => h) (Or.inl ⟨by rfl, ?_⟩) (by assumption) ?_
    rotate_left
    · intro w hSw
      try dsimp only at hSw
      go_simp
      try with_reducible rfl
    try simp only [Act.put, List.setIfInBounds_toArray, List.set_cons_zero, List.set_cons_succ]
    refine wpAnyH_take (i := 7) (oi := { dst := some 44, op := Go.Op.move (Go.Operand.tmp 43), type := 4, pos := "law.go:56", after := #[{ on := 6, ground := Go.Ground.data }, { on := 3, ground := Go.Ground.chain }], guard := none }) (v := ?_) rfl (by kernel_rfl) (by kernel_rfl) (by kernel_rfl) (fun _ _ _ h => h) (Or.inl ⟨by rfl, ?_⟩) (by assumption) ?_
    rotate_left
    · intro w hSw
      try dsimp only at hSw
      go_simp
      try with_reducible rfl
    try simp only [Act.put, List.setIfInBounds_toArray, List.set_cons_zero, List.set_cons_succ]
    refine wpAnyH_take (i := 8) (oi := { dst := some 45, op := Go.Op.load 25 (Go.Operand.tmp 1), type := 25, pos := "law.go:56", after := #[{ on := 7, ground := Go.Ground.guard }], guard := some (7, false) }) (v := ?_) rfl (by kernel_rfl) (by kernel_rfl) (by kernel_rfl) (fun _ _ _ h => h) (Or.inl ⟨by rfl, ?_⟩) (by assumption) ?_
    rotate_left
    · intro w hSw
      try dsimp only at hSw
      go_simp
      try with_reducible rfl
    try simp only [Act.put, List.setIfInBounds_toArray, List.set_cons_zero, List.set_cons_succ]
    refine wpAnyH_take (i := 10) (oi := { dst := some 47, op := Go.Op.fieldAddr 25 (Go.Operand.tmp 1) 0, type := 0, pos := "law.go:56", after := #[{ on := 7, ground := Go.Ground.guard }], guard := some (7, false) }) (v := ?_) rfl (by kernel_rfl) (by kernel_rfl) (by kernel_rfl) (fun _ _ _ h => h) (Or.inl ⟨by rfl, ?_⟩) (by assumption) ?_
    rotate_left
    · intro w hSw
      try dsimp only at hSw
      go_simp
      try with_reducible rfl
    try simp only [Act.put, List.setIfInBounds_toArray, List.set_cons_zero, List.set_cons_succ]
    refine wpAnyH_take (i := 11) (oi := { dst := some 48, op := Go.Op.load 3 (Go.Operand.tmp 47), type := 3, pos := "law.go:56", after := #[{ on := 10, ground := Go.Ground.data }, { on := 7, ground := Go.Ground.guard }], guard := some (7, false) }) (v := ?_) rfl (by kernel_rfl) (by kernel_rfl) (by kernel_rfl) (fun _ _ _ h => h) (Or.inl ⟨by rfl, ?_⟩) (by assumption) ?_
    rotate_left
    · intro w hSw
      try dsimp only at hSw
      go_simp
      try with_reducible rfl
    try simp only [Act.put, List.setIfInBounds_toArray, List.set_cons_zero, List.set_cons_succ]
    refine wpAnyH_take (i := 12) (oi := { dst := some 49, op := Go.Op.binOp Go.BinOp.geq 3 (Go.Operand.tmp 48) (Go.Operand.const (Go.Value.int Go.IntKind.i64 2)) 3, type := 4, pos := "law.go:56", after := #[{ on := 11, ground := Go.Ground.data }, { on := 7, ground := Go.Ground.guard }], guard := some (7, false) }) (v := ?_) rfl (by kernel_rfl) (by kernel_rfl) (by kernel_rfl) (fun _ _ _ h => h) (Or.inl ⟨by rfl, ?_⟩) (by assumption) ?_
    rotate_left
    · intro w hSw
      try dsimp only at hSw
      go_simp
      try with_reducible rfl
    try simp only [Act.put, List.setIfInBounds_toArray, List.set_cons_zero, List.set_cons_succ]
    refine wpAnyH_ready (rs := [9]) (by kernel_rfl) (by simp) ?_
    refine AllReadyH.cons (o := { dst := some 46, op := Go.Op.call { callee := Go.Callee.value (Go.Operand.func 21), args := #[Go.Operand.tmp 45], argTypes := #[25] }, type := 4, pos := "law.go:56", after := #[{ on := 8, ground := Go.Ground.data }, { on := 7, ground := Go.Ground.chain }, { on := 7, ground := Go.Ground.guard }], guard := some (7, false) }) rfl (fun K hK => ?_) AllReadyH.nil
    go_simp
    refine (fault_any ⟨1, d, u⟩ _).mono ?_
    rw [hf]
    rintro e w2 ⟨rfl, hb2⟩
    have hc2 := (by first | exact bcell (undrew hb2) | exact bcell hb2)
    replace hbb := (by first | exact bTrans hbb (undrew hb2) | exact bTrans hbb hb2)
    have hz0 := Nat.lt_of_lt_of_le hs0 hbb.size
    try (go_wp2_with fail)
    refine hK.out _ _ ?_ (fun hHeld => ?_)
    · try dsimp only
      go_keep
    clear hK K
    try simp only [Act.put, List.setIfInBounds_toArray, List.set_cons_zero, List.set_cons_succ]
    refine wpAnyH_take (i := 13) (oi := { dst := some 50, op := Go.Op.move (Go.Operand.tmp 49), type := 4, pos := "law.go:56", after := #[{ on := 12, ground := Go.Ground.data }, { on := 9, ground := Go.Ground.chain }, { on := 7, ground := Go.Ground.guard }], guard := some (7, false) }) (v := ?_) rfl (by kernel_rfl) (by kernel_rfl) (by kernel_rfl) (fun _ _ _ h => h) (Or.inl ⟨by rfl, ?_⟩) (by assumption) ?_
    rotate_left
    · intro w hSw
      try dsimp only at hSw
      go_simp
      try with_reducible rfl
    try simp only [Act.put, List.setIfInBounds_toArray, List.set_cons_zero, List.set_cons_succ]
    refine wpAnyH_take (i := 14) (oi := { dst := some 51, op := Go.Op.fieldAddr 25 (Go.Operand.tmp 1) 0, type := 0, pos := "law.go:56", after := #[{ on := 13, ground := Go.Ground.guard }], guard := some (13, true) }) (v := undef) rfl (by kernel_rfl) (by kernel_rfl) (by kernel_rfl) (fun _ _ _ h => h) (Or.inr ⟨by rfl, rfl⟩) (by assumption) ?_
    try simp only [Act.put, List.setIfInBounds_toArray, List.set_cons_zero, List.set_cons_succ]
    refine wpAnyH_take (i := 15) (oi := { dst := some 52, op := Go.Op.load 3 (Go.Operand.tmp 51), type := 3, pos := "law.go:56", after := #[{ on := 14, ground := Go.Ground.data }, { on := 13, ground := Go.Ground.guard }], guard := some (13, true) }) (v := undef) rfl (by kernel_rfl) (by kernel_rfl) (by kernel_rfl) (fun _ _ _ h => h) (Or.inr ⟨by rfl, rfl⟩) (by assumption) ?_
    try simp only [Act.put, List.setIfInBounds_toArray, List.set_cons_zero, List.set_cons_succ]
    refine wpAnyH_take (i := 16) (oi := { dst := some 53, op := Go.Op.binOp Go.BinOp.leq 3 (Go.Operand.tmp 52) (Go.Operand.const (Go.Value.int Go.IntKind.i64 5)) 3, type := 4, pos := "law.go:56", after := #[{ on := 15, ground := Go.Ground.data }, { on := 13, ground := Go.Ground.guard }], guard := some (13, true) }) (v := undef) rfl (by kernel_rfl) (by kernel_rfl) (by kernel_rfl) (fun _ _ _ h => h) (Or.inr ⟨by rfl, rfl⟩) (by assumption) ?_
    try simp only [Act.put, List.setIfInBounds_toArray, List.set_cons_zero, List.set_cons_succ]
    refine wpAnyH_take (i := 17) (oi := { dst := some 54, op := Go.Op.pick (Go.Operand.tmp 50) (Go.Operand.tmp 53) (Go.Operand.const (Go.Value.bool false)), type := 4, pos := "law.go:56", after := #[{ on := 13, ground := Go.Ground.data }, { on := 16, ground := Go.Ground.data }, { on := 7, ground := Go.Ground.guard }], guard := some (7, false) }) (v := ?_) rfl (by kernel_rfl) (by kernel_rfl) (by kernel_rfl) (fun _ _ _ h => h) (Or.inl ⟨by rfl, ?_⟩) (by assumption) ?_
    rotate_left
    · intro w hSw
      try dsimp only at hSw
      go_simp
      try with_reducible rfl
    try simp only [Act.put, List.setIfInBounds_toArray, List.set_cons_zero, List.set_cons_succ]
    refine wpAnyH_take (i := 18) (oi := { dst := some 55, op := Go.Op.binOp Go.BinOp.neq 4 (Go.Operand.tmp 46) (Go.Operand.tmp 54) 4, type := 4, pos := "law.go:56", after := #[{ on := 9, ground := Go.Ground.data }, { on := 17, ground := Go.Ground.data }, { on := 7, ground := Go.Ground.guard }], guard := some (7, false) }) (v := ?_) rfl (by kernel_rfl) (by kernel_rfl) (by kernel_rfl) (fun _ _ _ h => h) (Or.inl ⟨by rfl, ?_⟩) (by assumption) ?_
    rotate_left
    · intro w hSw
      try dsimp only at hSw
      go_simp
      try with_reducible rfl
    try simp only [Act.put, List.setIfInBounds_toArray, List.set_cons_zero, List.set_cons_succ]
    refine wpAnyH_take (i := 19) (oi := { dst := some 56, op := Go.Op.pick (Go.Operand.tmp 44) (Go.Operand.const (Go.Value.bool true)) (Go.Operand.tmp 55), type := 4, pos := "law.go:56", after := #[{ on := 7, ground := Go.Ground.data }, { on := 18, ground := Go.Ground.data }], guard := none }) (v := ?_) rfl (by kernel_rfl) (by kernel_rfl) (by kernel_rfl) (fun _ _ _ h => h) (Or.inl ⟨by rfl, ?_⟩) (by assumption) ?_
    rotate_left
    · intro w hSw
      try dsimp only at hSw
      go_simp
      try with_reducible rfl
    try simp only [Act.put, List.setIfInBounds_toArray, List.set_cons_zero, List.set_cons_succ]
    refine wpAnyH_done (by kernel_rfl) ?_ _
    all_goals (go_wp2_with fail; go_meet)
    all_goals exact ⟨rfl, hid_mk hbb⟩
  case rest =>
    obtain ⟨rfl, HC⟩ := hcut
    have HW : Hid (Below w.heap.size w wc) := bTrans HL.out HC.out
    have k2 : wc.heap[w.heap.size]? = some (.cells #[.int .i64 1, .int .i64 d.f, .int .i64 d.n, .int .i64 d.c, .int .i64 u] 25) := (HC.out.block _ hs0).trans K1.out
    have hs1 : w.heap.size < wc.heap.size := Nat.lt_of_lt_of_le hs0 HC.out.size
    clear x0 x1 x2 x3 x4 hbb hs0 HC K1 HL
    obtain ⟨x0, x1, x2, x3, x4⟩ := blk5 k2
    go_wp2_with (go_at_call 8; refine (awake_any _ (HE.out.below HW.out)).mono ?_; rintro e w9 ⟨rfl, hb9⟩)
    go_ret
    exact ⟨rfl, bTrans HW.out hb9⟩
set_option maxHeartbeats 8000000 in
set_option maxRecDepth 100000 in
theorem names_a2 (w : World) (he : Env w) (d : PID) (hr : RgE ⟨2, d, 0⟩)  :
    Calls Tryd.prog 6 #[.agg #[.int .i64 2, .int .i64 d.f, .int .i64 d.n, .int .i64 d.c, .int .i64 0]] w fun e w' => e = .returned (.bool true) ∧ Below w.heap.size w w' := by
  have HE : Hid (Env w) := he
  have HR : Hid (RgE ⟨2, d, 0⟩) := hr
  have hgD := gD
  obtain ⟨N, hnm⟩ : ∃ N, nameE ⟨2, d, 0⟩ = N := ⟨_, rfl⟩
  have HN : Hid (N = [100, 114, 111, 112] ++ 32 :: tid d) := by rw [← hnm]; exact nameE_msg (x := ⟨2, d, 0⟩) rfl rfl
  have he0 : (bs N).toList.isEmpty = false := emp_no (by rw [HN.out]; simp)
  clear he hr
  go_enter Tryd.func6, Tryd.ntmps6
  go_wp2_with fail
  refine (name_any ⟨2, d, 0⟩ _ HR.out (HE.out.below (bAlloc (bRefl _) _))).mono ?_
  rw [hnm]
  rintro e w1 ⟨rfl, hb1⟩
  have HL : Hid (Below w.heap.size w w1) := bTrans (bAlloc (bRefl _) _) hb1
  have k1 : w1.heap[w.heap.size]? = some (.cells #[.int .i64 2, .int .i64 d.f, .int .i64 d.n, .int .i64 d.c, .int .i64 0] 25) := (hb1.block _ (by simp)).trans (heap_new _ _)
  have hs0 : w.heap.size < w1.heap.size := (Array.getElem?_eq_some_iff.1 k1).1
  obtain ⟨x0, x1, x2, x3, x4⟩ := blk5 k1
  have K1 : Hid (w1.heap[w.heap.size]? = some (.cells #[.int .i64 2, .int .i64 d.f, .int .i64 d.n, .int .i64 d.c, .int .i64 0] 25)) := k1
  have hbb : Below w1.heap.size w1 w1 := bRefl w1
  have hf : faultE ⟨2, d, 0⟩ = true := rfl
  clear hb1 k1
  go_wp2_with fail
  go_cut [56] (fun i56 wc => i56 = .bool false ∧ Hid (Below w1.heap.size w1 wc))
  case first =>
    refine wp_region_held_drew (S := (fun w' => w'.cell? ⟨w.heap.size, 0, none⟩ = some (.int .i64 2) ∧ w'.cell? ⟨w.heap.size, 1, none⟩ = some (.int .i64 d.f) ∧ w'.cell? ⟨w.heap.size, 2, none⟩ = some (.int .i64 d.n) ∧ w'.cell? ⟨w.heap.size, 3, none⟩ = some (.int .i64 d.c) ∧ w'.cell? ⟨w.heap.size, 4, none⟩ = some (.int .i64 0))) (by kernel_rfl) ?_ (fun hHeld => ?_)
    · try dsimp only
      go_keep
    refine wpAnyH_take (i := 0) (oi := { dst := some 37, op := Go.Op.move (Go.Operand.tmp 3), type := 9, pos := "law.go:56", after := #[], guard := none }) (v := ?_) rfl (by kernel_rfl) (by kernel_rfl) (by kernel_rfl) (fun _ _ _ h => h) (Or.inl ⟨by rfl, ?_⟩) (by assumption) ?_
    rotate_left
    · intro w hSw
      try dsimp only at hSw
      go_simp
      try with_reducible rfl
    try simp only [Act.put, List.setIfInBounds_toArray, List.set_cons_zero, List.set_cons_succ]
    refine wpAnyH_take (i := 1) (oi := { dst := some 38, op := Go.Op.binOp Go.BinOp.neq 9 (Go.Operand.tmp 37) (Go.Operand.const (Go.Value.string { data := #[] })) 9, type := 4, pos := "law.go:56", after := #[{ on := 0, ground := Go.Ground.data }], guard := none }) (v := ?_) rfl (by kernel_rfl) (by kernel_rfl) (by kernel_rfl) (fun _ _ _ h => h) (Or.inl ⟨by rfl, ?_⟩) (by assumption) ?_
    rotate_left
    · intro w hSw
      try dsimp only at hSw
      go_simp
      try with_reducible rfl
    try simp only [Act.put, List.setIfInBounds_toArray, List.set_cons_zero, List.set_cons_succ]
    refine wpAnyH_take (i := 2) (oi := { dst := some 39, op := Go.Op.move (Go.Operand.tmp 4), type := 4, pos := "law.go:56", after := #[], guard := none }) (v := ?_) rfl (by kernel_rfl) (by kernel_rfl) (by kernel_rfl) (fun _ _ _ h => h) (Or.inl ⟨by rfl, ?_⟩) (by assumption) ?_
    rotate_left
    · intro w hSw
      try dsimp only at hSw
      go_simp
      try with_reducible rfl
    try simp only [Act.put, List.setIfInBounds_toArray, List.set_cons_zero, List.set_cons_succ]
    refine wpAnyH_take (i := 3) (oi := { dst := some 40, op := Go.Op.move (Go.Operand.tmp 39), type := 4, pos := "law.go:56", after := #[{ on := 2, ground := Go.Ground.data }], guard := none }) (v := ?_) rfl (by kernel_rfl) (by kernel_rfl) (by kernel_rfl) (fun _ _ _ h => h) (Or.inl ⟨by rfl, ?_⟩) (by assumption) ?_
    rotate_left
    · intro w hSw
      try dsimp only at hSw
      go_simp
      try with_reducible rfl
    try simp only [Act.put, List.setIfInBounds_toArray, List.set_cons_zero, List.set_cons_succ]
    refine wpAnyH_take (i := 4) (oi := { dst := some 41, op := Go.Op.move (Go.Operand.tmp 5), type := 4, pos := "law.go:56", after := #[{ on := 3, ground := Go.Ground.guard }], guard := some (3, false) }) (v := undef) rfl (by kernel_rfl) (by kernel_rfl) (by kernel_rfl) (fun _ _ _ h => h) (Or.inr ⟨by rfl, rfl⟩) (by assumption) ?_
    try simp only [Act.put, List.setIfInBounds_toArray, List.set_cons_zero, List.set_cons_succ]
    refine wpAnyH_take (i := 5) (oi := { dst := some 42, op := Go.Op.pick (Go.Operand.tmp 40) (Go.Operand.const (Go.Value.bool true)) (Go.Operand.tmp 41), type := 4, pos := "law.go:56", after := #[{ on := 3, ground := Go.Ground.data }, { on := 4, ground := Go.Ground.data }], guard := none }) (v := ?_) rfl (by kernel_rfl) (by kernel_rfl) (by kernel_rfl) (fun _ _ _ h => h) (Or.inl ⟨by rfl, ?_⟩) (by assumption) ?_
    rotate_left
    · intro w hSw
      try dsimp only at hSw
      go_simp
      try with_reducible rfl
    try simp only [Act.put, List.setIfInBounds_toArray, List.set_cons_zero, List.set_cons_succ]
    refine wpAnyH_take (i := 6) (oi := { dst := some 43, op := Go.Op.binOp Go.BinOp.neq 4 (Go.Operand.tmp 38) (Go.Operand.tmp 42) 4, type := 4, pos := "law.go:56", after := #[{ on := 1, ground := Go.Ground.data }, { on := 5, ground := Go.Ground.data }], guard := none }) (v := ?_) rfl (by kernel_rfl) (by kernel_rfl) (by kernel_rfl) (fun _ _ _ h => h) (Or.inl ⟨by rfl, ?_⟩) (by assumption) ?_
    rotate_left
    · intro w hSw
      try dsimp only at hSw
      go_simp
      try with_reducible rfl
    try simp only [Act.put, List.setIfInBounds_toArray, List.set_cons_zero, List.set_cons_succ]
    refine wpAnyH_take (i := 7) (oi := { dst := some 44, op := Go.Op.move (Go.Operand.tmp 43), type := 4, pos := "law.go:56", after := #[{ on := 6, ground := Go.Ground.data }, { on := 3, ground := Go.Ground.chain }], guard := none }) (v := ?_) rfl (by kernel_rfl) (by kernel_rfl) (by kernel_rfl) (fun _ _ _ h => h) (Or.inl ⟨by rfl, ?_⟩) (by assumption) ?_
    rotate_left
    · intro w hSw
      try dsimp only at hSw
      go_simp
      try with_reducible rfl
    try simp only [Act.put, List.setIfInBounds_toArray, List.set_cons_zero, List.set_cons_succ]
    refine wpAnyH_take (i := 8) (oi := { dst := some 45, op := Go.Op.load 25 (Go.Operand.tmp 1), type := 25, pos := "law.go:56", after := #[{ on := 7, ground := Go.Ground.guard }], guard := some (7, false) }) (v := ?_) rfl (by kernel_rfl) (by kernel_rfl) (by kernel_rfl) (fun _ _ _ h => h) (Or.inl ⟨by rfl, ?_⟩) (by assumption) ?_
    rotate_left
    · intro w hSw
      try dsimp only at hSw
      go_simp
      try with_reducible rfl
    try simp only [Act.put, List.setIfInBounds_toArray, List.set_cons_zero, List.set_cons_succ]
    refine wpAnyH_take (i := 10) (oi := { dst := some 47, op := Go.Op.fieldAddr 25 (Go.Operand.tmp 1) 0, type := 0, pos := "law.go:56", after := #[{ on := 7, ground := Go.Ground.guard }], guard := some (7, false) }) (v := ?_) rfl (by kernel_rfl) (by kernel_rfl) (by kernel_rfl) (fun _ _ _ h => h) (Or.inl ⟨by rfl, ?_⟩) (by assumption) ?_
    rotate_left
    · intro w hSw
      try dsimp only at hSw
      go_simp
      try with_reducible rfl
    try simp only [Act.put, List.setIfInBounds_toArray, List.set_cons_zero, List.set_cons_succ]
    refine wpAnyH_take (i := 11) (oi := { dst := some 48, op := Go.Op.load 3 (Go.Operand.tmp 47), type := 3, pos := "law.go:56", after := #[{ on := 10, ground := Go.Ground.data }, { on := 7, ground := Go.Ground.guard }], guard := some (7, false) }) (v := ?_) rfl (by kernel_rfl) (by kernel_rfl) (by kernel_rfl) (fun _ _ _ h => h) (Or.inl ⟨by rfl, ?_⟩) (by assumption) ?_
    rotate_left
    · intro w hSw
      try dsimp only at hSw
      go_simp
      try with_reducible rfl
    try simp only [Act.put, List.setIfInBounds_toArray, List.set_cons_zero, List.set_cons_succ]
    refine wpAnyH_take (i := 12) (oi := { dst := some 49, op := Go.Op.binOp Go.BinOp.geq 3 (Go.Operand.tmp 48) (Go.Operand.const (Go.Value.int Go.IntKind.i64 2)) 3, type := 4, pos := "law.go:56", after := #[{ on := 11, ground := Go.Ground.data }, { on := 7, ground := Go.Ground.guard }], guard := some (7, false) }) (v := ?_) rfl (by kernel_rfl) (by kernel_rfl) (by kernel_rfl) (fun _ _ _ h => h) (Or.inl ⟨by rfl, ?_⟩) (by assumption) ?_
    rotate_left
    · intro w hSw
      try dsimp only at hSw
      go_simp
      try with_reducible rfl
    try simp only [Act.put, List.setIfInBounds_toArray, List.set_cons_zero, List.set_cons_succ]
    refine wpAnyH_ready (rs := [9]) (by kernel_rfl) (by simp) ?_
    refine AllReadyH.cons (o := { dst := some 46, op := Go.Op.call { callee := Go.Callee.value (Go.Operand.func 21), args := #[Go.Operand.tmp 45], argTypes := #[25] }, type := 4, pos := "law.go:56", after := #[{ on := 8, ground := Go.Ground.data }, { on := 7, ground := Go.Ground.chain }, { on := 7, ground := Go.Ground.guard }], guard := some (7, false) }) rfl (fun K hK => ?_) AllReadyH.nil
    go_simp
    refine (fault_any ⟨2, d, 0⟩ _).mono ?_
    rw [hf]
    rintro e w2 ⟨rfl, hb2⟩
    have hc2 := (by first | exact bcell (undrew hb2) | exact bcell hb2)
    replace hbb := (by first | exact bTrans hbb (undrew hb2) | exact bTrans hbb hb2)
    have hz0 := Nat.lt_of_lt_of_le hs0 hbb.size
    try (go_wp2_with fail)
    refine hK.out _ _ ?_ (fun hHeld => ?_)
    · try dsimp only
      go_keep
    clear hK K
    try simp only [Act.put, List.setIfInBounds_toArray, List.set_cons_zero, List.set_cons_succ]
    refine wpAnyH_take (i := 13) (oi := { dst := some 50, op := Go.Op.move (Go.Operand.tmp 49), type := 4, pos := "law.go:56", after := #[{ on := 12, ground := Go.Ground.data }, { on := 9, ground := Go.Ground.chain }, { on := 7, ground := Go.Ground.guard }], guard := some (7, false) }) (v := ?_) rfl (by kernel_rfl) (by kernel_rfl) (by kernel_rfl) (fun _ _ _ h => h) (Or.inl ⟨by rfl, ?_⟩) (by assumption) ?_
    rotate_left
    · intro w hSw
      try dsimp only at hSw
      go_simp
      try with_reducible rfl
    try simp only [Act.put, List.setIfInBounds_toArray, List.set_cons_zero, List.set_cons_succ]
    refine wpAnyH_take (i := 14) (oi := { dst := some 51, op := Go.Op.fieldAddr 25 (Go.Operand.tmp 1) 0, type := 0, pos := "law.go:56", after := #[{ on := 13, ground := Go.Ground.guard }], guard := some (13, true) }) (v := ?_) rfl (by kernel_rfl) (by kernel_rfl) (by kernel_rfl) (fun _ _ _ h => h) (Or.inl ⟨by rfl, ?_⟩) (by assumption) ?_
    rotate_left
    · intro w hSw
      try dsimp only at hSw
      go_simp
      try with_reducible rfl
    try simp only [Act.put, List.setIfInBounds_toArray, List.set_cons_zero, List.set_cons_succ]
    refine wpAnyH_take (i := 15) (oi := { dst := some 52, op := Go.Op.load 3 (Go.Operand.tmp 51), type := 3, pos := "law.go:56", after := #[{ on := 14, ground := Go.Ground.data }, { on := 13, ground := Go.Ground.guard }], guard := some (13, true) }) (v := ?_) rfl (by kernel_rfl) (by kernel_rfl) (by kernel_rfl) (fun _ _ _ h => h) (Or.inl ⟨by rfl, ?_⟩) (by assumption) ?_
    rotate_left
    · intro w hSw
      try dsimp only at hSw
      go_simp
      try with_reducible rfl
    try simp only [Act.put, List.setIfInBounds_toArray, List.set_cons_zero, List.set_cons_succ]
    refine wpAnyH_take (i := 16) (oi := { dst := some 53, op := Go.Op.binOp Go.BinOp.leq 3 (Go.Operand.tmp 52) (Go.Operand.const (Go.Value.int Go.IntKind.i64 5)) 3, type := 4, pos := "law.go:56", after := #[{ on := 15, ground := Go.Ground.data }, { on := 13, ground := Go.Ground.guard }], guard := some (13, true) }) (v := ?_) rfl (by kernel_rfl) (by kernel_rfl) (by kernel_rfl) (fun _ _ _ h => h) (Or.inl ⟨by rfl, ?_⟩) (by assumption) ?_
    rotate_left
    · intro w hSw
      try dsimp only at hSw
      go_simp
      try with_reducible rfl
    try simp only [Act.put, List.setIfInBounds_toArray, List.set_cons_zero, List.set_cons_succ]
    refine wpAnyH_take (i := 17) (oi := { dst := some 54, op := Go.Op.pick (Go.Operand.tmp 50) (Go.Operand.tmp 53) (Go.Operand.const (Go.Value.bool false)), type := 4, pos := "law.go:56", after := #[{ on := 13, ground := Go.Ground.data }, { on := 16, ground := Go.Ground.data }, { on := 7, ground := Go.Ground.guard }], guard := some (7, false) }) (v := ?_) rfl (by kernel_rfl) (by kernel_rfl) (by kernel_rfl) (fun _ _ _ h => h) (Or.inl ⟨by rfl, ?_⟩) (by assumption) ?_
    rotate_left
    · intro w hSw
      try dsimp only at hSw
      go_simp
      try with_reducible rfl
    try simp only [Act.put, List.setIfInBounds_toArray, List.set_cons_zero, List.set_cons_succ]
    refine wpAnyH_take (i := 18) (oi := { dst := some 55, op := Go.Op.binOp Go.BinOp.neq 4 (Go.Operand.tmp 46) (Go.Operand.tmp 54) 4, type := 4, pos := "law.go:56", after := #[{ on := 9, ground := Go.Ground.data }, { on := 17, ground := Go.Ground.data }, { on := 7, ground := Go.Ground.guard }], guard := some (7, false) }) (v := ?_) rfl (by kernel_rfl) (by kernel_rfl) (by kernel_rfl) (fun _ _ _ h => h) (Or.inl ⟨by rfl, ?_⟩) (by assumption) ?_
    rotate_left
    · intro w hSw
      try dsimp only at hSw
      go_simp
      try with_reducible rfl
    try simp only [Act.put, List.setIfInBounds_toArray, List.set_cons_zero, List.set_cons_succ]
    refine wpAnyH_take (i := 19) (oi := { dst := some 56, op := Go.Op.pick (Go.Operand.tmp 44) (Go.Operand.const (Go.Value.bool true)) (Go.Operand.tmp 55), type := 4, pos := "law.go:56", after := #[{ on := 7, ground := Go.Ground.data }, { on := 18, ground := Go.Ground.data }], guard := none }) (v := ?_) rfl (by kernel_rfl) (by kernel_rfl) (by kernel_rfl) (fun _ _ _ h => h) (Or.inl ⟨by rfl, ?_⟩) (by assumption) ?_
    rotate_left
    · intro w hSw
      try dsimp only at hSw
      go_simp
      try with_reducible rfl
    try simp only [Act.put, List.setIfInBounds_toArray, List.set_cons_zero, List.set_cons_succ]
    refine wpAnyH_done (by kernel_rfl) ?_ _
    all_goals (go_wp2_with fail; go_meet)
    all_goals exact ⟨rfl, hid_mk hbb⟩
  case rest =>
    obtain ⟨rfl, HC⟩ := hcut
    have HW : Hid (Below w.heap.size w wc) := bTrans HL.out HC.out
    have k2 : wc.heap[w.heap.size]? = some (.cells #[.int .i64 2, .int .i64 d.f, .int .i64 d.n, .int .i64 d.c, .int .i64 0] 25) := (HC.out.block _ hs0).trans K1.out
    have hs1 : w.heap.size < wc.heap.size := Nat.lt_of_lt_of_le hs0 HC.out.size
    clear x0 x1 x2 x3 x4 hbb hs0 HC K1 HL
    obtain ⟨x0, x1, x2, x3, x4⟩ := blk5 k2
    go_wp2_with fail
    refine (text_any d (wc.alloc (.cells #[.int .i64 2, .int .i64 d.f, .int .i64 d.n, .int .i64 d.c, .int .i64 1] 25)) HR.out.2.1 (HE.out.below (bAlloc HW.out _))).mono ?_
    rintro e w3 ⟨rfl, hb3⟩
    have HW3 : Hid (Below w.heap.size w w3) := bTrans (bAlloc HW.out _) hb3
    have k3 : w3.heap[wc.heap.size]? = some (.cells #[.int .i64 2, .int .i64 d.f, .int .i64 d.n, .int .i64 d.c, .int .i64 1] 25) := (hb3.block _ (by simp)).trans (heap_new _ _)
    obtain ⟨y0, y1, y2, y3, y4⟩ := blk5 k3
    clear hb3 k3 k2 x0 x1 x2 x3 x4
    obtain ⟨T, hT⟩ : ∃ T, tid d = T := ⟨_, rfl⟩
    have HT : Hid (N = [100, 114, 111, 112] ++ 32 :: T) := by rw [← hT]; exact HN
    rw [hT]
    clear hT HN
    have z0 : (bs N).size = 4 + 1 + (bs T).size := by rw [HT.out, bs_size, bs_size]; simp; try omega
    have z1 : (bs T).size < (bs N).size := by omega
    have z2 : (bs N).extract (4 + 1) (4 + 1 + (bs T).size) = bs T := by
      rw [HT.out]
      apply ByteArray.ext
      rw [ByteArray.data_extract]
      simp [bs, ByteArray.size]
    have z3 : ((bs N).extract 5 (5 + (bs T).size)).toList = (bs T).toList := congrArg ByteArray.toList z2
    have z4 : ((bs N).extract 5 (5 + (bs T).size)) = bs T := z2
    have z5 : (bs T).toList = (bs T).toList := rfl
    have hn2 : nameE ⟨2, d, 1⟩ = [] := nameE_no (fun h => by cases h.2) (fun h => by cases h.1)
    have HR2 : Hid (RgE ⟨2, d, 1⟩) := ⟨HR.out.1, HR.out.2.1, (show Rg 1 from ⟨by decide, by decide⟩)⟩
    have he1 := emp_yes (l := []) rfl
    go_wp2_with fail
    refine (name_any ⟨2, d, 1⟩ w3 HR2.out (HE.out.below HW3.out)).mono ?_
    rw [hn2]
    rintro e w5 ⟨rfl, hb5⟩
    go_wp2_with (go_at_call 8; refine (awake_any _ (HE.out.below (bTrans HW3.out hb5))).mono ?_; rintro e w9 ⟨rfl, hb9⟩)
    go_ret
    exact ⟨rfl, bTrans (bTrans HW3.out hb5) hb9⟩
set_option maxHeartbeats 8000000 in
set_option maxRecDepth 100000 in
theorem names_b2 (w : World) (he : Env w) (d : PID) (u : Int) (hr : RgE ⟨2, d, u⟩) (hu : u ≠ 0) :
    Calls Tryd.prog 6 #[.agg #[.int .i64 2, .int .i64 d.f, .int .i64 d.n, .int .i64 d.c, .int .i64 u]] w fun e w' => e = .returned (.bool true) ∧ Below w.heap.size w w' := by
  have HE : Hid (Env w) := he
  have HR : Hid (RgE ⟨2, d, u⟩) := hr
  have hgD := gD
  obtain ⟨N, hnm⟩ : ∃ N, nameE ⟨2, d, u⟩ = N := ⟨_, rfl⟩
  have he0 : (bs N).toList.isEmpty = true := emp_yes (by rw [← hnm]; exact nameE_no (fun h => hu h.2) (fun h => by cases h.1))
  have q1 : (u == 0) = false := by simp [hu]
  clear he hr
  go_enter Tryd.func6, Tryd.ntmps6
  go_wp2_with fail
  refine (name_any ⟨2, d, u⟩ _ HR.out (HE.out.below (bAlloc (bRefl _) _))).mono ?_
  rw [hnm]
  rintro e w1 ⟨rfl, hb1⟩
  have HL : Hid (Below w.heap.size w w1) := bTrans (bAlloc (bRefl _) _) hb1
  have k1 : w1.heap[w.heap.size]? = some (.cells #[.int .i64 2, .int .i64 d.f, .int .i64 d.n, .int .i64 d.c, .int .i64 u] 25) := (hb1.block _ (by simp)).trans (heap_new _ _)
  have hs0 : w.heap.size < w1.heap.size := (Array.getElem?_eq_some_iff.1 k1).1
  obtain ⟨x0, x1, x2, x3, x4⟩ := blk5 k1
  have K1 : Hid (w1.heap[w.heap.size]? = some (.cells #[.int .i64 2, .int .i64 d.f, .int .i64 d.n, .int .i64 d.c, .int .i64 u] 25)) := k1
  have hbb : Below w1.heap.size w1 w1 := bRefl w1
  have hf : faultE ⟨2, d, u⟩ = true := rfl
  clear hb1 k1
  go_wp2_with fail
  go_cut [56] (fun i56 wc => i56 = .bool false ∧ Hid (Below w1.heap.size w1 wc))
  case first =>
    go_region_held3 (fun w' => w'.cell? ⟨w.heap.size, 0, none⟩ = some (.int .i64 2) ∧ w'.cell? ⟨w.heap.size, 1, none⟩ = some (.int .i64 d.f) ∧ w'.cell? ⟨w.heap.size, 2, none⟩ = some (.int .i64 d.n) ∧ w'.cell? ⟨w.heap.size, 3, none⟩ = some (.int .i64 d.c) ∧ w'.cell? ⟨w.heap.size, 4, none⟩ = some (.int .i64 u)) (go_keep) (first | (go_at_call 21; refine (fault_any ⟨2, d, u⟩ _).mono ?_; rw [hf]; rintro e w2 ⟨rfl, hb2⟩; have hc2 := (by first | exact bcell (undrew hb2) | exact bcell hb2); replace hbb := (by first | exact bTrans hbb (undrew hb2) | exact bTrans hbb hb2); have hz0 := Nat.lt_of_lt_of_le hs0 hbb.size))
    all_goals (go_wp2_with fail; go_meet)
    all_goals exact ⟨rfl, hid_mk hbb⟩
  case rest =>
    obtain ⟨rfl, HC⟩ := hcut
    have HW : Hid (Below w.heap.size w wc) := bTrans HL.out HC.out
    have k2 : wc.heap[w.heap.size]? = some (.cells #[.int .i64 2, .int .i64 d.f, .int .i64 d.n, .int .i64 d.c, .int .i64 u] 25) := (HC.out.block _ hs0).trans K1.out
    have hs1 : w.heap.size < wc.heap.size := Nat.lt_of_lt_of_le hs0 HC.out.size
    clear x0 x1 x2 x3 x4 hbb hs0 HC K1 HL
    obtain ⟨x0, x1, x2, x3, x4⟩ := blk5 k2
    go_wp2_with (go_at_call 8; refine (awake_any _ (HE.out.below HW.out)).mono ?_; rintro e w9 ⟨rfl, hb9⟩)
    go_ret
    exact ⟨rfl, bTrans HW.out hb9⟩
set_option maxHeartbeats 8000000 in
set_option maxRecDepth 100000 in
theorem names_a3 (w : World) (he : Env w) (d : PID) (hr : RgE ⟨3, d, 0⟩)  :
    Calls Tryd.prog 6 #[.agg #[.int .i64 3, .int .i64 d.f, .int .i64 d.n, .int .i64 d.c, .int .i64 0]] w fun e w' => e = .returned (.bool true) ∧ Below w.heap.size w w' := by
  have HE : Hid (Env w) := he
  have HR : Hid (RgE ⟨3, d, 0⟩) := hr
  have hgD := gD
  obtain ⟨N, hnm⟩ : ∃ N, nameE ⟨3, d, 0⟩ = N := ⟨_, rfl⟩
  have HN : Hid (N = [100, 117, 112] ++ 32 :: tid d) := by rw [← hnm]; exact nameE_msg (x := ⟨3, d, 0⟩) rfl rfl
  have he0 : (bs N).toList.isEmpty = false := emp_no (by rw [HN.out]; simp)
  clear he hr
  go_enter Tryd.func6, Tryd.ntmps6
  go_wp2_with fail
  refine (name_any ⟨3, d, 0⟩ _ HR.out (HE.out.below (bAlloc (bRefl _) _))).mono ?_
  rw [hnm]
  rintro e w1 ⟨rfl, hb1⟩
  have HL : Hid (Below w.heap.size w w1) := bTrans (bAlloc (bRefl _) _) hb1
  have k1 : w1.heap[w.heap.size]? = some (.cells #[.int .i64 3, .int .i64 d.f, .int .i64 d.n, .int .i64 d.c, .int .i64 0] 25) := (hb1.block _ (by simp)).trans (heap_new _ _)
  have hs0 : w.heap.size < w1.heap.size := (Array.getElem?_eq_some_iff.1 k1).1
  obtain ⟨x0, x1, x2, x3, x4⟩ := blk5 k1
  have K1 : Hid (w1.heap[w.heap.size]? = some (.cells #[.int .i64 3, .int .i64 d.f, .int .i64 d.n, .int .i64 d.c, .int .i64 0] 25)) := k1
  have hbb : Below w1.heap.size w1 w1 := bRefl w1
  have hf : faultE ⟨3, d, 0⟩ = true := rfl
  clear hb1 k1
  go_wp2_with fail
  go_cut [56] (fun i56 wc => i56 = .bool false ∧ Hid (Below w1.heap.size w1 wc))
  case first =>
    refine wp_region_held_drew (S := (fun w' => w'.cell? ⟨w.heap.size, 0, none⟩ = some (.int .i64 3) ∧ w'.cell? ⟨w.heap.size, 1, none⟩ = some (.int .i64 d.f) ∧ w'.cell? ⟨w.heap.size, 2, none⟩ = some (.int .i64 d.n) ∧ w'.cell? ⟨w.heap.size, 3, none⟩ = some (.int .i64 d.c) ∧ w'.cell? ⟨w.heap.size, 4, none⟩ = some (.int .i64 0))) (by kernel_rfl) ?_ (fun hHeld => ?_)
    · try dsimp only
      go_keep
    refine wpAnyH_take (i := 0) (oi := { dst := some 37, op := Go.Op.move (Go.Operand.tmp 3), type := 9, pos := "law.go:56", after := #[], guard := none }) (v := ?_) rfl (by kernel_rfl) (by kernel_rfl) (by kernel_rfl) (fun _ _ _ h => h) (Or.inl ⟨by rfl, ?_⟩) (by assumption) ?_
    rotate_left
    · intro w hSw
      try dsimp only at hSw
      go_simp
      try with_reducible rfl
    try simp only [Act.put, List.setIfInBounds_toArray, List.set_cons_zero, List.set_cons_succ]
    refine wpAnyH_take (i := 1) (oi := { dst := some 38, op := Go.Op.binOp Go.BinOp.neq 9 (Go.Operand.tmp 37) (Go.Operand.const (Go.Value.string { data := #[] })) 9, type := 4, pos := "law.go:56", after := #[{ on := 0, ground := Go.Ground.data }], guard := none }) (v := ?_) rfl (by kernel_rfl) (by kernel_rfl) (by kernel_rfl) (fun _ _ _ h => h) (Or.inl ⟨by rfl, ?_⟩) (by assumption) ?_
    rotate_left
    · intro w hSw
      try dsimp only at hSw
      go_simp
      try with_reducible rfl
    try simp only [Act.put, List.setIfInBounds_toArray, List.set_cons_zero, List.set_cons_succ]
    refine wpAnyH_take (i := 2) (oi := { dst := some 39, op := Go.Op.move (Go.Operand.tmp 4), type := 4, pos := "law.go:56", after := #[], guard := none }) (v := ?_) rfl (by kernel_rfl) (by kernel_rfl) (by kernel_rfl) (fun _ _ _ h => h) (Or.inl ⟨by rfl, ?_⟩) (by assumption) ?_
    rotate_left
    · intro w hSw
      try dsimp only at hSw
      go_simp
      try with_reducible rfl
    try simp only [Act.put, List.setIfInBounds_toArray, List.set_cons_zero, List.set_cons_succ]
    refine wpAnyH_take (i := 3) (oi := { dst := some 40, op := Go.Op.move (Go.Operand.tmp 39), type := 4, pos := "law.go:56", after := #[{ on := 2, ground := Go.Ground.data }], guard := none }) (v := ?_) rfl (by kernel_rfl) (by kernel_rfl) (by kernel_rfl) (fun _ _ _ h => h) (Or.inl ⟨by rfl, ?_⟩) (by assumption) ?_
    rotate_left
    · intro w hSw
      try dsimp only at hSw
      go_simp
      try with_reducible rfl
    try simp only [Act.put, List.setIfInBounds_toArray, List.set_cons_zero, List.set_cons_succ]
    refine wpAnyH_take (i := 4) (oi := { dst := some 41, op := Go.Op.move (Go.Operand.tmp 5), type := 4, pos := "law.go:56", after := #[{ on := 3, ground := Go.Ground.guard }], guard := some (3, false) }) (v := undef) rfl (by kernel_rfl) (by kernel_rfl) (by kernel_rfl) (fun _ _ _ h => h) (Or.inr ⟨by rfl, rfl⟩) (by assumption) ?_
    try simp only [Act.put, List.setIfInBounds_toArray, List.set_cons_zero, List.set_cons_succ]
    refine wpAnyH_take (i := 5) (oi := { dst := some 42, op := Go.Op.pick (Go.Operand.tmp 40) (Go.Operand.const (Go.Value.bool true)) (Go.Operand.tmp 41), type := 4, pos := "law.go:56", after := #[{ on := 3, ground := Go.Ground.data }, { on := 4, ground := Go.Ground.data }], guard := none }) (v := ?_) rfl (by kernel_rfl) (by kernel_rfl) (by kernel_rfl) (fun _ _ _ h => h) (Or.inl ⟨by rfl, ?_⟩) (by assumption) ?_
    rotate_left
    · intro w hSw
      try dsimp only at hSw
      go_simp
      try with_reducible rfl
    try simp only [Act.put, List.setIfInBounds_toArray, List.set_cons_zero, List.set_cons_succ]
    refine wpAnyH_take (i := 6) (oi := { dst := some 43, op := Go.Op.binOp Go.BinOp.neq 4 (Go.Operand.tmp 38) (Go.Operand.tmp 42) 4, type := 4, pos := "law.go:56", after := #[{ on := 1, ground := Go.Ground.data }, { on := 5, ground := Go.Ground.data }], guard := none }) (v := ?_) rfl (by kernel_rfl) (by kernel_rfl) (by kernel_rfl) (fun _ _ _ h => h) (Or.inl ⟨by rfl, ?_⟩) (by assumption) ?_
    rotate_left
    · intro w hSw
      try dsimp only at hSw
      go_simp
      try with_reducible rfl
    try simp only [Act.put, List.setIfInBounds_toArray, List.set_cons_zero, List.set_cons_succ]
    refine wpAnyH_take (i := 7) (oi := { dst := some 44, op := Go.Op.move (Go.Operand.tmp 43), type := 4, pos := "law.go:56", after := #[{ on := 6, ground := Go.Ground.data }, { on := 3, ground := Go.Ground.chain }], guard := none }) (v := ?_) rfl (by kernel_rfl) (by kernel_rfl) (by kernel_rfl) (fun _ _ _ h => h) (Or.inl ⟨by rfl, ?_⟩) (by assumption) ?_
    rotate_left
    · intro w hSw
      try dsimp only at hSw
      go_simp
      try with_reducible rfl
    try simp only [Act.put, List.setIfInBounds_toArray, List.set_cons_zero, List.set_cons_succ]
    refine wpAnyH_take (i := 8) (oi := { dst := some 45, op := Go.Op.load 25 (Go.Operand.tmp 1), type := 25, pos := "law.go:56", after := #[{ on := 7, ground := Go.Ground.guard }], guard := some (7, false) }) (v := ?_) rfl (by kernel_rfl) (by kernel_rfl) (by kernel_rfl) (fun _ _ _ h => h) (Or.inl ⟨by rfl, ?_⟩) (by assumption) ?_
    rotate_left
    · intro w hSw
      try dsimp only at hSw
      go_simp
      try with_reducible rfl
    try simp only [Act.put, List.setIfInBounds_toArray, List.set_cons_zero, List.set_cons_succ]
    refine wpAnyH_take (i := 10) (oi := { dst := some 47, op := Go.Op.fieldAddr 25 (Go.Operand.tmp 1) 0, type := 0, pos := "law.go:56", after := #[{ on := 7, ground := Go.Ground.guard }], guard := some (7, false) }) (v := ?_) rfl (by kernel_rfl) (by kernel_rfl) (by kernel_rfl) (fun _ _ _ h => h) (Or.inl ⟨by rfl, ?_⟩) (by assumption) ?_
    rotate_left
    · intro w hSw
      try dsimp only at hSw
      go_simp
      try with_reducible rfl
    try simp only [Act.put, List.setIfInBounds_toArray, List.set_cons_zero, List.set_cons_succ]
    refine wpAnyH_take (i := 11) (oi := { dst := some 48, op := Go.Op.load 3 (Go.Operand.tmp 47), type := 3, pos := "law.go:56", after := #[{ on := 10, ground := Go.Ground.data }, { on := 7, ground := Go.Ground.guard }], guard := some (7, false) }) (v := ?_) rfl (by kernel_rfl) (by kernel_rfl) (by kernel_rfl) (fun _ _ _ h => h) (Or.inl ⟨by rfl, ?_⟩) (by assumption) ?_
    rotate_left
    · intro w hSw
      try dsimp only at hSw
      go_simp
      try with_reducible rfl
    try simp only [Act.put, List.setIfInBounds_toArray, List.set_cons_zero, List.set_cons_succ]
    refine wpAnyH_take (i := 12) (oi := { dst := some 49, op := Go.Op.binOp Go.BinOp.geq 3 (Go.Operand.tmp 48) (Go.Operand.const (Go.Value.int Go.IntKind.i64 2)) 3, type := 4, pos := "law.go:56", after := #[{ on := 11, ground := Go.Ground.data }, { on := 7, ground := Go.Ground.guard }], guard := some (7, false) }) (v := ?_) rfl (by kernel_rfl) (by kernel_rfl) (by kernel_rfl) (fun _ _ _ h => h) (Or.inl ⟨by rfl, ?_⟩) (by assumption) ?_
    rotate_left
    · intro w hSw
      try dsimp only at hSw
      go_simp
      try with_reducible rfl
    try simp only [Act.put, List.setIfInBounds_toArray, List.set_cons_zero, List.set_cons_succ]
    refine wpAnyH_ready (rs := [9]) (by kernel_rfl) (by simp) ?_
    refine AllReadyH.cons (o := { dst := some 46, op := Go.Op.call { callee := Go.Callee.value (Go.Operand.func 21), args := #[Go.Operand.tmp 45], argTypes := #[25] }, type := 4, pos := "law.go:56", after := #[{ on := 8, ground := Go.Ground.data }, { on := 7, ground := Go.Ground.chain }, { on := 7, ground := Go.Ground.guard }], guard := some (7, false) }) rfl (fun K hK => ?_) AllReadyH.nil
    go_simp
    refine (fault_any ⟨3, d, 0⟩ _).mono ?_
    rw [hf]
    rintro e w2 ⟨rfl, hb2⟩
    have hc2 := (by first | exact bcell (undrew hb2) | exact bcell hb2)
    replace hbb := (by first | exact bTrans hbb (undrew hb2) | exact bTrans hbb hb2)
    have hz0 := Nat.lt_of_lt_of_le hs0 hbb.size
    try (go_wp2_with fail)
    refine hK.out _ _ ?_ (fun hHeld => ?_)
    · try dsimp only
      go_keep
    clear hK K
    try simp only [Act.put, List.setIfInBounds_toArray, List.set_cons_zero, List.set_cons_succ]
    refine wpAnyH_take (i := 13) (oi := { dst := some 50, op := Go.Op.move (Go.Operand.tmp 49), type := 4, pos := "law.go:56", after := #[{ on := 12, ground := Go.Ground.data }, { on := 9, ground := Go.Ground.chain }, { on := 7, ground := Go.Ground.guard }], guard := some (7, false) }) (v := ?_) rfl (by kernel_rfl) (by kernel_rfl) (by kernel_rfl) (fun _ _ _ h => h) (Or.inl ⟨by rfl, ?_⟩) (by assumption) ?_
    rotate_left
    · intro w hSw
      try dsimp only at hSw
      go_simp
      try with_reducible rfl
    try simp only [Act.put, List.setIfInBounds_toArray, List.set_cons_zero, List.set_cons_succ]
    refine wpAnyH_take (i := 14) (oi := { dst := some 51, op := Go.Op.fieldAddr 25 (Go.Operand.tmp 1) 0, type := 0, pos := "law.go:56", after := #[{ on := 13, ground := Go.Ground.guard }], guard := some (13, true) }) (v := ?_) rfl (by kernel_rfl) (by kernel_rfl) (by kernel_rfl) (fun _ _ _ h => h) (Or.inl ⟨by rfl, ?_⟩) (by assumption) ?_
    rotate_left
    · intro w hSw
      try dsimp only at hSw
      go_simp
      try with_reducible rfl
    try simp only [Act.put, List.setIfInBounds_toArray, List.set_cons_zero, List.set_cons_succ]
    refine wpAnyH_take (i := 15) (oi := { dst := some 52, op := Go.Op.load 3 (Go.Operand.tmp 51), type := 3, pos := "law.go:56", after := #[{ on := 14, ground := Go.Ground.data }, { on := 13, ground := Go.Ground.guard }], guard := some (13, true) }) (v := ?_) rfl (by kernel_rfl) (by kernel_rfl) (by kernel_rfl) (fun _ _ _ h => h) (Or.inl ⟨by rfl, ?_⟩) (by assumption) ?_
    rotate_left
    · intro w hSw
      try dsimp only at hSw
      go_simp
      try with_reducible rfl
    try simp only [Act.put, List.setIfInBounds_toArray, List.set_cons_zero, List.set_cons_succ]
    refine wpAnyH_take (i := 16) (oi := { dst := some 53, op := Go.Op.binOp Go.BinOp.leq 3 (Go.Operand.tmp 52) (Go.Operand.const (Go.Value.int Go.IntKind.i64 5)) 3, type := 4, pos := "law.go:56", after := #[{ on := 15, ground := Go.Ground.data }, { on := 13, ground := Go.Ground.guard }], guard := some (13, true) }) (v := ?_) rfl (by kernel_rfl) (by kernel_rfl) (by kernel_rfl) (fun _ _ _ h => h) (Or.inl ⟨by rfl, ?_⟩) (by assumption) ?_
    rotate_left
    · intro w hSw
      try dsimp only at hSw
      go_simp
      try with_reducible rfl
    try simp only [Act.put, List.setIfInBounds_toArray, List.set_cons_zero, List.set_cons_succ]
    refine wpAnyH_take (i := 17) (oi := { dst := some 54, op := Go.Op.pick (Go.Operand.tmp 50) (Go.Operand.tmp 53) (Go.Operand.const (Go.Value.bool false)), type := 4, pos := "law.go:56", after := #[{ on := 13, ground := Go.Ground.data }, { on := 16, ground := Go.Ground.data }, { on := 7, ground := Go.Ground.guard }], guard := some (7, false) }) (v := ?_) rfl (by kernel_rfl) (by kernel_rfl) (by kernel_rfl) (fun _ _ _ h => h) (Or.inl ⟨by rfl, ?_⟩) (by assumption) ?_
    rotate_left
    · intro w hSw
      try dsimp only at hSw
      go_simp
      try with_reducible rfl
    try simp only [Act.put, List.setIfInBounds_toArray, List.set_cons_zero, List.set_cons_succ]
    refine wpAnyH_take (i := 18) (oi := { dst := some 55, op := Go.Op.binOp Go.BinOp.neq 4 (Go.Operand.tmp 46) (Go.Operand.tmp 54) 4, type := 4, pos := "law.go:56", after := #[{ on := 9, ground := Go.Ground.data }, { on := 17, ground := Go.Ground.data }, { on := 7, ground := Go.Ground.guard }], guard := some (7, false) }) (v := ?_) rfl (by kernel_rfl) (by kernel_rfl) (by kernel_rfl) (fun _ _ _ h => h) (Or.inl ⟨by rfl, ?_⟩) (by assumption) ?_
    rotate_left
    · intro w hSw
      try dsimp only at hSw
      go_simp
      try with_reducible rfl
    try simp only [Act.put, List.setIfInBounds_toArray, List.set_cons_zero, List.set_cons_succ]
    refine wpAnyH_take (i := 19) (oi := { dst := some 56, op := Go.Op.pick (Go.Operand.tmp 44) (Go.Operand.const (Go.Value.bool true)) (Go.Operand.tmp 55), type := 4, pos := "law.go:56", after := #[{ on := 7, ground := Go.Ground.data }, { on := 18, ground := Go.Ground.data }], guard := none }) (v := ?_) rfl (by kernel_rfl) (by kernel_rfl) (by kernel_rfl) (fun _ _ _ h => h) (Or.inl ⟨by rfl, ?_⟩) (by assumption) ?_
    rotate_left
    · intro w hSw
      try dsimp only at hSw
      go_simp
      try with_reducible rfl
    try simp only [Act.put, List.setIfInBounds_toArray, List.set_cons_zero, List.set_cons_succ]
    refine wpAnyH_done (by kernel_rfl) ?_ _
    all_goals (go_wp2_with fail; go_meet)
    all_goals exact ⟨rfl, hid_mk hbb⟩
  case rest =>
    obtain ⟨rfl, HC⟩ := hcut
    have HW : Hid (Below w.heap.size w wc) := bTrans HL.out HC.out
    have k2 : wc.heap[w.heap.size]? = some (.cells #[.int .i64 3, .int .i64 d.f, .int .i64 d.n, .int .i64 d.c, .int .i64 0] 25) := (HC.out.block _ hs0).trans K1.out
    have hs1 : w.heap.size < wc.heap.size := Nat.lt_of_lt_of_le hs0 HC.out.size
    clear x0 x1 x2 x3 x4 hbb hs0 HC K1 HL
    obtain ⟨x0, x1, x2, x3, x4⟩ := blk5 k2
    go_wp2_with fail
    refine (text_any d (wc.alloc (.cells #[.int .i64 3, .int .i64 d.f, .int .i64 d.n, .int .i64 d.c, .int .i64 1] 25)) HR.out.2.1 (HE.out.below (bAlloc HW.out _))).mono ?_
    rintro e w3 ⟨rfl, hb3⟩
    have HW3 : Hid (Below w.heap.size w w3) := bTrans (bAlloc HW.out _) hb3
    have k3 : w3.heap[wc.heap.size]? = some (.cells #[.int .i64 3, .int .i64 d.f, .int .i64 d.n, .int .i64 d.c, .int .i64 1] 25) := (hb3.block _ (by simp)).trans (heap_new _ _)
    obtain ⟨y0, y1, y2, y3, y4⟩ := blk5 k3
    clear hb3 k3 k2 x0 x1 x2 x3 x4
    obtain ⟨T, hT⟩ : ∃ T, tid d = T := ⟨_, rfl⟩
    have HT : Hid (N = [100, 117, 112] ++ 32 :: T) := by rw [← hT]; exact HN
    rw [hT]
    clear hT HN
    have z0 : (bs N).size = 3 + 1 + (bs T).size := by rw [HT.out, bs_size, bs_size]; simp; try omega
    have z1 : (bs T).size < (bs N).size := by omega
    have z2 : (bs N).extract (3 + 1) (3 + 1 + (bs T).size) = bs T := by
      rw [HT.out]
      apply ByteArray.ext
      rw [ByteArray.data_extract]
      simp [bs, ByteArray.size]
    have z3 : ((bs N).extract 4 (4 + (bs T).size)).toList = (bs T).toList := congrArg ByteArray.toList z2
    have z4 : ((bs N).extract 4 (4 + (bs T).size)) = bs T := z2
    have z5 : (bs T).toList = (bs T).toList := rfl
    have hn2 : nameE ⟨3, d, 1⟩ = [] := nameE_no (fun h => by cases h.2) (fun h => by cases h.1)
    have HR2 : Hid (RgE ⟨3, d, 1⟩) := ⟨HR.out.1, HR.out.2.1, (show Rg 1 from ⟨by decide, by decide⟩)⟩
    have he1 := emp_yes (l := []) rfl
    go_wp2_with fail
    refine (name_any ⟨3, d, 1⟩ w3 HR2.out (HE.out.below HW3.out)).mono ?_
    rw [hn2]
    rintro e w5 ⟨rfl, hb5⟩
    go_wp2_with (go_at_call 8; refine (awake_any _ (HE.out.below (bTrans HW3.out hb5))).mono ?_; rintro e w9 ⟨rfl, hb9⟩)
    go_ret
    exact ⟨rfl, bTrans (bTrans HW3.out hb5) hb9⟩
set_option maxHeartbeats 8000000 in
set_option maxRecDepth 100000 in
theorem names_b3 (w : World) (he : Env w) (d : PID) (u : Int) (hr : RgE ⟨3, d, u⟩) (hu : u ≠ 0) :
    Calls Tryd.prog 6 #[.agg #[.int .i64 3, .int .i64 d.f, .int .i64 d.n, .int .i64 d.c, .int .i64 u]] w fun e w' => e = .returned (.bool true) ∧ Below w.heap.size w w' := by
  have HE : Hid (Env w) := he
  have HR : Hid (RgE ⟨3, d, u⟩) := hr
  have hgD := gD
  obtain ⟨N, hnm⟩ : ∃ N, nameE ⟨3, d, u⟩ = N := ⟨_, rfl⟩
  have he0 : (bs N).toList.isEmpty = true := emp_yes (by rw [← hnm]; exact nameE_no (fun h => hu h.2) (fun h => by cases h.1))
  have q1 : (u == 0) = false := by simp [hu]
  clear he hr
  go_enter Tryd.func6, Tryd.ntmps6
  go_wp2_with fail
  refine (name_any ⟨3, d, u⟩ _ HR.out (HE.out.below (bAlloc (bRefl _) _))).mono ?_
  rw [hnm]
  rintro e w1 ⟨rfl, hb1⟩
  have HL : Hid (Below w.heap.size w w1) := bTrans (bAlloc (bRefl _) _) hb1
  have k1 : w1.heap[w.heap.size]? = some (.cells #[.int .i64 3, .int .i64 d.f, .int .i64 d.n, .int .i64 d.c, .int .i64 u] 25) := (hb1.block _ (by simp)).trans (heap_new _ _)
  have hs0 : w.heap.size < w1.heap.size := (Array.getElem?_eq_some_iff.1 k1).1
  obtain ⟨x0, x1, x2, x3, x4⟩ := blk5 k1
  have K1 : Hid (w1.heap[w.heap.size]? = some (.cells #[.int .i64 3, .int .i64 d.f, .int .i64 d.n, .int .i64 d.c, .int .i64 u] 25)) := k1
  have hbb : Below w1.heap.size w1 w1 := bRefl w1
  have hf : faultE ⟨3, d, u⟩ = true := rfl
  clear hb1 k1
  go_wp2_with fail
  go_cut [56] (fun i56 wc => i56 = .bool false ∧ Hid (Below w1.heap.size w1 wc))
  case first =>
    go_region_held3 (fun w' => w'.cell? ⟨w.heap.size, 0, none⟩ = some (.int .i64 3) ∧ w'.cell? ⟨w.heap.size, 1, none⟩ = some (.int .i64 d.f) ∧ w'.cell? ⟨w.heap.size, 2, none⟩ = some (.int .i64 d.n) ∧ w'.cell? ⟨w.heap.size, 3, none⟩ = some (.int .i64 d.c) ∧ w'.cell? ⟨w.heap.size, 4, none⟩ = some (.int .i64 u)) (go_keep) (first | (go_at_call 21; refine (fault_any ⟨3, d, u⟩ _).mono ?_; rw [hf]; rintro e w2 ⟨rfl, hb2⟩; have hc2 := (by first | exact bcell (undrew hb2) | exact bcell hb2); replace hbb := (by first | exact bTrans hbb (undrew hb2) | exact bTrans hbb hb2); have hz0 := Nat.lt_of_lt_of_le hs0 hbb.size))
    all_goals (go_wp2_with fail; go_meet)
    all_goals exact ⟨rfl, hid_mk hbb⟩
  case rest =>
    obtain ⟨rfl, HC⟩ := hcut
    have HW : Hid (Below w.heap.size w wc) := bTrans HL.out HC.out
    have k2 : wc.heap[w.heap.size]? = some (.cells #[.int .i64 3, .int .i64 d.f, .int .i64 d.n, .int .i64 d.c, .int .i64 u] 25) := (HC.out.block _ hs0).trans K1.out
    have hs1 : w.heap.size < wc.heap.size := Nat.lt_of_lt_of_le hs0 HC.out.size
    clear x0 x1 x2 x3 x4 hbb hs0 HC K1 HL
    obtain ⟨x0, x1, x2, x3, x4⟩ := blk5 k2
    go_wp2_with (go_at_call 8; refine (awake_any _ (HE.out.below HW.out)).mono ?_; rintro e w9 ⟨rfl, hb9⟩)
    go_ret
    exact ⟨rfl, bTrans HW.out hb9⟩
set_option maxHeartbeats 8000000 in
set_option maxRecDepth 100000 in
theorem names_c4 (w : World) (he : Env w) (u : Int) (hr : RgE ⟨4, id0, u⟩)  :
    Calls Tryd.prog 6 #[.agg #[.int .i64 4, .int .i64 0, .int .i64 0, .int .i64 0, .int .i64 u]] w fun e w' => e = .returned (.bool true) ∧ Below w.heap.size w w' := by
  have HE : Hid (Env w) := he
  have HR : Hid (RgE ⟨4, id0, u⟩) := hr
  have hgD := gD
  obtain ⟨N, hnm⟩ : ∃ N, nameE ⟨4, id0, u⟩ = N := ⟨_, rfl⟩
  have he0 : (bs N).toList.isEmpty = false := emp_no (by rw [← hnm, nameE_act (x := ⟨4, id0, u⟩) rfl rfl]; simp)
  have q1 : sameD ⟨0, 0, 0⟩ ⟨0, 0, 0⟩ = true := by decide
  clear he hr
  go_enter Tryd.func6, Tryd.ntmps6
  go_wp2_with fail
  refine (name_any ⟨4, id0, u⟩ _ HR.out (HE.out.below (bAlloc (bRefl _) _))).mono ?_
  rw [hnm]
  rintro e w1 ⟨rfl, hb1⟩
  have HL : Hid (Below w.heap.size w w1) := bTrans (bAlloc (bRefl _) _) hb1
  have k1 : w1.heap[w.heap.size]? = some (.cells #[.int .i64 4, .int .i64 0, .int .i64 0, .int .i64 0, .int .i64 u] 25) := (hb1.block _ (by simp)).trans (heap_new _ _)
  have hs0 : w.heap.size < w1.heap.size := (Array.getElem?_eq_some_iff.1 k1).1
  obtain ⟨x0, x1, x2, x3, x4⟩ := blk5 k1
  have K1 : Hid (w1.heap[w.heap.size]? = some (.cells #[.int .i64 4, .int .i64 0, .int .i64 0, .int .i64 0, .int .i64 u] 25)) := k1
  have hbb : Below w1.heap.size w1 w1 := bRefl w1
  have hf : faultE ⟨4, id0, u⟩ = true := rfl
  clear hb1 k1
  go_wp2_with fail
  go_cut [56] (fun i56 wc => i56 = .bool false ∧ Hid (Below w1.heap.size w1 wc))
  case first =>
    go_region_held3 (fun w' => w'.cell? ⟨w.heap.size, 0, none⟩ = some (.int .i64 4) ∧ w'.cell? ⟨w.heap.size, 1, none⟩ = some (.int .i64 0) ∧ w'.cell? ⟨w.heap.size, 2, none⟩ = some (.int .i64 0) ∧ w'.cell? ⟨w.heap.size, 3, none⟩ = some (.int .i64 0) ∧ w'.cell? ⟨w.heap.size, 4, none⟩ = some (.int .i64 u)) (go_keep) (first | (go_at_call 21; refine (fault_any ⟨4, id0, u⟩ _).mono ?_; rw [hf]; rintro e w2 ⟨rfl, hb2⟩; have hc2 := (by first | exact bcell (undrew hb2) | exact bcell hb2); replace hbb := (by first | exact bTrans hbb (undrew hb2) | exact bTrans hbb hb2); have hz0 := Nat.lt_of_lt_of_le hs0 hbb.size))
    all_goals (go_wp2_with fail; go_meet)
    all_goals exact ⟨rfl, hid_mk hbb⟩
  case rest =>
    obtain ⟨rfl, HC⟩ := hcut
    have HW : Hid (Below w.heap.size w wc) := bTrans HL.out HC.out
    have k2 : wc.heap[w.heap.size]? = some (.cells #[.int .i64 4, .int .i64 0, .int .i64 0, .int .i64 0, .int .i64 u] 25) := (HC.out.block _ hs0).trans K1.out
    have hs1 : w.heap.size < wc.heap.size := Nat.lt_of_lt_of_le hs0 HC.out.size
    clear x0 x1 x2 x3 x4 hbb hs0 HC K1 HL
    obtain ⟨x0, x1, x2, x3, x4⟩ := blk5 k2
    go_wp2_with (go_at_call 8; refine (awake_any _ (HE.out.below HW.out)).mono ?_; rintro e w9 ⟨rfl, hb9⟩)
    go_ret
    exact ⟨rfl, bTrans HW.out hb9⟩
set_option maxHeartbeats 8000000 in
set_option maxRecDepth 100000 in
theorem names_d4 (w : World) (he : Env w) (d : PID) (u : Int) (hr : RgE ⟨4, d, u⟩) (hd : d ≠ id0) :
    Calls Tryd.prog 6 #[.agg #[.int .i64 4, .int .i64 d.f, .int .i64 d.n, .int .i64 d.c, .int .i64 u]] w fun e w' => e = .returned (.bool true) ∧ Below w.heap.size w w' := by
  have HE : Hid (Env w) := he
  have HR : Hid (RgE ⟨4, d, u⟩) := hr
  have hgD := gD
  obtain ⟨N, hnm⟩ : ∃ N, nameE ⟨4, d, u⟩ = N := ⟨_, rfl⟩
  have he0 : (bs N).toList.isEmpty = true := emp_yes (by rw [← hnm]; exact nameE_no (fun h => by cases h.1) (fun h => hd h.2))
  have q1 : sameD ⟨d.f, d.n, d.c⟩ ⟨0, 0, 0⟩ = false := sameD_no hd
  clear he hr
  go_enter Tryd.func6, Tryd.ntmps6
  go_wp2_with fail
  refine (name_any ⟨4, d, u⟩ _ HR.out (HE.out.below (bAlloc (bRefl _) _))).mono ?_
  rw [hnm]
  rintro e w1 ⟨rfl, hb1⟩
  have HL : Hid (Below w.heap.size w w1) := bTrans (bAlloc (bRefl _) _) hb1
  have k1 : w1.heap[w.heap.size]? = some (.cells #[.int .i64 4, .int .i64 d.f, .int .i64 d.n, .int .i64 d.c, .int .i64 u] 25) := (hb1.block _ (by simp)).trans (heap_new _ _)
  have hs0 : w.heap.size < w1.heap.size := (Array.getElem?_eq_some_iff.1 k1).1
  obtain ⟨x0, x1, x2, x3, x4⟩ := blk5 k1
  have K1 : Hid (w1.heap[w.heap.size]? = some (.cells #[.int .i64 4, .int .i64 d.f, .int .i64 d.n, .int .i64 d.c, .int .i64 u] 25)) := k1
  have hbb : Below w1.heap.size w1 w1 := bRefl w1
  have hf : faultE ⟨4, d, u⟩ = true := rfl
  clear hb1 k1
  go_wp2_with fail
  go_cut [56] (fun i56 wc => i56 = .bool false ∧ Hid (Below w1.heap.size w1 wc))
  case first =>
    go_region_held3 (fun w' => w'.cell? ⟨w.heap.size, 0, none⟩ = some (.int .i64 4) ∧ w'.cell? ⟨w.heap.size, 1, none⟩ = some (.int .i64 d.f) ∧ w'.cell? ⟨w.heap.size, 2, none⟩ = some (.int .i64 d.n) ∧ w'.cell? ⟨w.heap.size, 3, none⟩ = some (.int .i64 d.c) ∧ w'.cell? ⟨w.heap.size, 4, none⟩ = some (.int .i64 u)) (go_keep) (first | (go_at_call 21; refine (fault_any ⟨4, d, u⟩ _).mono ?_; rw [hf]; rintro e w2 ⟨rfl, hb2⟩; have hc2 := (by first | exact bcell (undrew hb2) | exact bcell hb2); replace hbb := (by first | exact bTrans hbb (undrew hb2) | exact bTrans hbb hb2); have hz0 := Nat.lt_of_lt_of_le hs0 hbb.size))
    all_goals (go_wp2_with fail; go_meet)
    all_goals exact ⟨rfl, hid_mk hbb⟩
  case rest =>
    obtain ⟨rfl, HC⟩ := hcut
    have HW : Hid (Below w.heap.size w wc) := bTrans HL.out HC.out
    have k2 : wc.heap[w.heap.size]? = some (.cells #[.int .i64 4, .int .i64 d.f, .int .i64 d.n, .int .i64 d.c, .int .i64 u] 25) := (HC.out.block _ hs0).trans K1.out
    have hs1 : w.heap.size < wc.heap.size := Nat.lt_of_lt_of_le hs0 HC.out.size
    clear x0 x1 x2 x3 x4 hbb hs0 HC K1 HL
    obtain ⟨x0, x1, x2, x3, x4⟩ := blk5 k2
    go_wp2_with (go_at_call 8; refine (awake_any _ (HE.out.below HW.out)).mono ?_; rintro e w9 ⟨rfl, hb9⟩)
    go_ret
    exact ⟨rfl, bTrans HW.out hb9⟩
set_option maxHeartbeats 8000000 in
set_option maxRecDepth 100000 in
theorem names_c5 (w : World) (he : Env w) (u : Int) (hr : RgE ⟨5, id0, u⟩)  :
    Calls Tryd.prog 6 #[.agg #[.int .i64 5, .int .i64 0, .int .i64 0, .int .i64 0, .int .i64 u]] w fun e w' => e = .returned (.bool true) ∧ Below w.heap.size w w' := by
  have HE : Hid (Env w) := he
  have HR : Hid (RgE ⟨5, id0, u⟩) := hr
  have hgD := gD
  obtain ⟨N, hnm⟩ : ∃ N, nameE ⟨5, id0, u⟩ = N := ⟨_, rfl⟩
  have he0 : (bs N).toList.isEmpty = false := emp_no (by rw [← hnm, nameE_act (x := ⟨5, id0, u⟩) rfl rfl]; simp)
  have q1 : sameD ⟨0, 0, 0⟩ ⟨0, 0, 0⟩ = true := by decide
  clear he hr
  go_enter Tryd.func6, Tryd.ntmps6
  go_wp2_with fail
  refine (name_any ⟨5, id0, u⟩ _ HR.out (HE.out.below (bAlloc (bRefl _) _))).mono ?_
  rw [hnm]
  rintro e w1 ⟨rfl, hb1⟩
  have HL : Hid (Below w.heap.size w w1) := bTrans (bAlloc (bRefl _) _) hb1
  have k1 : w1.heap[w.heap.size]? = some (.cells #[.int .i64 5, .int .i64 0, .int .i64 0, .int .i64 0, .int .i64 u] 25) := (hb1.block _ (by simp)).trans (heap_new _ _)
  have hs0 : w.heap.size < w1.heap.size := (Array.getElem?_eq_some_iff.1 k1).1
  obtain ⟨x0, x1, x2, x3, x4⟩ := blk5 k1
  have K1 : Hid (w1.heap[w.heap.size]? = some (.cells #[.int .i64 5, .int .i64 0, .int .i64 0, .int .i64 0, .int .i64 u] 25)) := k1
  have hbb : Below w1.heap.size w1 w1 := bRefl w1
  have hf : faultE ⟨5, id0, u⟩ = true := rfl
  clear hb1 k1
  go_wp2_with fail
  go_cut [56] (fun i56 wc => i56 = .bool false ∧ Hid (Below w1.heap.size w1 wc))
  case first =>
    go_region_held3 (fun w' => w'.cell? ⟨w.heap.size, 0, none⟩ = some (.int .i64 5) ∧ w'.cell? ⟨w.heap.size, 1, none⟩ = some (.int .i64 0) ∧ w'.cell? ⟨w.heap.size, 2, none⟩ = some (.int .i64 0) ∧ w'.cell? ⟨w.heap.size, 3, none⟩ = some (.int .i64 0) ∧ w'.cell? ⟨w.heap.size, 4, none⟩ = some (.int .i64 u)) (go_keep) (first | (go_at_call 21; refine (fault_any ⟨5, id0, u⟩ _).mono ?_; rw [hf]; rintro e w2 ⟨rfl, hb2⟩; have hc2 := (by first | exact bcell (undrew hb2) | exact bcell hb2); replace hbb := (by first | exact bTrans hbb (undrew hb2) | exact bTrans hbb hb2); have hz0 := Nat.lt_of_lt_of_le hs0 hbb.size))
    all_goals (go_wp2_with fail; go_meet)
    all_goals exact ⟨rfl, hid_mk hbb⟩
  case rest =>
    obtain ⟨rfl, HC⟩ := hcut
    have HW : Hid (Below w.heap.size w wc) := bTrans HL.out HC.out
    have k2 : wc.heap[w.heap.size]? = some (.cells #[.int .i64 5, .int .i64 0, .int .i64 0, .int .i64 0, .int .i64 u] 25) := (HC.out.block _ hs0).trans K1.out
    have hs1 : w.heap.size < wc.heap.size := Nat.lt_of_lt_of_le hs0 HC.out.size
    clear x0 x1 x2 x3 x4 hbb hs0 HC K1 HL
    obtain ⟨x0, x1, x2, x3, x4⟩ := blk5 k2
    go_wp2_with (go_at_call 8; refine (awake_any _ (HE.out.below HW.out)).mono ?_; rintro e w9 ⟨rfl, hb9⟩)
    go_ret
    exact ⟨rfl, bTrans HW.out hb9⟩
set_option maxHeartbeats 8000000 in
set_option maxRecDepth 100000 in
theorem names_d5 (w : World) (he : Env w) (d : PID) (u : Int) (hr : RgE ⟨5, d, u⟩) (hd : d ≠ id0) :
    Calls Tryd.prog 6 #[.agg #[.int .i64 5, .int .i64 d.f, .int .i64 d.n, .int .i64 d.c, .int .i64 u]] w fun e w' => e = .returned (.bool true) ∧ Below w.heap.size w w' := by
  have HE : Hid (Env w) := he
  have HR : Hid (RgE ⟨5, d, u⟩) := hr
  have hgD := gD
  obtain ⟨N, hnm⟩ : ∃ N, nameE ⟨5, d, u⟩ = N := ⟨_, rfl⟩
  have he0 : (bs N).toList.isEmpty = true := emp_yes (by rw [← hnm]; exact nameE_no (fun h => by cases h.1) (fun h => hd h.2))
  have q1 : sameD ⟨d.f, d.n, d.c⟩ ⟨0, 0, 0⟩ = false := sameD_no hd
  clear he hr
  go_enter Tryd.func6, Tryd.ntmps6
  go_wp2_with fail
  refine (name_any ⟨5, d, u⟩ _ HR.out (HE.out.below (bAlloc (bRefl _) _))).mono ?_
  rw [hnm]
  rintro e w1 ⟨rfl, hb1⟩
  have HL : Hid (Below w.heap.size w w1) := bTrans (bAlloc (bRefl _) _) hb1
  have k1 : w1.heap[w.heap.size]? = some (.cells #[.int .i64 5, .int .i64 d.f, .int .i64 d.n, .int .i64 d.c, .int .i64 u] 25) := (hb1.block _ (by simp)).trans (heap_new _ _)
  have hs0 : w.heap.size < w1.heap.size := (Array.getElem?_eq_some_iff.1 k1).1
  obtain ⟨x0, x1, x2, x3, x4⟩ := blk5 k1
  have K1 : Hid (w1.heap[w.heap.size]? = some (.cells #[.int .i64 5, .int .i64 d.f, .int .i64 d.n, .int .i64 d.c, .int .i64 u] 25)) := k1
  have hbb : Below w1.heap.size w1 w1 := bRefl w1
  have hf : faultE ⟨5, d, u⟩ = true := rfl
  clear hb1 k1
  go_wp2_with fail
  go_cut [56] (fun i56 wc => i56 = .bool false ∧ Hid (Below w1.heap.size w1 wc))
  case first =>
    go_region_held3 (fun w' => w'.cell? ⟨w.heap.size, 0, none⟩ = some (.int .i64 5) ∧ w'.cell? ⟨w.heap.size, 1, none⟩ = some (.int .i64 d.f) ∧ w'.cell? ⟨w.heap.size, 2, none⟩ = some (.int .i64 d.n) ∧ w'.cell? ⟨w.heap.size, 3, none⟩ = some (.int .i64 d.c) ∧ w'.cell? ⟨w.heap.size, 4, none⟩ = some (.int .i64 u)) (go_keep) (first | (go_at_call 21; refine (fault_any ⟨5, d, u⟩ _).mono ?_; rw [hf]; rintro e w2 ⟨rfl, hb2⟩; have hc2 := (by first | exact bcell (undrew hb2) | exact bcell hb2); replace hbb := (by first | exact bTrans hbb (undrew hb2) | exact bTrans hbb hb2); have hz0 := Nat.lt_of_lt_of_le hs0 hbb.size))
    all_goals (go_wp2_with fail; go_meet)
    all_goals exact ⟨rfl, hid_mk hbb⟩
  case rest =>
    obtain ⟨rfl, HC⟩ := hcut
    have HW : Hid (Below w.heap.size w wc) := bTrans HL.out HC.out
    have k2 : wc.heap[w.heap.size]? = some (.cells #[.int .i64 5, .int .i64 d.f, .int .i64 d.n, .int .i64 d.c, .int .i64 u] 25) := (HC.out.block _ hs0).trans K1.out
    have hs1 : w.heap.size < wc.heap.size := Nat.lt_of_lt_of_le hs0 HC.out.size
    clear x0 x1 x2 x3 x4 hbb hs0 HC K1 HL
    obtain ⟨x0, x1, x2, x3, x4⟩ := blk5 k2
    go_wp2_with (go_at_call 8; refine (awake_any _ (HE.out.below HW.out)).mono ?_; rintro e w9 ⟨rfl, hb9⟩)
    go_ret
    exact ⟨rfl, bTrans HW.out hb9⟩
set_option maxHeartbeats 8000000 in
set_option maxRecDepth 100000 in
theorem names_e1 (w : World) (he : Env w) (k : Int) (d : PID) (u : Int) (hr : RgE ⟨k, d, u⟩) (hk : k < 1) :
    Calls Tryd.prog 6 #[.agg #[.int .i64 k, .int .i64 d.f, .int .i64 d.n, .int .i64 d.c, .int .i64 u]] w fun e w' => e = .returned (.bool true) ∧ Below w.heap.size w w' := by
  have HE : Hid (Env w) := he
  have HR : Hid (RgE ⟨k, d, u⟩) := hr
  have hgD := gD
  obtain ⟨N, hnm⟩ : ∃ N, nameE ⟨k, d, u⟩ = N := ⟨_, rfl⟩
  have he0 : (bs N).toList.isEmpty = true := emp_yes (by rw [← hnm]; exact nameE_no (fun h => by have := of_decide_eq_true h.1; have h' : 1 ≤ k ∧ k ≤ 3 := this; omega) (fun h => by have := of_decide_eq_true h.1; have h' : k = 4 ∨ k = 5 := this; omega))
  have q4 : (k == 4) = false := by simp; omega
  have q5 : (k == 5) = false := by simp; omega
  have q6 : decide (2 ≤ k) = false := by simp; omega
  have q7 : decide (1 ≤ k) = false := by simp; omega
  clear he hr
  go_enter Tryd.func6, Tryd.ntmps6
  go_wp2_with fail
  refine (name_any ⟨k, d, u⟩ _ HR.out (HE.out.below (bAlloc (bRefl _) _))).mono ?_
  rw [hnm]
  rintro e w1 ⟨rfl, hb1⟩
  have HL : Hid (Below w.heap.size w w1) := bTrans (bAlloc (bRefl _) _) hb1
  have k1 : w1.heap[w.heap.size]? = some (.cells #[.int .i64 k, .int .i64 d.f, .int .i64 d.n, .int .i64 d.c, .int .i64 u] 25) := (hb1.block _ (by simp)).trans (heap_new _ _)
  have hs0 : w.heap.size < w1.heap.size := (Array.getElem?_eq_some_iff.1 k1).1
  obtain ⟨x0, x1, x2, x3, x4⟩ := blk5 k1
  have K1 : Hid (w1.heap[w.heap.size]? = some (.cells #[.int .i64 k, .int .i64 d.f, .int .i64 d.n, .int .i64 d.c, .int .i64 u] 25)) := k1
  have hbb : Below w1.heap.size w1 w1 := bRefl w1
  have hf : faultE ⟨k, d, u⟩ = false := decide_eq_false (by show ¬ (2 ≤ k ∧ k ≤ 5); omega)
  clear hb1 k1
  go_wp2_with fail
  go_cut [56] (fun i56 wc => i56 = .bool false ∧ Hid (Below w1.heap.size w1 wc))
  case first =>
    refine wp_region_held_drew (S := (fun w' => w'.cell? ⟨w.heap.size, 0, none⟩ = some (.int .i64 k) ∧ w'.cell? ⟨w.heap.size, 1, none⟩ = some (.int .i64 d.f) ∧ w'.cell? ⟨w.heap.size, 2, none⟩ = some (.int .i64 d.n) ∧ w'.cell? ⟨w.heap.size, 3, none⟩ = some (.int .i64 d.c) ∧ w'.cell? ⟨w.heap.size, 4, none⟩ = some (.int .i64 u))) (by kernel_rfl) ?_ (fun hHeld => ?_)
    · try dsimp only
      go_keep
    refine wpAnyH_take (i := 0) (oi := { dst := some 37, op := Go.Op.move (Go.Operand.tmp 3), type := 9, pos := "law.go:56", after := #[], guard := none }) (v := ?_) rfl (by kernel_rfl) (by kernel_rfl) (by kernel_rfl) (fun _ _ _ h => h) (Or.inl ⟨by rfl, ?_⟩) (by assumption) ?_
    rotate_left
    · intro w hSw
      try dsimp only at hSw
      go_simp
      try with_reducible rfl
    try simp only [Act.put, List.setIfInBounds_toArray, List.set_cons_zero, List.set_cons_succ]
    refine wpAnyH_take (i := 1) (oi := { dst := some 38, op := Go.Op.binOp Go.BinOp.neq 9 (Go.Operand.tmp 37) (Go.Operand.const (Go.Value.string { data := #[] })) 9, type := 4, pos := "law.go:56", after := #[{ on := 0, ground := Go.Ground.data }], guard := none }) (v := ?_) rfl (by kernel_rfl) (by kernel_rfl) (by kernel_rfl) (fun _ _ _ h => h) (Or.inl ⟨by rfl, ?_⟩) (by assumption) ?_
    rotate_left
    · intro w hSw
      try dsimp only at hSw
      go_simp
      try with_reducible rfl
    try simp only [Act.put, List.setIfInBounds_toArray, List.set_cons_zero, List.set_cons_succ]
    refine wpAnyH_take (i := 2) (oi := { dst := some 39, op := Go.Op.move (Go.Operand.tmp 4), type := 4, pos := "law.go:56", after := #[], guard := none }) (v := ?_) rfl (by kernel_rfl) (by kernel_rfl) (by kernel_rfl) (fun _ _ _ h => h) (Or.inl ⟨by rfl, ?_⟩) (by assumption) ?_
    rotate_left
    · intro w hSw
      try dsimp only at hSw
      go_simp
      try with_reducible rfl
    try simp only [Act.put, List.setIfInBounds_toArray, List.set_cons_zero, List.set_cons_succ]
    refine wpAnyH_take (i := 3) (oi := { dst := some 40, op := Go.Op.move (Go.Operand.tmp 39), type := 4, pos := "law.go:56", after := #[{ on := 2, ground := Go.Ground.data }], guard := none }) (v := ?_) rfl (by kernel_rfl) (by kernel_rfl) (by kernel_rfl) (fun _ _ _ h => h) (Or.inl ⟨by rfl, ?_⟩) (by assumption) ?_
    rotate_left
    · intro w hSw
      try dsimp only at hSw
      go_simp
      try with_reducible rfl
    try simp only [Act.put, List.setIfInBounds_toArray, List.set_cons_zero, List.set_cons_succ]
    refine wpAnyH_take (i := 4) (oi := { dst := some 41, op := Go.Op.move (Go.Operand.tmp 5), type := 4, pos := "law.go:56", after := #[{ on := 3, ground := Go.Ground.guard }], guard := some (3, false) }) (v := ?_) rfl (by kernel_rfl) (by kernel_rfl) (by kernel_rfl) (fun _ _ _ h => h) (Or.inl ⟨by rfl, ?_⟩) (by assumption) ?_
    rotate_left
    · intro w hSw
      try dsimp only at hSw
      go_simp
      try with_reducible rfl
    try simp only [Act.put, List.setIfInBounds_toArray, List.set_cons_zero, List.set_cons_succ]
    refine wpAnyH_take (i := 5) (oi := { dst := some 42, op := Go.Op.pick (Go.Operand.tmp 40) (Go.Operand.const (Go.Value.bool true)) (Go.Operand.tmp 41), type := 4, pos := "law.go:56", after := #[{ on := 3, ground := Go.Ground.data }, { on := 4, ground := Go.Ground.data }], guard := none }) (v := ?_) rfl (by kernel_rfl) (by kernel_rfl) (by kernel_rfl) (fun _ _ _ h => h) (Or.inl ⟨by rfl, ?_⟩) (by assumption) ?_
    rotate_left
    · intro w hSw
      try dsimp only at hSw
      go_simp
      try with_reducible rfl
    try simp only [Act.put, List.setIfInBounds_toArray, List.set_cons_zero, List.set_cons_succ]
    refine wpAnyH_take (i := 6) (oi := { dst := some 43, op := Go.Op.binOp Go.BinOp.neq 4 (Go.Operand.tmp 38) (Go.Operand.tmp 42) 4, type := 4, pos := "law.go:56", after := #[{ on := 1, ground := Go.Ground.data }, { on := 5, ground := Go.Ground.data }], guard := none }) (v := ?_) rfl (by kernel_rfl) (by kernel_rfl) (by kernel_rfl) (fun _ _ _ h => h) (Or.inl ⟨by rfl, ?_⟩) (by assumption) ?_
    rotate_left
    · intro w hSw
      try dsimp only at hSw
      go_simp
      try with_reducible rfl
    try simp only [Act.put, List.setIfInBounds_toArray, List.set_cons_zero, List.set_cons_succ]
    refine wpAnyH_take (i := 7) (oi := { dst := some 44, op := Go.Op.move (Go.Operand.tmp 43), type := 4, pos := "law.go:56", after := #[{ on := 6, ground := Go.Ground.data }, { on := 3, ground := Go.Ground.chain }], guard := none }) (v := ?_) rfl (by kernel_rfl) (by kernel_rfl) (by kernel_rfl) (fun _ _ _ h => h) (Or.inl ⟨by rfl, ?_⟩) (by assumption) ?_
    rotate_left
    · intro w hSw
      try dsimp only at hSw
      go_simp
      try with_reducible rfl
    try simp only [Act.put, List.setIfInBounds_toArray, List.set_cons_zero, List.set_cons_succ]
    refine wpAnyH_take (i := 8) (oi := { dst := some 45, op := Go.Op.load 25 (Go.Operand.tmp 1), type := 25, pos := "law.go:56", after := #[{ on := 7, ground := Go.Ground.guard }], guard := some (7, false) }) (v := ?_) rfl (by kernel_rfl) (by kernel_rfl) (by kernel_rfl) (fun _ _ _ h => h) (Or.inl ⟨by rfl, ?_⟩) (by assumption) ?_
    rotate_left
    · intro w hSw
      try dsimp only at hSw
      go_simp
      try with_reducible rfl
    try simp only [Act.put, List.setIfInBounds_toArray, List.set_cons_zero, List.set_cons_succ]
    refine wpAnyH_take (i := 10) (oi := { dst := some 47, op := Go.Op.fieldAddr 25 (Go.Operand.tmp 1) 0, type := 0, pos := "law.go:56", after := #[{ on := 7, ground := Go.Ground.guard }], guard := some (7, false) }) (v := ?_) rfl (by kernel_rfl) (by kernel_rfl) (by kernel_rfl) (fun _ _ _ h => h) (Or.inl ⟨by rfl, ?_⟩) (by assumption) ?_
    rotate_left
    · intro w hSw
      try dsimp only at hSw
      go_simp
      try with_reducible rfl
    try simp only [Act.put, List.setIfInBounds_toArray, List.set_cons_zero, List.set_cons_succ]
    refine wpAnyH_take (i := 11) (oi := { dst := some 48, op := Go.Op.load 3 (Go.Operand.tmp 47), type := 3, pos := "law.go:56", after := #[{ on := 10, ground := Go.Ground.data }, { on := 7, ground := Go.Ground.guard }], guard := some (7, false) }) (v := ?_) rfl (by kernel_rfl) (by kernel_rfl) (by kernel_rfl) (fun _ _ _ h => h) (Or.inl ⟨by rfl, ?_⟩) (by assumption) ?_
    rotate_left
    · intro w hSw
      try dsimp only at hSw
      go_simp
      try with_reducible rfl
    try simp only [Act.put, List.setIfInBounds_toArray, List.set_cons_zero, List.set_cons_succ]
    refine wpAnyH_take (i := 12) (oi := { dst := some 49, op := Go.Op.binOp Go.BinOp.geq 3 (Go.Operand.tmp 48) (Go.Operand.const (Go.Value.int Go.IntKind.i64 2)) 3, type := 4, pos := "law.go:56", after := #[{ on := 11, ground := Go.Ground.data }, { on := 7, ground := Go.Ground.guard }], guard := some (7, false) }) (v := ?_) rfl (by kernel_rfl) (by kernel_rfl) (by kernel_rfl) (fun _ _ _ h => h) (Or.inl ⟨by rfl, ?_⟩) (by assumption) ?_
    rotate_left
    · intro w hSw
      try dsimp only at hSw
      go_simp
      try with_reducible rfl
    try simp only [Act.put, List.setIfInBounds_toArray, List.set_cons_zero, List.set_cons_succ]
    refine wpAnyH_ready (rs := [9]) (by kernel_rfl) (by simp) ?_
    refine AllReadyH.cons (o := { dst := some 46, op := Go.Op.call { callee := Go.Callee.value (Go.Operand.func 21), args := #[Go.Operand.tmp 45], argTypes := #[25] }, type := 4, pos := "law.go:56", after := #[{ on := 8, ground := Go.Ground.data }, { on := 7, ground := Go.Ground.chain }, { on := 7, ground := Go.Ground.guard }], guard := some (7, false) }) rfl (fun K hK => ?_) AllReadyH.nil
    go_simp
    refine (fault_any ⟨k, d, u⟩ _).mono ?_
    rw [hf]
    rintro e w2 ⟨rfl, hb2⟩
    have hc2 := (by first | exact bcell (undrew hb2) | exact bcell hb2)
    replace hbb := (by first | exact bTrans hbb (undrew hb2) | exact bTrans hbb hb2)
    have hz0 := Nat.lt_of_lt_of_le hs0 hbb.size
    try (go_wp2_with fail)
    refine hK.out _ _ ?_ (fun hHeld => ?_)
    · try dsimp only
      go_keep
    clear hK K
    try simp only [Act.put, List.setIfInBounds_toArray, List.set_cons_zero, List.set_cons_succ]
    refine wpAnyH_take (i := 13) (oi := { dst := some 50, op := Go.Op.move (Go.Operand.tmp 49), type := 4, pos := "law.go:56", after := #[{ on := 12, ground := Go.Ground.data }, { on := 9, ground := Go.Ground.chain }, { on := 7, ground := Go.Ground.guard }], guard := some (7, false) }) (v := ?_) rfl (by kernel_rfl) (by kernel_rfl) (by kernel_rfl) (fun _ _ _ h => h) (Or.inl ⟨by rfl, ?_⟩) (by assumption) ?_
    rotate_left
    · intro w hSw
      try dsimp only at hSw
      go_simp
      try with_reducible rfl
    try simp only [Act.put, List.setIfInBounds_toArray, List.set_cons_zero, List.set_cons_succ]
    refine wpAnyH_take (i := 14) (oi := { dst := some 51, op := Go.Op.fieldAddr 25 (Go.Operand.tmp 1) 0, type := 0, pos := "law.go:56", after := #[{ on := 13, ground := Go.Ground.guard }], guard := some (13, true) }) (v := undef) rfl (by kernel_rfl) (by kernel_rfl) (by kernel_rfl) (fun _ _ _ h => h) (Or.inr ⟨by rfl, rfl⟩) (by assumption) ?_
    try simp only [Act.put, List.setIfInBounds_toArray, List.set_cons_zero, List.set_cons_succ]
    refine wpAnyH_take (i := 15) (oi := { dst := some 52, op := Go.Op.load 3 (Go.Operand.tmp 51), type := 3, pos := "law.go:56", after := #[{ on := 14, ground := Go.Ground.data }, { on := 13, ground := Go.Ground.guard }], guard := some (13, true) }) (v := undef) rfl (by kernel_rfl) (by kernel_rfl) (by kernel_rfl) (fun _ _ _ h => h) (Or.inr ⟨by rfl, rfl⟩) (by assumption) ?_
    try simp only [Act.put, List.setIfInBounds_toArray, List.set_cons_zero, List.set_cons_succ]
    refine wpAnyH_take (i := 16) (oi := { dst := some 53, op := Go.Op.binOp Go.BinOp.leq 3 (Go.Operand.tmp 52) (Go.Operand.const (Go.Value.int Go.IntKind.i64 5)) 3, type := 4, pos := "law.go:56", after := #[{ on := 15, ground := Go.Ground.data }, { on := 13, ground := Go.Ground.guard }], guard := some (13, true) }) (v := undef) rfl (by kernel_rfl) (by kernel_rfl) (by kernel_rfl) (fun _ _ _ h => h) (Or.inr ⟨by rfl, rfl⟩) (by assumption) ?_
    try simp only [Act.put, List.setIfInBounds_toArray, List.set_cons_zero, List.set_cons_succ]
    refine wpAnyH_take (i := 17) (oi := { dst := some 54, op := Go.Op.pick (Go.Operand.tmp 50) (Go.Operand.tmp 53) (Go.Operand.const (Go.Value.bool false)), type := 4, pos := "law.go:56", after := #[{ on := 13, ground := Go.Ground.data }, { on := 16, ground := Go.Ground.data }, { on := 7, ground := Go.Ground.guard }], guard := some (7, false) }) (v := ?_) rfl (by kernel_rfl) (by kernel_rfl) (by kernel_rfl) (fun _ _ _ h => h) (Or.inl ⟨by rfl, ?_⟩) (by assumption) ?_
    rotate_left
    · intro w hSw
      try dsimp only at hSw
      go_simp
      try with_reducible rfl
    try simp only [Act.put, List.setIfInBounds_toArray, List.set_cons_zero, List.set_cons_succ]
    refine wpAnyH_take (i := 18) (oi := { dst := some 55, op := Go.Op.binOp Go.BinOp.neq 4 (Go.Operand.tmp 46) (Go.Operand.tmp 54) 4, type := 4, pos := "law.go:56", after := #[{ on := 9, ground := Go.Ground.data }, { on := 17, ground := Go.Ground.data }, { on := 7, ground := Go.Ground.guard }], guard := some (7, false) }) (v := ?_) rfl (by kernel_rfl) (by kernel_rfl) (by kernel_rfl) (fun _ _ _ h => h) (Or.inl ⟨by rfl, ?_⟩) (by assumption) ?_
    rotate_left
    · intro w hSw
      try dsimp only at hSw
      go_simp
      try with_reducible rfl
    try simp only [Act.put, List.setIfInBounds_toArray, List.set_cons_zero, List.set_cons_succ]
    refine wpAnyH_take (i := 19) (oi := { dst := some 56, op := Go.Op.pick (Go.Operand.tmp 44) (Go.Operand.const (Go.Value.bool true)) (Go.Operand.tmp 55), type := 4, pos := "law.go:56", after := #[{ on := 7, ground := Go.Ground.data }, { on := 18, ground := Go.Ground.data }], guard := none }) (v := ?_) rfl (by kernel_rfl) (by kernel_rfl) (by kernel_rfl) (fun _ _ _ h => h) (Or.inl ⟨by rfl, ?_⟩) (by assumption) ?_
    rotate_left
    · intro w hSw
      try dsimp only at hSw
      go_simp
      try with_reducible rfl
    try simp only [Act.put, List.setIfInBounds_toArray, List.set_cons_zero, List.set_cons_succ]
    refine wpAnyH_done (by kernel_rfl) ?_ _
    all_goals (go_wp2_with fail; go_meet)
    all_goals exact ⟨rfl, hid_mk hbb⟩
  case rest =>
    obtain ⟨rfl, HC⟩ := hcut
    have HW : Hid (Below w.heap.size w wc) := bTrans HL.out HC.out
    have k2 : wc.heap[w.heap.size]? = some (.cells #[.int .i64 k, .int .i64 d.f, .int .i64 d.n, .int .i64 d.c, .int .i64 u] 25) := (HC.out.block _ hs0).trans K1.out
    have hs1 : w.heap.size < wc.heap.size := Nat.lt_of_lt_of_le hs0 HC.out.size
    clear x0 x1 x2 x3 x4 hbb hs0 HC K1 HL
    obtain ⟨x0, x1, x2, x3, x4⟩ := blk5 k2
    go_wp2_with (go_at_call 8; refine (awake_any _ (HE.out.below HW.out)).mono ?_; rintro e w9 ⟨rfl, hb9⟩)
    go_ret
    exact ⟨rfl, bTrans HW.out hb9⟩
set_option maxHeartbeats 8000000 in
set_option maxRecDepth 100000 in
theorem names_e2 (w : World) (he : Env w) (k : Int) (d : PID) (u : Int) (hr : RgE ⟨k, d, u⟩) (hk : 5 < k) :
    Calls Tryd.prog 6 #[.agg #[.int .i64 k, .int .i64 d.f, .int .i64 d.n, .int .i64 d.c, .int .i64 u]] w fun e w' => e = .returned (.bool true) ∧ Below w.heap.size w w' := by
  have HE : Hid (Env w) := he
  have HR : Hid (RgE ⟨k, d, u⟩) := hr
  have hgD := gD
  obtain ⟨N, hnm⟩ : ∃ N, nameE ⟨k, d, u⟩ = N := ⟨_, rfl⟩
  have he0 : (bs N).toList.isEmpty = true := emp_yes (by rw [← hnm]; exact nameE_no (fun h => by have := of_decide_eq_true h.1; have h' : 1 ≤ k ∧ k ≤ 3 := this; omega) (fun h => by have := of_decide_eq_true h.1; have h' : k = 4 ∨ k = 5 := this; omega))
  have q4 : (k == 4) = false := by simp; omega
  have q5 : (k == 5) = false := by simp; omega
  have q6 : decide (2 ≤ k) = true := by simp; omega
  have q7 : decide (1 ≤ k) = true := by simp; omega
  have q8 : decide (k ≤ 5) = false := by simp; omega
  have q9 : decide (k ≤ 3) = false := by simp; omega
  clear he hr
  go_enter Tryd.func6, Tryd.ntmps6
  go_wp2_with fail
  refine (name_any ⟨k, d, u⟩ _ HR.out (HE.out.below (bAlloc (bRefl _) _))).mono ?_
  rw [hnm]
  rintro e w1 ⟨rfl, hb1⟩
  have HL : Hid (Below w.heap.size w w1) := bTrans (bAlloc (bRefl _) _) hb1
  have k1 : w1.heap[w.heap.size]? = some (.cells #[.int .i64 k, .int .i64 d.f, .int .i64 d.n, .int .i64 d.c, .int .i64 u] 25) := (hb1.block _ (by simp)).trans (heap_new _ _)
  have hs0 : w.heap.size < w1.heap.size := (Array.getElem?_eq_some_iff.1 k1).1
  obtain ⟨x0, x1, x2, x3, x4⟩ := blk5 k1
  have K1 : Hid (w1.heap[w.heap.size]? = some (.cells #[.int .i64 k, .int .i64 d.f, .int .i64 d.n, .int .i64 d.c, .int .i64 u] 25)) := k1
  have hbb : Below w1.heap.size w1 w1 := bRefl w1
  have hf : faultE ⟨k, d, u⟩ = false := decide_eq_false (by show ¬ (2 ≤ k ∧ k ≤ 5); omega)
  clear hb1 k1
  go_wp2_with fail
  go_cut [56] (fun i56 wc => i56 = .bool false ∧ Hid (Below w1.heap.size w1 wc))
  case first =>
    go_region_held3 (fun w' => w'.cell? ⟨w.heap.size, 0, none⟩ = some (.int .i64 k) ∧ w'.cell? ⟨w.heap.size, 1, none⟩ = some (.int .i64 d.f) ∧ w'.cell? ⟨w.heap.size, 2, none⟩ = some (.int .i64 d.n) ∧ w'.cell? ⟨w.heap.size, 3, none⟩ = some (.int .i64 d.c) ∧ w'.cell? ⟨w.heap.size, 4, none⟩ = some (.int .i64 u)) (go_keep) (first | (go_at_call 21; refine (fault_any ⟨k, d, u⟩ _).mono ?_; rw [hf]; rintro e w2 ⟨rfl, hb2⟩; have hc2 := (by first | exact bcell (undrew hb2) | exact bcell hb2); replace hbb := (by first | exact bTrans hbb (undrew hb2) | exact bTrans hbb hb2); have hz0 := Nat.lt_of_lt_of_le hs0 hbb.size))
    all_goals (go_wp2_with fail; go_meet)
    all_goals exact ⟨rfl, hid_mk hbb⟩
  case rest =>
    obtain ⟨rfl, HC⟩ := hcut
    have HW : Hid (Below w.heap.size w wc) := bTrans HL.out HC.out
    have k2 : wc.heap[w.heap.size]? = some (.cells #[.int .i64 k, .int .i64 d.f, .int .i64 d.n, .int .i64 d.c, .int .i64 u] 25) := (HC.out.block _ hs0).trans K1.out
    have hs1 : w.heap.size < wc.heap.size := Nat.lt_of_lt_of_le hs0 HC.out.size
    clear x0 x1 x2 x3 x4 hbb hs0 HC K1 HL
    obtain ⟨x0, x1, x2, x3, x4⟩ := blk5 k2
    go_wp2_with (go_at_call 8; refine (awake_any _ (HE.out.below HW.out)).mono ?_; rintro e w9 ⟨rfl, hb9⟩)
    go_ret
    exact ⟨rfl, bTrans HW.out hb9⟩
theorem names_any (w : World) (he : Env w) (x : PEv) (hr : RgE x) :
    Calls Tryd.prog 6 #[eV x] w fun e w' => e = .returned (.bool true) ∧ Below w.heap.size w w' := by
  obtain ⟨k, d, u⟩ := x
  by_cases h1 : k < 1
  · exact names_e1 w he k d u hr h1
  by_cases h5 : 5 < k
  · exact names_e2 w he k d u hr h5
  rcases (by omega : k = 1 ∨ k = 2 ∨ k = 3 ∨ k = 4 ∨ k = 5) with rfl | rfl | rfl | rfl | rfl
  · by_cases h : u = 0
    · subst h; exact names_a1 w he d hr
    · exact names_b1 w he d u hr h
  · by_cases h : u = 0
    · subst h; exact names_a2 w he d hr
    · exact names_b2 w he d u hr h
  · by_cases h : u = 0
    · subst h; exact names_a3 w he d hr
    · exact names_b3 w he d u hr h
  · by_cases h : d = id0
    · subst h; exact names_c4 w he u hr
    · exact names_d4 w he d u hr h
  · by_cases h : d = id0
    · subst h; exact names_c5 w he u hr
    · exact names_d5 w he d u hr h
end Go.Proofs.YtdgialhigibnlaaDoor
