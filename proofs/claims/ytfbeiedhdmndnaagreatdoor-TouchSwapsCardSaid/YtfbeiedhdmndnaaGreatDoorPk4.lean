/-
  What world.Check's own parts answer, and Check.
-/
import Derived.Test.YtfbeiedhdmndnaaGreatDoorPk3
namespace Go.Proofs.YtfbeiedhdmndnaaGreatDoor
open Go.RowKit
theorem hid_mk {p : Prop} (h : p) : Hid p := h
theorem boxAt {w2 wr : World} {g : Nat} {X : Obj} (h : w2.heap[g]? = some X) (hb : Below w2.heap.size w2 wr) : wr.heap[g]? = some X := (hb.block g (Array.getElem?_eq_some_iff.1 h).1).trans h
theorem blk4 {b : Nat} {v0 v1 v2 v3 : Value} {t : TypeId} {w : World} (h : w.heap[b]? = some (.cells #[v0, v1, v2, v3] t)) : w.cell? ⟨b, 0, none⟩ = some v0 ∧ w.cell? ⟨b, 1, none⟩ = some v1 ∧ w.cell? ⟨b, 2, none⟩ = some v2 ∧ w.cell? ⟨b, 3, none⟩ = some v3 :=
 ⟨by rw [cell_of_row _ _ _ _ _ _ h]; rfl, by rw [cell_of_row _ _ _ _ _ _ h]; rfl, by rw [cell_of_row _ _ _ _ _ _ h]; rfl, by rw [cell_of_row _ _ _ _ _ _ h]; rfl⟩
theorem blk5 {b : Nat} {v0 v1 v2 v3 v4 : Value} {t : TypeId} {w : World} (h : w.heap[b]? = some (.cells #[v0, v1, v2, v3, v4] t)) : w.cell? ⟨b, 0, none⟩ = some v0 ∧ w.cell? ⟨b, 1, none⟩ = some v1 ∧ w.cell? ⟨b, 2, none⟩ = some v2 ∧ w.cell? ⟨b, 3, none⟩ = some v3 ∧ w.cell? ⟨b, 4, none⟩ = some v4 :=
 ⟨by rw [cell_of_row _ _ _ _ _ _ h]; rfl, by rw [cell_of_row _ _ _ _ _ _ h]; rfl, by rw [cell_of_row _ _ _ _ _ _ h]; rfl, by rw [cell_of_row _ _ _ _ _ _ h]; rfl, by rw [cell_of_row _ _ _ _ _ _ h]; rfl⟩
theorem two_new (w : World) (X Y : Obj) : ((w.alloc X).alloc Y).heap[w.heap.size]? = some X ∧ ((w.alloc X).alloc Y).heap[w.heap.size + 1]? = some Y ∧ ((w.alloc X).alloc Y).heap.size = w.heap.size + 2 := by
 refine ⟨?_, ?_, by simp⟩
 ·rw [Below.heap_alloc _ _ _ (by simp)]; exact heap_new _ _
 ·exact heap_new2 (by simp)
theorem chkNt_1 {p : PPrg} {n : PNte} (h : inB n.to 0 ((p.acs.length : Int) - 1) = false) : false = chkNt p n := by unfold chkNt; rw [h]; rfl
theorem chkNt_2 {p : PPrg} {n : PNte} (h : inB n.to 0 ((p.acs.length : Int) - 1) = true) (h2 : inB n.hd 0 ((p.hs.length : Int) - 1) = false) : false = chkNt p n := by unfold chkNt; rw [h, h2]; rfl
theorem chkNt_3 {p : PPrg} {n : PNte} (h : inB n.to 0 ((p.acs.length : Int) - 1) = true) (h2 : inB n.hd 0 ((p.hs.length : Int) - 1) = true) : ((n.args.length : Int) == argsOf p.hs n.hd) = chkNt p n := by unfold chkNt; rw [h, h2]; simp
theorem inB_iff {n a b : Int} : inB n a b = true ↔ a ≤ n ∧ n ≤ b := by unfold inB; exact decide_eq_true_iff
set_option maxHeartbeats 4000000 in
set_option maxRecDepth 100000 in
theorem chkNote_1 (w : World) (vp vn : Value) (p : PPrg) (n : PNte) (hp : PrgV w vp p) (hn : NteV w vn n) (e1 : inB n.to 0 ((p.acs.length : Int) - 1) = false) :
  Calls Tryz.prog 117 #[vp, vn] w fun e w' => e = .returned (.bool (chkNt p n)) ∧ Below w.heap.size w w' := by
 have HR := hid_mk (chkNt_1 e1)
 obtain ⟨c, rfl, hc⟩ := hn
 obtain ⟨A, cc, rfl, hl⟩ := hc.form
 have HP : Hid (PrgV w vp p) := hp
 obtain ⟨va, vb, vc, rfl, h1, h2, h3⟩ := hp
 obtain ⟨A1, c1, rfl, hl1⟩ := h1.form
 obtain ⟨A2, c2, rfl, hl2⟩ := h2.form
 obtain ⟨A3, c3, rfl, hl3⟩ := h3.form
 obtain ⟨t, d, l⟩ := n
 dsimp only at hl hc e1  HR ⊢
 clear hc h1 h2 h3
 go_enter Tryz.func117, Tryz.ntmps117
 go_wp2_with fail
 have hA := (two_new w (.cells #[.slice A1 p.hs.length c1, .slice A2 p.acs.length c2, .slice A3 p.bs.length c3, .int .i64 p.fuel] 26) (.cells #[.int .i64 t, .int .i64 d, .slice A l.length cc] 79)).1
 have hB := (two_new w (.cells #[.slice A1 p.hs.length c1, .slice A2 p.acs.length c2, .slice A3 p.bs.length c3, .int .i64 p.fuel] 26) (.cells #[.int .i64 t, .int .i64 d, .slice A l.length cc] 79)).2.1
 have hsz := (two_new w (.cells #[.slice A1 p.hs.length c1, .slice A2 p.acs.length c2, .slice A3 p.bs.length c3, .int .i64 p.fuel] 26) (.cells #[.int .i64 t, .int .i64 d, .slice A l.length cc] 79)).2.2
 have HL : Hid (Below w.heap.size w ((w.alloc (.cells #[.slice A1 p.hs.length c1, .slice A2 p.acs.length c2, .slice A3 p.bs.length c3, .int .i64 p.fuel] 26)).alloc (.cells #[.int .i64 t, .int .i64 d, .slice A l.length cc] 79))) := bAlloc (bAlloc (bRefl _) _) _
 have HP1 : Hid (PrgV ((w.alloc (.cells #[.slice A1 p.hs.length c1, .slice A2 p.acs.length c2, .slice A3 p.bs.length c3, .int .i64 p.fuel] 26)).alloc (.cells #[.int .i64 t, .int .i64 d, .slice A l.length cc] 79)) (.agg #[.slice A1 p.hs.length c1, .slice A2 p.acs.length c2, .slice A3 p.bs.length c3, .int .i64 p.fuel]) p) := HP.out.below HL.out
 generalize ((w.alloc (.cells #[.slice A1 p.hs.length c1, .slice A2 p.acs.length c2, .slice A3 p.bs.length c3, .int .i64 p.fuel] 26)).alloc (.cells #[.int .i64 t, .int .i64 d, .slice A l.length cc] 79)) = w1 at hA hB hsz HL HP1 ⊢
 obtain ⟨p0, p1, p2, p3⟩ := blk4 hA
 obtain ⟨n0, n1, n2⟩ := blk3 hB
 have hs0 : w.heap.size < w1.heap.size := by omega
 have hs1 : w.heap.size + 1 < w1.heap.size := by omega
 have hbb : Below w1.heap.size w1 w1 := bRefl w1
 have hwl : IntKind.i64.wrap ((p.hs.length : Int) - 1) = (p.hs.length : Int) - 1 := (IntWalk.i64_left _).trans (IntWalk.wrap64_in _ ⟨by omega, by omega⟩)
 clear hA hB hsz HP
 refine wp_region_held_drew (S := fun w' => w'.cell? ⟨w.heap.size, 0, none⟩ = some (.slice A1 p.hs.length c1) ∧ w'.cell? ⟨w.heap.size, 1, none⟩ = some (.slice A2 p.acs.length c2) ∧ w'.cell? ⟨w.heap.size, 2, none⟩ = some (.slice A3 p.bs.length c3) ∧ w'.cell? ⟨w.heap.size, 3, none⟩ = some (.int .i64 p.fuel) ∧ w'.cell? ⟨w.heap.size + 1, 0, none⟩ = some (.int .i64 t) ∧ w'.cell? ⟨w.heap.size + 1, 1, none⟩ = some (.int .i64 d) ∧ w'.cell? ⟨w.heap.size + 1, 2, none⟩ = some (.slice A l.length cc)) (by kernel_rfl) ?_ (fun hHeld => ?_)
 ·try dsimp only
  go_keep
 refine tKh (i := 0) (oi := ⟨some 5, .load 26 (.tmp 2), 26, "world.go:92", #[], none⟩) (v := ?_) (hy := .inl ⟨by rfl, ?_⟩) (h := ?_)
 rotate_left
 ·intro w hSw
  try dsimp only at hSw
  go_simp
  try with_reducible rfl
 try simp only [Act.put, sqA, sqB, sqC]
 refine tKh (i := 1) (oi := ⟨some 6, .fieldAddr 79 (.tmp 3) 0, 0, "world.go:92", #[], none⟩) (v := ?_) (hy := .inl ⟨by rfl, ?_⟩) (h := ?_)
 rotate_left
 ·intro w hSw
  try dsimp only at hSw
  go_simp
  try with_reducible rfl
 try simp only [Act.put, sqA, sqB, sqC]
 refine tKh (i := 2) (oi := ⟨some 7, .load 3 (.tmp 6), 3, "world.go:92", #[⟨1, .data⟩], none⟩) (v := ?_) (hy := .inl ⟨by rfl, ?_⟩) (h := ?_)
 rotate_left
 ·intro w hSw
  try dsimp only at hSw
  go_simp
  try with_reducible rfl
 try simp only [Act.put, sqA, sqB, sqC]
 refine wpAnyH_ready (rs := [3]) (by kernel_rfl) (by simp) ?_
 refine AllReadyH.cons (o := ⟨some 8, .call { callee := .value (.func 137), args := #[.tmp 5, .tmp 7], argTypes := #[26, 3] }, 4, "world.go:92", #[⟨0, .data⟩, ⟨2, .data⟩], none⟩) rfl (fun K hK => ?_) AllReadyH.nil
 go_simp
 (first | (go_at_call 137; refine (isActor_any _ _ p _ (HP1.out.below (by first | exact hbb | exact hbb.drew))).mono ?_; rintro e w2 ⟨rfl, hb2⟩; have hc2 := (by first | exact bcell (undrew hb2) | exact bcell hb2); replace hbb := bTrans (by first | exact hbb | exact hbb.drew) hb2; have hz2 := Nat.lt_of_lt_of_le hs1 hbb.size; have hz3 := Nat.lt_of_lt_of_le hs0 hbb.size) | (go_at_call 73; refine (win_any _ _ _ _).mono ?_; rintro e w' ⟨rfl, hw⟩; replace hw := hw.symm; subst hw))
 try (go_wp2_with fail)
 refine hK.out _ _ ?_ (fun hHeld => ?_)
 ·try dsimp only
  go_keep
 clear hK K
 try simp only [Act.put, sqA, sqB, sqC]
 refine tKh (i := 4) (oi := ⟨some 9, .move (.tmp 8), 4, "world.go:92", #[⟨3, .data⟩, ⟨3, .chain⟩], none⟩) (v := ?_) (hy := .inl ⟨by rfl, ?_⟩) (h := ?_)
 rotate_left
 ·intro w hSw
  try dsimp only at hSw
  go_simp
  try with_reducible rfl
 try simp only [Act.put, sqA, sqB, sqC]
 refine tKh (i := 5) (oi := ⟨some 10, .fieldAddr 79 (.tmp 3) 1, 0, "world.go:92", #[⟨4, .guard⟩], some (4, true)⟩) (v := undef) (hy := .inr ⟨by rfl, rfl⟩) (h := ?_)
 try simp only [Act.put, sqA, sqB, sqC]
 refine tKh (i := 6) (oi := ⟨some 11, .load 3 (.tmp 10), 3, "world.go:92", #[⟨5, .data⟩, ⟨4, .guard⟩], some (4, true)⟩) (v := undef) (hy := .inr ⟨by rfl, rfl⟩) (h := ?_)
 try simp only [Act.put, sqA, sqB, sqC]
 refine tKh (i := 7) (oi := ⟨some 12, .fieldAddr 26 (.tmp 2) 0, 0, "world.go:92", #[⟨4, .guard⟩], some (4, true)⟩) (v := undef) (hy := .inr ⟨by rfl, rfl⟩) (h := ?_)
 try simp only [Act.put, sqA, sqB, sqC]
 refine tKh (i := 8) (oi := ⟨some 13, .load 22 (.tmp 12), 22, "world.go:92", #[⟨7, .data⟩, ⟨4, .guard⟩], some (4, true)⟩) (v := undef) (hy := .inr ⟨by rfl, rfl⟩) (h := ?_)
 try simp only [Act.put, sqA, sqB, sqC]
 refine tKh (i := 9) (oi := ⟨some 14, .call { callee := .builtin .len, args := #[.tmp 13], argTypes := #[22] }, 3, "world.go:92", #[⟨8, .data⟩, ⟨4, .guard⟩], some (4, true)⟩) (v := undef) (hy := .inr ⟨by rfl, rfl⟩) (h := ?_)
 try simp only [Act.put, sqA, sqB, sqC]
 refine tKh (i := 10) (oi := ⟨some 15, .binOp .sub 3 (.tmp 14) (.const (.int .i64 1)) 3, 3, "world.go:92", #[⟨9, .data⟩, ⟨4, .guard⟩], some (4, true)⟩) (v := undef) (hy := .inr ⟨by rfl, rfl⟩) (h := ?_)
 try simp only [Act.put, sqA, sqB, sqC]
 refine wpAnyH_ready (rs := [11]) (by kernel_rfl) (by simp) ?_
 refine AllReadyH.cons (o := ⟨some 16, .call { callee := .value (.func 73), args := #[.tmp 11, .const (.int .i64 0), .tmp 15], argTypes := #[3, 3, 3] }, 4, "world.go:93", #[⟨6, .data⟩, ⟨10, .data⟩, ⟨4, .chain⟩, ⟨4, .guard⟩], some (4, true)⟩) rfl (fun K hK => ?_) AllReadyH.nil
 go_simp
 refine hK.out _ _ ?_ (fun hHeld => ?_)
 ·try dsimp only
  go_keep
 clear hK K
 try simp only [Act.put, sqA, sqB, sqC]
 refine tKh (i := 12) (oi := ⟨some 17, .pick (.tmp 9) (.tmp 16) (.const (.bool false)), 4, "world.go:92", #[⟨4, .data⟩, ⟨11, .data⟩], none⟩) (v := ?_) (hy := .inl ⟨by rfl, ?_⟩) (h := ?_)
 rotate_left
 ·intro w hSw
  try dsimp only at hSw
  go_simp
  try with_reducible rfl
 try simp only [Act.put, sqA, sqB, sqC]
 refine tKh (i := 13) (oi := ⟨some 18, .move (.tmp 17), 4, "world.go:92", #[⟨12, .data⟩, ⟨11, .chain⟩], none⟩) (v := ?_) (hy := .inl ⟨by rfl, ?_⟩) (h := ?_)
 rotate_left
 ·intro w hSw
  try dsimp only at hSw
  go_simp
  try with_reducible rfl
 try simp only [Act.put, sqA, sqB, sqC]
 refine tKh (i := 14) (oi := ⟨some 19, .fieldAddr 79 (.tmp 3) 2, 0, "world.go:92", #[⟨13, .guard⟩], some (13, true)⟩) (v := undef) (hy := .inr ⟨by rfl, rfl⟩) (h := ?_)
 try simp only [Act.put, sqA, sqB, sqC]
 refine tKh (i := 15) (oi := ⟨some 20, .load 54 (.tmp 19), 54, "world.go:92", #[⟨14, .data⟩, ⟨13, .guard⟩], some (13, true)⟩) (v := undef) (hy := .inr ⟨by rfl, rfl⟩) (h := ?_)
 try simp only [Act.put, sqA, sqB, sqC]
 refine tKh (i := 16) (oi := ⟨some 21, .call { callee := .builtin .len, args := #[.tmp 20], argTypes := #[54] }, 3, "world.go:92", #[⟨15, .data⟩, ⟨13, .guard⟩], some (13, true)⟩) (v := undef) (hy := .inr ⟨by rfl, rfl⟩) (h := ?_)
 try simp only [Act.put, sqA, sqB, sqC]
 refine tKh (i := 17) (oi := ⟨some 22, .fieldAddr 26 (.tmp 2) 0, 0, "world.go:92", #[⟨13, .guard⟩], some (13, true)⟩) (v := undef) (hy := .inr ⟨by rfl, rfl⟩) (h := ?_)
 try simp only [Act.put, sqA, sqB, sqC]
 refine tKh (i := 18) (oi := ⟨some 23, .load 22 (.tmp 22), 22, "world.go:92", #[⟨17, .data⟩, ⟨13, .guard⟩], some (13, true)⟩) (v := undef) (hy := .inr ⟨by rfl, rfl⟩) (h := ?_)
 try simp only [Act.put, sqA, sqB, sqC]
 refine tKh (i := 19) (oi := ⟨some 24, .fieldAddr 79 (.tmp 3) 1, 0, "world.go:92", #[⟨13, .guard⟩], some (13, true)⟩) (v := undef) (hy := .inr ⟨by rfl, rfl⟩) (h := ?_)
 try simp only [Act.put, sqA, sqB, sqC]
 refine tKh (i := 20) (oi := ⟨some 25, .load 3 (.tmp 24), 3, "world.go:92", #[⟨19, .data⟩, ⟨13, .guard⟩], some (13, true)⟩) (v := undef) (hy := .inr ⟨by rfl, rfl⟩) (h := ?_)
 try simp only [Act.put, sqA, sqB, sqC]
 refine tKh (i := 21) (oi := ⟨some 26, .indexAddr 22 (.tmp 23) (.tmp 25), 0, "world.go:92", #[⟨18, .data⟩, ⟨20, .data⟩, ⟨13, .guard⟩], some (13, true)⟩) (v := undef) (hy := .inr ⟨by rfl, rfl⟩) (h := ?_)
 try simp only [Act.put, sqA, sqB, sqC]
 refine tKh (i := 22) (oi := ⟨some 27, .fieldAddr 73 (.tmp 26) 0, 0, "world.go:92", #[⟨21, .data⟩, ⟨13, .guard⟩], some (13, true)⟩) (v := undef) (hy := .inr ⟨by rfl, rfl⟩) (h := ?_)
 try simp only [Act.put, sqA, sqB, sqC]
 refine tKh (i := 23) (oi := ⟨some 28, .load 3 (.tmp 27), 3, "world.go:92", #[⟨22, .data⟩, ⟨13, .guard⟩], some (13, true)⟩) (v := undef) (hy := .inr ⟨by rfl, rfl⟩) (h := ?_)
 try simp only [Act.put, sqA, sqB, sqC]
 refine tKh (i := 24) (oi := ⟨some 29, .binOp .eql 3 (.tmp 21) (.tmp 28) 3, 4, "world.go:92", #[⟨16, .data⟩, ⟨23, .data⟩, ⟨13, .guard⟩], some (13, true)⟩) (v := undef) (hy := .inr ⟨by rfl, rfl⟩) (h := ?_)
 try simp only [Act.put, sqA, sqB, sqC]
 refine tKh (i := 25) (oi := ⟨some 30, .pick (.tmp 18) (.tmp 29) (.const (.bool false)), 4, "world.go:92", #[⟨13, .data⟩, ⟨24, .data⟩], none⟩) (v := ?_) (hy := .inl ⟨by rfl, ?_⟩) (h := ?_)
 rotate_left
 ·intro w hSw
  try dsimp only at hSw
  go_simp
  try with_reducible rfl
 try simp only [Act.put, sqA, sqB, sqC]
 refine tKh (i := 26) (oi := ⟨some 4, .assign (.tmp 30), 4, "world.go:92", #[⟨25, .data⟩, ⟨13, .chain⟩, ⟨0, .phase⟩, ⟨1, .phase⟩, ⟨2, .phase⟩, ⟨3, .phase⟩, ⟨4, .phase⟩, ⟨5, .phase⟩, ⟨6, .phase⟩, ⟨7, .phase⟩, ⟨8, .phase⟩, ⟨9, .phase⟩, ⟨10, .phase⟩, ⟨11, .phase⟩, ⟨12, .phase⟩, ⟨13, .phase⟩, ⟨14, .phase⟩, ⟨15, .phase⟩, ⟨16, .phase⟩, ⟨17, .phase⟩, ⟨18, .phase⟩, ⟨19, .phase⟩, ⟨20, .phase⟩, ⟨21, .phase⟩, ⟨22, .phase⟩, ⟨23, .phase⟩, ⟨24, .phase⟩, ⟨25, .phase⟩], none⟩) (v := ?_) (hy := .inl ⟨by rfl, ?_⟩) (h := ?_)
 rotate_left
 ·intro w hSw
  try dsimp only at hSw
  go_simp
  try with_reducible rfl
 try simp only [Act.put, sqA, sqB, sqC]
 refine wpAnyH_done (by kernel_rfl) ?_ _
 go_wp2_with fail
 go_ret
 exact ⟨ret_b HR.out, bTrans HL.out (by first | exact hbb | exact hbb.drew)⟩
set_option maxHeartbeats 4000000 in
set_option maxRecDepth 100000 in
theorem chkNote_2 (w : World) (vp vn : Value) (p : PPrg) (n : PNte) (hp : PrgV w vp p) (hn : NteV w vn n) (e1 : inB n.to 0 ((p.acs.length : Int) - 1) = true) (e2 : inB n.hd 0 ((p.hs.length : Int) - 1) = false) :
  Calls Tryz.prog 117 #[vp, vn] w fun e w' => e = .returned (.bool (chkNt p n)) ∧ Below w.heap.size w w' := by
 have HR := hid_mk (chkNt_2 e1 e2)
 obtain ⟨c, rfl, hc⟩ := hn
 obtain ⟨A, cc, rfl, hl⟩ := hc.form
 have HP : Hid (PrgV w vp p) := hp
 obtain ⟨va, vb, vc, rfl, h1, h2, h3⟩ := hp
 obtain ⟨A1, c1, rfl, hl1⟩ := h1.form
 obtain ⟨A2, c2, rfl, hl2⟩ := h2.form
 obtain ⟨A3, c3, rfl, hl3⟩ := h3.form
 obtain ⟨t, d, l⟩ := n
 dsimp only at hl hc e1 e2 HR ⊢
 clear hc h1 h2 h3
 go_enter Tryz.func117, Tryz.ntmps117
 go_wp2_with fail
 have hA := (two_new w (.cells #[.slice A1 p.hs.length c1, .slice A2 p.acs.length c2, .slice A3 p.bs.length c3, .int .i64 p.fuel] 26) (.cells #[.int .i64 t, .int .i64 d, .slice A l.length cc] 79)).1
 have hB := (two_new w (.cells #[.slice A1 p.hs.length c1, .slice A2 p.acs.length c2, .slice A3 p.bs.length c3, .int .i64 p.fuel] 26) (.cells #[.int .i64 t, .int .i64 d, .slice A l.length cc] 79)).2.1
 have hsz := (two_new w (.cells #[.slice A1 p.hs.length c1, .slice A2 p.acs.length c2, .slice A3 p.bs.length c3, .int .i64 p.fuel] 26) (.cells #[.int .i64 t, .int .i64 d, .slice A l.length cc] 79)).2.2
 have HL : Hid (Below w.heap.size w ((w.alloc (.cells #[.slice A1 p.hs.length c1, .slice A2 p.acs.length c2, .slice A3 p.bs.length c3, .int .i64 p.fuel] 26)).alloc (.cells #[.int .i64 t, .int .i64 d, .slice A l.length cc] 79))) := bAlloc (bAlloc (bRefl _) _) _
 have HP1 : Hid (PrgV ((w.alloc (.cells #[.slice A1 p.hs.length c1, .slice A2 p.acs.length c2, .slice A3 p.bs.length c3, .int .i64 p.fuel] 26)).alloc (.cells #[.int .i64 t, .int .i64 d, .slice A l.length cc] 79)) (.agg #[.slice A1 p.hs.length c1, .slice A2 p.acs.length c2, .slice A3 p.bs.length c3, .int .i64 p.fuel]) p) := HP.out.below HL.out
 generalize ((w.alloc (.cells #[.slice A1 p.hs.length c1, .slice A2 p.acs.length c2, .slice A3 p.bs.length c3, .int .i64 p.fuel] 26)).alloc (.cells #[.int .i64 t, .int .i64 d, .slice A l.length cc] 79)) = w1 at hA hB hsz HL HP1 ⊢
 obtain ⟨p0, p1, p2, p3⟩ := blk4 hA
 obtain ⟨n0, n1, n2⟩ := blk3 hB
 have hs0 : w.heap.size < w1.heap.size := by omega
 have hs1 : w.heap.size + 1 < w1.heap.size := by omega
 have hbb : Below w1.heap.size w1 w1 := bRefl w1
 have hwl : IntKind.i64.wrap ((p.hs.length : Int) - 1) = (p.hs.length : Int) - 1 := (IntWalk.i64_left _).trans (IntWalk.wrap64_in _ ⟨by omega, by omega⟩)
 clear hA hB hsz HP
 refine wp_region_held_drew (S := fun w' => w'.cell? ⟨w.heap.size, 0, none⟩ = some (.slice A1 p.hs.length c1) ∧ w'.cell? ⟨w.heap.size, 1, none⟩ = some (.slice A2 p.acs.length c2) ∧ w'.cell? ⟨w.heap.size, 2, none⟩ = some (.slice A3 p.bs.length c3) ∧ w'.cell? ⟨w.heap.size, 3, none⟩ = some (.int .i64 p.fuel) ∧ w'.cell? ⟨w.heap.size + 1, 0, none⟩ = some (.int .i64 t) ∧ w'.cell? ⟨w.heap.size + 1, 1, none⟩ = some (.int .i64 d) ∧ w'.cell? ⟨w.heap.size + 1, 2, none⟩ = some (.slice A l.length cc)) (by kernel_rfl) ?_ (fun hHeld => ?_)
 ·try dsimp only
  go_keep
 refine tKh (i := 0) (oi := ⟨some 5, .load 26 (.tmp 2), 26, "world.go:92", #[], none⟩) (v := ?_) (hy := .inl ⟨by rfl, ?_⟩) (h := ?_)
 rotate_left
 ·intro w hSw
  try dsimp only at hSw
  go_simp
  try with_reducible rfl
 try simp only [Act.put, sqA, sqB, sqC]
 refine tKh (i := 1) (oi := ⟨some 6, .fieldAddr 79 (.tmp 3) 0, 0, "world.go:92", #[], none⟩) (v := ?_) (hy := .inl ⟨by rfl, ?_⟩) (h := ?_)
 rotate_left
 ·intro w hSw
  try dsimp only at hSw
  go_simp
  try with_reducible rfl
 try simp only [Act.put, sqA, sqB, sqC]
 refine tKh (i := 2) (oi := ⟨some 7, .load 3 (.tmp 6), 3, "world.go:92", #[⟨1, .data⟩], none⟩) (v := ?_) (hy := .inl ⟨by rfl, ?_⟩) (h := ?_)
 rotate_left
 ·intro w hSw
  try dsimp only at hSw
  go_simp
  try with_reducible rfl
 try simp only [Act.put, sqA, sqB, sqC]
 refine wpAnyH_ready (rs := [3]) (by kernel_rfl) (by simp) ?_
 refine AllReadyH.cons (o := ⟨some 8, .call { callee := .value (.func 137), args := #[.tmp 5, .tmp 7], argTypes := #[26, 3] }, 4, "world.go:92", #[⟨0, .data⟩, ⟨2, .data⟩], none⟩) rfl (fun K hK => ?_) AllReadyH.nil
 go_simp
 (first | (go_at_call 137; refine (isActor_any _ _ p _ (HP1.out.below (by first | exact hbb | exact hbb.drew))).mono ?_; rintro e w2 ⟨rfl, hb2⟩; have hc2 := (by first | exact bcell (undrew hb2) | exact bcell hb2); replace hbb := bTrans (by first | exact hbb | exact hbb.drew) hb2; have hz2 := Nat.lt_of_lt_of_le hs1 hbb.size; have hz3 := Nat.lt_of_lt_of_le hs0 hbb.size) | (go_at_call 73; refine (win_any _ _ _ _).mono ?_; rintro e w' ⟨rfl, hw⟩; replace hw := hw.symm; subst hw))
 try (go_wp2_with fail)
 refine hK.out _ _ ?_ (fun hHeld => ?_)
 ·try dsimp only
  go_keep
 clear hK K
 try simp only [Act.put, sqA, sqB, sqC]
 refine tKh (i := 4) (oi := ⟨some 9, .move (.tmp 8), 4, "world.go:92", #[⟨3, .data⟩, ⟨3, .chain⟩], none⟩) (v := ?_) (hy := .inl ⟨by rfl, ?_⟩) (h := ?_)
 rotate_left
 ·intro w hSw
  try dsimp only at hSw
  go_simp
  try with_reducible rfl
 try simp only [Act.put, sqA, sqB, sqC]
 refine tKh (i := 5) (oi := ⟨some 10, .fieldAddr 79 (.tmp 3) 1, 0, "world.go:92", #[⟨4, .guard⟩], some (4, true)⟩) (v := ?_) (hy := .inl ⟨by rfl, ?_⟩) (h := ?_)
 rotate_left
 ·intro w hSw
  try dsimp only at hSw
  go_simp
  try with_reducible rfl
 try simp only [Act.put, sqA, sqB, sqC]
 refine tKh (i := 6) (oi := ⟨some 11, .load 3 (.tmp 10), 3, "world.go:92", #[⟨5, .data⟩, ⟨4, .guard⟩], some (4, true)⟩) (v := ?_) (hy := .inl ⟨by rfl, ?_⟩) (h := ?_)
 rotate_left
 ·intro w hSw
  try dsimp only at hSw
  go_simp
  try with_reducible rfl
 try simp only [Act.put, sqA, sqB, sqC]
 refine tKh (i := 7) (oi := ⟨some 12, .fieldAddr 26 (.tmp 2) 0, 0, "world.go:92", #[⟨4, .guard⟩], some (4, true)⟩) (v := ?_) (hy := .inl ⟨by rfl, ?_⟩) (h := ?_)
 rotate_left
 ·intro w hSw
  try dsimp only at hSw
  go_simp
  try with_reducible rfl
 try simp only [Act.put, sqA, sqB, sqC]
 refine tKh (i := 8) (oi := ⟨some 13, .load 22 (.tmp 12), 22, "world.go:92", #[⟨7, .data⟩, ⟨4, .guard⟩], some (4, true)⟩) (v := ?_) (hy := .inl ⟨by rfl, ?_⟩) (h := ?_)
 rotate_left
 ·intro w hSw
  try dsimp only at hSw
  go_simp
  try with_reducible rfl
 try simp only [Act.put, sqA, sqB, sqC]
 refine tKh (i := 9) (oi := ⟨some 14, .call { callee := .builtin .len, args := #[.tmp 13], argTypes := #[22] }, 3, "world.go:92", #[⟨8, .data⟩, ⟨4, .guard⟩], some (4, true)⟩) (v := ?_) (hy := .inl ⟨by rfl, ?_⟩) (h := ?_)
 rotate_left
 ·intro w hSw
  try dsimp only at hSw
  go_simp
  try with_reducible rfl
 try simp only [Act.put, sqA, sqB, sqC]
 refine tKh (i := 10) (oi := ⟨some 15, .binOp .sub 3 (.tmp 14) (.const (.int .i64 1)) 3, 3, "world.go:92", #[⟨9, .data⟩, ⟨4, .guard⟩], some (4, true)⟩) (v := ?_) (hy := .inl ⟨by rfl, ?_⟩) (h := ?_)
 rotate_left
 ·intro w hSw
  try dsimp only at hSw
  go_simp
  try with_reducible rfl
 try simp only [Act.put, sqA, sqB, sqC]
 refine wpAnyH_ready (rs := [11]) (by kernel_rfl) (by simp) ?_
 refine AllReadyH.cons (o := ⟨some 16, .call { callee := .value (.func 73), args := #[.tmp 11, .const (.int .i64 0), .tmp 15], argTypes := #[3, 3, 3] }, 4, "world.go:93", #[⟨6, .data⟩, ⟨10, .data⟩, ⟨4, .chain⟩, ⟨4, .guard⟩], some (4, true)⟩) rfl (fun K hK => ?_) AllReadyH.nil
 go_simp
 (first | (go_at_call 137; refine (isActor_any _ _ p _ (HP1.out.below (by first | exact hbb | exact hbb.drew))).mono ?_; rintro e w2 ⟨rfl, hb2⟩; have hc2 := (by first | exact bcell (undrew hb2) | exact bcell hb2); replace hbb := bTrans (by first | exact hbb | exact hbb.drew) hb2; have hz2 := Nat.lt_of_lt_of_le hs1 hbb.size; have hz3 := Nat.lt_of_lt_of_le hs0 hbb.size) | (go_at_call 73; refine (win_any _ _ _ _).mono ?_; rintro e w' ⟨rfl, hw⟩; replace hw := hw.symm; subst hw))
 try (go_wp2_with fail)
 refine hK.out _ _ ?_ (fun hHeld => ?_)
 ·try dsimp only
  go_keep
 clear hK K
 try simp only [Act.put, sqA, sqB, sqC]
 refine tKh (i := 12) (oi := ⟨some 17, .pick (.tmp 9) (.tmp 16) (.const (.bool false)), 4, "world.go:92", #[⟨4, .data⟩, ⟨11, .data⟩], none⟩) (v := ?_) (hy := .inl ⟨by rfl, ?_⟩) (h := ?_)
 rotate_left
 ·intro w hSw
  try dsimp only at hSw
  go_simp
  try with_reducible rfl
 try simp only [Act.put, sqA, sqB, sqC]
 refine tKh (i := 13) (oi := ⟨some 18, .move (.tmp 17), 4, "world.go:92", #[⟨12, .data⟩, ⟨11, .chain⟩], none⟩) (v := ?_) (hy := .inl ⟨by rfl, ?_⟩) (h := ?_)
 rotate_left
 ·intro w hSw
  try dsimp only at hSw
  go_simp
  try with_reducible rfl
 try simp only [Act.put, sqA, sqB, sqC]
 refine tKh (i := 14) (oi := ⟨some 19, .fieldAddr 79 (.tmp 3) 2, 0, "world.go:92", #[⟨13, .guard⟩], some (13, true)⟩) (v := undef) (hy := .inr ⟨by rfl, rfl⟩) (h := ?_)
 try simp only [Act.put, sqA, sqB, sqC]
 refine tKh (i := 15) (oi := ⟨some 20, .load 54 (.tmp 19), 54, "world.go:92", #[⟨14, .data⟩, ⟨13, .guard⟩], some (13, true)⟩) (v := undef) (hy := .inr ⟨by rfl, rfl⟩) (h := ?_)
 try simp only [Act.put, sqA, sqB, sqC]
 refine tKh (i := 16) (oi := ⟨some 21, .call { callee := .builtin .len, args := #[.tmp 20], argTypes := #[54] }, 3, "world.go:92", #[⟨15, .data⟩, ⟨13, .guard⟩], some (13, true)⟩) (v := undef) (hy := .inr ⟨by rfl, rfl⟩) (h := ?_)
 try simp only [Act.put, sqA, sqB, sqC]
 refine tKh (i := 17) (oi := ⟨some 22, .fieldAddr 26 (.tmp 2) 0, 0, "world.go:92", #[⟨13, .guard⟩], some (13, true)⟩) (v := undef) (hy := .inr ⟨by rfl, rfl⟩) (h := ?_)
 try simp only [Act.put, sqA, sqB, sqC]
 refine tKh (i := 18) (oi := ⟨some 23, .load 22 (.tmp 22), 22, "world.go:92", #[⟨17, .data⟩, ⟨13, .guard⟩], some (13, true)⟩) (v := undef) (hy := .inr ⟨by rfl, rfl⟩) (h := ?_)
 try simp only [Act.put, sqA, sqB, sqC]
 refine tKh (i := 19) (oi := ⟨some 24, .fieldAddr 79 (.tmp 3) 1, 0, "world.go:92", #[⟨13, .guard⟩], some (13, true)⟩) (v := undef) (hy := .inr ⟨by rfl, rfl⟩) (h := ?_)
 try simp only [Act.put, sqA, sqB, sqC]
 refine tKh (i := 20) (oi := ⟨some 25, .load 3 (.tmp 24), 3, "world.go:92", #[⟨19, .data⟩, ⟨13, .guard⟩], some (13, true)⟩) (v := undef) (hy := .inr ⟨by rfl, rfl⟩) (h := ?_)
 try simp only [Act.put, sqA, sqB, sqC]
 refine tKh (i := 21) (oi := ⟨some 26, .indexAddr 22 (.tmp 23) (.tmp 25), 0, "world.go:92", #[⟨18, .data⟩, ⟨20, .data⟩, ⟨13, .guard⟩], some (13, true)⟩) (v := undef) (hy := .inr ⟨by rfl, rfl⟩) (h := ?_)
 try simp only [Act.put, sqA, sqB, sqC]
 refine tKh (i := 22) (oi := ⟨some 27, .fieldAddr 73 (.tmp 26) 0, 0, "world.go:92", #[⟨21, .data⟩, ⟨13, .guard⟩], some (13, true)⟩) (v := undef) (hy := .inr ⟨by rfl, rfl⟩) (h := ?_)
 try simp only [Act.put, sqA, sqB, sqC]
 refine tKh (i := 23) (oi := ⟨some 28, .load 3 (.tmp 27), 3, "world.go:92", #[⟨22, .data⟩, ⟨13, .guard⟩], some (13, true)⟩) (v := undef) (hy := .inr ⟨by rfl, rfl⟩) (h := ?_)
 try simp only [Act.put, sqA, sqB, sqC]
 refine tKh (i := 24) (oi := ⟨some 29, .binOp .eql 3 (.tmp 21) (.tmp 28) 3, 4, "world.go:92", #[⟨16, .data⟩, ⟨23, .data⟩, ⟨13, .guard⟩], some (13, true)⟩) (v := undef) (hy := .inr ⟨by rfl, rfl⟩) (h := ?_)
 try simp only [Act.put, sqA, sqB, sqC]
 refine tKh (i := 25) (oi := ⟨some 30, .pick (.tmp 18) (.tmp 29) (.const (.bool false)), 4, "world.go:92", #[⟨13, .data⟩, ⟨24, .data⟩], none⟩) (v := ?_) (hy := .inl ⟨by rfl, ?_⟩) (h := ?_)
 rotate_left
 ·intro w hSw
  try dsimp only at hSw
  go_simp
  try with_reducible rfl
 try simp only [Act.put, sqA, sqB, sqC]
 refine tKh (i := 26) (oi := ⟨some 4, .assign (.tmp 30), 4, "world.go:92", #[⟨25, .data⟩, ⟨13, .chain⟩, ⟨0, .phase⟩, ⟨1, .phase⟩, ⟨2, .phase⟩, ⟨3, .phase⟩, ⟨4, .phase⟩, ⟨5, .phase⟩, ⟨6, .phase⟩, ⟨7, .phase⟩, ⟨8, .phase⟩, ⟨9, .phase⟩, ⟨10, .phase⟩, ⟨11, .phase⟩, ⟨12, .phase⟩, ⟨13, .phase⟩, ⟨14, .phase⟩, ⟨15, .phase⟩, ⟨16, .phase⟩, ⟨17, .phase⟩, ⟨18, .phase⟩, ⟨19, .phase⟩, ⟨20, .phase⟩, ⟨21, .phase⟩, ⟨22, .phase⟩, ⟨23, .phase⟩, ⟨24, .phase⟩, ⟨25, .phase⟩], none⟩) (v := ?_) (hy := .inl ⟨by rfl, ?_⟩) (h := ?_)
 rotate_left
 ·intro w hSw
  try dsimp only at hSw
  go_simp
  try with_reducible rfl
 try simp only [Act.put, sqA, sqB, sqC]
 refine wpAnyH_done (by kernel_rfl) ?_ _
 go_wp2_with fail
 go_ret
 exact ⟨ret_b HR.out, bTrans HL.out (by first | exact hbb | exact hbb.drew)⟩
set_option maxHeartbeats 4000000 in
set_option maxRecDepth 100000 in
theorem chkNote_3 (w : World) (vp vn : Value) (p : PPrg) (n : PNte) (hp : PrgV w vp p) (hn : NteV w vn n) (e1 : inB n.to 0 ((p.acs.length : Int) - 1) = true) (e2 : inB n.hd 0 ((p.hs.length : Int) - 1) = true) :
  Calls Tryz.prog 117 #[vp, vn] w fun e w' => e = .returned (.bool (chkNt p n)) ∧ Below w.heap.size w w' := by
 have HR := hid_mk (chkNt_3 e1 e2)
 obtain ⟨c, rfl, hc⟩ := hn
 obtain ⟨A, cc, rfl, hl⟩ := hc.form
 have HP : Hid (PrgV w vp p) := hp
 obtain ⟨va, vb, vc, rfl, h1, h2, h3⟩ := hp
 obtain ⟨A1, c1, rfl, hl1⟩ := h1.form
 obtain ⟨A2, c2, rfl, hl2⟩ := h2.form
 obtain ⟨A3, c3, rfl, hl3⟩ := h3.form
 obtain ⟨t, d, l⟩ := n
 dsimp only at hl hc e1 e2 HR ⊢
 have e3 := inB_iff.1 e2
 obtain ⟨k, rfl⟩ := Int.eq_ofNat_of_zero_le e3.1
 have hk : k < p.hs.length := by omega
 obtain ⟨b1, o1, x, v1, rfl, hx, hz1, q1, q2, hv1⟩ := h1.cell (bRefl w) hk
 have HA : Hid (argsOf p.hs (k : Int) = x.args) := argsOf_at hx
 have hki : (k : Int) < p.hs.length := by omega
 rw [HA.out] at HR
 clear hx e3 hv1
 clear hc h1 h2 h3
 go_enter Tryz.func117, Tryz.ntmps117
 go_wp2_with fail
 have hA := (two_new w (.cells #[.slice (some ⟨b1, o1, none⟩) p.hs.length c1, .slice A2 p.acs.length c2, .slice A3 p.bs.length c3, .int .i64 p.fuel] 26) (.cells #[.int .i64 t, .int .i64 (k : Int), .slice A l.length cc] 79)).1
 have hB := (two_new w (.cells #[.slice (some ⟨b1, o1, none⟩) p.hs.length c1, .slice A2 p.acs.length c2, .slice A3 p.bs.length c3, .int .i64 p.fuel] 26) (.cells #[.int .i64 t, .int .i64 (k : Int), .slice A l.length cc] 79)).2.1
 have hsz := (two_new w (.cells #[.slice (some ⟨b1, o1, none⟩) p.hs.length c1, .slice A2 p.acs.length c2, .slice A3 p.bs.length c3, .int .i64 p.fuel] 26) (.cells #[.int .i64 t, .int .i64 (k : Int), .slice A l.length cc] 79)).2.2
 have HL : Hid (Below w.heap.size w ((w.alloc (.cells #[.slice (some ⟨b1, o1, none⟩) p.hs.length c1, .slice A2 p.acs.length c2, .slice A3 p.bs.length c3, .int .i64 p.fuel] 26)).alloc (.cells #[.int .i64 t, .int .i64 (k : Int), .slice A l.length cc] 79))) := bAlloc (bAlloc (bRefl _) _) _
 have HP1 : Hid (PrgV ((w.alloc (.cells #[.slice (some ⟨b1, o1, none⟩) p.hs.length c1, .slice A2 p.acs.length c2, .slice A3 p.bs.length c3, .int .i64 p.fuel] 26)).alloc (.cells #[.int .i64 t, .int .i64 (k : Int), .slice A l.length cc] 79)) (.agg #[.slice (some ⟨b1, o1, none⟩) p.hs.length c1, .slice A2 p.acs.length c2, .slice A3 p.bs.length c3, .int .i64 p.fuel]) p) := HP.out.below HL.out
 generalize ((w.alloc (.cells #[.slice (some ⟨b1, o1, none⟩) p.hs.length c1, .slice A2 p.acs.length c2, .slice A3 p.bs.length c3, .int .i64 p.fuel] 26)).alloc (.cells #[.int .i64 t, .int .i64 (k : Int), .slice A l.length cc] 79)) = w1 at hA hB hsz HL HP1 ⊢
 obtain ⟨p0, p1, p2, p3⟩ := blk4 hA
 obtain ⟨n0, n1, n2⟩ := blk3 hB
 have hs0 : w.heap.size < w1.heap.size := by omega
 have hs1 : w.heap.size + 1 < w1.heap.size := by omega
 have hbb : Below w1.heap.size w1 w1 := bRefl w1
 have hwl : IntKind.i64.wrap ((p.hs.length : Int) - 1) = (p.hs.length : Int) - 1 := (IntWalk.i64_left _).trans (IntWalk.wrap64_in _ ⟨by omega, by omega⟩)
 have hzb : b1 < w1.heap.size := Nat.lt_of_lt_of_le hz1 HL.out.size
 have q1' := (HL.out.cell (p := ⟨b1, o1 + k * 2, none⟩) hz1).trans q1
 clear q1 q2 hz1
 clear hA hB hsz HP
 refine wp_region_held_drew (S := fun w' => w'.cell? ⟨w.heap.size, 0, none⟩ = some (.slice (some ⟨b1, o1, none⟩) p.hs.length c1) ∧ w'.cell? ⟨w.heap.size, 1, none⟩ = some (.slice A2 p.acs.length c2) ∧ w'.cell? ⟨w.heap.size, 2, none⟩ = some (.slice A3 p.bs.length c3) ∧ w'.cell? ⟨w.heap.size, 3, none⟩ = some (.int .i64 p.fuel) ∧ w'.cell? ⟨w.heap.size + 1, 0, none⟩ = some (.int .i64 t) ∧ w'.cell? ⟨w.heap.size + 1, 1, none⟩ = some (.int .i64 (k : Int)) ∧ w'.cell? ⟨w.heap.size + 1, 2, none⟩ = some (.slice A l.length cc) ∧ w'.cell? ⟨b1, o1 + k * 2, none⟩ = some (.int .i64 x.args)) (by kernel_rfl) ?_ (fun hHeld => ?_)
 ·try dsimp only
  go_keep
 refine tKh (i := 0) (oi := ⟨some 5, .load 26 (.tmp 2), 26, "world.go:92", #[], none⟩) (v := ?_) (hy := .inl ⟨by rfl, ?_⟩) (h := ?_)
 rotate_left
 ·intro w hSw
  try dsimp only at hSw
  go_simp
  try with_reducible rfl
 try simp only [Act.put, sqA, sqB, sqC]
 refine tKh (i := 1) (oi := ⟨some 6, .fieldAddr 79 (.tmp 3) 0, 0, "world.go:92", #[], none⟩) (v := ?_) (hy := .inl ⟨by rfl, ?_⟩) (h := ?_)
 rotate_left
 ·intro w hSw
  try dsimp only at hSw
  go_simp
  try with_reducible rfl
 try simp only [Act.put, sqA, sqB, sqC]
 refine tKh (i := 2) (oi := ⟨some 7, .load 3 (.tmp 6), 3, "world.go:92", #[⟨1, .data⟩], none⟩) (v := ?_) (hy := .inl ⟨by rfl, ?_⟩) (h := ?_)
 rotate_left
 ·intro w hSw
  try dsimp only at hSw
  go_simp
  try with_reducible rfl
 try simp only [Act.put, sqA, sqB, sqC]
 refine wpAnyH_ready (rs := [3]) (by kernel_rfl) (by simp) ?_
 refine AllReadyH.cons (o := ⟨some 8, .call { callee := .value (.func 137), args := #[.tmp 5, .tmp 7], argTypes := #[26, 3] }, 4, "world.go:92", #[⟨0, .data⟩, ⟨2, .data⟩], none⟩) rfl (fun K hK => ?_) AllReadyH.nil
 go_simp
 (first | (go_at_call 137; refine (isActor_any _ _ p _ (HP1.out.below (by first | exact hbb | exact hbb.drew))).mono ?_; rintro e w2 ⟨rfl, hb2⟩; have hc2 := (by first | exact bcell (undrew hb2) | exact bcell hb2); replace hbb := bTrans (by first | exact hbb | exact hbb.drew) hb2; have hz2 := Nat.lt_of_lt_of_le hs1 hbb.size; have hz3 := Nat.lt_of_lt_of_le hs0 hbb.size; have hz4 := Nat.lt_of_lt_of_le hzb hbb.size) | (go_at_call 73; refine (win_any _ _ _ _).mono ?_; rintro e w' ⟨rfl, hw⟩; replace hw := hw.symm; subst hw))
 try (go_wp2_with fail)
 refine hK.out _ _ ?_ (fun hHeld => ?_)
 ·try dsimp only
  go_keep
 clear hK K
 try simp only [Act.put, sqA, sqB, sqC]
 refine tKh (i := 4) (oi := ⟨some 9, .move (.tmp 8), 4, "world.go:92", #[⟨3, .data⟩, ⟨3, .chain⟩], none⟩) (v := ?_) (hy := .inl ⟨by rfl, ?_⟩) (h := ?_)
 rotate_left
 ·intro w hSw
  try dsimp only at hSw
  go_simp
  try with_reducible rfl
 try simp only [Act.put, sqA, sqB, sqC]
 refine tKh (i := 5) (oi := ⟨some 10, .fieldAddr 79 (.tmp 3) 1, 0, "world.go:92", #[⟨4, .guard⟩], some (4, true)⟩) (v := ?_) (hy := .inl ⟨by rfl, ?_⟩) (h := ?_)
 rotate_left
 ·intro w hSw
  try dsimp only at hSw
  go_simp
  try with_reducible rfl
 try simp only [Act.put, sqA, sqB, sqC]
 refine tKh (i := 6) (oi := ⟨some 11, .load 3 (.tmp 10), 3, "world.go:92", #[⟨5, .data⟩, ⟨4, .guard⟩], some (4, true)⟩) (v := ?_) (hy := .inl ⟨by rfl, ?_⟩) (h := ?_)
 rotate_left
 ·intro w hSw
  try dsimp only at hSw
  go_simp
  try with_reducible rfl
 try simp only [Act.put, sqA, sqB, sqC]
 refine tKh (i := 7) (oi := ⟨some 12, .fieldAddr 26 (.tmp 2) 0, 0, "world.go:92", #[⟨4, .guard⟩], some (4, true)⟩) (v := ?_) (hy := .inl ⟨by rfl, ?_⟩) (h := ?_)
 rotate_left
 ·intro w hSw
  try dsimp only at hSw
  go_simp
  try with_reducible rfl
 try simp only [Act.put, sqA, sqB, sqC]
 refine tKh (i := 8) (oi := ⟨some 13, .load 22 (.tmp 12), 22, "world.go:92", #[⟨7, .data⟩, ⟨4, .guard⟩], some (4, true)⟩) (v := ?_) (hy := .inl ⟨by rfl, ?_⟩) (h := ?_)
 rotate_left
 ·intro w hSw
  try dsimp only at hSw
  go_simp
  try with_reducible rfl
 try simp only [Act.put, sqA, sqB, sqC]
 refine tKh (i := 9) (oi := ⟨some 14, .call { callee := .builtin .len, args := #[.tmp 13], argTypes := #[22] }, 3, "world.go:92", #[⟨8, .data⟩, ⟨4, .guard⟩], some (4, true)⟩) (v := ?_) (hy := .inl ⟨by rfl, ?_⟩) (h := ?_)
 rotate_left
 ·intro w hSw
  try dsimp only at hSw
  go_simp
  try with_reducible rfl
 try simp only [Act.put, sqA, sqB, sqC]
 refine tKh (i := 10) (oi := ⟨some 15, .binOp .sub 3 (.tmp 14) (.const (.int .i64 1)) 3, 3, "world.go:92", #[⟨9, .data⟩, ⟨4, .guard⟩], some (4, true)⟩) (v := ?_) (hy := .inl ⟨by rfl, ?_⟩) (h := ?_)
 rotate_left
 ·intro w hSw
  try dsimp only at hSw
  go_simp
  try with_reducible rfl
 try simp only [Act.put, sqA, sqB, sqC]
 refine wpAnyH_ready (rs := [11]) (by kernel_rfl) (by simp) ?_
 refine AllReadyH.cons (o := ⟨some 16, .call { callee := .value (.func 73), args := #[.tmp 11, .const (.int .i64 0), .tmp 15], argTypes := #[3, 3, 3] }, 4, "world.go:93", #[⟨6, .data⟩, ⟨10, .data⟩, ⟨4, .chain⟩, ⟨4, .guard⟩], some (4, true)⟩) rfl (fun K hK => ?_) AllReadyH.nil
 go_simp
 (first | (go_at_call 137; refine (isActor_any _ _ p _ (HP1.out.below (by first | exact hbb | exact hbb.drew))).mono ?_; rintro e w2 ⟨rfl, hb2⟩; have hc2 := (by first | exact bcell (undrew hb2) | exact bcell hb2); replace hbb := bTrans (by first | exact hbb | exact hbb.drew) hb2; have hz2 := Nat.lt_of_lt_of_le hs1 hbb.size; have hz3 := Nat.lt_of_lt_of_le hs0 hbb.size; have hz4 := Nat.lt_of_lt_of_le hzb hbb.size) | (go_at_call 73; refine (win_any _ _ _ _).mono ?_; rintro e w' ⟨rfl, hw⟩; replace hw := hw.symm; subst hw))
 try (go_wp2_with fail)
 refine hK.out _ _ ?_ (fun hHeld => ?_)
 ·try dsimp only
  go_keep
 clear hK K
 try simp only [Act.put, sqA, sqB, sqC]
 refine tKh (i := 12) (oi := ⟨some 17, .pick (.tmp 9) (.tmp 16) (.const (.bool false)), 4, "world.go:92", #[⟨4, .data⟩, ⟨11, .data⟩], none⟩) (v := ?_) (hy := .inl ⟨by rfl, ?_⟩) (h := ?_)
 rotate_left
 ·intro w hSw
  try dsimp only at hSw
  go_simp
  try with_reducible rfl
 try simp only [Act.put, sqA, sqB, sqC]
 refine tKh (i := 13) (oi := ⟨some 18, .move (.tmp 17), 4, "world.go:92", #[⟨12, .data⟩, ⟨11, .chain⟩], none⟩) (v := ?_) (hy := .inl ⟨by rfl, ?_⟩) (h := ?_)
 rotate_left
 ·intro w hSw
  try dsimp only at hSw
  go_simp
  try with_reducible rfl
 try simp only [Act.put, sqA, sqB, sqC]
 refine tKh (i := 14) (oi := ⟨some 19, .fieldAddr 79 (.tmp 3) 2, 0, "world.go:92", #[⟨13, .guard⟩], some (13, true)⟩) (v := ?_) (hy := .inl ⟨by rfl, ?_⟩) (h := ?_)
 rotate_left
 ·intro w hSw
  try dsimp only at hSw
  go_simp
  try with_reducible rfl
 try simp only [Act.put, sqA, sqB, sqC]
 refine tKh (i := 15) (oi := ⟨some 20, .load 54 (.tmp 19), 54, "world.go:92", #[⟨14, .data⟩, ⟨13, .guard⟩], some (13, true)⟩) (v := ?_) (hy := .inl ⟨by rfl, ?_⟩) (h := ?_)
 rotate_left
 ·intro w hSw
  try dsimp only at hSw
  go_simp
  try with_reducible rfl
 try simp only [Act.put, sqA, sqB, sqC]
 refine tKh (i := 16) (oi := ⟨some 21, .call { callee := .builtin .len, args := #[.tmp 20], argTypes := #[54] }, 3, "world.go:92", #[⟨15, .data⟩, ⟨13, .guard⟩], some (13, true)⟩) (v := ?_) (hy := .inl ⟨by rfl, ?_⟩) (h := ?_)
 rotate_left
 ·intro w hSw
  try dsimp only at hSw
  go_simp
  try with_reducible rfl
 try simp only [Act.put, sqA, sqB, sqC]
 refine tKh (i := 17) (oi := ⟨some 22, .fieldAddr 26 (.tmp 2) 0, 0, "world.go:92", #[⟨13, .guard⟩], some (13, true)⟩) (v := ?_) (hy := .inl ⟨by rfl, ?_⟩) (h := ?_)
 rotate_left
 ·intro w hSw
  try dsimp only at hSw
  go_simp
  try with_reducible rfl
 try simp only [Act.put, sqA, sqB, sqC]
 refine tKh (i := 18) (oi := ⟨some 23, .load 22 (.tmp 22), 22, "world.go:92", #[⟨17, .data⟩, ⟨13, .guard⟩], some (13, true)⟩) (v := ?_) (hy := .inl ⟨by rfl, ?_⟩) (h := ?_)
 rotate_left
 ·intro w hSw
  try dsimp only at hSw
  go_simp
  try with_reducible rfl
 try simp only [Act.put, sqA, sqB, sqC]
 refine tKh (i := 19) (oi := ⟨some 24, .fieldAddr 79 (.tmp 3) 1, 0, "world.go:92", #[⟨13, .guard⟩], some (13, true)⟩) (v := ?_) (hy := .inl ⟨by rfl, ?_⟩) (h := ?_)
 rotate_left
 ·intro w hSw
  try dsimp only at hSw
  go_simp
  try with_reducible rfl
 try simp only [Act.put, sqA, sqB, sqC]
 refine tKh (i := 20) (oi := ⟨some 25, .load 3 (.tmp 24), 3, "world.go:92", #[⟨19, .data⟩, ⟨13, .guard⟩], some (13, true)⟩) (v := ?_) (hy := .inl ⟨by rfl, ?_⟩) (h := ?_)
 rotate_left
 ·intro w hSw
  try dsimp only at hSw
  go_simp
  try with_reducible rfl
 try simp only [Act.put, sqA, sqB, sqC]
 refine tKh (i := 21) (oi := ⟨some 26, .indexAddr 22 (.tmp 23) (.tmp 25), 0, "world.go:92", #[⟨18, .data⟩, ⟨20, .data⟩, ⟨13, .guard⟩], some (13, true)⟩) (v := ?_) (hy := .inl ⟨by rfl, ?_⟩) (h := ?_)
 rotate_left
 ·intro w hSw
  try dsimp only at hSw
  go_simp
  try with_reducible rfl
 try simp only [Act.put, sqA, sqB, sqC]
 refine tKh (i := 22) (oi := ⟨some 27, .fieldAddr 73 (.tmp 26) 0, 0, "world.go:92", #[⟨21, .data⟩, ⟨13, .guard⟩], some (13, true)⟩) (v := ?_) (hy := .inl ⟨by rfl, ?_⟩) (h := ?_)
 rotate_left
 ·intro w hSw
  try dsimp only at hSw
  go_simp
  try with_reducible rfl
 try simp only [Act.put, sqA, sqB, sqC]
 refine tKh (i := 23) (oi := ⟨some 28, .load 3 (.tmp 27), 3, "world.go:92", #[⟨22, .data⟩, ⟨13, .guard⟩], some (13, true)⟩) (v := ?_) (hy := .inl ⟨by rfl, ?_⟩) (h := ?_)
 rotate_left
 ·intro w hSw
  try dsimp only at hSw
  go_simp
  try with_reducible rfl
 try simp only [Act.put, sqA, sqB, sqC]
 refine tKh (i := 24) (oi := ⟨some 29, .binOp .eql 3 (.tmp 21) (.tmp 28) 3, 4, "world.go:92", #[⟨16, .data⟩, ⟨23, .data⟩, ⟨13, .guard⟩], some (13, true)⟩) (v := ?_) (hy := .inl ⟨by rfl, ?_⟩) (h := ?_)
 rotate_left
 ·intro w hSw
  try dsimp only at hSw
  go_simp
  try with_reducible rfl
 try simp only [Act.put, sqA, sqB, sqC]
 refine tKh (i := 25) (oi := ⟨some 30, .pick (.tmp 18) (.tmp 29) (.const (.bool false)), 4, "world.go:92", #[⟨13, .data⟩, ⟨24, .data⟩], none⟩) (v := ?_) (hy := .inl ⟨by rfl, ?_⟩) (h := ?_)
 rotate_left
 ·intro w hSw
  try dsimp only at hSw
  go_simp
  try with_reducible rfl
 try simp only [Act.put, sqA, sqB, sqC]
 refine tKh (i := 26) (oi := ⟨some 4, .assign (.tmp 30), 4, "world.go:92", #[⟨25, .data⟩, ⟨13, .chain⟩, ⟨0, .phase⟩, ⟨1, .phase⟩, ⟨2, .phase⟩, ⟨3, .phase⟩, ⟨4, .phase⟩, ⟨5, .phase⟩, ⟨6, .phase⟩, ⟨7, .phase⟩, ⟨8, .phase⟩, ⟨9, .phase⟩, ⟨10, .phase⟩, ⟨11, .phase⟩, ⟨12, .phase⟩, ⟨13, .phase⟩, ⟨14, .phase⟩, ⟨15, .phase⟩, ⟨16, .phase⟩, ⟨17, .phase⟩, ⟨18, .phase⟩, ⟨19, .phase⟩, ⟨20, .phase⟩, ⟨21, .phase⟩, ⟨22, .phase⟩, ⟨23, .phase⟩, ⟨24, .phase⟩, ⟨25, .phase⟩], none⟩) (v := ?_) (hy := .inl ⟨by rfl, ?_⟩) (h := ?_)
 rotate_left
 ·intro w hSw
  try dsimp only at hSw
  go_simp
  try with_reducible rfl
 try simp only [Act.put, sqA, sqB, sqC]
 refine wpAnyH_done (by kernel_rfl) ?_ _
 go_wp2_with fail
 go_ret
 exact ⟨ret_b HR.out, bTrans HL.out (by first | exact hbb | exact hbb.drew)⟩
theorem chkNote_any (w : World) (vp vn : Value) (p : PPrg) (n : PNte) (hp : PrgV w vp p) (hn : NteV w vn n) :
  Calls Tryz.prog 117 #[vp, vn] w fun e w' => e = .returned (.bool (chkNt p n)) ∧ Below w.heap.size w w' := by
 cases e1 : inB n.to 0 ((p.acs.length : Int) - 1) with
 | false => exact chkNote_1 w vp vn p n hp hn e1
 | true =>
  cases e2 : inB n.hd 0 ((p.hs.length : Int) - 1) with
  | false => exact chkNote_2 w vp vn p n hp hn e1 e2
  | true => exact chkNote_3 w vp vn p n hp hn e1 e2
theorem chkD_1 {x : PWld} {d : PID} (h : inB d.f (-1) ((x.acts.length : Int) - 1) = false) : false = chkD x d := by unfold chkD; rw [h]; rfl
theorem chkD_2 {x : PWld} {d : PID} (h : inB d.f (-1) ((x.acts.length : Int) - 1) = true) (h2 : inB d.n 0 (wrap64 (sentP x d.f - 1)) = false) : false = chkD x d := by unfold chkD; rw [h, h2]; rfl
theorem chkD_3 {x : PWld} {d : PID} (h : inB d.f (-1) ((x.acts.length : Int) - 1) = true) (h2 : inB d.n 0 (wrap64 (sentP x d.f - 1)) = true) : inB d.c 0 x.used.dup = chkD x d := by unfold chkD; rw [h, h2]; simp
set_option maxHeartbeats 4000000 in
set_option maxRecDepth 100000 in
theorem chkID_1 (w : World) (vp : Value) (x : PWld) (d : PID) (hp : WldV w vp x) (e1 : inB d.f (-1) ((x.acts.length : Int) - 1) = false) :
  Calls Tryz.prog 118 #[vp, dV d] w fun e w' => e = .returned (.bool (chkD x d)) ∧ Below w.heap.size w w' := by
 have HR := hid_mk (chkD_1 e1)
 have HP : Hid (WldV w vp x) := hp
 obtain ⟨va, vb, rfl, h1, h2⟩ := hp
 obtain ⟨A1, c1, rfl, hl1⟩ := h1.form
 obtain ⟨A2, c2, rfl, hl2⟩ := h2.form
 clear h1 h2
 go_enter Tryz.func118, Tryz.ntmps118
 go_wp2_with fail
 have hA := (two_new w (.cells #[.slice A1 x.acts.length c1, .slice A2 x.mail.length c2, .int .i64 x.used.drop, .int .i64 x.used.dup, .int .i64 x.used.time, .int .i64 x.used.crash] 32) (.cells #[.int .i64 d.f, .int .i64 d.n, .int .i64 d.c] 34)).1
 have hB := (two_new w (.cells #[.slice A1 x.acts.length c1, .slice A2 x.mail.length c2, .int .i64 x.used.drop, .int .i64 x.used.dup, .int .i64 x.used.time, .int .i64 x.used.crash] 32) (.cells #[.int .i64 d.f, .int .i64 d.n, .int .i64 d.c] 34)).2.1
 have hsz := (two_new w (.cells #[.slice A1 x.acts.length c1, .slice A2 x.mail.length c2, .int .i64 x.used.drop, .int .i64 x.used.dup, .int .i64 x.used.time, .int .i64 x.used.crash] 32) (.cells #[.int .i64 d.f, .int .i64 d.n, .int .i64 d.c] 34)).2.2
 have HL : Hid (Below w.heap.size w ((w.alloc (.cells #[.slice A1 x.acts.length c1, .slice A2 x.mail.length c2, .int .i64 x.used.drop, .int .i64 x.used.dup, .int .i64 x.used.time, .int .i64 x.used.crash] 32)).alloc (.cells #[.int .i64 d.f, .int .i64 d.n, .int .i64 d.c] 34))) := bAlloc (bAlloc (bRefl _) _) _
 have HP1 : Hid (WldV ((w.alloc (.cells #[.slice A1 x.acts.length c1, .slice A2 x.mail.length c2, .int .i64 x.used.drop, .int .i64 x.used.dup, .int .i64 x.used.time, .int .i64 x.used.crash] 32)).alloc (.cells #[.int .i64 d.f, .int .i64 d.n, .int .i64 d.c] 34)) (wVal x.used (.slice A1 x.acts.length c1) (.slice A2 x.mail.length c2)) x) := HP.out.below HL.out
 generalize ((w.alloc (.cells #[.slice A1 x.acts.length c1, .slice A2 x.mail.length c2, .int .i64 x.used.drop, .int .i64 x.used.dup, .int .i64 x.used.time, .int .i64 x.used.crash] 32)).alloc (.cells #[.int .i64 d.f, .int .i64 d.n, .int .i64 d.c] 34)) = w1 at hA hB hsz HL HP1 ⊢
 obtain ⟨p0, p1, p2, p3, p4, p5⟩ := blk6 hA
 obtain ⟨n0, n1, n2⟩ := blk3 hB
 have hs0 : w.heap.size < w1.heap.size := by omega
 have hs1 : w.heap.size + 1 < w1.heap.size := by omega
 have hbb : Below w1.heap.size w1 w1 := bRefl w1
 have hwl : IntKind.i64.wrap ((x.acts.length : Int) - 1) = (x.acts.length : Int) - 1 := (IntWalk.i64_left _).trans (IntWalk.wrap64_in _ ⟨by omega, by omega⟩)
 clear hA hB hsz HP
 refine wp_region_held_drew (S := fun w' => w'.cell? ⟨w.heap.size, 0, none⟩ = some (.slice A1 x.acts.length c1) ∧ w'.cell? ⟨w.heap.size, 1, none⟩ = some (.slice A2 x.mail.length c2) ∧ w'.cell? ⟨w.heap.size, 2, none⟩ = some (.int .i64 x.used.drop) ∧ w'.cell? ⟨w.heap.size, 3, none⟩ = some (.int .i64 x.used.dup) ∧ w'.cell? ⟨w.heap.size, 4, none⟩ = some (.int .i64 x.used.time) ∧ w'.cell? ⟨w.heap.size, 5, none⟩ = some (.int .i64 x.used.crash) ∧ w'.cell? ⟨w.heap.size + 1, 0, none⟩ = some (.int .i64 d.f) ∧ w'.cell? ⟨w.heap.size + 1, 1, none⟩ = some (.int .i64 d.n) ∧ w'.cell? ⟨w.heap.size + 1, 2, none⟩ = some (.int .i64 d.c)) (by kernel_rfl) ?_ (fun hHeld => ?_)
 ·try dsimp only
  go_keep
 refine tKh (i := 0) (oi := ⟨some 5, .fieldAddr 34 (.tmp 3) 0, 0, "world.go:98", #[], none⟩) (v := ?_) (hy := .inl ⟨by rfl, ?_⟩) (h := ?_)
 rotate_left
 ·intro w hSw
  try dsimp only at hSw
  go_simp
  try with_reducible rfl
 try simp only [Act.put, sqA, sqB, sqC]
 refine tKh (i := 1) (oi := ⟨some 6, .load 3 (.tmp 5), 3, "world.go:98", #[⟨0, .data⟩], none⟩) (v := ?_) (hy := .inl ⟨by rfl, ?_⟩) (h := ?_)
 rotate_left
 ·intro w hSw
  try dsimp only at hSw
  go_simp
  try with_reducible rfl
 try simp only [Act.put, sqA, sqB, sqC]
 refine tKh (i := 2) (oi := ⟨some 7, .fieldAddr 32 (.tmp 2) 0, 0, "world.go:98", #[], none⟩) (v := ?_) (hy := .inl ⟨by rfl, ?_⟩) (h := ?_)
 rotate_left
 ·intro w hSw
  try dsimp only at hSw
  go_simp
  try with_reducible rfl
 try simp only [Act.put, sqA, sqB, sqC]
 refine tKh (i := 3) (oi := ⟨some 8, .load 29 (.tmp 7), 29, "world.go:98", #[⟨2, .data⟩], none⟩) (v := ?_) (hy := .inl ⟨by rfl, ?_⟩) (h := ?_)
 rotate_left
 ·intro w hSw
  try dsimp only at hSw
  go_simp
  try with_reducible rfl
 try simp only [Act.put, sqA, sqB, sqC]
 refine tKh (i := 4) (oi := ⟨some 9, .call { callee := .builtin .len, args := #[.tmp 8], argTypes := #[29] }, 3, "world.go:98", #[⟨3, .data⟩], none⟩) (v := ?_) (hy := .inl ⟨by rfl, ?_⟩) (h := ?_)
 rotate_left
 ·intro w hSw
  try dsimp only at hSw
  go_simp
  try with_reducible rfl
 try simp only [Act.put, sqA, sqB, sqC]
 refine tKh (i := 5) (oi := ⟨some 10, .binOp .sub 3 (.tmp 9) (.const (.int .i64 1)) 3, 3, "world.go:98", #[⟨4, .data⟩], none⟩) (v := ?_) (hy := .inl ⟨by rfl, ?_⟩) (h := ?_)
 rotate_left
 ·intro w hSw
  try dsimp only at hSw
  go_simp
  try with_reducible rfl
 try simp only [Act.put, sqA, sqB, sqC]
 refine wpAnyH_ready (rs := [6]) (by kernel_rfl) (by simp) ?_
 refine AllReadyH.cons (o := ⟨some 11, .call { callee := .value (.func 73), args := #[.tmp 6, .const (.int .i64 (-1)), .tmp 10], argTypes := #[3, 3, 3] }, 4, "world.go:98", #[⟨1, .data⟩, ⟨5, .data⟩], none⟩) rfl (fun K hK => ?_) AllReadyH.nil
 go_simp
 (first | (go_at_call 138; refine (sentBy_any _ _ x _ (HP1.out.below (by first | exact hbb | exact hbb.drew)) HF.out).mono ?_; rintro e w2 ⟨rfl, hb2⟩; have hc2 := (by first | exact bcell (undrew hb2) | exact bcell hb2); replace hbb := bTrans (by first | exact hbb | exact hbb.drew) hb2; have hz2 := Nat.lt_of_lt_of_le hs1 hbb.size; have hz3 := Nat.lt_of_lt_of_le hs0 hbb.size) | (go_at_call 73; refine (win_any _ _ _ _).mono ?_; rintro e w' ⟨rfl, hw⟩; replace hw := hw.symm; subst hw))
 try (go_wp2_with fail)
 refine hK.out _ _ ?_ (fun hHeld => ?_)
 ·try dsimp only
  go_keep
 clear hK K
 try simp only [Act.put, sqA, sqB, sqC]
 refine tKh (i := 7) (oi := ⟨some 12, .move (.tmp 11), 4, "world.go:98", #[⟨6, .data⟩, ⟨6, .chain⟩], none⟩) (v := ?_) (hy := .inl ⟨by rfl, ?_⟩) (h := ?_)
 rotate_left
 ·intro w hSw
  try dsimp only at hSw
  go_simp
  try with_reducible rfl
 try simp only [Act.put, sqA, sqB, sqC]
 refine tKh (i := 8) (oi := ⟨some 13, .fieldAddr 34 (.tmp 3) 1, 0, "world.go:98", #[⟨7, .guard⟩], some (7, true)⟩) (v := undef) (hy := .inr ⟨by rfl, rfl⟩) (h := ?_)
 try simp only [Act.put, sqA, sqB, sqC]
 refine tKh (i := 9) (oi := ⟨some 14, .load 3 (.tmp 13), 3, "world.go:98", #[⟨8, .data⟩, ⟨7, .guard⟩], some (7, true)⟩) (v := undef) (hy := .inr ⟨by rfl, rfl⟩) (h := ?_)
 try simp only [Act.put, sqA, sqB, sqC]
 refine tKh (i := 10) (oi := ⟨some 15, .load 32 (.tmp 2), 32, "world.go:98", #[⟨7, .guard⟩], some (7, true)⟩) (v := undef) (hy := .inr ⟨by rfl, rfl⟩) (h := ?_)
 try simp only [Act.put, sqA, sqB, sqC]
 refine tKh (i := 11) (oi := ⟨some 16, .fieldAddr 34 (.tmp 3) 0, 0, "world.go:98", #[⟨7, .guard⟩], some (7, true)⟩) (v := undef) (hy := .inr ⟨by rfl, rfl⟩) (h := ?_)
 try simp only [Act.put, sqA, sqB, sqC]
 refine tKh (i := 12) (oi := ⟨some 17, .load 3 (.tmp 16), 3, "world.go:98", #[⟨11, .data⟩, ⟨7, .guard⟩], some (7, true)⟩) (v := undef) (hy := .inr ⟨by rfl, rfl⟩) (h := ?_)
 try simp only [Act.put, sqA, sqB, sqC]
 refine wpAnyH_ready (rs := [13]) (by kernel_rfl) (by simp) ?_
 refine AllReadyH.cons (o := ⟨some 18, .call { callee := .value (.func 138), args := #[.tmp 15, .tmp 17], argTypes := #[32, 3] }, 3, "world.go:99", #[⟨10, .data⟩, ⟨12, .data⟩, ⟨7, .chain⟩, ⟨7, .guard⟩], some (7, true)⟩) rfl (fun K hK => ?_) AllReadyH.nil
 go_simp
 refine hK.out _ _ ?_ (fun hHeld => ?_)
 ·try dsimp only
  go_keep
 clear hK K
 try simp only [Act.put, sqA, sqB, sqC]
 refine tKh (i := 14) (oi := ⟨some 19, .binOp .sub 3 (.tmp 18) (.const (.int .i64 1)) 3, 3, "world.go:98", #[⟨13, .data⟩, ⟨7, .guard⟩], some (7, true)⟩) (v := undef) (hy := .inr ⟨by rfl, rfl⟩) (h := ?_)
 try simp only [Act.put, sqA, sqB, sqC]
 refine wpAnyH_ready (rs := [15]) (by kernel_rfl) (by simp) ?_
 refine AllReadyH.cons (o := ⟨some 20, .call { callee := .value (.func 73), args := #[.tmp 14, .const (.int .i64 0), .tmp 19], argTypes := #[3, 3, 3] }, 4, "world.go:99", #[⟨9, .data⟩, ⟨14, .data⟩, ⟨13, .chain⟩, ⟨7, .guard⟩], some (7, true)⟩) rfl (fun K hK => ?_) AllReadyH.nil
 go_simp
 refine hK.out _ _ ?_ (fun hHeld => ?_)
 ·try dsimp only
  go_keep
 clear hK K
 try simp only [Act.put, sqA, sqB, sqC]
 refine tKh (i := 16) (oi := ⟨some 21, .pick (.tmp 12) (.tmp 20) (.const (.bool false)), 4, "world.go:98", #[⟨7, .data⟩, ⟨15, .data⟩], none⟩) (v := ?_) (hy := .inl ⟨by rfl, ?_⟩) (h := ?_)
 rotate_left
 ·intro w hSw
  try dsimp only at hSw
  go_simp
  try with_reducible rfl
 try simp only [Act.put, sqA, sqB, sqC]
 refine tKh (i := 17) (oi := ⟨some 22, .move (.tmp 21), 4, "world.go:98", #[⟨16, .data⟩, ⟨15, .chain⟩], none⟩) (v := ?_) (hy := .inl ⟨by rfl, ?_⟩) (h := ?_)
 rotate_left
 ·intro w hSw
  try dsimp only at hSw
  go_simp
  try with_reducible rfl
 try simp only [Act.put, sqA, sqB, sqC]
 refine tKh (i := 18) (oi := ⟨some 23, .fieldAddr 34 (.tmp 3) 2, 0, "world.go:98", #[⟨17, .guard⟩], some (17, true)⟩) (v := undef) (hy := .inr ⟨by rfl, rfl⟩) (h := ?_)
 try simp only [Act.put, sqA, sqB, sqC]
 refine tKh (i := 19) (oi := ⟨some 24, .load 3 (.tmp 23), 3, "world.go:98", #[⟨18, .data⟩, ⟨17, .guard⟩], some (17, true)⟩) (v := undef) (hy := .inr ⟨by rfl, rfl⟩) (h := ?_)
 try simp only [Act.put, sqA, sqB, sqC]
 refine tKh (i := 20) (oi := ⟨some 25, .fieldAddr 32 (.tmp 2) 2, 0, "world.go:98", #[⟨17, .guard⟩], some (17, true)⟩) (v := undef) (hy := .inr ⟨by rfl, rfl⟩) (h := ?_)
 try simp only [Act.put, sqA, sqB, sqC]
 refine tKh (i := 21) (oi := ⟨some 26, .fieldAddr 28 (.tmp 25) 1, 0, "world.go:98", #[⟨20, .data⟩, ⟨17, .guard⟩], some (17, true)⟩) (v := undef) (hy := .inr ⟨by rfl, rfl⟩) (h := ?_)
 try simp only [Act.put, sqA, sqB, sqC]
 refine tKh (i := 22) (oi := ⟨some 27, .load 3 (.tmp 26), 3, "world.go:98", #[⟨21, .data⟩, ⟨17, .guard⟩], some (17, true)⟩) (v := undef) (hy := .inr ⟨by rfl, rfl⟩) (h := ?_)
 try simp only [Act.put, sqA, sqB, sqC]
 refine wpAnyH_ready (rs := [23]) (by kernel_rfl) (by simp) ?_
 refine AllReadyH.cons (o := ⟨some 28, .call { callee := .value (.func 73), args := #[.tmp 24, .const (.int .i64 0), .tmp 27], argTypes := #[3, 3, 3] }, 4, "world.go:100", #[⟨19, .data⟩, ⟨22, .data⟩, ⟨17, .chain⟩, ⟨17, .guard⟩], some (17, true)⟩) rfl (fun K hK => ?_) AllReadyH.nil
 go_simp
 refine hK.out _ _ ?_ (fun hHeld => ?_)
 ·try dsimp only
  go_keep
 clear hK K
 try simp only [Act.put, sqA, sqB, sqC]
 refine tKh (i := 24) (oi := ⟨some 29, .pick (.tmp 22) (.tmp 28) (.const (.bool false)), 4, "world.go:98", #[⟨17, .data⟩, ⟨23, .data⟩], none⟩) (v := ?_) (hy := .inl ⟨by rfl, ?_⟩) (h := ?_)
 rotate_left
 ·intro w hSw
  try dsimp only at hSw
  go_simp
  try with_reducible rfl
 try simp only [Act.put, sqA, sqB, sqC]
 refine tKh (i := 25) (oi := ⟨some 4, .assign (.tmp 29), 4, "world.go:98", #[⟨24, .data⟩, ⟨23, .chain⟩, ⟨0, .phase⟩, ⟨1, .phase⟩, ⟨2, .phase⟩, ⟨3, .phase⟩, ⟨4, .phase⟩, ⟨5, .phase⟩, ⟨6, .phase⟩, ⟨7, .phase⟩, ⟨8, .phase⟩, ⟨9, .phase⟩, ⟨10, .phase⟩, ⟨11, .phase⟩, ⟨12, .phase⟩, ⟨13, .phase⟩, ⟨14, .phase⟩, ⟨15, .phase⟩, ⟨16, .phase⟩, ⟨17, .phase⟩, ⟨18, .phase⟩, ⟨19, .phase⟩, ⟨20, .phase⟩, ⟨21, .phase⟩, ⟨22, .phase⟩, ⟨23, .phase⟩, ⟨24, .phase⟩], none⟩) (v := ?_) (hy := .inl ⟨by rfl, ?_⟩) (h := ?_)
 rotate_left
 ·intro w hSw
  try dsimp only at hSw
  go_simp
  try with_reducible rfl
 try simp only [Act.put, sqA, sqB, sqC]
 refine wpAnyH_done (by kernel_rfl) ?_ _
 go_wp2_with fail
 go_ret
 exact ⟨ret_b HR.out, bTrans HL.out (by first | exact hbb | exact hbb.drew)⟩
set_option maxHeartbeats 4000000 in
set_option maxRecDepth 100000 in
theorem chkID_2 (w : World) (vp : Value) (x : PWld) (d : PID) (hp : WldV w vp x) (e1 : inB d.f (-1) ((x.acts.length : Int) - 1) = true) (e2 : inB d.n 0 (wrap64 (sentP x d.f - 1)) = false) :
  Calls Tryz.prog 118 #[vp, dV d] w fun e w' => e = .returned (.bool (chkD x d)) ∧ Below w.heap.size w w' := by
 have HR := hid_mk (chkD_2 e1 e2)
 have HF : Hid (d.f = -1 ∨ (0 ≤ d.f ∧ d.f < x.acts.length)) := by show _ ∨ _; have := inB_iff.1 e1; omega
 have HP : Hid (WldV w vp x) := hp
 obtain ⟨va, vb, rfl, h1, h2⟩ := hp
 obtain ⟨A1, c1, rfl, hl1⟩ := h1.form
 obtain ⟨A2, c2, rfl, hl2⟩ := h2.form
 clear h1 h2
 go_enter Tryz.func118, Tryz.ntmps118
 go_wp2_with fail
 have hA := (two_new w (.cells #[.slice A1 x.acts.length c1, .slice A2 x.mail.length c2, .int .i64 x.used.drop, .int .i64 x.used.dup, .int .i64 x.used.time, .int .i64 x.used.crash] 32) (.cells #[.int .i64 d.f, .int .i64 d.n, .int .i64 d.c] 34)).1
 have hB := (two_new w (.cells #[.slice A1 x.acts.length c1, .slice A2 x.mail.length c2, .int .i64 x.used.drop, .int .i64 x.used.dup, .int .i64 x.used.time, .int .i64 x.used.crash] 32) (.cells #[.int .i64 d.f, .int .i64 d.n, .int .i64 d.c] 34)).2.1
 have hsz := (two_new w (.cells #[.slice A1 x.acts.length c1, .slice A2 x.mail.length c2, .int .i64 x.used.drop, .int .i64 x.used.dup, .int .i64 x.used.time, .int .i64 x.used.crash] 32) (.cells #[.int .i64 d.f, .int .i64 d.n, .int .i64 d.c] 34)).2.2
 have HL : Hid (Below w.heap.size w ((w.alloc (.cells #[.slice A1 x.acts.length c1, .slice A2 x.mail.length c2, .int .i64 x.used.drop, .int .i64 x.used.dup, .int .i64 x.used.time, .int .i64 x.used.crash] 32)).alloc (.cells #[.int .i64 d.f, .int .i64 d.n, .int .i64 d.c] 34))) := bAlloc (bAlloc (bRefl _) _) _
 have HP1 : Hid (WldV ((w.alloc (.cells #[.slice A1 x.acts.length c1, .slice A2 x.mail.length c2, .int .i64 x.used.drop, .int .i64 x.used.dup, .int .i64 x.used.time, .int .i64 x.used.crash] 32)).alloc (.cells #[.int .i64 d.f, .int .i64 d.n, .int .i64 d.c] 34)) (wVal x.used (.slice A1 x.acts.length c1) (.slice A2 x.mail.length c2)) x) := HP.out.below HL.out
 generalize ((w.alloc (.cells #[.slice A1 x.acts.length c1, .slice A2 x.mail.length c2, .int .i64 x.used.drop, .int .i64 x.used.dup, .int .i64 x.used.time, .int .i64 x.used.crash] 32)).alloc (.cells #[.int .i64 d.f, .int .i64 d.n, .int .i64 d.c] 34)) = w1 at hA hB hsz HL HP1 ⊢
 obtain ⟨p0, p1, p2, p3, p4, p5⟩ := blk6 hA
 obtain ⟨n0, n1, n2⟩ := blk3 hB
 have hs0 : w.heap.size < w1.heap.size := by omega
 have hs1 : w.heap.size + 1 < w1.heap.size := by omega
 have hbb : Below w1.heap.size w1 w1 := bRefl w1
 have hwl : IntKind.i64.wrap ((x.acts.length : Int) - 1) = (x.acts.length : Int) - 1 := (IntWalk.i64_left _).trans (IntWalk.wrap64_in _ ⟨by omega, by omega⟩)
 have e2' : inB d.n 0 (IntKind.i64.wrap (sentP x d.f - 1)) = false := by rw [IntWalk.i64_left]; exact e2
 clear hA hB hsz HP
 refine wp_region_held_drew (S := fun w' => w'.cell? ⟨w.heap.size, 0, none⟩ = some (.slice A1 x.acts.length c1) ∧ w'.cell? ⟨w.heap.size, 1, none⟩ = some (.slice A2 x.mail.length c2) ∧ w'.cell? ⟨w.heap.size, 2, none⟩ = some (.int .i64 x.used.drop) ∧ w'.cell? ⟨w.heap.size, 3, none⟩ = some (.int .i64 x.used.dup) ∧ w'.cell? ⟨w.heap.size, 4, none⟩ = some (.int .i64 x.used.time) ∧ w'.cell? ⟨w.heap.size, 5, none⟩ = some (.int .i64 x.used.crash) ∧ w'.cell? ⟨w.heap.size + 1, 0, none⟩ = some (.int .i64 d.f) ∧ w'.cell? ⟨w.heap.size + 1, 1, none⟩ = some (.int .i64 d.n) ∧ w'.cell? ⟨w.heap.size + 1, 2, none⟩ = some (.int .i64 d.c)) (by kernel_rfl) ?_ (fun hHeld => ?_)
 ·try dsimp only
  go_keep
 refine tKh (i := 0) (oi := ⟨some 5, .fieldAddr 34 (.tmp 3) 0, 0, "world.go:98", #[], none⟩) (v := ?_) (hy := .inl ⟨by rfl, ?_⟩) (h := ?_)
 rotate_left
 ·intro w hSw
  try dsimp only at hSw
  go_simp
  try with_reducible rfl
 try simp only [Act.put, sqA, sqB, sqC]
 refine tKh (i := 1) (oi := ⟨some 6, .load 3 (.tmp 5), 3, "world.go:98", #[⟨0, .data⟩], none⟩) (v := ?_) (hy := .inl ⟨by rfl, ?_⟩) (h := ?_)
 rotate_left
 ·intro w hSw
  try dsimp only at hSw
  go_simp
  try with_reducible rfl
 try simp only [Act.put, sqA, sqB, sqC]
 refine tKh (i := 2) (oi := ⟨some 7, .fieldAddr 32 (.tmp 2) 0, 0, "world.go:98", #[], none⟩) (v := ?_) (hy := .inl ⟨by rfl, ?_⟩) (h := ?_)
 rotate_left
 ·intro w hSw
  try dsimp only at hSw
  go_simp
  try with_reducible rfl
 try simp only [Act.put, sqA, sqB, sqC]
 refine tKh (i := 3) (oi := ⟨some 8, .load 29 (.tmp 7), 29, "world.go:98", #[⟨2, .data⟩], none⟩) (v := ?_) (hy := .inl ⟨by rfl, ?_⟩) (h := ?_)
 rotate_left
 ·intro w hSw
  try dsimp only at hSw
  go_simp
  try with_reducible rfl
 try simp only [Act.put, sqA, sqB, sqC]
 refine tKh (i := 4) (oi := ⟨some 9, .call { callee := .builtin .len, args := #[.tmp 8], argTypes := #[29] }, 3, "world.go:98", #[⟨3, .data⟩], none⟩) (v := ?_) (hy := .inl ⟨by rfl, ?_⟩) (h := ?_)
 rotate_left
 ·intro w hSw
  try dsimp only at hSw
  go_simp
  try with_reducible rfl
 try simp only [Act.put, sqA, sqB, sqC]
 refine tKh (i := 5) (oi := ⟨some 10, .binOp .sub 3 (.tmp 9) (.const (.int .i64 1)) 3, 3, "world.go:98", #[⟨4, .data⟩], none⟩) (v := ?_) (hy := .inl ⟨by rfl, ?_⟩) (h := ?_)
 rotate_left
 ·intro w hSw
  try dsimp only at hSw
  go_simp
  try with_reducible rfl
 try simp only [Act.put, sqA, sqB, sqC]
 refine wpAnyH_ready (rs := [6]) (by kernel_rfl) (by simp) ?_
 refine AllReadyH.cons (o := ⟨some 11, .call { callee := .value (.func 73), args := #[.tmp 6, .const (.int .i64 (-1)), .tmp 10], argTypes := #[3, 3, 3] }, 4, "world.go:98", #[⟨1, .data⟩, ⟨5, .data⟩], none⟩) rfl (fun K hK => ?_) AllReadyH.nil
 go_simp
 (first | (go_at_call 138; refine (sentBy_any _ _ x _ (HP1.out.below (by first | exact hbb | exact hbb.drew)) HF.out).mono ?_; rintro e w2 ⟨rfl, hb2⟩; have hc2 := (by first | exact bcell (undrew hb2) | exact bcell hb2); replace hbb := bTrans (by first | exact hbb | exact hbb.drew) hb2; have hz2 := Nat.lt_of_lt_of_le hs1 hbb.size; have hz3 := Nat.lt_of_lt_of_le hs0 hbb.size) | (go_at_call 73; refine (win_any _ _ _ _).mono ?_; rintro e w' ⟨rfl, hw⟩; replace hw := hw.symm; subst hw))
 try (go_wp2_with fail)
 refine hK.out _ _ ?_ (fun hHeld => ?_)
 ·try dsimp only
  go_keep
 clear hK K
 try simp only [Act.put, sqA, sqB, sqC]
 refine tKh (i := 7) (oi := ⟨some 12, .move (.tmp 11), 4, "world.go:98", #[⟨6, .data⟩, ⟨6, .chain⟩], none⟩) (v := ?_) (hy := .inl ⟨by rfl, ?_⟩) (h := ?_)
 rotate_left
 ·intro w hSw
  try dsimp only at hSw
  go_simp
  try with_reducible rfl
 try simp only [Act.put, sqA, sqB, sqC]
 refine tKh (i := 8) (oi := ⟨some 13, .fieldAddr 34 (.tmp 3) 1, 0, "world.go:98", #[⟨7, .guard⟩], some (7, true)⟩) (v := ?_) (hy := .inl ⟨by rfl, ?_⟩) (h := ?_)
 rotate_left
 ·intro w hSw
  try dsimp only at hSw
  go_simp
  try with_reducible rfl
 try simp only [Act.put, sqA, sqB, sqC]
 refine tKh (i := 9) (oi := ⟨some 14, .load 3 (.tmp 13), 3, "world.go:98", #[⟨8, .data⟩, ⟨7, .guard⟩], some (7, true)⟩) (v := ?_) (hy := .inl ⟨by rfl, ?_⟩) (h := ?_)
 rotate_left
 ·intro w hSw
  try dsimp only at hSw
  go_simp
  try with_reducible rfl
 try simp only [Act.put, sqA, sqB, sqC]
 refine tKh (i := 10) (oi := ⟨some 15, .load 32 (.tmp 2), 32, "world.go:98", #[⟨7, .guard⟩], some (7, true)⟩) (v := ?_) (hy := .inl ⟨by rfl, ?_⟩) (h := ?_)
 rotate_left
 ·intro w hSw
  try dsimp only at hSw
  go_simp
  try with_reducible rfl
 try simp only [Act.put, sqA, sqB, sqC]
 refine tKh (i := 11) (oi := ⟨some 16, .fieldAddr 34 (.tmp 3) 0, 0, "world.go:98", #[⟨7, .guard⟩], some (7, true)⟩) (v := ?_) (hy := .inl ⟨by rfl, ?_⟩) (h := ?_)
 rotate_left
 ·intro w hSw
  try dsimp only at hSw
  go_simp
  try with_reducible rfl
 try simp only [Act.put, sqA, sqB, sqC]
 refine tKh (i := 12) (oi := ⟨some 17, .load 3 (.tmp 16), 3, "world.go:98", #[⟨11, .data⟩, ⟨7, .guard⟩], some (7, true)⟩) (v := ?_) (hy := .inl ⟨by rfl, ?_⟩) (h := ?_)
 rotate_left
 ·intro w hSw
  try dsimp only at hSw
  go_simp
  try with_reducible rfl
 try simp only [Act.put, sqA, sqB, sqC]
 refine wpAnyH_ready (rs := [13]) (by kernel_rfl) (by simp) ?_
 refine AllReadyH.cons (o := ⟨some 18, .call { callee := .value (.func 138), args := #[.tmp 15, .tmp 17], argTypes := #[32, 3] }, 3, "world.go:99", #[⟨10, .data⟩, ⟨12, .data⟩, ⟨7, .chain⟩, ⟨7, .guard⟩], some (7, true)⟩) rfl (fun K hK => ?_) AllReadyH.nil
 go_simp
 (first | (go_at_call 138; refine (sentBy_any _ _ x _ (HP1.out.below (by first | exact hbb | exact hbb.drew)) HF.out).mono ?_; rintro e w2 ⟨rfl, hb2⟩; have hc2 := (by first | exact bcell (undrew hb2) | exact bcell hb2); replace hbb := bTrans (by first | exact hbb | exact hbb.drew) hb2; have hz2 := Nat.lt_of_lt_of_le hs1 hbb.size; have hz3 := Nat.lt_of_lt_of_le hs0 hbb.size) | (go_at_call 73; refine (win_any _ _ _ _).mono ?_; rintro e w' ⟨rfl, hw⟩; replace hw := hw.symm; subst hw))
 try (go_wp2_with fail)
 refine hK.out _ _ ?_ (fun hHeld => ?_)
 ·try dsimp only
  go_keep
 clear hK K
 try simp only [Act.put, sqA, sqB, sqC]
 refine tKh (i := 14) (oi := ⟨some 19, .binOp .sub 3 (.tmp 18) (.const (.int .i64 1)) 3, 3, "world.go:98", #[⟨13, .data⟩, ⟨7, .guard⟩], some (7, true)⟩) (v := ?_) (hy := .inl ⟨by rfl, ?_⟩) (h := ?_)
 rotate_left
 ·intro w hSw
  try dsimp only at hSw
  go_simp
  try with_reducible rfl
 try simp only [Act.put, sqA, sqB, sqC]
 refine wpAnyH_ready (rs := [15]) (by kernel_rfl) (by simp) ?_
 refine AllReadyH.cons (o := ⟨some 20, .call { callee := .value (.func 73), args := #[.tmp 14, .const (.int .i64 0), .tmp 19], argTypes := #[3, 3, 3] }, 4, "world.go:99", #[⟨9, .data⟩, ⟨14, .data⟩, ⟨13, .chain⟩, ⟨7, .guard⟩], some (7, true)⟩) rfl (fun K hK => ?_) AllReadyH.nil
 go_simp
 (first | (go_at_call 138; refine (sentBy_any _ _ x _ (HP1.out.below (by first | exact hbb | exact hbb.drew)) HF.out).mono ?_; rintro e w2 ⟨rfl, hb2⟩; have hc2 := (by first | exact bcell (undrew hb2) | exact bcell hb2); replace hbb := bTrans (by first | exact hbb | exact hbb.drew) hb2; have hz2 := Nat.lt_of_lt_of_le hs1 hbb.size; have hz3 := Nat.lt_of_lt_of_le hs0 hbb.size) | (go_at_call 73; refine (win_any _ _ _ _).mono ?_; rintro e w' ⟨rfl, hw⟩; replace hw := hw.symm; subst hw))
 try (go_wp2_with fail)
 refine hK.out _ _ ?_ (fun hHeld => ?_)
 ·try dsimp only
  go_keep
 clear hK K
 try simp only [Act.put, sqA, sqB, sqC]
 refine tKh (i := 16) (oi := ⟨some 21, .pick (.tmp 12) (.tmp 20) (.const (.bool false)), 4, "world.go:98", #[⟨7, .data⟩, ⟨15, .data⟩], none⟩) (v := ?_) (hy := .inl ⟨by rfl, ?_⟩) (h := ?_)
 rotate_left
 ·intro w hSw
  try dsimp only at hSw
  go_simp
  try with_reducible rfl
 try simp only [Act.put, sqA, sqB, sqC]
 refine tKh (i := 17) (oi := ⟨some 22, .move (.tmp 21), 4, "world.go:98", #[⟨16, .data⟩, ⟨15, .chain⟩], none⟩) (v := ?_) (hy := .inl ⟨by rfl, ?_⟩) (h := ?_)
 rotate_left
 ·intro w hSw
  try dsimp only at hSw
  go_simp
  try with_reducible rfl
 try simp only [Act.put, sqA, sqB, sqC]
 refine tKh (i := 18) (oi := ⟨some 23, .fieldAddr 34 (.tmp 3) 2, 0, "world.go:98", #[⟨17, .guard⟩], some (17, true)⟩) (v := undef) (hy := .inr ⟨by rfl, rfl⟩) (h := ?_)
 try simp only [Act.put, sqA, sqB, sqC]
 refine tKh (i := 19) (oi := ⟨some 24, .load 3 (.tmp 23), 3, "world.go:98", #[⟨18, .data⟩, ⟨17, .guard⟩], some (17, true)⟩) (v := undef) (hy := .inr ⟨by rfl, rfl⟩) (h := ?_)
 try simp only [Act.put, sqA, sqB, sqC]
 refine tKh (i := 20) (oi := ⟨some 25, .fieldAddr 32 (.tmp 2) 2, 0, "world.go:98", #[⟨17, .guard⟩], some (17, true)⟩) (v := undef) (hy := .inr ⟨by rfl, rfl⟩) (h := ?_)
 try simp only [Act.put, sqA, sqB, sqC]
 refine tKh (i := 21) (oi := ⟨some 26, .fieldAddr 28 (.tmp 25) 1, 0, "world.go:98", #[⟨20, .data⟩, ⟨17, .guard⟩], some (17, true)⟩) (v := undef) (hy := .inr ⟨by rfl, rfl⟩) (h := ?_)
 try simp only [Act.put, sqA, sqB, sqC]
 refine tKh (i := 22) (oi := ⟨some 27, .load 3 (.tmp 26), 3, "world.go:98", #[⟨21, .data⟩, ⟨17, .guard⟩], some (17, true)⟩) (v := undef) (hy := .inr ⟨by rfl, rfl⟩) (h := ?_)
 try simp only [Act.put, sqA, sqB, sqC]
 refine wpAnyH_ready (rs := [23]) (by kernel_rfl) (by simp) ?_
 refine AllReadyH.cons (o := ⟨some 28, .call { callee := .value (.func 73), args := #[.tmp 24, .const (.int .i64 0), .tmp 27], argTypes := #[3, 3, 3] }, 4, "world.go:100", #[⟨19, .data⟩, ⟨22, .data⟩, ⟨17, .chain⟩, ⟨17, .guard⟩], some (17, true)⟩) rfl (fun K hK => ?_) AllReadyH.nil
 go_simp
 refine hK.out _ _ ?_ (fun hHeld => ?_)
 ·try dsimp only
  go_keep
 clear hK K
 try simp only [Act.put, sqA, sqB, sqC]
 refine tKh (i := 24) (oi := ⟨some 29, .pick (.tmp 22) (.tmp 28) (.const (.bool false)), 4, "world.go:98", #[⟨17, .data⟩, ⟨23, .data⟩], none⟩) (v := ?_) (hy := .inl ⟨by rfl, ?_⟩) (h := ?_)
 rotate_left
 ·intro w hSw
  try dsimp only at hSw
  go_simp
  try with_reducible rfl
 try simp only [Act.put, sqA, sqB, sqC]
 refine tKh (i := 25) (oi := ⟨some 4, .assign (.tmp 29), 4, "world.go:98", #[⟨24, .data⟩, ⟨23, .chain⟩, ⟨0, .phase⟩, ⟨1, .phase⟩, ⟨2, .phase⟩, ⟨3, .phase⟩, ⟨4, .phase⟩, ⟨5, .phase⟩, ⟨6, .phase⟩, ⟨7, .phase⟩, ⟨8, .phase⟩, ⟨9, .phase⟩, ⟨10, .phase⟩, ⟨11, .phase⟩, ⟨12, .phase⟩, ⟨13, .phase⟩, ⟨14, .phase⟩, ⟨15, .phase⟩, ⟨16, .phase⟩, ⟨17, .phase⟩, ⟨18, .phase⟩, ⟨19, .phase⟩, ⟨20, .phase⟩, ⟨21, .phase⟩, ⟨22, .phase⟩, ⟨23, .phase⟩, ⟨24, .phase⟩], none⟩) (v := ?_) (hy := .inl ⟨by rfl, ?_⟩) (h := ?_)
 rotate_left
 ·intro w hSw
  try dsimp only at hSw
  go_simp
  try with_reducible rfl
 try simp only [Act.put, sqA, sqB, sqC]
 refine wpAnyH_done (by kernel_rfl) ?_ _
 go_wp2_with fail
 go_ret
 exact ⟨ret_b HR.out, bTrans HL.out (by first | exact hbb | exact hbb.drew)⟩
set_option maxHeartbeats 4000000 in
set_option maxRecDepth 100000 in
theorem chkID_3 (w : World) (vp : Value) (x : PWld) (d : PID) (hp : WldV w vp x) (e1 : inB d.f (-1) ((x.acts.length : Int) - 1) = true) (e2 : inB d.n 0 (wrap64 (sentP x d.f - 1)) = true) :
  Calls Tryz.prog 118 #[vp, dV d] w fun e w' => e = .returned (.bool (chkD x d)) ∧ Below w.heap.size w w' := by
 have HR := hid_mk (chkD_3 e1 e2)
 have HF : Hid (d.f = -1 ∨ (0 ≤ d.f ∧ d.f < x.acts.length)) := by show _ ∨ _; have := inB_iff.1 e1; omega
 have HP : Hid (WldV w vp x) := hp
 obtain ⟨va, vb, rfl, h1, h2⟩ := hp
 obtain ⟨A1, c1, rfl, hl1⟩ := h1.form
 obtain ⟨A2, c2, rfl, hl2⟩ := h2.form
 clear h1 h2
 go_enter Tryz.func118, Tryz.ntmps118
 go_wp2_with fail
 have hA := (two_new w (.cells #[.slice A1 x.acts.length c1, .slice A2 x.mail.length c2, .int .i64 x.used.drop, .int .i64 x.used.dup, .int .i64 x.used.time, .int .i64 x.used.crash] 32) (.cells #[.int .i64 d.f, .int .i64 d.n, .int .i64 d.c] 34)).1
 have hB := (two_new w (.cells #[.slice A1 x.acts.length c1, .slice A2 x.mail.length c2, .int .i64 x.used.drop, .int .i64 x.used.dup, .int .i64 x.used.time, .int .i64 x.used.crash] 32) (.cells #[.int .i64 d.f, .int .i64 d.n, .int .i64 d.c] 34)).2.1
 have hsz := (two_new w (.cells #[.slice A1 x.acts.length c1, .slice A2 x.mail.length c2, .int .i64 x.used.drop, .int .i64 x.used.dup, .int .i64 x.used.time, .int .i64 x.used.crash] 32) (.cells #[.int .i64 d.f, .int .i64 d.n, .int .i64 d.c] 34)).2.2
 have HL : Hid (Below w.heap.size w ((w.alloc (.cells #[.slice A1 x.acts.length c1, .slice A2 x.mail.length c2, .int .i64 x.used.drop, .int .i64 x.used.dup, .int .i64 x.used.time, .int .i64 x.used.crash] 32)).alloc (.cells #[.int .i64 d.f, .int .i64 d.n, .int .i64 d.c] 34))) := bAlloc (bAlloc (bRefl _) _) _
 have HP1 : Hid (WldV ((w.alloc (.cells #[.slice A1 x.acts.length c1, .slice A2 x.mail.length c2, .int .i64 x.used.drop, .int .i64 x.used.dup, .int .i64 x.used.time, .int .i64 x.used.crash] 32)).alloc (.cells #[.int .i64 d.f, .int .i64 d.n, .int .i64 d.c] 34)) (wVal x.used (.slice A1 x.acts.length c1) (.slice A2 x.mail.length c2)) x) := HP.out.below HL.out
 generalize ((w.alloc (.cells #[.slice A1 x.acts.length c1, .slice A2 x.mail.length c2, .int .i64 x.used.drop, .int .i64 x.used.dup, .int .i64 x.used.time, .int .i64 x.used.crash] 32)).alloc (.cells #[.int .i64 d.f, .int .i64 d.n, .int .i64 d.c] 34)) = w1 at hA hB hsz HL HP1 ⊢
 obtain ⟨p0, p1, p2, p3, p4, p5⟩ := blk6 hA
 obtain ⟨n0, n1, n2⟩ := blk3 hB
 have hs0 : w.heap.size < w1.heap.size := by omega
 have hs1 : w.heap.size + 1 < w1.heap.size := by omega
 have hbb : Below w1.heap.size w1 w1 := bRefl w1
 have hwl : IntKind.i64.wrap ((x.acts.length : Int) - 1) = (x.acts.length : Int) - 1 := (IntWalk.i64_left _).trans (IntWalk.wrap64_in _ ⟨by omega, by omega⟩)
 have e2' : inB d.n 0 (IntKind.i64.wrap (sentP x d.f - 1)) = true := by rw [IntWalk.i64_left]; exact e2
 clear hA hB hsz HP
 refine wp_region_held_drew (S := fun w' => w'.cell? ⟨w.heap.size, 0, none⟩ = some (.slice A1 x.acts.length c1) ∧ w'.cell? ⟨w.heap.size, 1, none⟩ = some (.slice A2 x.mail.length c2) ∧ w'.cell? ⟨w.heap.size, 2, none⟩ = some (.int .i64 x.used.drop) ∧ w'.cell? ⟨w.heap.size, 3, none⟩ = some (.int .i64 x.used.dup) ∧ w'.cell? ⟨w.heap.size, 4, none⟩ = some (.int .i64 x.used.time) ∧ w'.cell? ⟨w.heap.size, 5, none⟩ = some (.int .i64 x.used.crash) ∧ w'.cell? ⟨w.heap.size + 1, 0, none⟩ = some (.int .i64 d.f) ∧ w'.cell? ⟨w.heap.size + 1, 1, none⟩ = some (.int .i64 d.n) ∧ w'.cell? ⟨w.heap.size + 1, 2, none⟩ = some (.int .i64 d.c)) (by kernel_rfl) ?_ (fun hHeld => ?_)
 ·try dsimp only
  go_keep
 refine tKh (i := 0) (oi := ⟨some 5, .fieldAddr 34 (.tmp 3) 0, 0, "world.go:98", #[], none⟩) (v := ?_) (hy := .inl ⟨by rfl, ?_⟩) (h := ?_)
 rotate_left
 ·intro w hSw
  try dsimp only at hSw
  go_simp
  try with_reducible rfl
 try simp only [Act.put, sqA, sqB, sqC]
 refine tKh (i := 1) (oi := ⟨some 6, .load 3 (.tmp 5), 3, "world.go:98", #[⟨0, .data⟩], none⟩) (v := ?_) (hy := .inl ⟨by rfl, ?_⟩) (h := ?_)
 rotate_left
 ·intro w hSw
  try dsimp only at hSw
  go_simp
  try with_reducible rfl
 try simp only [Act.put, sqA, sqB, sqC]
 refine tKh (i := 2) (oi := ⟨some 7, .fieldAddr 32 (.tmp 2) 0, 0, "world.go:98", #[], none⟩) (v := ?_) (hy := .inl ⟨by rfl, ?_⟩) (h := ?_)
 rotate_left
 ·intro w hSw
  try dsimp only at hSw
  go_simp
  try with_reducible rfl
 try simp only [Act.put, sqA, sqB, sqC]
 refine tKh (i := 3) (oi := ⟨some 8, .load 29 (.tmp 7), 29, "world.go:98", #[⟨2, .data⟩], none⟩) (v := ?_) (hy := .inl ⟨by rfl, ?_⟩) (h := ?_)
 rotate_left
 ·intro w hSw
  try dsimp only at hSw
  go_simp
  try with_reducible rfl
 try simp only [Act.put, sqA, sqB, sqC]
 refine tKh (i := 4) (oi := ⟨some 9, .call { callee := .builtin .len, args := #[.tmp 8], argTypes := #[29] }, 3, "world.go:98", #[⟨3, .data⟩], none⟩) (v := ?_) (hy := .inl ⟨by rfl, ?_⟩) (h := ?_)
 rotate_left
 ·intro w hSw
  try dsimp only at hSw
  go_simp
  try with_reducible rfl
 try simp only [Act.put, sqA, sqB, sqC]
 refine tKh (i := 5) (oi := ⟨some 10, .binOp .sub 3 (.tmp 9) (.const (.int .i64 1)) 3, 3, "world.go:98", #[⟨4, .data⟩], none⟩) (v := ?_) (hy := .inl ⟨by rfl, ?_⟩) (h := ?_)
 rotate_left
 ·intro w hSw
  try dsimp only at hSw
  go_simp
  try with_reducible rfl
 try simp only [Act.put, sqA, sqB, sqC]
 refine wpAnyH_ready (rs := [6]) (by kernel_rfl) (by simp) ?_
 refine AllReadyH.cons (o := ⟨some 11, .call { callee := .value (.func 73), args := #[.tmp 6, .const (.int .i64 (-1)), .tmp 10], argTypes := #[3, 3, 3] }, 4, "world.go:98", #[⟨1, .data⟩, ⟨5, .data⟩], none⟩) rfl (fun K hK => ?_) AllReadyH.nil
 go_simp
 (first | (go_at_call 138; refine (sentBy_any _ _ x _ (HP1.out.below (by first | exact hbb | exact hbb.drew)) HF.out).mono ?_; rintro e w2 ⟨rfl, hb2⟩; have hc2 := (by first | exact bcell (undrew hb2) | exact bcell hb2); replace hbb := bTrans (by first | exact hbb | exact hbb.drew) hb2; have hz2 := Nat.lt_of_lt_of_le hs1 hbb.size; have hz3 := Nat.lt_of_lt_of_le hs0 hbb.size) | (go_at_call 73; refine (win_any _ _ _ _).mono ?_; rintro e w' ⟨rfl, hw⟩; replace hw := hw.symm; subst hw))
 try (go_wp2_with fail)
 refine hK.out _ _ ?_ (fun hHeld => ?_)
 ·try dsimp only
  go_keep
 clear hK K
 try simp only [Act.put, sqA, sqB, sqC]
 refine tKh (i := 7) (oi := ⟨some 12, .move (.tmp 11), 4, "world.go:98", #[⟨6, .data⟩, ⟨6, .chain⟩], none⟩) (v := ?_) (hy := .inl ⟨by rfl, ?_⟩) (h := ?_)
 rotate_left
 ·intro w hSw
  try dsimp only at hSw
  go_simp
  try with_reducible rfl
 try simp only [Act.put, sqA, sqB, sqC]
 refine tKh (i := 8) (oi := ⟨some 13, .fieldAddr 34 (.tmp 3) 1, 0, "world.go:98", #[⟨7, .guard⟩], some (7, true)⟩) (v := ?_) (hy := .inl ⟨by rfl, ?_⟩) (h := ?_)
 rotate_left
 ·intro w hSw
  try dsimp only at hSw
  go_simp
  try with_reducible rfl
 try simp only [Act.put, sqA, sqB, sqC]
 refine tKh (i := 9) (oi := ⟨some 14, .load 3 (.tmp 13), 3, "world.go:98", #[⟨8, .data⟩, ⟨7, .guard⟩], some (7, true)⟩) (v := ?_) (hy := .inl ⟨by rfl, ?_⟩) (h := ?_)
 rotate_left
 ·intro w hSw
  try dsimp only at hSw
  go_simp
  try with_reducible rfl
 try simp only [Act.put, sqA, sqB, sqC]
 refine tKh (i := 10) (oi := ⟨some 15, .load 32 (.tmp 2), 32, "world.go:98", #[⟨7, .guard⟩], some (7, true)⟩) (v := ?_) (hy := .inl ⟨by rfl, ?_⟩) (h := ?_)
 rotate_left
 ·intro w hSw
  try dsimp only at hSw
  go_simp
  try with_reducible rfl
 try simp only [Act.put, sqA, sqB, sqC]
 refine tKh (i := 11) (oi := ⟨some 16, .fieldAddr 34 (.tmp 3) 0, 0, "world.go:98", #[⟨7, .guard⟩], some (7, true)⟩) (v := ?_) (hy := .inl ⟨by rfl, ?_⟩) (h := ?_)
 rotate_left
 ·intro w hSw
  try dsimp only at hSw
  go_simp
  try with_reducible rfl
 try simp only [Act.put, sqA, sqB, sqC]
 refine tKh (i := 12) (oi := ⟨some 17, .load 3 (.tmp 16), 3, "world.go:98", #[⟨11, .data⟩, ⟨7, .guard⟩], some (7, true)⟩) (v := ?_) (hy := .inl ⟨by rfl, ?_⟩) (h := ?_)
 rotate_left
 ·intro w hSw
  try dsimp only at hSw
  go_simp
  try with_reducible rfl
 try simp only [Act.put, sqA, sqB, sqC]
 refine wpAnyH_ready (rs := [13]) (by kernel_rfl) (by simp) ?_
 refine AllReadyH.cons (o := ⟨some 18, .call { callee := .value (.func 138), args := #[.tmp 15, .tmp 17], argTypes := #[32, 3] }, 3, "world.go:99", #[⟨10, .data⟩, ⟨12, .data⟩, ⟨7, .chain⟩, ⟨7, .guard⟩], some (7, true)⟩) rfl (fun K hK => ?_) AllReadyH.nil
 go_simp
 (first | (go_at_call 138; refine (sentBy_any _ _ x _ (HP1.out.below (by first | exact hbb | exact hbb.drew)) HF.out).mono ?_; rintro e w2 ⟨rfl, hb2⟩; have hc2 := (by first | exact bcell (undrew hb2) | exact bcell hb2); replace hbb := bTrans (by first | exact hbb | exact hbb.drew) hb2; have hz2 := Nat.lt_of_lt_of_le hs1 hbb.size; have hz3 := Nat.lt_of_lt_of_le hs0 hbb.size) | (go_at_call 73; refine (win_any _ _ _ _).mono ?_; rintro e w' ⟨rfl, hw⟩; replace hw := hw.symm; subst hw))
 try (go_wp2_with fail)
 refine hK.out _ _ ?_ (fun hHeld => ?_)
 ·try dsimp only
  go_keep
 clear hK K
 try simp only [Act.put, sqA, sqB, sqC]
 refine tKh (i := 14) (oi := ⟨some 19, .binOp .sub 3 (.tmp 18) (.const (.int .i64 1)) 3, 3, "world.go:98", #[⟨13, .data⟩, ⟨7, .guard⟩], some (7, true)⟩) (v := ?_) (hy := .inl ⟨by rfl, ?_⟩) (h := ?_)
 rotate_left
 ·intro w hSw
  try dsimp only at hSw
  go_simp
  try with_reducible rfl
 try simp only [Act.put, sqA, sqB, sqC]
 refine wpAnyH_ready (rs := [15]) (by kernel_rfl) (by simp) ?_
 refine AllReadyH.cons (o := ⟨some 20, .call { callee := .value (.func 73), args := #[.tmp 14, .const (.int .i64 0), .tmp 19], argTypes := #[3, 3, 3] }, 4, "world.go:99", #[⟨9, .data⟩, ⟨14, .data⟩, ⟨13, .chain⟩, ⟨7, .guard⟩], some (7, true)⟩) rfl (fun K hK => ?_) AllReadyH.nil
 go_simp
 (first | (go_at_call 138; refine (sentBy_any _ _ x _ (HP1.out.below (by first | exact hbb | exact hbb.drew)) HF.out).mono ?_; rintro e w2 ⟨rfl, hb2⟩; have hc2 := (by first | exact bcell (undrew hb2) | exact bcell hb2); replace hbb := bTrans (by first | exact hbb | exact hbb.drew) hb2; have hz2 := Nat.lt_of_lt_of_le hs1 hbb.size; have hz3 := Nat.lt_of_lt_of_le hs0 hbb.size) | (go_at_call 73; refine (win_any _ _ _ _).mono ?_; rintro e w' ⟨rfl, hw⟩; replace hw := hw.symm; subst hw))
 try (go_wp2_with fail)
 refine hK.out _ _ ?_ (fun hHeld => ?_)
 ·try dsimp only
  go_keep
 clear hK K
 try simp only [Act.put, sqA, sqB, sqC]
 refine tKh (i := 16) (oi := ⟨some 21, .pick (.tmp 12) (.tmp 20) (.const (.bool false)), 4, "world.go:98", #[⟨7, .data⟩, ⟨15, .data⟩], none⟩) (v := ?_) (hy := .inl ⟨by rfl, ?_⟩) (h := ?_)
 rotate_left
 ·intro w hSw
  try dsimp only at hSw
  go_simp
  try with_reducible rfl
 try simp only [Act.put, sqA, sqB, sqC]
 refine tKh (i := 17) (oi := ⟨some 22, .move (.tmp 21), 4, "world.go:98", #[⟨16, .data⟩, ⟨15, .chain⟩], none⟩) (v := ?_) (hy := .inl ⟨by rfl, ?_⟩) (h := ?_)
 rotate_left
 ·intro w hSw
  try dsimp only at hSw
  go_simp
  try with_reducible rfl
 try simp only [Act.put, sqA, sqB, sqC]
 refine tKh (i := 18) (oi := ⟨some 23, .fieldAddr 34 (.tmp 3) 2, 0, "world.go:98", #[⟨17, .guard⟩], some (17, true)⟩) (v := ?_) (hy := .inl ⟨by rfl, ?_⟩) (h := ?_)
 rotate_left
 ·intro w hSw
  try dsimp only at hSw
  go_simp
  try with_reducible rfl
 try simp only [Act.put, sqA, sqB, sqC]
 refine tKh (i := 19) (oi := ⟨some 24, .load 3 (.tmp 23), 3, "world.go:98", #[⟨18, .data⟩, ⟨17, .guard⟩], some (17, true)⟩) (v := ?_) (hy := .inl ⟨by rfl, ?_⟩) (h := ?_)
 rotate_left
 ·intro w hSw
  try dsimp only at hSw
  go_simp
  try with_reducible rfl
 try simp only [Act.put, sqA, sqB, sqC]
 refine tKh (i := 20) (oi := ⟨some 25, .fieldAddr 32 (.tmp 2) 2, 0, "world.go:98", #[⟨17, .guard⟩], some (17, true)⟩) (v := ?_) (hy := .inl ⟨by rfl, ?_⟩) (h := ?_)
 rotate_left
 ·intro w hSw
  try dsimp only at hSw
  go_simp
  try with_reducible rfl
 try simp only [Act.put, sqA, sqB, sqC]
 refine tKh (i := 21) (oi := ⟨some 26, .fieldAddr 28 (.tmp 25) 1, 0, "world.go:98", #[⟨20, .data⟩, ⟨17, .guard⟩], some (17, true)⟩) (v := ?_) (hy := .inl ⟨by rfl, ?_⟩) (h := ?_)
 rotate_left
 ·intro w hSw
  try dsimp only at hSw
  go_simp
  try with_reducible rfl
 try simp only [Act.put, sqA, sqB, sqC]
 refine tKh (i := 22) (oi := ⟨some 27, .load 3 (.tmp 26), 3, "world.go:98", #[⟨21, .data⟩, ⟨17, .guard⟩], some (17, true)⟩) (v := ?_) (hy := .inl ⟨by rfl, ?_⟩) (h := ?_)
 rotate_left
 ·intro w hSw
  try dsimp only at hSw
  go_simp
  try with_reducible rfl
 try simp only [Act.put, sqA, sqB, sqC]
 refine wpAnyH_ready (rs := [23]) (by kernel_rfl) (by simp) ?_
 refine AllReadyH.cons (o := ⟨some 28, .call { callee := .value (.func 73), args := #[.tmp 24, .const (.int .i64 0), .tmp 27], argTypes := #[3, 3, 3] }, 4, "world.go:100", #[⟨19, .data⟩, ⟨22, .data⟩, ⟨17, .chain⟩, ⟨17, .guard⟩], some (17, true)⟩) rfl (fun K hK => ?_) AllReadyH.nil
 go_simp
 (first | (go_at_call 138; refine (sentBy_any _ _ x _ (HP1.out.below (by first | exact hbb | exact hbb.drew)) HF.out).mono ?_; rintro e w2 ⟨rfl, hb2⟩; have hc2 := (by first | exact bcell (undrew hb2) | exact bcell hb2); replace hbb := bTrans (by first | exact hbb | exact hbb.drew) hb2; have hz2 := Nat.lt_of_lt_of_le hs1 hbb.size; have hz3 := Nat.lt_of_lt_of_le hs0 hbb.size) | (go_at_call 73; refine (win_any _ _ _ _).mono ?_; rintro e w' ⟨rfl, hw⟩; replace hw := hw.symm; subst hw))
 try (go_wp2_with fail)
 refine hK.out _ _ ?_ (fun hHeld => ?_)
 ·try dsimp only
  go_keep
 clear hK K
 try simp only [Act.put, sqA, sqB, sqC]
 refine tKh (i := 24) (oi := ⟨some 29, .pick (.tmp 22) (.tmp 28) (.const (.bool false)), 4, "world.go:98", #[⟨17, .data⟩, ⟨23, .data⟩], none⟩) (v := ?_) (hy := .inl ⟨by rfl, ?_⟩) (h := ?_)
 rotate_left
 ·intro w hSw
  try dsimp only at hSw
  go_simp
  try with_reducible rfl
 try simp only [Act.put, sqA, sqB, sqC]
 refine tKh (i := 25) (oi := ⟨some 4, .assign (.tmp 29), 4, "world.go:98", #[⟨24, .data⟩, ⟨23, .chain⟩, ⟨0, .phase⟩, ⟨1, .phase⟩, ⟨2, .phase⟩, ⟨3, .phase⟩, ⟨4, .phase⟩, ⟨5, .phase⟩, ⟨6, .phase⟩, ⟨7, .phase⟩, ⟨8, .phase⟩, ⟨9, .phase⟩, ⟨10, .phase⟩, ⟨11, .phase⟩, ⟨12, .phase⟩, ⟨13, .phase⟩, ⟨14, .phase⟩, ⟨15, .phase⟩, ⟨16, .phase⟩, ⟨17, .phase⟩, ⟨18, .phase⟩, ⟨19, .phase⟩, ⟨20, .phase⟩, ⟨21, .phase⟩, ⟨22, .phase⟩, ⟨23, .phase⟩, ⟨24, .phase⟩], none⟩) (v := ?_) (hy := .inl ⟨by rfl, ?_⟩) (h := ?_)
 rotate_left
 ·intro w hSw
  try dsimp only at hSw
  go_simp
  try with_reducible rfl
 try simp only [Act.put, sqA, sqB, sqC]
 refine wpAnyH_done (by kernel_rfl) ?_ _
 go_wp2_with fail
 go_ret
 exact ⟨ret_b HR.out, bTrans HL.out (by first | exact hbb | exact hbb.drew)⟩
theorem chkID_any (w : World) (vp : Value) (x : PWld) (d : PID) (hp : WldV w vp x) :
  Calls Tryz.prog 118 #[vp, dV d] w fun e w' => e = .returned (.bool (chkD x d)) ∧ Below w.heap.size w w' := by
 cases e1 : inB d.f (-1) ((x.acts.length : Int) - 1) with
 | false => exact chkID_1 w vp x d hp e1
 | true =>
  cases e2 : inB d.n 0 (wrap64 (sentP x d.f - 1)) with
  | false => exact chkID_2 w vp x d hp e1 e2
  | true => exact chkID_3 w vp x d hp e1 e2
end Go.Proofs.YtfbeiedhdmndnaaGreatDoor
