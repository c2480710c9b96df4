/-
  What ProgSame answers of any two numbers (the cases 4, 5, 6, 7): true; and nothing old has turned. Condition: the table of the instructions is in the world.
-/
import Derived.Test.YtlpeiiejkpkpjaaDoorTail
import Derived.Deep.RegionHeld3
import Derived.Deep.DrawnRows
namespace Go.Proofs.YtlpeiiejkpkpjaaDoor
open Go.RowKit
attribute [local go_sem ↓] Go.wp_at_zero Go.wp_at_succ

def sm4P (_ : Int) : PPrg := ⟨[⟨1, [⟨7, 0⟩]⟩], [⟨[3], 2, -1, false⟩], [⟨0, 0, [5]⟩], 10⟩
set_option maxHeartbeats 8000000 in
set_option maxRecDepth 100000 in
theorem sm4 (k by_ : Int) (w : World) (ht : Tab w) (hb0 : (by_ == 0) = false) (hr : rnd k 13 = 4) (e1 : eqB oneP (sm4P by_) = false) : Calls Tryd.prog 7 #[.int .i64 k, .int .i64 by_] w fun e w' => e = .returned (.bool true) ∧ Below w.heap.size w w' := by
  have HT : Hid (Tab w) := ht
  have e2 : eqB (sm4P by_) oneP = false := (eqB_sym _ _).trans e1
  have e3 : eqB (sm4P by_) (sm4P by_) = true := eqB_self _
  clear ht
  have g3 := f3
  go_enter Tryd.func7, Tryd.ntmps7
  go_wp2_with fail
  refine (one_at (bRefl w)).mono ?_
  rintro e w1 ⟨v, rfl, hp, hb1⟩
  obtain ⟨A1, A2, A3, a1, a2, a3, hv⟩ := hp.open
  have hv' : v = .agg #[.slice A1 1 a1, .slice A2 1 a2, .slice A3 1 a3, .int .i64 10] := hv
  subst hv'
  clear hv
  have HP : Hid (PrgV w1 (.agg #[.slice A1 1 a1, .slice A2 1 a2, .slice A3 1 a3, .int .i64 10]) oneP) := hp
  clear hp
  go_wp2_with fail
  refine (one_exact _).mono ?_
  rintro e w2 ⟨rfl, rfl⟩
  have T := two_start w1 #[.slice A1 1 a1, .slice A2 1 a2, .slice A3 1 a3, .int .i64 10]
  have B1 : ∀ x y, Below w1.heap.size w1 (((oneW w1).alloc x).alloc y) := fun x y => bAlloc (bAlloc (oneW_below w1) x) y
  have B2 : ∀ x y, Below (oneW w1).heap.size (oneW w1) (((oneW w1).alloc x).alloc y) := fun x y => bAlloc (bAlloc (bRefl _) x) y
  have hsz : (oneW w1).heap.size = w1.heap.size + 1 + 1 + 1 + 1 + 1 + 1 + 1 := by simp [oneW]
  unfold oneV
  go_wp2_with fail
  refine (same_any _ _ _ oneP oneP (HP.out.below (B1 _ _)) (one_reads w1 |>.below (B2 _ _))).mono ?_
  rintro e w2 ⟨rfl, hb2⟩
  have T2 : Hid (Two w1.heap.size #[.slice A1 1 a1, .slice A2 1 a2, .slice A3 1 a3, .int .i64 10] w2) := T.below hb2
  have BB : Below w1.heap.size w1 w2 := bTrans (B1 _ _) hb2
  have HP2 : Hid (PrgV w1 (.agg #[.slice A1 1 a1, .slice A2 1 a2, .slice A3 1 a3, .int .i64 10]) oneP) := HP.out
  clear hb2 T B1 B2 HP
  go_wp2_with fail
  refine (round_any k 13 _ (by decide) (by decide)).mono ?_
  rintro e w3 ⟨rfl, rfl⟩
  clear hsz
  have cC := T2.out.bC
  have cH := T2.out.bH
  have cR := T2.out.bR
  have cA := T2.out.bA
  have cG := T2.out.bG
  have cN := T2.out.bN
  have cP := T2.out.bP
  have cQ := T2.out.bQ
  have fz : ∀ j o, j < 9 → w3.frozen? ⟨w1.heap.size + j, o, none⟩ = false := fun j o h => T2.out.fz _ o (by omega) (by omega)
  have z1 : ∀ o, w3.frozen? ⟨w1.heap.size + 1, o, none⟩ = false := fun o => fz 1 o (by omega)
  have z2 : ∀ o, w3.frozen? ⟨w1.heap.size + 1 + 1, o, none⟩ = false := fun o => fz 2 o (by omega)
  have z3 : ∀ o, w3.frozen? ⟨w1.heap.size + 1 + 1 + 1, o, none⟩ = false := fun o => fz 3 o (by omega)
  have z4 : ∀ o, w3.frozen? ⟨w1.heap.size + 1 + 1 + 1 + 1, o, none⟩ = false := fun o => fz 4 o (by omega)
  have z5 : ∀ o, w3.frozen? ⟨w1.heap.size + 1 + 1 + 1 + 1 + 1, o, none⟩ = false := fun o => fz 5 o (by omega)
  have z6 : ∀ o, w3.frozen? ⟨w1.heap.size + 1 + 1 + 1 + 1 + 1 + 1, o, none⟩ = false := fun o => fz 6 o (by omega)
  have z8 : ∀ o, w3.frozen? ⟨w1.heap.size + 1 + 1 + 1 + 1 + 1 + 1 + 1 + 1, o, none⟩ = false := fun o => fz 8 o (by omega)
  clear fz
  go_wp2_with fail
  go_region
  go_wp2_with fail
  have hs3 := T2.out.sz
  have tf : TailF w (w3.setCell ⟨w1.heap.size + 1 + 1, 1, none⟩ (.slice (some ⟨w1.heap.size + 1, 0, none⟩) 1 2)).drew (w1.heap.size + 1 + 1 + 1 + 1 + 1 + 1 + 1) (w1.heap.size + 1 + 1 + 1 + 1 + 1 + 1 + 1 + 1) #[.slice A1 1 a1, .slice A2 1 a2, .slice A3 1 a3, .int .i64 10] #[.slice (some ⟨w1.heap.size + 1 + 1, 0, none⟩) 1 1, .slice (some ⟨w1.heap.size + 1 + 1 + 1 + 1, 0, none⟩) 1 1, .slice (some ⟨w1.heap.size + 1 + 1 + 1 + 1 + 1 + 1, 0, none⟩) 1 1, .int .i64 10] (sm4P by_) := by
    have BW : Below w1.heap.size w1 (w3.setCell ⟨w1.heap.size + 1 + 1, 1, none⟩ (.slice (some ⟨w1.heap.size + 1, 0, none⟩) 1 2)).drew := Below.drew (Below.setCell BB (by simp; omega) _)
    refine ⟨bTrans hb1 BW, HT.out.below (bTrans hb1 BW), ⟨by simp [World.setCell]; omega, fun o => ?_⟩, ⟨by simp [World.setCell]; omega, fun o => ?_⟩, HP2.out.below BW, ?_, small_sm _ rfl rfl rfl (by simp [sm4P]) (by simp [sm4P]) (by simp [sm4P])⟩
    · simp [cell_set, cP]
    · simp [cell_set, cQ]
    · clear HT e1 e2 e3 g3 HP2 BW BB hb1 T2 cP
      have hz : ∀ j, j < 9 → w1.heap.size + j < (w3.setCell ⟨w1.heap.size + 1 + 1, 1, none⟩ (.slice (some ⟨w1.heap.size + 1, 0, none⟩) 1 2)).heap.size := fun j hj => by simp [World.setCell]; omega
      have hz1 := hz 1 (by omega)
      have hz2 := hz 2 (by omega)
      have hz3 := hz 3 (by omega)
      have hz4 := hz 4 (by omega)
      have hz5 := hz 5 (by omega)
      have hz6 := hz 6 (by omega)
      show PrgV (w3.setCell _ _).drew _ _
      apply mk1b (cC := 2) (cR := 1) (cG := 1) (bH := w1.heap.size + 1 + 1) (bC := w1.heap.size + 1) (bA := w1.heap.size + 1 + 1 + 1 + 1) (bR := w1.heap.size + 1 + 1 + 1) (bN := w1.heap.size + 1 + 1 + 1 + 1 + 1 + 1) (bG := w1.heap.size + 1 + 1 + 1 + 1 + 1)
      all_goals first
        | assumption
        | (simp [cell_set, *]; done)
        | (simp [cell_set, *]; omega)
        | (simp [cell_set, *]; intro h; omega)
  have td := tf.drew
  generalize (w3.setCell ⟨w1.heap.size + 1 + 1, 1, none⟩ (.slice (some ⟨w1.heap.size + 1, 0, none⟩) 1 2)).drew = wz at *
  clear cC cH cR cA cG cN cP cQ z1 z2 z3 z4 z5 z6 z8 T2 HP2 BB hr hs3
  have c1 := tf.x1.cell
  have c2 := tf.x2.cell
  go_region_held3 (fun w' => w'.cell? ⟨w1.heap.size + 1 + 1 + 1 + 1 + 1 + 1 + 1, 0, none⟩ = some (.slice A1 1 a1) ∧ w'.cell? ⟨w1.heap.size + 1 + 1 + 1 + 1 + 1 + 1 + 1, 1, none⟩ = some (.slice A2 1 a2) ∧ w'.cell? ⟨w1.heap.size + 1 + 1 + 1 + 1 + 1 + 1 + 1, 2, none⟩ = some (.slice A3 1 a3) ∧ w'.cell? ⟨w1.heap.size + 1 + 1 + 1 + 1 + 1 + 1 + 1, 3, none⟩ = some (.int .i64 10) ∧ w'.cell? ⟨w1.heap.size + 1 + 1 + 1 + 1 + 1 + 1 + 1 + 1, 0, none⟩ = some (.slice (some ⟨w1.heap.size + 1 + 1, 0, none⟩) 1 1) ∧ w'.cell? ⟨w1.heap.size + 1 + 1 + 1 + 1 + 1 + 1 + 1 + 1, 1, none⟩ = some (.slice (some ⟨w1.heap.size + 1 + 1 + 1 + 1, 0, none⟩) 1 1) ∧ w'.cell? ⟨w1.heap.size + 1 + 1 + 1 + 1 + 1 + 1 + 1 + 1, 2, none⟩ = some (.slice (some ⟨w1.heap.size + 1 + 1 + 1 + 1 + 1 + 1, 0, none⟩) 1 1) ∧ w'.cell? ⟨w1.heap.size + 1 + 1 + 1 + 1 + 1 + 1 + 1 + 1, 3, none⟩ = some (.int .i64 10)) (go_keep)
    (first
      | (go_at_call 13; refine (same_any _ _ _ _ _ (by first | exact td.pp | exact tf.pp | exact td.pq | exact tf.pq) (by first | exact td.pq | exact tf.pq | exact hcp | exact td.pp | exact tf.pp)).mono ?_; rintro e w' ⟨rfl, hb⟩; replace tf := (by first | exact td.below hb | exact tf.below hb); have c1 := tf.x1.cell; have c2 := tf.x2.cell)
      | (go_at_call 16; refine (copy_any _ _ _ (by first | exact tf.pq | exact td.pq) tf.sm).mono ?_; rintro e w' ⟨v', rfl, hcp0, hb⟩; have hcp := hcp0.prg; replace tf := tf.below hb; have c1 := tf.x1.cell; have c2 := tf.x2.cell)
      | (go_at_call 10; refine (awake_any _ tf.tab).mono ?_; rintro e w' ⟨rfl, hb⟩; replace tf := tf.below hb; have c1 := tf.x1.cell; have c2 := tf.x2.cell))
  all_goals (go_wp2_with fail; go_ret; exact ⟨rfl, tf.low⟩)

def sm5P (by_ : Int) : PPrg := ⟨[⟨1, [⟨7, 0⟩, ⟨6, 0⟩]⟩], [⟨[wrap64 (3 + by_)], 2, -1, false⟩], [⟨0, 0, [5]⟩], 10⟩
set_option maxHeartbeats 8000000 in
set_option maxRecDepth 100000 in
theorem sm5 (k by_ : Int) (w : World) (ht : Tab w) (hb0 : (by_ == 0) = false) (hr : rnd k 13 = 5) (e1 : eqB oneP (sm5P by_) = false) : Calls Tryd.prog 7 #[.int .i64 k, .int .i64 by_] w fun e w' => e = .returned (.bool true) ∧ Below w.heap.size w w' := by
  have HT : Hid (Tab w) := ht
  have e2 : eqB (sm5P by_) oneP = false := (eqB_sym _ _).trans e1
  have e3 : eqB (sm5P by_) (sm5P by_) = true := eqB_self _
  clear ht
  have g3 := f3
  go_enter Tryd.func7, Tryd.ntmps7
  go_wp2_with fail
  refine (one_at (bRefl w)).mono ?_
  rintro e w1 ⟨v, rfl, hp, hb1⟩
  obtain ⟨A1, A2, A3, a1, a2, a3, hv⟩ := hp.open
  have hv' : v = .agg #[.slice A1 1 a1, .slice A2 1 a2, .slice A3 1 a3, .int .i64 10] := hv
  subst hv'
  clear hv
  have HP : Hid (PrgV w1 (.agg #[.slice A1 1 a1, .slice A2 1 a2, .slice A3 1 a3, .int .i64 10]) oneP) := hp
  clear hp
  go_wp2_with fail
  refine (one_exact _).mono ?_
  rintro e w2 ⟨rfl, rfl⟩
  have T := two_start w1 #[.slice A1 1 a1, .slice A2 1 a2, .slice A3 1 a3, .int .i64 10]
  have B1 : ∀ x y, Below w1.heap.size w1 (((oneW w1).alloc x).alloc y) := fun x y => bAlloc (bAlloc (oneW_below w1) x) y
  have B2 : ∀ x y, Below (oneW w1).heap.size (oneW w1) (((oneW w1).alloc x).alloc y) := fun x y => bAlloc (bAlloc (bRefl _) x) y
  have hsz : (oneW w1).heap.size = w1.heap.size + 1 + 1 + 1 + 1 + 1 + 1 + 1 := by simp [oneW]
  unfold oneV
  go_wp2_with fail
  refine (same_any _ _ _ oneP oneP (HP.out.below (B1 _ _)) (one_reads w1 |>.below (B2 _ _))).mono ?_
  rintro e w2 ⟨rfl, hb2⟩
  have T2 : Hid (Two w1.heap.size #[.slice A1 1 a1, .slice A2 1 a2, .slice A3 1 a3, .int .i64 10] w2) := T.below hb2
  have BB : Below w1.heap.size w1 w2 := bTrans (B1 _ _) hb2
  have HP2 : Hid (PrgV w1 (.agg #[.slice A1 1 a1, .slice A2 1 a2, .slice A3 1 a3, .int .i64 10]) oneP) := HP.out
  clear hb2 T B1 B2 HP
  go_wp2_with fail
  refine (round_any k 13 _ (by decide) (by decide)).mono ?_
  rintro e w3 ⟨rfl, rfl⟩
  clear hsz
  have cC := T2.out.bC
  have cH := T2.out.bH
  have cR := T2.out.bR
  have cA := T2.out.bA
  have cG := T2.out.bG
  have cN := T2.out.bN
  have cP := T2.out.bP
  have cQ := T2.out.bQ
  have fz : ∀ j o, j < 9 → w3.frozen? ⟨w1.heap.size + j, o, none⟩ = false := fun j o h => T2.out.fz _ o (by omega) (by omega)
  have z1 : ∀ o, w3.frozen? ⟨w1.heap.size + 1, o, none⟩ = false := fun o => fz 1 o (by omega)
  have z2 : ∀ o, w3.frozen? ⟨w1.heap.size + 1 + 1, o, none⟩ = false := fun o => fz 2 o (by omega)
  have z3 : ∀ o, w3.frozen? ⟨w1.heap.size + 1 + 1 + 1, o, none⟩ = false := fun o => fz 3 o (by omega)
  have z4 : ∀ o, w3.frozen? ⟨w1.heap.size + 1 + 1 + 1 + 1, o, none⟩ = false := fun o => fz 4 o (by omega)
  have z5 : ∀ o, w3.frozen? ⟨w1.heap.size + 1 + 1 + 1 + 1 + 1, o, none⟩ = false := fun o => fz 5 o (by omega)
  have z6 : ∀ o, w3.frozen? ⟨w1.heap.size + 1 + 1 + 1 + 1 + 1 + 1, o, none⟩ = false := fun o => fz 6 o (by omega)
  have z8 : ∀ o, w3.frozen? ⟨w1.heap.size + 1 + 1 + 1 + 1 + 1 + 1 + 1 + 1, o, none⟩ = false := fun o => fz 8 o (by omega)
  clear fz
  go_wp2_with fail
  go_region
  go_wp2_with fail
  have hs3 := T2.out.sz
  have tf : TailF w (w3.setCell ⟨w1.heap.size + 1 + 1 + 1, 0, none⟩ (.int .i64 (wrap64 (3 + by_)))).drew (w1.heap.size + 1 + 1 + 1 + 1 + 1 + 1 + 1) (w1.heap.size + 1 + 1 + 1 + 1 + 1 + 1 + 1 + 1) #[.slice A1 1 a1, .slice A2 1 a2, .slice A3 1 a3, .int .i64 10] #[.slice (some ⟨w1.heap.size + 1 + 1, 0, none⟩) 1 1, .slice (some ⟨w1.heap.size + 1 + 1 + 1 + 1, 0, none⟩) 1 1, .slice (some ⟨w1.heap.size + 1 + 1 + 1 + 1 + 1 + 1, 0, none⟩) 1 1, .int .i64 10] (sm5P by_) := by
    have BW : Below w1.heap.size w1 (w3.setCell ⟨w1.heap.size + 1 + 1 + 1, 0, none⟩ (.int .i64 (wrap64 (3 + by_)))).drew := Below.drew (Below.setCell BB (by simp; omega) _)
    refine ⟨bTrans hb1 BW, HT.out.below (bTrans hb1 BW), ⟨by simp [World.setCell]; omega, fun o => ?_⟩, ⟨by simp [World.setCell]; omega, fun o => ?_⟩, HP2.out.below BW, ?_, small_sm _ rfl rfl rfl (by simp [sm5P]) (by simp [sm5P]) (by simp [sm5P])⟩
    · simp [cell_set, cP]
    · simp [cell_set, cQ]
    · clear HT e1 e2 e3 g3 HP2 BW BB hb1 T2 cP
      have hz : ∀ j, j < 9 → w1.heap.size + j < (w3.setCell ⟨w1.heap.size + 1 + 1 + 1, 0, none⟩ (.int .i64 (wrap64 (3 + by_)))).heap.size := fun j hj => by simp [World.setCell]; omega
      have hz1 := hz 1 (by omega)
      have hz2 := hz 2 (by omega)
      have hz3 := hz 3 (by omega)
      have hz4 := hz 4 (by omega)
      have hz5 := hz 5 (by omega)
      have hz6 := hz 6 (by omega)
      show PrgV (w3.setCell _ _).drew _ _
      apply mk1 (cC := 2) (cR := 1) (cG := 1) (bH := w1.heap.size + 1 + 1) (bC := w1.heap.size + 1) (bA := w1.heap.size + 1 + 1 + 1 + 1) (bR := w1.heap.size + 1 + 1 + 1) (bN := w1.heap.size + 1 + 1 + 1 + 1 + 1 + 1) (bG := w1.heap.size + 1 + 1 + 1 + 1 + 1)
      all_goals first
        | assumption
        | (simp [cell_set, *]; done)
        | (simp [cell_set, *]; omega)
        | (simp [cell_set, *]; intro h; omega)
  have td := tf.drew
  generalize (w3.setCell ⟨w1.heap.size + 1 + 1 + 1, 0, none⟩ (.int .i64 (wrap64 (3 + by_)))).drew = wz at *
  clear cC cH cR cA cG cN cP cQ z1 z2 z3 z4 z5 z6 z8 T2 HP2 BB hr hs3
  have c1 := tf.x1.cell
  have c2 := tf.x2.cell
  go_region_held3 (fun w' => w'.cell? ⟨w1.heap.size + 1 + 1 + 1 + 1 + 1 + 1 + 1, 0, none⟩ = some (.slice A1 1 a1) ∧ w'.cell? ⟨w1.heap.size + 1 + 1 + 1 + 1 + 1 + 1 + 1, 1, none⟩ = some (.slice A2 1 a2) ∧ w'.cell? ⟨w1.heap.size + 1 + 1 + 1 + 1 + 1 + 1 + 1, 2, none⟩ = some (.slice A3 1 a3) ∧ w'.cell? ⟨w1.heap.size + 1 + 1 + 1 + 1 + 1 + 1 + 1, 3, none⟩ = some (.int .i64 10) ∧ w'.cell? ⟨w1.heap.size + 1 + 1 + 1 + 1 + 1 + 1 + 1 + 1, 0, none⟩ = some (.slice (some ⟨w1.heap.size + 1 + 1, 0, none⟩) 1 1) ∧ w'.cell? ⟨w1.heap.size + 1 + 1 + 1 + 1 + 1 + 1 + 1 + 1, 1, none⟩ = some (.slice (some ⟨w1.heap.size + 1 + 1 + 1 + 1, 0, none⟩) 1 1) ∧ w'.cell? ⟨w1.heap.size + 1 + 1 + 1 + 1 + 1 + 1 + 1 + 1, 2, none⟩ = some (.slice (some ⟨w1.heap.size + 1 + 1 + 1 + 1 + 1 + 1, 0, none⟩) 1 1) ∧ w'.cell? ⟨w1.heap.size + 1 + 1 + 1 + 1 + 1 + 1 + 1 + 1, 3, none⟩ = some (.int .i64 10)) (go_keep)
    (first
      | (go_at_call 13; refine (same_any _ _ _ _ _ (by first | exact td.pp | exact tf.pp | exact td.pq | exact tf.pq) (by first | exact td.pq | exact tf.pq | exact hcp | exact td.pp | exact tf.pp)).mono ?_; rintro e w' ⟨rfl, hb⟩; replace tf := (by first | exact td.below hb | exact tf.below hb); have c1 := tf.x1.cell; have c2 := tf.x2.cell)
      | (go_at_call 16; refine (copy_any _ _ _ (by first | exact tf.pq | exact td.pq) tf.sm).mono ?_; rintro e w' ⟨v', rfl, hcp0, hb⟩; have hcp := hcp0.prg; replace tf := tf.below hb; have c1 := tf.x1.cell; have c2 := tf.x2.cell)
      | (go_at_call 10; refine (awake_any _ tf.tab).mono ?_; rintro e w' ⟨rfl, hb⟩; replace tf := tf.below hb; have c1 := tf.x1.cell; have c2 := tf.x2.cell))
  all_goals (go_wp2_with fail; go_ret; exact ⟨rfl, tf.low⟩)

def sm6P (by_ : Int) : PPrg := ⟨[⟨1, [⟨7, 0⟩, ⟨6, 0⟩]⟩], [⟨[3], wrap64 (2 + by_), -1, false⟩], [⟨0, 0, [5]⟩], 10⟩
set_option maxHeartbeats 8000000 in
set_option maxRecDepth 100000 in
theorem sm6 (k by_ : Int) (w : World) (ht : Tab w) (hb0 : (by_ == 0) = false) (hr : rnd k 13 = 6) (e1 : eqB oneP (sm6P by_) = false) : Calls Tryd.prog 7 #[.int .i64 k, .int .i64 by_] w fun e w' => e = .returned (.bool true) ∧ Below w.heap.size w w' := by
  have HT : Hid (Tab w) := ht
  have e2 : eqB (sm6P by_) oneP = false := (eqB_sym _ _).trans e1
  have e3 : eqB (sm6P by_) (sm6P by_) = true := eqB_self _
  clear ht
  have g3 := f3
  go_enter Tryd.func7, Tryd.ntmps7
  go_wp2_with fail
  refine (one_at (bRefl w)).mono ?_
  rintro e w1 ⟨v, rfl, hp, hb1⟩
  obtain ⟨A1, A2, A3, a1, a2, a3, hv⟩ := hp.open
  have hv' : v = .agg #[.slice A1 1 a1, .slice A2 1 a2, .slice A3 1 a3, .int .i64 10] := hv
  subst hv'
  clear hv
  have HP : Hid (PrgV w1 (.agg #[.slice A1 1 a1, .slice A2 1 a2, .slice A3 1 a3, .int .i64 10]) oneP) := hp
  clear hp
  go_wp2_with fail
  refine (one_exact _).mono ?_
  rintro e w2 ⟨rfl, rfl⟩
  have T := two_start w1 #[.slice A1 1 a1, .slice A2 1 a2, .slice A3 1 a3, .int .i64 10]
  have B1 : ∀ x y, Below w1.heap.size w1 (((oneW w1).alloc x).alloc y) := fun x y => bAlloc (bAlloc (oneW_below w1) x) y
  have B2 : ∀ x y, Below (oneW w1).heap.size (oneW w1) (((oneW w1).alloc x).alloc y) := fun x y => bAlloc (bAlloc (bRefl _) x) y
  have hsz : (oneW w1).heap.size = w1.heap.size + 1 + 1 + 1 + 1 + 1 + 1 + 1 := by simp [oneW]
  unfold oneV
  go_wp2_with fail
  refine (same_any _ _ _ oneP oneP (HP.out.below (B1 _ _)) (one_reads w1 |>.below (B2 _ _))).mono ?_
  rintro e w2 ⟨rfl, hb2⟩
  have T2 : Hid (Two w1.heap.size #[.slice A1 1 a1, .slice A2 1 a2, .slice A3 1 a3, .int .i64 10] w2) := T.below hb2
  have BB : Below w1.heap.size w1 w2 := bTrans (B1 _ _) hb2
  have HP2 : Hid (PrgV w1 (.agg #[.slice A1 1 a1, .slice A2 1 a2, .slice A3 1 a3, .int .i64 10]) oneP) := HP.out
  clear hb2 T B1 B2 HP
  go_wp2_with fail
  refine (round_any k 13 _ (by decide) (by decide)).mono ?_
  rintro e w3 ⟨rfl, rfl⟩
  clear hsz
  have cC := T2.out.bC
  have cH := T2.out.bH
  have cR := T2.out.bR
  have cA := T2.out.bA
  have cG := T2.out.bG
  have cN := T2.out.bN
  have cP := T2.out.bP
  have cQ := T2.out.bQ
  have fz : ∀ j o, j < 9 → w3.frozen? ⟨w1.heap.size + j, o, none⟩ = false := fun j o h => T2.out.fz _ o (by omega) (by omega)
  have z1 : ∀ o, w3.frozen? ⟨w1.heap.size + 1, o, none⟩ = false := fun o => fz 1 o (by omega)
  have z2 : ∀ o, w3.frozen? ⟨w1.heap.size + 1 + 1, o, none⟩ = false := fun o => fz 2 o (by omega)
  have z3 : ∀ o, w3.frozen? ⟨w1.heap.size + 1 + 1 + 1, o, none⟩ = false := fun o => fz 3 o (by omega)
  have z4 : ∀ o, w3.frozen? ⟨w1.heap.size + 1 + 1 + 1 + 1, o, none⟩ = false := fun o => fz 4 o (by omega)
  have z5 : ∀ o, w3.frozen? ⟨w1.heap.size + 1 + 1 + 1 + 1 + 1, o, none⟩ = false := fun o => fz 5 o (by omega)
  have z6 : ∀ o, w3.frozen? ⟨w1.heap.size + 1 + 1 + 1 + 1 + 1 + 1, o, none⟩ = false := fun o => fz 6 o (by omega)
  have z8 : ∀ o, w3.frozen? ⟨w1.heap.size + 1 + 1 + 1 + 1 + 1 + 1 + 1 + 1, o, none⟩ = false := fun o => fz 8 o (by omega)
  clear fz
  go_wp2_with fail
  go_region
  go_wp2_with fail
  have hs3 := T2.out.sz
  have tf : TailF w (w3.setCell ⟨w1.heap.size + 1 + 1 + 1 + 1, 1, none⟩ (.int .i64 (wrap64 (2 + by_)))).drew (w1.heap.size + 1 + 1 + 1 + 1 + 1 + 1 + 1) (w1.heap.size + 1 + 1 + 1 + 1 + 1 + 1 + 1 + 1) #[.slice A1 1 a1, .slice A2 1 a2, .slice A3 1 a3, .int .i64 10] #[.slice (some ⟨w1.heap.size + 1 + 1, 0, none⟩) 1 1, .slice (some ⟨w1.heap.size + 1 + 1 + 1 + 1, 0, none⟩) 1 1, .slice (some ⟨w1.heap.size + 1 + 1 + 1 + 1 + 1 + 1, 0, none⟩) 1 1, .int .i64 10] (sm6P by_) := by
    have BW : Below w1.heap.size w1 (w3.setCell ⟨w1.heap.size + 1 + 1 + 1 + 1, 1, none⟩ (.int .i64 (wrap64 (2 + by_)))).drew := Below.drew (Below.setCell BB (by simp; omega) _)
    refine ⟨bTrans hb1 BW, HT.out.below (bTrans hb1 BW), ⟨by simp [World.setCell]; omega, fun o => ?_⟩, ⟨by simp [World.setCell]; omega, fun o => ?_⟩, HP2.out.below BW, ?_, small_sm _ rfl rfl rfl (by simp [sm6P]) (by simp [sm6P]) (by simp [sm6P])⟩
    · simp [cell_set, cP]
    · simp [cell_set, cQ]
    · clear HT e1 e2 e3 g3 HP2 BW BB hb1 T2 cP
      have hz : ∀ j, j < 9 → w1.heap.size + j < (w3.setCell ⟨w1.heap.size + 1 + 1 + 1 + 1, 1, none⟩ (.int .i64 (wrap64 (2 + by_)))).heap.size := fun j hj => by simp [World.setCell]; omega
      have hz1 := hz 1 (by omega)
      have hz2 := hz 2 (by omega)
      have hz3 := hz 3 (by omega)
      have hz4 := hz 4 (by omega)
      have hz5 := hz 5 (by omega)
      have hz6 := hz 6 (by omega)
      show PrgV (w3.setCell _ _).drew _ _
      apply mk1 (cC := 2) (cR := 1) (cG := 1) (bH := w1.heap.size + 1 + 1) (bC := w1.heap.size + 1) (bA := w1.heap.size + 1 + 1 + 1 + 1) (bR := w1.heap.size + 1 + 1 + 1) (bN := w1.heap.size + 1 + 1 + 1 + 1 + 1 + 1) (bG := w1.heap.size + 1 + 1 + 1 + 1 + 1)
      all_goals first
        | assumption
        | (simp [cell_set, *]; done)
        | (simp [cell_set, *]; omega)
        | (simp [cell_set, *]; intro h; omega)
  have td := tf.drew
  generalize (w3.setCell ⟨w1.heap.size + 1 + 1 + 1 + 1, 1, none⟩ (.int .i64 (wrap64 (2 + by_)))).drew = wz at *
  clear cC cH cR cA cG cN cP cQ z1 z2 z3 z4 z5 z6 z8 T2 HP2 BB hr hs3
  have c1 := tf.x1.cell
  have c2 := tf.x2.cell
  go_region_held3 (fun w' => w'.cell? ⟨w1.heap.size + 1 + 1 + 1 + 1 + 1 + 1 + 1, 0, none⟩ = some (.slice A1 1 a1) ∧ w'.cell? ⟨w1.heap.size + 1 + 1 + 1 + 1 + 1 + 1 + 1, 1, none⟩ = some (.slice A2 1 a2) ∧ w'.cell? ⟨w1.heap.size + 1 + 1 + 1 + 1 + 1 + 1 + 1, 2, none⟩ = some (.slice A3 1 a3) ∧ w'.cell? ⟨w1.heap.size + 1 + 1 + 1 + 1 + 1 + 1 + 1, 3, none⟩ = some (.int .i64 10) ∧ w'.cell? ⟨w1.heap.size + 1 + 1 + 1 + 1 + 1 + 1 + 1 + 1, 0, none⟩ = some (.slice (some ⟨w1.heap.size + 1 + 1, 0, none⟩) 1 1) ∧ w'.cell? ⟨w1.heap.size + 1 + 1 + 1 + 1 + 1 + 1 + 1 + 1, 1, none⟩ = some (.slice (some ⟨w1.heap.size + 1 + 1 + 1 + 1, 0, none⟩) 1 1) ∧ w'.cell? ⟨w1.heap.size + 1 + 1 + 1 + 1 + 1 + 1 + 1 + 1, 2, none⟩ = some (.slice (some ⟨w1.heap.size + 1 + 1 + 1 + 1 + 1 + 1, 0, none⟩) 1 1) ∧ w'.cell? ⟨w1.heap.size + 1 + 1 + 1 + 1 + 1 + 1 + 1 + 1, 3, none⟩ = some (.int .i64 10)) (go_keep)
    (first
      | (go_at_call 13; refine (same_any _ _ _ _ _ (by first | exact td.pp | exact tf.pp | exact td.pq | exact tf.pq) (by first | exact td.pq | exact tf.pq | exact hcp | exact td.pp | exact tf.pp)).mono ?_; rintro e w' ⟨rfl, hb⟩; replace tf := (by first | exact td.below hb | exact tf.below hb); have c1 := tf.x1.cell; have c2 := tf.x2.cell)
      | (go_at_call 16; refine (copy_any _ _ _ (by first | exact tf.pq | exact td.pq) tf.sm).mono ?_; rintro e w' ⟨v', rfl, hcp0, hb⟩; have hcp := hcp0.prg; replace tf := tf.below hb; have c1 := tf.x1.cell; have c2 := tf.x2.cell)
      | (go_at_call 10; refine (awake_any _ tf.tab).mono ?_; rintro e w' ⟨rfl, hb⟩; replace tf := tf.below hb; have c1 := tf.x1.cell; have c2 := tf.x2.cell))
  all_goals (go_wp2_with fail; go_ret; exact ⟨rfl, tf.low⟩)

def sm7P (by_ : Int) : PPrg := ⟨[⟨1, [⟨7, 0⟩, ⟨6, 0⟩]⟩], [⟨[3], 2, wrap64 (-1 + by_), false⟩], [⟨0, 0, [5]⟩], 10⟩
set_option maxHeartbeats 8000000 in
set_option maxRecDepth 100000 in
theorem sm7 (k by_ : Int) (w : World) (ht : Tab w) (hb0 : (by_ == 0) = false) (hr : rnd k 13 = 7) (e1 : eqB oneP (sm7P by_) = false) : Calls Tryd.prog 7 #[.int .i64 k, .int .i64 by_] w fun e w' => e = .returned (.bool true) ∧ Below w.heap.size w w' := by
  have HT : Hid (Tab w) := ht
  have e2 : eqB (sm7P by_) oneP = false := (eqB_sym _ _).trans e1
  have e3 : eqB (sm7P by_) (sm7P by_) = true := eqB_self _
  clear ht
  have g3 := f3
  go_enter Tryd.func7, Tryd.ntmps7
  go_wp2_with fail
  refine (one_at (bRefl w)).mono ?_
  rintro e w1 ⟨v, rfl, hp, hb1⟩
  obtain ⟨A1, A2, A3, a1, a2, a3, hv⟩ := hp.open
  have hv' : v = .agg #[.slice A1 1 a1, .slice A2 1 a2, .slice A3 1 a3, .int .i64 10] := hv
  subst hv'
  clear hv
  have HP : Hid (PrgV w1 (.agg #[.slice A1 1 a1, .slice A2 1 a2, .slice A3 1 a3, .int .i64 10]) oneP) := hp
  clear hp
  go_wp2_with fail
  refine (one_exact _).mono ?_
  rintro e w2 ⟨rfl, rfl⟩
  have T := two_start w1 #[.slice A1 1 a1, .slice A2 1 a2, .slice A3 1 a3, .int .i64 10]
  have B1 : ∀ x y, Below w1.heap.size w1 (((oneW w1).alloc x).alloc y) := fun x y => bAlloc (bAlloc (oneW_below w1) x) y
  have B2 : ∀ x y, Below (oneW w1).heap.size (oneW w1) (((oneW w1).alloc x).alloc y) := fun x y => bAlloc (bAlloc (bRefl _) x) y
  have hsz : (oneW w1).heap.size = w1.heap.size + 1 + 1 + 1 + 1 + 1 + 1 + 1 := by simp [oneW]
  unfold oneV
  go_wp2_with fail
  refine (same_any _ _ _ oneP oneP (HP.out.below (B1 _ _)) (one_reads w1 |>.below (B2 _ _))).mono ?_
  rintro e w2 ⟨rfl, hb2⟩
  have T2 : Hid (Two w1.heap.size #[.slice A1 1 a1, .slice A2 1 a2, .slice A3 1 a3, .int .i64 10] w2) := T.below hb2
  have BB : Below w1.heap.size w1 w2 := bTrans (B1 _ _) hb2
  have HP2 : Hid (PrgV w1 (.agg #[.slice A1 1 a1, .slice A2 1 a2, .slice A3 1 a3, .int .i64 10]) oneP) := HP.out
  clear hb2 T B1 B2 HP
  go_wp2_with fail
  refine (round_any k 13 _ (by decide) (by decide)).mono ?_
  rintro e w3 ⟨rfl, rfl⟩
  clear hsz
  have cC := T2.out.bC
  have cH := T2.out.bH
  have cR := T2.out.bR
  have cA := T2.out.bA
  have cG := T2.out.bG
  have cN := T2.out.bN
  have cP := T2.out.bP
  have cQ := T2.out.bQ
  have fz : ∀ j o, j < 9 → w3.frozen? ⟨w1.heap.size + j, o, none⟩ = false := fun j o h => T2.out.fz _ o (by omega) (by omega)
  have z1 : ∀ o, w3.frozen? ⟨w1.heap.size + 1, o, none⟩ = false := fun o => fz 1 o (by omega)
  have z2 : ∀ o, w3.frozen? ⟨w1.heap.size + 1 + 1, o, none⟩ = false := fun o => fz 2 o (by omega)
  have z3 : ∀ o, w3.frozen? ⟨w1.heap.size + 1 + 1 + 1, o, none⟩ = false := fun o => fz 3 o (by omega)
  have z4 : ∀ o, w3.frozen? ⟨w1.heap.size + 1 + 1 + 1 + 1, o, none⟩ = false := fun o => fz 4 o (by omega)
  have z5 : ∀ o, w3.frozen? ⟨w1.heap.size + 1 + 1 + 1 + 1 + 1, o, none⟩ = false := fun o => fz 5 o (by omega)
  have z6 : ∀ o, w3.frozen? ⟨w1.heap.size + 1 + 1 + 1 + 1 + 1 + 1, o, none⟩ = false := fun o => fz 6 o (by omega)
  have z8 : ∀ o, w3.frozen? ⟨w1.heap.size + 1 + 1 + 1 + 1 + 1 + 1 + 1 + 1, o, none⟩ = false := fun o => fz 8 o (by omega)
  clear fz
  go_wp2_with fail
  go_region
  go_wp2_with fail
  have hs3 := T2.out.sz
  have tf : TailF w (w3.setCell ⟨w1.heap.size + 1 + 1 + 1 + 1, 2, none⟩ (.int .i64 (wrap64 (-1 + by_)))).drew (w1.heap.size + 1 + 1 + 1 + 1 + 1 + 1 + 1) (w1.heap.size + 1 + 1 + 1 + 1 + 1 + 1 + 1 + 1) #[.slice A1 1 a1, .slice A2 1 a2, .slice A3 1 a3, .int .i64 10] #[.slice (some ⟨w1.heap.size + 1 + 1, 0, none⟩) 1 1, .slice (some ⟨w1.heap.size + 1 + 1 + 1 + 1, 0, none⟩) 1 1, .slice (some ⟨w1.heap.size + 1 + 1 + 1 + 1 + 1 + 1, 0, none⟩) 1 1, .int .i64 10] (sm7P by_) := by
    have BW : Below w1.heap.size w1 (w3.setCell ⟨w1.heap.size + 1 + 1 + 1 + 1, 2, none⟩ (.int .i64 (wrap64 (-1 + by_)))).drew := Below.drew (Below.setCell BB (by simp; omega) _)
    refine ⟨bTrans hb1 BW, HT.out.below (bTrans hb1 BW), ⟨by simp [World.setCell]; omega, fun o => ?_⟩, ⟨by simp [World.setCell]; omega, fun o => ?_⟩, HP2.out.below BW, ?_, small_sm _ rfl rfl rfl (by simp [sm7P]) (by simp [sm7P]) (by simp [sm7P])⟩
    · simp [cell_set, cP]
    · simp [cell_set, cQ]
    · clear HT e1 e2 e3 g3 HP2 BW BB hb1 T2 cP
      have hz : ∀ j, j < 9 → w1.heap.size + j < (w3.setCell ⟨w1.heap.size + 1 + 1 + 1 + 1, 2, none⟩ (.int .i64 (wrap64 (-1 + by_)))).heap.size := fun j hj => by simp [World.setCell]; omega
      have hz1 := hz 1 (by omega)
      have hz2 := hz 2 (by omega)
      have hz3 := hz 3 (by omega)
      have hz4 := hz 4 (by omega)
      have hz5 := hz 5 (by omega)
      have hz6 := hz 6 (by omega)
      show PrgV (w3.setCell _ _).drew _ _
      apply mk1 (cC := 2) (cR := 1) (cG := 1) (bH := w1.heap.size + 1 + 1) (bC := w1.heap.size + 1) (bA := w1.heap.size + 1 + 1 + 1 + 1) (bR := w1.heap.size + 1 + 1 + 1) (bN := w1.heap.size + 1 + 1 + 1 + 1 + 1 + 1) (bG := w1.heap.size + 1 + 1 + 1 + 1 + 1)
      all_goals first
        | assumption
        | (simp [cell_set, *]; done)
        | (simp [cell_set, *]; omega)
        | (simp [cell_set, *]; intro h; omega)
  have td := tf.drew
  generalize (w3.setCell ⟨w1.heap.size + 1 + 1 + 1 + 1, 2, none⟩ (.int .i64 (wrap64 (-1 + by_)))).drew = wz at *
  clear cC cH cR cA cG cN cP cQ z1 z2 z3 z4 z5 z6 z8 T2 HP2 BB hr hs3
  have c1 := tf.x1.cell
  have c2 := tf.x2.cell
  go_region_held3 (fun w' => w'.cell? ⟨w1.heap.size + 1 + 1 + 1 + 1 + 1 + 1 + 1, 0, none⟩ = some (.slice A1 1 a1) ∧ w'.cell? ⟨w1.heap.size + 1 + 1 + 1 + 1 + 1 + 1 + 1, 1, none⟩ = some (.slice A2 1 a2) ∧ w'.cell? ⟨w1.heap.size + 1 + 1 + 1 + 1 + 1 + 1 + 1, 2, none⟩ = some (.slice A3 1 a3) ∧ w'.cell? ⟨w1.heap.size + 1 + 1 + 1 + 1 + 1 + 1 + 1, 3, none⟩ = some (.int .i64 10) ∧ w'.cell? ⟨w1.heap.size + 1 + 1 + 1 + 1 + 1 + 1 + 1 + 1, 0, none⟩ = some (.slice (some ⟨w1.heap.size + 1 + 1, 0, none⟩) 1 1) ∧ w'.cell? ⟨w1.heap.size + 1 + 1 + 1 + 1 + 1 + 1 + 1 + 1, 1, none⟩ = some (.slice (some ⟨w1.heap.size + 1 + 1 + 1 + 1, 0, none⟩) 1 1) ∧ w'.cell? ⟨w1.heap.size + 1 + 1 + 1 + 1 + 1 + 1 + 1 + 1, 2, none⟩ = some (.slice (some ⟨w1.heap.size + 1 + 1 + 1 + 1 + 1 + 1, 0, none⟩) 1 1) ∧ w'.cell? ⟨w1.heap.size + 1 + 1 + 1 + 1 + 1 + 1 + 1 + 1, 3, none⟩ = some (.int .i64 10)) (go_keep)
    (first
      | (go_at_call 13; refine (same_any _ _ _ _ _ (by first | exact td.pp | exact tf.pp | exact td.pq | exact tf.pq) (by first | exact td.pq | exact tf.pq | exact hcp | exact td.pp | exact tf.pp)).mono ?_; rintro e w' ⟨rfl, hb⟩; replace tf := (by first | exact td.below hb | exact tf.below hb); have c1 := tf.x1.cell; have c2 := tf.x2.cell)
      | (go_at_call 16; refine (copy_any _ _ _ (by first | exact tf.pq | exact td.pq) tf.sm).mono ?_; rintro e w' ⟨v', rfl, hcp0, hb⟩; have hcp := hcp0.prg; replace tf := tf.below hb; have c1 := tf.x1.cell; have c2 := tf.x2.cell)
      | (go_at_call 10; refine (awake_any _ tf.tab).mono ?_; rintro e w' ⟨rfl, hb⟩; replace tf := tf.below hb; have c1 := tf.x1.cell; have c2 := tf.x2.cell))
  all_goals (go_wp2_with fail; go_ret; exact ⟨rfl, tf.low⟩)

end Go.Proofs.YtlpeiiejkpkpjaaDoor
