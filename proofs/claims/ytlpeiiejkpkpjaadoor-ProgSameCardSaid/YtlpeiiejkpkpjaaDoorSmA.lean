/-
  What ProgSame answers of any two numbers (the cases 0, 1, 2, 3): true; and nothing old has turned. Condition: the table of the instructions is in the world.
-/
import Derived.Test.YtlpeiiejkpkpjaaDoorTail
import Derived.Deep.RegionHeld3
import Derived.Deep.DrawnRows
namespace Go.Proofs.YtlpeiiejkpkpjaaDoor
open Go.RowKit
attribute [local go_sem ↓] Go.wp_at_zero Go.wp_at_succ

def sm0P (by_ : Int) : PPrg := ⟨[⟨1, [⟨7, 0⟩, ⟨6, 0⟩]⟩], [⟨[3], 2, -1, false⟩], [⟨0, 0, [5]⟩], wrap64 (10 + by_)⟩
set_option maxHeartbeats 8000000 in
set_option maxRecDepth 100000 in
theorem sm0 (k by_ : Int) (w : World) (ht : Tab w) (hb0 : (by_ == 0) = false) (hr : rnd k 13 = 0) (e1 : eqB oneP (sm0P by_) = false) : Calls Tryd.prog 7 #[.int .i64 k, .int .i64 by_] w fun e w' => e = .returned (.bool true) ∧ Below w.heap.size w w' := by
  have HT : Hid (Tab w) := ht
  have e2 : eqB (sm0P by_) oneP = false := (eqB_sym _ _).trans e1
  have e3 : eqB (sm0P by_) (sm0P by_) = true := eqB_self _
  clear ht
  have g3 := f3
  go_enter Tryd.func7, Tryd.ntmps7
  go_wp2_with fail
  refine (one_at (bRefl w)).mono ?_
  rintro e w1 ⟨v, rfl, hp, hb1⟩
  obtain ⟨A1, A2, A3, a1, a2, a3, hv⟩ := hp.open
  have hv' : v = .agg #[.slice A1 1 a1, .slice A2 1 a2, .slice A3 1 a3, .int .i64 10] := hv
  subst hv'
  clear hv
  have HP : Hid (PrgV w1 (.agg #[.slice A1 1 a1, .slice A2 1 a2, .slice A3 1 a3, .int .i64 10]) oneP) := hp
  clear hp
  go_wp2_with fail
  refine (one_exact _).mono ?_
  rintro e w2 ⟨rfl, rfl⟩
  have T := two_start w1 #[.slice A1 1 a1, .slice A2 1 a2, .slice A3 1 a3, .int .i64 10]
  have B1 : ∀ x y, Below w1.heap.size w1 (((oneW w1).alloc x).alloc y) := fun x y => bAlloc (bAlloc (oneW_below w1) x) y
  have B2 : ∀ x y, Below (oneW w1).heap.size (oneW w1) (((oneW w1).alloc x).alloc y) := fun x y => bAlloc (bAlloc (bRefl _) x) y
  have hsz : (oneW w1).heap.size = w1.heap.size + 1 + 1 + 1 + 1 + 1 + 1 + 1 := by simp [oneW]
  unfold oneV
  go_wp2_with fail
  refine (same_any _ _ _ oneP oneP (HP.out.below (B1 _ _)) (one_reads w1 |>.below (B2 _ _))).mono ?_
  rintro e w2 ⟨rfl, hb2⟩
  have T2 : Hid (Two w1.heap.size #[.slice A1 1 a1, .slice A2 1 a2, .slice A3 1 a3, .int .i64 10] w2) := T.below hb2
  have BB : Below w1.heap.size w1 w2 := bTrans (B1 _ _) hb2
  have HP2 : Hid (PrgV w1 (.agg #[.slice A1 1 a1, .slice A2 1 a2, .slice A3 1 a3, .int .i64 10]) oneP) := HP.out
  clear hb2 T B1 B2 HP
  go_wp2_with fail
  refine (round_any k 13 _ (by decide) (by decide)).mono ?_
  rintro e w3 ⟨rfl, rfl⟩
  clear hsz
  have cC := T2.out.bC
  have cH := T2.out.bH
  have cR := T2.out.bR
  have cA := T2.out.bA
  have cG := T2.out.bG
  have cN := T2.out.bN
  have cP := T2.out.bP
  have cQ := T2.out.bQ
  have fz : ∀ j o, j < 9 → w3.frozen? ⟨w1.heap.size + j, o, none⟩ = false := fun j o h => T2.out.fz _ o (by omega) (by omega)
  have z1 : ∀ o, w3.frozen? ⟨w1.heap.size + 1, o, none⟩ = false := fun o => fz 1 o (by omega)
  have z2 : ∀ o, w3.frozen? ⟨w1.heap.size + 1 + 1, o, none⟩ = false := fun o => fz 2 o (by omega)
  have z3 : ∀ o, w3.frozen? ⟨w1.heap.size + 1 + 1 + 1, o, none⟩ = false := fun o => fz 3 o (by omega)
  have z4 : ∀ o, w3.frozen? ⟨w1.heap.size + 1 + 1 + 1 + 1, o, none⟩ = false := fun o => fz 4 o (by omega)
  have z5 : ∀ o, w3.frozen? ⟨w1.heap.size + 1 + 1 + 1 + 1 + 1, o, none⟩ = false := fun o => fz 5 o (by omega)
  have z6 : ∀ o, w3.frozen? ⟨w1.heap.size + 1 + 1 + 1 + 1 + 1 + 1, o, none⟩ = false := fun o => fz 6 o (by omega)
  have z8 : ∀ o, w3.frozen? ⟨w1.heap.size + 1 + 1 + 1 + 1 + 1 + 1 + 1 + 1, o, none⟩ = false := fun o => fz 8 o (by omega)
  clear fz
  go_wp2_with fail
  go_wp2_with fail
  have hs3 := T2.out.sz
  have tf : TailF w (w3.setCell ⟨w1.heap.size + 1 + 1 + 1 + 1 + 1 + 1 + 1 + 1, 3, none⟩ (.int .i64 (wrap64 (10 + by_)))) (w1.heap.size + 1 + 1 + 1 + 1 + 1 + 1 + 1) (w1.heap.size + 1 + 1 + 1 + 1 + 1 + 1 + 1 + 1) #[.slice A1 1 a1, .slice A2 1 a2, .slice A3 1 a3, .int .i64 10] #[.slice (some ⟨w1.heap.size + 1 + 1, 0, none⟩) 1 1, .slice (some ⟨w1.heap.size + 1 + 1 + 1 + 1, 0, none⟩) 1 1, .slice (some ⟨w1.heap.size + 1 + 1 + 1 + 1 + 1 + 1, 0, none⟩) 1 1, .int .i64 (wrap64 (10 + by_))] (sm0P by_) := by
    have BW : Below w1.heap.size w1 (w3.setCell ⟨w1.heap.size + 1 + 1 + 1 + 1 + 1 + 1 + 1 + 1, 3, none⟩ (.int .i64 (wrap64 (10 + by_)))) := Below.setCell BB (by first | (simp; done) | (simp; omega)) _
    refine ⟨bTrans hb1 BW, HT.out.below (bTrans hb1 BW), ⟨by simp [World.setCell]; omega, fun o => ?_⟩, ⟨by simp [World.setCell]; omega, fun o => ?_⟩, HP2.out.below BW, ?_, small_sm _ rfl rfl rfl (by simp [sm0P]) (by simp [sm0P]) (by simp [sm0P])⟩
    · simp [cell_set, cP]
    · by_cases ho : o = 3
      · subst ho
        simp [cell_set, cQ]
      · rw [cell_set, if_neg (by omega), cQ]
        exact q_other ho
    · clear HT e1 e2 e3 g3 HP2 BW BB hb1 T2 cP
      have hz : ∀ j, j < 9 → w1.heap.size + j < (w3.setCell ⟨w1.heap.size + 1 + 1 + 1 + 1 + 1 + 1 + 1 + 1, 3, none⟩ (.int .i64 (wrap64 (10 + by_)))).heap.size := fun j hj => by simp [World.setCell]; omega
      have hz1 := hz 1 (by omega)
      have hz2 := hz 2 (by omega)
      have hz3 := hz 3 (by omega)
      have hz4 := hz 4 (by omega)
      have hz5 := hz 5 (by omega)
      have hz6 := hz 6 (by omega)
      skip
      apply mk1 (cC := 2) (cR := 1) (cG := 1) (bH := w1.heap.size + 1 + 1) (bC := w1.heap.size + 1) (bA := w1.heap.size + 1 + 1 + 1 + 1) (bR := w1.heap.size + 1 + 1 + 1) (bN := w1.heap.size + 1 + 1 + 1 + 1 + 1 + 1) (bG := w1.heap.size + 1 + 1 + 1 + 1 + 1)
      all_goals first
        | assumption
        | (simp [cell_set, *]; done)
        | (simp [cell_set, *]; omega)
        | (simp [cell_set, *]; intro h; omega)
  have td := tf.drew
  generalize (w3.setCell ⟨w1.heap.size + 1 + 1 + 1 + 1 + 1 + 1 + 1 + 1, 3, none⟩ (.int .i64 (wrap64 (10 + by_)))) = wz at *
  clear cC cH cR cA cG cN cP cQ z1 z2 z3 z4 z5 z6 z8 T2 HP2 BB hr hs3
  have c1 := tf.x1.cell
  have c2 := tf.x2.cell
  go_region_held3 (fun w' => w'.cell? ⟨w1.heap.size + 1 + 1 + 1 + 1 + 1 + 1 + 1, 0, none⟩ = some (.slice A1 1 a1) ∧ w'.cell? ⟨w1.heap.size + 1 + 1 + 1 + 1 + 1 + 1 + 1, 1, none⟩ = some (.slice A2 1 a2) ∧ w'.cell? ⟨w1.heap.size + 1 + 1 + 1 + 1 + 1 + 1 + 1, 2, none⟩ = some (.slice A3 1 a3) ∧ w'.cell? ⟨w1.heap.size + 1 + 1 + 1 + 1 + 1 + 1 + 1, 3, none⟩ = some (.int .i64 10) ∧ w'.cell? ⟨w1.heap.size + 1 + 1 + 1 + 1 + 1 + 1 + 1 + 1, 0, none⟩ = some (.slice (some ⟨w1.heap.size + 1 + 1, 0, none⟩) 1 1) ∧ w'.cell? ⟨w1.heap.size + 1 + 1 + 1 + 1 + 1 + 1 + 1 + 1, 1, none⟩ = some (.slice (some ⟨w1.heap.size + 1 + 1 + 1 + 1, 0, none⟩) 1 1) ∧ w'.cell? ⟨w1.heap.size + 1 + 1 + 1 + 1 + 1 + 1 + 1 + 1, 2, none⟩ = some (.slice (some ⟨w1.heap.size + 1 + 1 + 1 + 1 + 1 + 1, 0, none⟩) 1 1) ∧ w'.cell? ⟨w1.heap.size + 1 + 1 + 1 + 1 + 1 + 1 + 1 + 1, 3, none⟩ = some (.int .i64 (wrap64 (10 + by_)))) (go_keep)
    (first
      | (go_at_call 13; refine (same_any _ _ _ _ _ (by first | exact td.pp | exact tf.pp | exact td.pq | exact tf.pq) (by first | exact td.pq | exact tf.pq | exact hcp | exact td.pp | exact tf.pp)).mono ?_; rintro e w' ⟨rfl, hb⟩; replace tf := (by first | exact td.below hb | exact tf.below hb); have c1 := tf.x1.cell; have c2 := tf.x2.cell)
      | (go_at_call 16; refine (copy_any _ _ _ (by first | exact tf.pq | exact td.pq) tf.sm).mono ?_; rintro e w' ⟨v', rfl, hcp0, hb⟩; have hcp := hcp0.prg; replace tf := tf.below hb; have c1 := tf.x1.cell; have c2 := tf.x2.cell)
      | (go_at_call 10; refine (awake_any _ tf.tab).mono ?_; rintro e w' ⟨rfl, hb⟩; replace tf := tf.below hb; have c1 := tf.x1.cell; have c2 := tf.x2.cell))
  all_goals (go_wp2_with fail; go_ret; exact ⟨rfl, tf.low⟩)

def sm1P (by_ : Int) : PPrg := ⟨[⟨wrap64 (1 + by_), [⟨7, 0⟩, ⟨6, 0⟩]⟩], [⟨[3], 2, -1, false⟩], [⟨0, 0, [5]⟩], 10⟩
set_option maxHeartbeats 8000000 in
set_option maxRecDepth 100000 in
theorem sm1 (k by_ : Int) (w : World) (ht : Tab w) (hb0 : (by_ == 0) = false) (hr : rnd k 13 = 1) (e1 : eqB oneP (sm1P by_) = false) : Calls Tryd.prog 7 #[.int .i64 k, .int .i64 by_] w fun e w' => e = .returned (.bool true) ∧ Below w.heap.size w w' := by
  have HT : Hid (Tab w) := ht
  have e2 : eqB (sm1P by_) oneP = false := (eqB_sym _ _).trans e1
  have e3 : eqB (sm1P by_) (sm1P by_) = true := eqB_self _
  clear ht
  have g3 := f3
  go_enter Tryd.func7, Tryd.ntmps7
  go_wp2_with fail
  refine (one_at (bRefl w)).mono ?_
  rintro e w1 ⟨v, rfl, hp, hb1⟩
  obtain ⟨A1, A2, A3, a1, a2, a3, hv⟩ := hp.open
  have hv' : v = .agg #[.slice A1 1 a1, .slice A2 1 a2, .slice A3 1 a3, .int .i64 10] := hv
  subst hv'
  clear hv
  have HP : Hid (PrgV w1 (.agg #[.slice A1 1 a1, .slice A2 1 a2, .slice A3 1 a3, .int .i64 10]) oneP) := hp
  clear hp
  go_wp2_with fail
  refine (one_exact _).mono ?_
  rintro e w2 ⟨rfl, rfl⟩
  have T := two_start w1 #[.slice A1 1 a1, .slice A2 1 a2, .slice A3 1 a3, .int .i64 10]
  have B1 : ∀ x y, Below w1.heap.size w1 (((oneW w1).alloc x).alloc y) := fun x y => bAlloc (bAlloc (oneW_below w1) x) y
  have B2 : ∀ x y, Below (oneW w1).heap.size (oneW w1) (((oneW w1).alloc x).alloc y) := fun x y => bAlloc (bAlloc (bRefl _) x) y
  have hsz : (oneW w1).heap.size = w1.heap.size + 1 + 1 + 1 + 1 + 1 + 1 + 1 := by simp [oneW]
  unfold oneV
  go_wp2_with fail
  refine (same_any _ _ _ oneP oneP (HP.out.below (B1 _ _)) (one_reads w1 |>.below (B2 _ _))).mono ?_
  rintro e w2 ⟨rfl, hb2⟩
  have T2 : Hid (Two w1.heap.size #[.slice A1 1 a1, .slice A2 1 a2, .slice A3 1 a3, .int .i64 10] w2) := T.below hb2
  have BB : Below w1.heap.size w1 w2 := bTrans (B1 _ _) hb2
  have HP2 : Hid (PrgV w1 (.agg #[.slice A1 1 a1, .slice A2 1 a2, .slice A3 1 a3, .int .i64 10]) oneP) := HP.out
  clear hb2 T B1 B2 HP
  go_wp2_with fail
  refine (round_any k 13 _ (by decide) (by decide)).mono ?_
  rintro e w3 ⟨rfl, rfl⟩
  clear hsz
  have cC := T2.out.bC
  have cH := T2.out.bH
  have cR := T2.out.bR
  have cA := T2.out.bA
  have cG := T2.out.bG
  have cN := T2.out.bN
  have cP := T2.out.bP
  have cQ := T2.out.bQ
  have fz : ∀ j o, j < 9 → w3.frozen? ⟨w1.heap.size + j, o, none⟩ = false := fun j o h => T2.out.fz _ o (by omega) (by omega)
  have z1 : ∀ o, w3.frozen? ⟨w1.heap.size + 1, o, none⟩ = false := fun o => fz 1 o (by omega)
  have z2 : ∀ o, w3.frozen? ⟨w1.heap.size + 1 + 1, o, none⟩ = false := fun o => fz 2 o (by omega)
  have z3 : ∀ o, w3.frozen? ⟨w1.heap.size + 1 + 1 + 1, o, none⟩ = false := fun o => fz 3 o (by omega)
  have z4 : ∀ o, w3.frozen? ⟨w1.heap.size + 1 + 1 + 1 + 1, o, none⟩ = false := fun o => fz 4 o (by omega)
  have z5 : ∀ o, w3.frozen? ⟨w1.heap.size + 1 + 1 + 1 + 1 + 1, o, none⟩ = false := fun o => fz 5 o (by omega)
  have z6 : ∀ o, w3.frozen? ⟨w1.heap.size + 1 + 1 + 1 + 1 + 1 + 1, o, none⟩ = false := fun o => fz 6 o (by omega)
  have z8 : ∀ o, w3.frozen? ⟨w1.heap.size + 1 + 1 + 1 + 1 + 1 + 1 + 1 + 1, o, none⟩ = false := fun o => fz 8 o (by omega)
  clear fz
  go_wp2_with fail
  go_region
  go_wp2_with fail
  have hs3 := T2.out.sz
  have tf : TailF w (w3.setCell ⟨w1.heap.size + 1 + 1, 0, none⟩ (.int .i64 (wrap64 (1 + by_)))).drew (w1.heap.size + 1 + 1 + 1 + 1 + 1 + 1 + 1) (w1.heap.size + 1 + 1 + 1 + 1 + 1 + 1 + 1 + 1) #[.slice A1 1 a1, .slice A2 1 a2, .slice A3 1 a3, .int .i64 10] #[.slice (some ⟨w1.heap.size + 1 + 1, 0, none⟩) 1 1, .slice (some ⟨w1.heap.size + 1 + 1 + 1 + 1, 0, none⟩) 1 1, .slice (some ⟨w1.heap.size + 1 + 1 + 1 + 1 + 1 + 1, 0, none⟩) 1 1, .int .i64 10] (sm1P by_) := by
    have BW : Below w1.heap.size w1 (w3.setCell ⟨w1.heap.size + 1 + 1, 0, none⟩ (.int .i64 (wrap64 (1 + by_)))).drew := Below.drew (Below.setCell BB (by first | (simp; done) | (simp; omega)) _)
    refine ⟨bTrans hb1 BW, HT.out.below (bTrans hb1 BW), ⟨by simp [World.setCell]; omega, fun o => ?_⟩, ⟨by simp [World.setCell]; omega, fun o => ?_⟩, HP2.out.below BW, ?_, small_sm _ rfl rfl rfl (by simp [sm1P]) (by simp [sm1P]) (by simp [sm1P])⟩
    · simp [cell_set, cP]
    · simp [cell_set, cQ]
    · clear HT e1 e2 e3 g3 HP2 BW BB hb1 T2 cP
      have hz : ∀ j, j < 9 → w1.heap.size + j < (w3.setCell ⟨w1.heap.size + 1 + 1, 0, none⟩ (.int .i64 (wrap64 (1 + by_)))).heap.size := fun j hj => by simp [World.setCell]; omega
      have hz1 := hz 1 (by omega)
      have hz2 := hz 2 (by omega)
      have hz3 := hz 3 (by omega)
      have hz4 := hz 4 (by omega)
      have hz5 := hz 5 (by omega)
      have hz6 := hz 6 (by omega)
      show PrgV (w3.setCell _ _).drew _ _
      apply mk1 (cC := 2) (cR := 1) (cG := 1) (bH := w1.heap.size + 1 + 1) (bC := w1.heap.size + 1) (bA := w1.heap.size + 1 + 1 + 1 + 1) (bR := w1.heap.size + 1 + 1 + 1) (bN := w1.heap.size + 1 + 1 + 1 + 1 + 1 + 1) (bG := w1.heap.size + 1 + 1 + 1 + 1 + 1)
      all_goals first
        | assumption
        | (simp [cell_set, *]; done)
        | (simp [cell_set, *]; omega)
        | (simp [cell_set, *]; intro h; omega)
  have td := tf.drew
  generalize (w3.setCell ⟨w1.heap.size + 1 + 1, 0, none⟩ (.int .i64 (wrap64 (1 + by_)))).drew = wz at *
  clear cC cH cR cA cG cN cP cQ z1 z2 z3 z4 z5 z6 z8 T2 HP2 BB hr hs3
  have c1 := tf.x1.cell
  have c2 := tf.x2.cell
  go_region_held3 (fun w' => w'.cell? ⟨w1.heap.size + 1 + 1 + 1 + 1 + 1 + 1 + 1, 0, none⟩ = some (.slice A1 1 a1) ∧ w'.cell? ⟨w1.heap.size + 1 + 1 + 1 + 1 + 1 + 1 + 1, 1, none⟩ = some (.slice A2 1 a2) ∧ w'.cell? ⟨w1.heap.size + 1 + 1 + 1 + 1 + 1 + 1 + 1, 2, none⟩ = some (.slice A3 1 a3) ∧ w'.cell? ⟨w1.heap.size + 1 + 1 + 1 + 1 + 1 + 1 + 1, 3, none⟩ = some (.int .i64 10) ∧ w'.cell? ⟨w1.heap.size + 1 + 1 + 1 + 1 + 1 + 1 + 1 + 1, 0, none⟩ = some (.slice (some ⟨w1.heap.size + 1 + 1, 0, none⟩) 1 1) ∧ w'.cell? ⟨w1.heap.size + 1 + 1 + 1 + 1 + 1 + 1 + 1 + 1, 1, none⟩ = some (.slice (some ⟨w1.heap.size + 1 + 1 + 1 + 1, 0, none⟩) 1 1) ∧ w'.cell? ⟨w1.heap.size + 1 + 1 + 1 + 1 + 1 + 1 + 1 + 1, 2, none⟩ = some (.slice (some ⟨w1.heap.size + 1 + 1 + 1 + 1 + 1 + 1, 0, none⟩) 1 1) ∧ w'.cell? ⟨w1.heap.size + 1 + 1 + 1 + 1 + 1 + 1 + 1 + 1, 3, none⟩ = some (.int .i64 10)) (go_keep)
    (first
      | (go_at_call 13; refine (same_any _ _ _ _ _ (by first | exact td.pp | exact tf.pp | exact td.pq | exact tf.pq) (by first | exact td.pq | exact tf.pq | exact hcp | exact td.pp | exact tf.pp)).mono ?_; rintro e w' ⟨rfl, hb⟩; replace tf := (by first | exact td.below hb | exact tf.below hb); have c1 := tf.x1.cell; have c2 := tf.x2.cell)
      | (go_at_call 16; refine (copy_any _ _ _ (by first | exact tf.pq | exact td.pq) tf.sm).mono ?_; rintro e w' ⟨v', rfl, hcp0, hb⟩; have hcp := hcp0.prg; replace tf := tf.below hb; have c1 := tf.x1.cell; have c2 := tf.x2.cell)
      | (go_at_call 10; refine (awake_any _ tf.tab).mono ?_; rintro e w' ⟨rfl, hb⟩; replace tf := tf.below hb; have c1 := tf.x1.cell; have c2 := tf.x2.cell))
  all_goals (go_wp2_with fail; go_ret; exact ⟨rfl, tf.low⟩)

def sm2P (by_ : Int) : PPrg := ⟨[⟨1, [⟨wrap64 (7 + by_), 0⟩, ⟨6, 0⟩]⟩], [⟨[3], 2, -1, false⟩], [⟨0, 0, [5]⟩], 10⟩
set_option maxHeartbeats 8000000 in
set_option maxRecDepth 100000 in
theorem sm2 (k by_ : Int) (w : World) (ht : Tab w) (hb0 : (by_ == 0) = false) (hr : rnd k 13 = 2) (e1 : eqB oneP (sm2P by_) = false) : Calls Tryd.prog 7 #[.int .i64 k, .int .i64 by_] w fun e w' => e = .returned (.bool true) ∧ Below w.heap.size w w' := by
  have HT : Hid (Tab w) := ht
  have e2 : eqB (sm2P by_) oneP = false := (eqB_sym _ _).trans e1
  have e3 : eqB (sm2P by_) (sm2P by_) = true := eqB_self _
  clear ht
  have g3 := f3
  go_enter Tryd.func7, Tryd.ntmps7
  go_wp2_with fail
  refine (one_at (bRefl w)).mono ?_
  rintro e w1 ⟨v, rfl, hp, hb1⟩
  obtain ⟨A1, A2, A3, a1, a2, a3, hv⟩ := hp.open
  have hv' : v = .agg #[.slice A1 1 a1, .slice A2 1 a2, .slice A3 1 a3, .int .i64 10] := hv
  subst hv'
  clear hv
  have HP : Hid (PrgV w1 (.agg #[.slice A1 1 a1, .slice A2 1 a2, .slice A3 1 a3, .int .i64 10]) oneP) := hp
  clear hp
  go_wp2_with fail
  refine (one_exact _).mono ?_
  rintro e w2 ⟨rfl, rfl⟩
  have T := two_start w1 #[.slice A1 1 a1, .slice A2 1 a2, .slice A3 1 a3, .int .i64 10]
  have B1 : ∀ x y, Below w1.heap.size w1 (((oneW w1).alloc x).alloc y) := fun x y => bAlloc (bAlloc (oneW_below w1) x) y
  have B2 : ∀ x y, Below (oneW w1).heap.size (oneW w1) (((oneW w1).alloc x).alloc y) := fun x y => bAlloc (bAlloc (bRefl _) x) y
  have hsz : (oneW w1).heap.size = w1.heap.size + 1 + 1 + 1 + 1 + 1 + 1 + 1 := by simp [oneW]
  unfold oneV
  go_wp2_with fail
  refine (same_any _ _ _ oneP oneP (HP.out.below (B1 _ _)) (one_reads w1 |>.below (B2 _ _))).mono ?_
  rintro e w2 ⟨rfl, hb2⟩
  have T2 : Hid (Two w1.heap.size #[.slice A1 1 a1, .slice A2 1 a2, .slice A3 1 a3, .int .i64 10] w2) := T.below hb2
  have BB : Below w1.heap.size w1 w2 := bTrans (B1 _ _) hb2
  have HP2 : Hid (PrgV w1 (.agg #[.slice A1 1 a1, .slice A2 1 a2, .slice A3 1 a3, .int .i64 10]) oneP) := HP.out
  clear hb2 T B1 B2 HP
  go_wp2_with fail
  refine (round_any k 13 _ (by decide) (by decide)).mono ?_
  rintro e w3 ⟨rfl, rfl⟩
  clear hsz
  have cC := T2.out.bC
  have cH := T2.out.bH
  have cR := T2.out.bR
  have cA := T2.out.bA
  have cG := T2.out.bG
  have cN := T2.out.bN
  have cP := T2.out.bP
  have cQ := T2.out.bQ
  have fz : ∀ j o, j < 9 → w3.frozen? ⟨w1.heap.size + j, o, none⟩ = false := fun j o h => T2.out.fz _ o (by omega) (by omega)
  have z1 : ∀ o, w3.frozen? ⟨w1.heap.size + 1, o, none⟩ = false := fun o => fz 1 o (by omega)
  have z2 : ∀ o, w3.frozen? ⟨w1.heap.size + 1 + 1, o, none⟩ = false := fun o => fz 2 o (by omega)
  have z3 : ∀ o, w3.frozen? ⟨w1.heap.size + 1 + 1 + 1, o, none⟩ = false := fun o => fz 3 o (by omega)
  have z4 : ∀ o, w3.frozen? ⟨w1.heap.size + 1 + 1 + 1 + 1, o, none⟩ = false := fun o => fz 4 o (by omega)
  have z5 : ∀ o, w3.frozen? ⟨w1.heap.size + 1 + 1 + 1 + 1 + 1, o, none⟩ = false := fun o => fz 5 o (by omega)
  have z6 : ∀ o, w3.frozen? ⟨w1.heap.size + 1 + 1 + 1 + 1 + 1 + 1, o, none⟩ = false := fun o => fz 6 o (by omega)
  have z8 : ∀ o, w3.frozen? ⟨w1.heap.size + 1 + 1 + 1 + 1 + 1 + 1 + 1 + 1, o, none⟩ = false := fun o => fz 8 o (by omega)
  clear fz
  go_wp2_with fail
  go_region
  go_wp2_with fail
  have hs3 := T2.out.sz
  have tf : TailF w (w3.setCell ⟨w1.heap.size + 1, 0, none⟩ (.int .i64 (wrap64 (7 + by_)))).drew (w1.heap.size + 1 + 1 + 1 + 1 + 1 + 1 + 1) (w1.heap.size + 1 + 1 + 1 + 1 + 1 + 1 + 1 + 1) #[.slice A1 1 a1, .slice A2 1 a2, .slice A3 1 a3, .int .i64 10] #[.slice (some ⟨w1.heap.size + 1 + 1, 0, none⟩) 1 1, .slice (some ⟨w1.heap.size + 1 + 1 + 1 + 1, 0, none⟩) 1 1, .slice (some ⟨w1.heap.size + 1 + 1 + 1 + 1 + 1 + 1, 0, none⟩) 1 1, .int .i64 10] (sm2P by_) := by
    have BW : Below w1.heap.size w1 (w3.setCell ⟨w1.heap.size + 1, 0, none⟩ (.int .i64 (wrap64 (7 + by_)))).drew := Below.drew (Below.setCell BB (by first | (simp; done) | (simp; omega)) _)
    refine ⟨bTrans hb1 BW, HT.out.below (bTrans hb1 BW), ⟨by simp [World.setCell]; omega, fun o => ?_⟩, ⟨by simp [World.setCell]; omega, fun o => ?_⟩, HP2.out.below BW, ?_, small_sm _ rfl rfl rfl (by simp [sm2P]) (by simp [sm2P]) (by simp [sm2P])⟩
    · simp [cell_set, cP]
    · simp [cell_set, cQ]
    · clear HT e1 e2 e3 g3 HP2 BW BB hb1 T2 cP
      have hz : ∀ j, j < 9 → w1.heap.size + j < (w3.setCell ⟨w1.heap.size + 1, 0, none⟩ (.int .i64 (wrap64 (7 + by_)))).heap.size := fun j hj => by simp [World.setCell]; omega
      have hz1 := hz 1 (by omega)
      have hz2 := hz 2 (by omega)
      have hz3 := hz 3 (by omega)
      have hz4 := hz 4 (by omega)
      have hz5 := hz 5 (by omega)
      have hz6 := hz 6 (by omega)
      show PrgV (w3.setCell _ _).drew _ _
      apply mk1 (cC := 2) (cR := 1) (cG := 1) (bH := w1.heap.size + 1 + 1) (bC := w1.heap.size + 1) (bA := w1.heap.size + 1 + 1 + 1 + 1) (bR := w1.heap.size + 1 + 1 + 1) (bN := w1.heap.size + 1 + 1 + 1 + 1 + 1 + 1) (bG := w1.heap.size + 1 + 1 + 1 + 1 + 1)
      all_goals first
        | assumption
        | (simp [cell_set, *]; done)
        | (simp [cell_set, *]; omega)
        | (simp [cell_set, *]; intro h; omega)
  have td := tf.drew
  generalize (w3.setCell ⟨w1.heap.size + 1, 0, none⟩ (.int .i64 (wrap64 (7 + by_)))).drew = wz at *
  clear cC cH cR cA cG cN cP cQ z1 z2 z3 z4 z5 z6 z8 T2 HP2 BB hr hs3
  have c1 := tf.x1.cell
  have c2 := tf.x2.cell
  go_region_held3 (fun w' => w'.cell? ⟨w1.heap.size + 1 + 1 + 1 + 1 + 1 + 1 + 1, 0, none⟩ = some (.slice A1 1 a1) ∧ w'.cell? ⟨w1.heap.size + 1 + 1 + 1 + 1 + 1 + 1 + 1, 1, none⟩ = some (.slice A2 1 a2) ∧ w'.cell? ⟨w1.heap.size + 1 + 1 + 1 + 1 + 1 + 1 + 1, 2, none⟩ = some (.slice A3 1 a3) ∧ w'.cell? ⟨w1.heap.size + 1 + 1 + 1 + 1 + 1 + 1 + 1, 3, none⟩ = some (.int .i64 10) ∧ w'.cell? ⟨w1.heap.size + 1 + 1 + 1 + 1 + 1 + 1 + 1 + 1, 0, none⟩ = some (.slice (some ⟨w1.heap.size + 1 + 1, 0, none⟩) 1 1) ∧ w'.cell? ⟨w1.heap.size + 1 + 1 + 1 + 1 + 1 + 1 + 1 + 1, 1, none⟩ = some (.slice (some ⟨w1.heap.size + 1 + 1 + 1 + 1, 0, none⟩) 1 1) ∧ w'.cell? ⟨w1.heap.size + 1 + 1 + 1 + 1 + 1 + 1 + 1 + 1, 2, none⟩ = some (.slice (some ⟨w1.heap.size + 1 + 1 + 1 + 1 + 1 + 1, 0, none⟩) 1 1) ∧ w'.cell? ⟨w1.heap.size + 1 + 1 + 1 + 1 + 1 + 1 + 1 + 1, 3, none⟩ = some (.int .i64 10)) (go_keep)
    (first
      | (go_at_call 13; refine (same_any _ _ _ _ _ (by first | exact td.pp | exact tf.pp | exact td.pq | exact tf.pq) (by first | exact td.pq | exact tf.pq | exact hcp | exact td.pp | exact tf.pp)).mono ?_; rintro e w' ⟨rfl, hb⟩; replace tf := (by first | exact td.below hb | exact tf.below hb); have c1 := tf.x1.cell; have c2 := tf.x2.cell)
      | (go_at_call 16; refine (copy_any _ _ _ (by first | exact tf.pq | exact td.pq) tf.sm).mono ?_; rintro e w' ⟨v', rfl, hcp0, hb⟩; have hcp := hcp0.prg; replace tf := tf.below hb; have c1 := tf.x1.cell; have c2 := tf.x2.cell)
      | (go_at_call 10; refine (awake_any _ tf.tab).mono ?_; rintro e w' ⟨rfl, hb⟩; replace tf := tf.below hb; have c1 := tf.x1.cell; have c2 := tf.x2.cell))
  all_goals (go_wp2_with fail; go_ret; exact ⟨rfl, tf.low⟩)

def sm3P (by_ : Int) : PPrg := ⟨[⟨1, [⟨7, 0⟩, ⟨6, wrap64 by_⟩]⟩], [⟨[3], 2, -1, false⟩], [⟨0, 0, [5]⟩], 10⟩
set_option maxHeartbeats 8000000 in
set_option maxRecDepth 100000 in
theorem sm3 (k by_ : Int) (w : World) (ht : Tab w) (hb0 : (by_ == 0) = false) (hr : rnd k 13 = 3) (e1 : eqB oneP (sm3P by_) = false) : Calls Tryd.prog 7 #[.int .i64 k, .int .i64 by_] w fun e w' => e = .returned (.bool true) ∧ Below w.heap.size w w' := by
  have HT : Hid (Tab w) := ht
  have e2 : eqB (sm3P by_) oneP = false := (eqB_sym _ _).trans e1
  have e3 : eqB (sm3P by_) (sm3P by_) = true := eqB_self _
  clear ht
  have g3 := f3
  go_enter Tryd.func7, Tryd.ntmps7
  go_wp2_with fail
  refine (one_at (bRefl w)).mono ?_
  rintro e w1 ⟨v, rfl, hp, hb1⟩
  obtain ⟨A1, A2, A3, a1, a2, a3, hv⟩ := hp.open
  have hv' : v = .agg #[.slice A1 1 a1, .slice A2 1 a2, .slice A3 1 a3, .int .i64 10] := hv
  subst hv'
  clear hv
  have HP : Hid (PrgV w1 (.agg #[.slice A1 1 a1, .slice A2 1 a2, .slice A3 1 a3, .int .i64 10]) oneP) := hp
  clear hp
  go_wp2_with fail
  refine (one_exact _).mono ?_
  rintro e w2 ⟨rfl, rfl⟩
  have T := two_start w1 #[.slice A1 1 a1, .slice A2 1 a2, .slice A3 1 a3, .int .i64 10]
  have B1 : ∀ x y, Below w1.heap.size w1 (((oneW w1).alloc x).alloc y) := fun x y => bAlloc (bAlloc (oneW_below w1) x) y
  have B2 : ∀ x y, Below (oneW w1).heap.size (oneW w1) (((oneW w1).alloc x).alloc y) := fun x y => bAlloc (bAlloc (bRefl _) x) y
  have hsz : (oneW w1).heap.size = w1.heap.size + 1 + 1 + 1 + 1 + 1 + 1 + 1 := by simp [oneW]
  unfold oneV
  go_wp2_with fail
  refine (same_any _ _ _ oneP oneP (HP.out.below (B1 _ _)) (one_reads w1 |>.below (B2 _ _))).mono ?_
  rintro e w2 ⟨rfl, hb2⟩
  have T2 : Hid (Two w1.heap.size #[.slice A1 1 a1, .slice A2 1 a2, .slice A3 1 a3, .int .i64 10] w2) := T.below hb2
  have BB : Below w1.heap.size w1 w2 := bTrans (B1 _ _) hb2
  have HP2 : Hid (PrgV w1 (.agg #[.slice A1 1 a1, .slice A2 1 a2, .slice A3 1 a3, .int .i64 10]) oneP) := HP.out
  clear hb2 T B1 B2 HP
  go_wp2_with fail
  refine (round_any k 13 _ (by decide) (by decide)).mono ?_
  rintro e w3 ⟨rfl, rfl⟩
  clear hsz
  have cC := T2.out.bC
  have cH := T2.out.bH
  have cR := T2.out.bR
  have cA := T2.out.bA
  have cG := T2.out.bG
  have cN := T2.out.bN
  have cP := T2.out.bP
  have cQ := T2.out.bQ
  have fz : ∀ j o, j < 9 → w3.frozen? ⟨w1.heap.size + j, o, none⟩ = false := fun j o h => T2.out.fz _ o (by omega) (by omega)
  have z1 : ∀ o, w3.frozen? ⟨w1.heap.size + 1, o, none⟩ = false := fun o => fz 1 o (by omega)
  have z2 : ∀ o, w3.frozen? ⟨w1.heap.size + 1 + 1, o, none⟩ = false := fun o => fz 2 o (by omega)
  have z3 : ∀ o, w3.frozen? ⟨w1.heap.size + 1 + 1 + 1, o, none⟩ = false := fun o => fz 3 o (by omega)
  have z4 : ∀ o, w3.frozen? ⟨w1.heap.size + 1 + 1 + 1 + 1, o, none⟩ = false := fun o => fz 4 o (by omega)
  have z5 : ∀ o, w3.frozen? ⟨w1.heap.size + 1 + 1 + 1 + 1 + 1, o, none⟩ = false := fun o => fz 5 o (by omega)
  have z6 : ∀ o, w3.frozen? ⟨w1.heap.size + 1 + 1 + 1 + 1 + 1 + 1, o, none⟩ = false := fun o => fz 6 o (by omega)
  have z8 : ∀ o, w3.frozen? ⟨w1.heap.size + 1 + 1 + 1 + 1 + 1 + 1 + 1 + 1, o, none⟩ = false := fun o => fz 8 o (by omega)
  clear fz
  go_wp2_with fail
  go_region
  go_wp2_with fail
  have hs3 := T2.out.sz
  have tf : TailF w (w3.setCell ⟨w1.heap.size + 1, 3, none⟩ (.int .i64 (wrap64 by_))).drew (w1.heap.size + 1 + 1 + 1 + 1 + 1 + 1 + 1) (w1.heap.size + 1 + 1 + 1 + 1 + 1 + 1 + 1 + 1) #[.slice A1 1 a1, .slice A2 1 a2, .slice A3 1 a3, .int .i64 10] #[.slice (some ⟨w1.heap.size + 1 + 1, 0, none⟩) 1 1, .slice (some ⟨w1.heap.size + 1 + 1 + 1 + 1, 0, none⟩) 1 1, .slice (some ⟨w1.heap.size + 1 + 1 + 1 + 1 + 1 + 1, 0, none⟩) 1 1, .int .i64 10] (sm3P by_) := by
    have BW : Below w1.heap.size w1 (w3.setCell ⟨w1.heap.size + 1, 3, none⟩ (.int .i64 (wrap64 by_))).drew := Below.drew (Below.setCell BB (by first | (simp; done) | (simp; omega)) _)
    refine ⟨bTrans hb1 BW, HT.out.below (bTrans hb1 BW), ⟨by simp [World.setCell]; omega, fun o => ?_⟩, ⟨by simp [World.setCell]; omega, fun o => ?_⟩, HP2.out.below BW, ?_, small_sm _ rfl rfl rfl (by simp [sm3P]) (by simp [sm3P]) (by simp [sm3P])⟩
    · simp [cell_set, cP]
    · simp [cell_set, cQ]
    · clear HT e1 e2 e3 g3 HP2 BW BB hb1 T2 cP
      have hz : ∀ j, j < 9 → w1.heap.size + j < (w3.setCell ⟨w1.heap.size + 1, 3, none⟩ (.int .i64 (wrap64 by_))).heap.size := fun j hj => by simp [World.setCell]; omega
      have hz1 := hz 1 (by omega)
      have hz2 := hz 2 (by omega)
      have hz3 := hz 3 (by omega)
      have hz4 := hz 4 (by omega)
      have hz5 := hz 5 (by omega)
      have hz6 := hz 6 (by omega)
      show PrgV (w3.setCell _ _).drew _ _
      apply mk1 (cC := 2) (cR := 1) (cG := 1) (bH := w1.heap.size + 1 + 1) (bC := w1.heap.size + 1) (bA := w1.heap.size + 1 + 1 + 1 + 1) (bR := w1.heap.size + 1 + 1 + 1) (bN := w1.heap.size + 1 + 1 + 1 + 1 + 1 + 1) (bG := w1.heap.size + 1 + 1 + 1 + 1 + 1)
      all_goals first
        | assumption
        | (simp [cell_set, *]; done)
        | (simp [cell_set, *]; omega)
        | (simp [cell_set, *]; intro h; omega)
  have td := tf.drew
  generalize (w3.setCell ⟨w1.heap.size + 1, 3, none⟩ (.int .i64 (wrap64 by_))).drew = wz at *
  clear cC cH cR cA cG cN cP cQ z1 z2 z3 z4 z5 z6 z8 T2 HP2 BB hr hs3
  have c1 := tf.x1.cell
  have c2 := tf.x2.cell
  go_region_held3 (fun w' => w'.cell? ⟨w1.heap.size + 1 + 1 + 1 + 1 + 1 + 1 + 1, 0, none⟩ = some (.slice A1 1 a1) ∧ w'.cell? ⟨w1.heap.size + 1 + 1 + 1 + 1 + 1 + 1 + 1, 1, none⟩ = some (.slice A2 1 a2) ∧ w'.cell? ⟨w1.heap.size + 1 + 1 + 1 + 1 + 1 + 1 + 1, 2, none⟩ = some (.slice A3 1 a3) ∧ w'.cell? ⟨w1.heap.size + 1 + 1 + 1 + 1 + 1 + 1 + 1, 3, none⟩ = some (.int .i64 10) ∧ w'.cell? ⟨w1.heap.size + 1 + 1 + 1 + 1 + 1 + 1 + 1 + 1, 0, none⟩ = some (.slice (some ⟨w1.heap.size + 1 + 1, 0, none⟩) 1 1) ∧ w'.cell? ⟨w1.heap.size + 1 + 1 + 1 + 1 + 1 + 1 + 1 + 1, 1, none⟩ = some (.slice (some ⟨w1.heap.size + 1 + 1 + 1 + 1, 0, none⟩) 1 1) ∧ w'.cell? ⟨w1.heap.size + 1 + 1 + 1 + 1 + 1 + 1 + 1 + 1, 2, none⟩ = some (.slice (some ⟨w1.heap.size + 1 + 1 + 1 + 1 + 1 + 1, 0, none⟩) 1 1) ∧ w'.cell? ⟨w1.heap.size + 1 + 1 + 1 + 1 + 1 + 1 + 1 + 1, 3, none⟩ = some (.int .i64 10)) (go_keep)
    (first
      | (go_at_call 13; refine (same_any _ _ _ _ _ (by first | exact td.pp | exact tf.pp | exact td.pq | exact tf.pq) (by first | exact td.pq | exact tf.pq | exact hcp | exact td.pp | exact tf.pp)).mono ?_; rintro e w' ⟨rfl, hb⟩; replace tf := (by first | exact td.below hb | exact tf.below hb); have c1 := tf.x1.cell; have c2 := tf.x2.cell)
      | (go_at_call 16; refine (copy_any _ _ _ (by first | exact tf.pq | exact td.pq) tf.sm).mono ?_; rintro e w' ⟨v', rfl, hcp0, hb⟩; have hcp := hcp0.prg; replace tf := tf.below hb; have c1 := tf.x1.cell; have c2 := tf.x2.cell)
      | (go_at_call 10; refine (awake_any _ tf.tab).mono ?_; rintro e w' ⟨rfl, hb⟩; replace tf := tf.below hb; have c1 := tf.x1.cell; have c2 := tf.x2.cell))
  all_goals (go_wp2_with fail; go_ret; exact ⟨rfl, tf.low⟩)

end Go.Proofs.YtlpeiiejkpkpjaaDoor
