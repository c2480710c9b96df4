/-
  What ProgSame answers of any two numbers (the case 12): true; and nothing old has turned. Condition: the table of the instructions is in the world.
-/
import Derived.Test.YtlpeiiejkpkpjaaDoorTail
import Derived.Deep.RegionHeld3
import Derived.Deep.DrawnRows
namespace Go.Proofs.YtlpeiiejkpkpjaaDoor
open Go.RowKit
attribute [local go_sem ↓] Go.wp_at_zero Go.wp_at_succ

theorem q_other0 {a a' b c d : Value} {o : Nat} (h : ¬ o = 0) : (#[a, b, c, d] : Array Value)[o]? = (#[a', b, c, d] : Array Value)[o]? := by
  match o, h with
  | n + 1, _ => simp
theorem addr_add' (b o j : Nat) : (⟨b, o, none⟩ : Addr).add j = ⟨b, o + j, none⟩ := by
  unfold Addr.add
  by_cases h : j = 0
  · subst h; rfl
  · rw [if_neg h]
theorem app12 (w3 : World) (n : Nat) (cH : ∀ o, w3.cell? ⟨n + 1 + 1, o, none⟩ = (#[.int .i64 1, .slice (some ⟨n + 1, 0, none⟩) 2 2] : Array Value)[o]?) (hn : n + 2 < w3.heap.size) :
    ∃ (cap : Nat) (ys : Array Value), (∀ ty, (Builtin.append_ #[22, 22] ty #[.slice (some ⟨n + 1 + 1, 0, none⟩) 1 1, .slice (some ⟨w3.heap.size, 0, none⟩) 1 1]).run Tryd.prog (w3.alloc (.cells #[.int .i64 0, .slice none 0 0] 31)) =
      .ok (.slice (some ⟨(w3.alloc (.cells #[.int .i64 0, .slice none 0 0] 31)).heap.size, 0, none⟩) 2 cap) ((w3.alloc (.cells #[.int .i64 0, .slice none 0 0] 31)).drew.alloc (.cells ys 31))) ∧
      (∀ o, o < 4 → ys[o]? = (#[.int .i64 1, .slice (some ⟨n + 1, 0, none⟩) 2 2, .int .i64 0, .slice none 0 0] : Array Value)[o]?) := by
  obtain ⟨i, z, hi, hz, hs, hb⟩ := infofreshH
  have hrun := fun ty => run_append_grow (P := Tryd.prog) (w3.alloc (.cells #[.int .i64 0, .slice none 0 0] 31)) 22 ty 31 i z Tryd.underlying22 hi hz ⟨n + 1 + 1, 0, none⟩ 1 1 [.int .i64 1, .slice (some ⟨n + 1, 0, none⟩) 2 2] (by rw [hs]; rfl) (fun j v hj => by
      rw [addr_add']
      have e : (w3.alloc (.cells #[.int .i64 0, .slice none 0 0] 31)).cell? ⟨n + 1 + 1, 0 + j, none⟩ = w3.cell? ⟨n + 1 + 1, j, none⟩ := by
        rw [Nat.zero_add]
        exact World.cell?_alloc_lt _ _ ⟨n + 1 + 1, j, none⟩ (by simp; omega)
      rw [e, cH]
      simpa using hj)
    ⟨w3.heap.size, 0, none⟩ 1 1 [.int .i64 0, .slice none 0 0] (by rw [hs]; rfl) (fun j v hj => by
      rw [addr_add', Nat.zero_add]
      exact (World.cell?_alloc_new w3 _ _ j).trans (by simpa using hj)) (by decide) (by decide) (by rw [hb]; decide)
  refine ⟨_, _, hrun, ?_⟩
  intro o ho
  rw [Array.getElem?_append_left (by simpa using ho)]
  simp
theorem mk2 {W : World} {bH bC bA bR bN bG cH cC cA cR cN cG : Nat} {E : Option Addr} {e : Nat} {fuel args args2 o1 a1 o2 a2 r cap tm tt hd g : Int} {ar : Bool}
    (zH : bH < W.heap.size) (zC : bC < W.heap.size) (zA : bA < W.heap.size) (zR : bR < W.heap.size) (zN : bN < W.heap.size) (zG : bG < W.heap.size)
    (h0 : W.cell? ⟨bH, 0, none⟩ = some (.int .i64 args)) (h1 : W.cell? ⟨bH, 1, none⟩ = some (.slice (some ⟨bC, 0, none⟩) 2 cC)) (h2 : W.cell? ⟨bH, 2, none⟩ = some (.int .i64 args2)) (h3 : W.cell? ⟨bH, 3, none⟩ = some (.slice E 0 e))
    (k0 : W.cell? ⟨bC, 0, none⟩ = some (.int .i64 o1)) (k1 : W.cell? ⟨bC, 1, none⟩ = some (.int .i64 a1)) (k2 : W.cell? ⟨bC, 2, none⟩ = some (.int .i64 o2)) (k3 : W.cell? ⟨bC, 3, none⟩ = some (.int .i64 a2))
    (t0 : W.cell? ⟨bA, 0, none⟩ = some (.slice (some ⟨bR, 0, none⟩) 1 cR)) (t1 : W.cell? ⟨bA, 1, none⟩ = some (.int .i64 cap)) (t2 : W.cell? ⟨bA, 2, none⟩ = some (.int .i64 tm)) (t3 : W.cell? ⟨bA, 3, none⟩ = some (.bool ar))
    (r0 : W.cell? ⟨bR, 0, none⟩ = some (.int .i64 r))
    (n0 : W.cell? ⟨bN, 0, none⟩ = some (.int .i64 tt)) (n1 : W.cell? ⟨bN, 1, none⟩ = some (.int .i64 hd)) (n2 : W.cell? ⟨bN, 2, none⟩ = some (.slice (some ⟨bG, 0, none⟩) 1 cG))
    (g0 : W.cell? ⟨bG, 0, none⟩ = some (.int .i64 g)) :
    PrgV W (.agg #[.slice (some ⟨bH, 0, none⟩) 2 cH, .slice (some ⟨bA, 0, none⟩) 1 cA, .slice (some ⟨bN, 0, none⟩) 1 cN, .int .i64 fuel]) ⟨[⟨args, [⟨o1, a1⟩, ⟨o2, a2⟩]⟩, ⟨args2, []⟩], [⟨[r], cap, tm, ar⟩], [⟨tt, hd, [g]⟩], fuel⟩ :=
  ⟨_, _, _, rfl, sl2 trivial zH ⟨h0, _, h1, sl2 trivial zC ⟨k0, k1⟩ ⟨k2, k3⟩⟩ ⟨by simpa using h2, _, by simpa using h3, sl0⟩, sl1 trivial zA ⟨⟨_, t0, sl1 trivial zR r0⟩, t1, t2, t3⟩, sl1 trivial zN ⟨n0, n1, _, n2, sl1 trivial zG g0⟩⟩

def sm12P (_ : Int) : PPrg := ⟨[⟨1, [⟨7, 0⟩, ⟨6, 0⟩]⟩, ⟨0, []⟩], [⟨[3], 2, -1, false⟩], [⟨0, 0, [5]⟩], 10⟩
set_option maxHeartbeats 8000000 in
set_option maxRecDepth 100000 in
theorem sm12 (k by_ : Int) (w : World) (ht : Tab w) (hb0 : (by_ == 0) = false) (hr : rnd k 13 = 12) (e1 : eqB oneP (sm12P by_) = false) : Calls Tryd.prog 7 #[.int .i64 k, .int .i64 by_] w fun e w' => e = .returned (.bool true) ∧ Below w.heap.size w w' := by
  have HT : Hid (Tab w) := ht
  have e2 : eqB (sm12P by_) oneP = false := (eqB_sym _ _).trans e1
  have e3 : eqB (sm12P by_) (sm12P by_) = true := eqB_self _
  clear ht
  have g3 := f3
  go_enter Tryd.func7, Tryd.ntmps7
  go_wp2_with fail
  refine (one_at (bRefl w)).mono ?_
  rintro e w1 ⟨v, rfl, hp, hb1⟩
  obtain ⟨A1, A2, A3, a1, a2, a3, hv⟩ := hp.open
  have hv' : v = .agg #[.slice A1 1 a1, .slice A2 1 a2, .slice A3 1 a3, .int .i64 10] := hv
  subst hv'
  clear hv
  have HP : Hid (PrgV w1 (.agg #[.slice A1 1 a1, .slice A2 1 a2, .slice A3 1 a3, .int .i64 10]) oneP) := hp
  clear hp
  go_wp2_with fail
  refine (one_exact _).mono ?_
  rintro e w2 ⟨rfl, rfl⟩
  have T := two_start w1 #[.slice A1 1 a1, .slice A2 1 a2, .slice A3 1 a3, .int .i64 10]
  have B1 : ∀ x y, Below w1.heap.size w1 (((oneW w1).alloc x).alloc y) := fun x y => bAlloc (bAlloc (oneW_below w1) x) y
  have B2 : ∀ x y, Below (oneW w1).heap.size (oneW w1) (((oneW w1).alloc x).alloc y) := fun x y => bAlloc (bAlloc (bRefl _) x) y
  have hsz : (oneW w1).heap.size = w1.heap.size + 1 + 1 + 1 + 1 + 1 + 1 + 1 := by simp [oneW]
  unfold oneV
  go_wp2_with fail
  refine (same_any _ _ _ oneP oneP (HP.out.below (B1 _ _)) (one_reads w1 |>.below (B2 _ _))).mono ?_
  rintro e w2 ⟨rfl, hb2⟩
  have T2 : Hid (Two w1.heap.size #[.slice A1 1 a1, .slice A2 1 a2, .slice A3 1 a3, .int .i64 10] w2) := T.below hb2
  have BB : Below w1.heap.size w1 w2 := bTrans (B1 _ _) hb2
  have HP2 : Hid (PrgV w1 (.agg #[.slice A1 1 a1, .slice A2 1 a2, .slice A3 1 a3, .int .i64 10]) oneP) := HP.out
  clear hb2 T B1 B2 HP
  go_wp2_with fail
  refine (round_any k 13 _ (by decide) (by decide)).mono ?_
  rintro e w3 ⟨rfl, rfl⟩
  clear hsz
  have cC := T2.out.bC
  have cH := T2.out.bH
  have cR := T2.out.bR
  have cA := T2.out.bA
  have cG := T2.out.bG
  have cN := T2.out.bN
  have cP := T2.out.bP
  have cQ := T2.out.bQ
  have fz : ∀ j o, j < 9 → w3.frozen? ⟨w1.heap.size + j, o, none⟩ = false := fun j o h => T2.out.fz _ o (by omega) (by omega)
  have z1 : ∀ o, w3.frozen? ⟨w1.heap.size + 1, o, none⟩ = false := fun o => fz 1 o (by omega)
  have z2 : ∀ o, w3.frozen? ⟨w1.heap.size + 1 + 1, o, none⟩ = false := fun o => fz 2 o (by omega)
  have z3 : ∀ o, w3.frozen? ⟨w1.heap.size + 1 + 1 + 1, o, none⟩ = false := fun o => fz 3 o (by omega)
  have z4 : ∀ o, w3.frozen? ⟨w1.heap.size + 1 + 1 + 1 + 1, o, none⟩ = false := fun o => fz 4 o (by omega)
  have z5 : ∀ o, w3.frozen? ⟨w1.heap.size + 1 + 1 + 1 + 1 + 1, o, none⟩ = false := fun o => fz 5 o (by omega)
  have z6 : ∀ o, w3.frozen? ⟨w1.heap.size + 1 + 1 + 1 + 1 + 1 + 1, o, none⟩ = false := fun o => fz 6 o (by omega)
  have z8 : ∀ o, w3.frozen? ⟨w1.heap.size + 1 + 1 + 1 + 1 + 1 + 1 + 1 + 1, o, none⟩ = false := fun o => fz 8 o (by omega)
  clear fz
  have y1 : w1.heap.size + 1 + 1 + 1 + 1 + 1 + 1 + 1 + 1 < w3.heap.size := by have := T2.out.sz; omega
  have y2 : w1.heap.size + 1 + 1 + 1 + 1 + 1 + 1 + 1 + 1 < w3.heap.size + 1 := by omega
  obtain ⟨cap, ys, HR, HY⟩ := app12 w3 w1.heap.size cH (by have := T2.out.sz; omega)
  go_wp2_with (at_builtin; refine wpList_append_run rfl _ _ 22 rfl _ _ _ _ rfl rfl HR ?_)
  have hs3 := T2.out.sz
  have ss : (w3.setCell ⟨w1.heap.size + 1 + 1 + 1 + 1 + 1 + 1 + 1 + 1, 0, none⟩ (.slice (some ⟨w3.heap.size + 1, 0, none⟩) 2 cap)).heap.size = w3.heap.size := by simp [World.setCell]
  have SB : Below (w3.setCell ⟨w1.heap.size + 1 + 1 + 1 + 1 + 1 + 1 + 1 + 1, 0, none⟩ (.slice (some ⟨w3.heap.size + 1, 0, none⟩) 2 cap)).heap.size (w3.setCell ⟨w1.heap.size + 1 + 1 + 1 + 1 + 1 + 1 + 1 + 1, 0, none⟩ (.slice (some ⟨w3.heap.size + 1, 0, none⟩) 2 cap)) ((((w3.setCell ⟨w1.heap.size + 1 + 1 + 1 + 1 + 1 + 1 + 1 + 1, 0, none⟩ (.slice (some ⟨w3.heap.size + 1, 0, none⟩) 2 cap)).alloc (.cells #[.int .i64 0, .slice none 0 0] 31)).alloc (.cells ys 31)).drew) := (bAlloc (bAlloc (bRefl _) _) _).drew
  have old : ∀ b o, b < w3.heap.size → ((((w3.setCell ⟨w1.heap.size + 1 + 1 + 1 + 1 + 1 + 1 + 1 + 1, 0, none⟩ (.slice (some ⟨w3.heap.size + 1, 0, none⟩) 2 cap)).alloc (.cells #[.int .i64 0, .slice none 0 0] 31)).alloc (.cells ys 31)).drew).cell? ⟨b, o, none⟩ = (w3.setCell ⟨w1.heap.size + 1 + 1 + 1 + 1 + 1 + 1 + 1 + 1, 0, none⟩ (.slice (some ⟨w3.heap.size + 1, 0, none⟩) 2 cap)).cell? ⟨b, o, none⟩ := fun b o h => SB.cell (p := ⟨b, o, none⟩) (by rw [ss]; exact h)
  have new : ∀ o, ((((w3.setCell ⟨w1.heap.size + 1 + 1 + 1 + 1 + 1 + 1 + 1 + 1, 0, none⟩ (.slice (some ⟨w3.heap.size + 1, 0, none⟩) 2 cap)).alloc (.cells #[.int .i64 0, .slice none 0 0] 31)).alloc (.cells ys 31)).drew).cell? ⟨w3.heap.size + 1, o, none⟩ = ys[o]? := fun o => by
    have e := World.cell?_alloc_new ((w3.setCell ⟨w1.heap.size + 1 + 1 + 1 + 1 + 1 + 1 + 1 + 1, 0, none⟩ (.slice (some ⟨w3.heap.size + 1, 0, none⟩) 2 cap)).alloc (.cells #[.int .i64 0, .slice none 0 0] 31)) ys 31 o
    have e2 : ((w3.setCell ⟨w1.heap.size + 1 + 1 + 1 + 1 + 1 + 1 + 1 + 1, 0, none⟩ (.slice (some ⟨w3.heap.size + 1, 0, none⟩) 2 cap)).alloc (.cells #[.int .i64 0, .slice none 0 0] 31)).heap.size = w3.heap.size + 1 := by simp [World.setCell]
    rw [e2] at e
    exact e
  have wsz : ((((w3.setCell ⟨w1.heap.size + 1 + 1 + 1 + 1 + 1 + 1 + 1 + 1, 0, none⟩ (.slice (some ⟨w3.heap.size + 1, 0, none⟩) 2 cap)).alloc (.cells #[.int .i64 0, .slice none 0 0] 31)).alloc (.cells ys 31)).drew).heap.size = w3.heap.size + 1 + 1 := by simp [World.setCell]
  have tf : TailF w ((((w3.setCell ⟨w1.heap.size + 1 + 1 + 1 + 1 + 1 + 1 + 1 + 1, 0, none⟩ (.slice (some ⟨w3.heap.size + 1, 0, none⟩) 2 cap)).alloc (.cells #[.int .i64 0, .slice none 0 0] 31)).alloc (.cells ys 31)).drew) (w1.heap.size + 1 + 1 + 1 + 1 + 1 + 1 + 1) (w1.heap.size + 1 + 1 + 1 + 1 + 1 + 1 + 1 + 1) #[.slice A1 1 a1, .slice A2 1 a2, .slice A3 1 a3, .int .i64 10] #[.slice (some ⟨w3.heap.size + 1, 0, none⟩) 2 cap, .slice (some ⟨w1.heap.size + 1 + 1 + 1 + 1, 0, none⟩) 1 1, .slice (some ⟨w1.heap.size + 1 + 1 + 1 + 1 + 1 + 1, 0, none⟩) 1 1, .int .i64 10] (sm12P by_) := by
    have BW : Below w1.heap.size w1 ((((w3.setCell ⟨w1.heap.size + 1 + 1 + 1 + 1 + 1 + 1 + 1 + 1, 0, none⟩ (.slice (some ⟨w3.heap.size + 1, 0, none⟩) 2 cap)).alloc (.cells #[.int .i64 0, .slice none 0 0] 31)).alloc (.cells ys 31)).drew) := bTrans (Below.setCell BB (by first | (simp; done) | (simp; omega)) _) (SB.mono (by rw [ss]; exact BB.size) |> fun h => SB)
    refine ⟨bTrans hb1 BW, HT.out.below (bTrans hb1 BW), ⟨by rw [wsz]; omega, fun o => ?_⟩, ⟨by rw [wsz]; omega, fun o => ?_⟩, HP2.out.below BW, ?_, ⟨by simp [sm12P], by simp [sm12P], by simp [sm12P], by simp [sm12P], by simp [sm12P], by simp [sm12P]⟩⟩
    · rw [old _ _ (by omega)]
      simp [cell_set, cP]
    · rw [old _ _ (by omega)]
      by_cases ho : o = 0
      · subst ho
        simp [cell_set, cQ]
      · rw [cell_set, if_neg (by omega), cQ]
        exact q_other0 ho
    · have y0 := HY 0 (by decide)
      have y3 := HY 1 (by decide)
      have y4 := HY 2 (by decide)
      have y5 := HY 3 (by decide)
      apply mk2 (E := none) (e := 0) (cC := 2) (cR := 1) (cG := 1) (bH := w3.heap.size + 1) (bC := w1.heap.size + 1) (bA := w1.heap.size + 1 + 1 + 1 + 1) (bR := w1.heap.size + 1 + 1 + 1) (bN := w1.heap.size + 1 + 1 + 1 + 1 + 1 + 1) (bG := w1.heap.size + 1 + 1 + 1 + 1 + 1)
      all_goals first
        | (rw [wsz]; omega)
        | (rw [new]; first | exact y0 | exact y3 | exact y4 | exact y5)
        | (rw [old _ _ (by omega), cell_set, if_neg (by omega)]; first | exact cC _ | exact cR _ | exact cA _ | exact cG _ | exact cN _)
  clear old new wsz SB ss
  have td := tf.drew
  clear HR HY
  generalize ((((w3.setCell ⟨w1.heap.size + 1 + 1 + 1 + 1 + 1 + 1 + 1 + 1, 0, none⟩ (.slice (some ⟨w3.heap.size + 1, 0, none⟩) 2 cap)).alloc (.cells #[.int .i64 0, .slice none 0 0] 31)).alloc (.cells ys 31)).drew) = wz at *
  clear cC cH cR cA cG cN cP cQ z1 z2 z3 z4 z5 z6 z8 T2 HP2 BB hr hs3 y1 y2
  have c1 := tf.x1.cell
  have c2 := tf.x2.cell
  go_region_held3 (fun w' => w'.cell? ⟨w1.heap.size + 1 + 1 + 1 + 1 + 1 + 1 + 1, 0, none⟩ = some (.slice A1 1 a1) ∧ w'.cell? ⟨w1.heap.size + 1 + 1 + 1 + 1 + 1 + 1 + 1, 1, none⟩ = some (.slice A2 1 a2) ∧ w'.cell? ⟨w1.heap.size + 1 + 1 + 1 + 1 + 1 + 1 + 1, 2, none⟩ = some (.slice A3 1 a3) ∧ w'.cell? ⟨w1.heap.size + 1 + 1 + 1 + 1 + 1 + 1 + 1, 3, none⟩ = some (.int .i64 10) ∧ w'.cell? ⟨w1.heap.size + 1 + 1 + 1 + 1 + 1 + 1 + 1 + 1, 0, none⟩ = some (.slice (some ⟨w3.heap.size + 1, 0, none⟩) 2 cap) ∧ w'.cell? ⟨w1.heap.size + 1 + 1 + 1 + 1 + 1 + 1 + 1 + 1, 1, none⟩ = some (.slice (some ⟨w1.heap.size + 1 + 1 + 1 + 1, 0, none⟩) 1 1) ∧ w'.cell? ⟨w1.heap.size + 1 + 1 + 1 + 1 + 1 + 1 + 1 + 1, 2, none⟩ = some (.slice (some ⟨w1.heap.size + 1 + 1 + 1 + 1 + 1 + 1, 0, none⟩) 1 1) ∧ w'.cell? ⟨w1.heap.size + 1 + 1 + 1 + 1 + 1 + 1 + 1 + 1, 3, none⟩ = some (.int .i64 10)) (go_keep)
    (first
      | (go_at_call 13; refine (same_any _ _ _ _ _ (by first | exact td.pp | exact tf.pp | exact td.pq | exact tf.pq) (by first | exact td.pq | exact tf.pq | exact hcp | exact td.pp | exact tf.pp)).mono ?_; rintro e w' ⟨rfl, hb⟩; replace tf := (by first | exact td.below hb | exact tf.below hb); have c1 := tf.x1.cell; have c2 := tf.x2.cell)
      | (go_at_call 16; refine (copy_any _ _ _ (by first | exact tf.pq | exact td.pq) tf.sm).mono ?_; rintro e w' ⟨v', rfl, hcp0, hb⟩; have hcp := hcp0.prg; replace tf := tf.below hb; have c1 := tf.x1.cell; have c2 := tf.x2.cell)
      | (go_at_call 10; refine (awake_any _ tf.tab).mono ?_; rintro e w' ⟨rfl, hb⟩; replace tf := tf.below hb; have c1 := tf.x1.cell; have c2 := tf.x2.cell))
  all_goals (go_wp2_with fail; go_ret; exact ⟨rfl, tf.low⟩)

end Go.Proofs.YtlpeiiejkpkpjaaDoor
