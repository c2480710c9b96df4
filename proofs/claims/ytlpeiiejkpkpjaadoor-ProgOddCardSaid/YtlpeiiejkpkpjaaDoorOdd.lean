/-
  What ProgOdd answers of any number: true; and nothing old has turned. Condition: the table of the instructions is in the world.
-/
import Derived.Test.YtlpeiiejkpkpjaaDoorAt
namespace Go.Proofs.YtlpeiiejkpkpjaaDoor
open Go.RowKit

/-- A program without actors; and one whose note has no arguments. -/
theorem mk1a {W : World} {bH bC bN bG cH cC cN cG : Nat} {A : Option Addr} {c : Nat} {fuel args o1 a1 o2 a2 tt hd g : Int}
    (zH : bH < W.heap.size) (zC : bC < W.heap.size) (zN : bN < W.heap.size) (zG : bG < W.heap.size)
    (h0 : W.cell? ⟨bH, 0, none⟩ = some (.int .i64 args)) (h1 : W.cell? ⟨bH, 1, none⟩ = some (.slice (some ⟨bC, 0, none⟩) 2 cC))
    (k0 : W.cell? ⟨bC, 0, none⟩ = some (.int .i64 o1)) (k1 : W.cell? ⟨bC, 1, none⟩ = some (.int .i64 a1)) (k2 : W.cell? ⟨bC, 2, none⟩ = some (.int .i64 o2)) (k3 : W.cell? ⟨bC, 3, none⟩ = some (.int .i64 a2))
    (n0 : W.cell? ⟨bN, 0, none⟩ = some (.int .i64 tt)) (n1 : W.cell? ⟨bN, 1, none⟩ = some (.int .i64 hd)) (n2 : W.cell? ⟨bN, 2, none⟩ = some (.slice (some ⟨bG, 0, none⟩) 1 cG))
    (g0 : W.cell? ⟨bG, 0, none⟩ = some (.int .i64 g)) :
    PrgV W (.agg #[.slice (some ⟨bH, 0, none⟩) 1 cH, .slice A 0 c, .slice (some ⟨bN, 0, none⟩) 1 cN, .int .i64 fuel]) ⟨[⟨args, [⟨o1, a1⟩, ⟨o2, a2⟩]⟩], [], [⟨tt, hd, [g]⟩], fuel⟩ :=
  ⟨_, _, _, rfl, sl1 trivial zH ⟨h0, _, h1, sl2 trivial zC ⟨k0, k1⟩ ⟨k2, k3⟩⟩, sl0, sl1 trivial zN ⟨n0, n1, _, n2, sl1 trivial zG g0⟩⟩
theorem mk1g {W : World} {bH bC bA bR bN cH cC cA cR cN : Nat} {A : Option Addr} {c : Nat} {fuel args o1 a1 o2 a2 r cap tm tt hd : Int} {ar : Bool}
    (zH : bH < W.heap.size) (zC : bC < W.heap.size) (zA : bA < W.heap.size) (zR : bR < W.heap.size) (zN : bN < W.heap.size)
    (h0 : W.cell? ⟨bH, 0, none⟩ = some (.int .i64 args)) (h1 : W.cell? ⟨bH, 1, none⟩ = some (.slice (some ⟨bC, 0, none⟩) 2 cC))
    (k0 : W.cell? ⟨bC, 0, none⟩ = some (.int .i64 o1)) (k1 : W.cell? ⟨bC, 1, none⟩ = some (.int .i64 a1)) (k2 : W.cell? ⟨bC, 2, none⟩ = some (.int .i64 o2)) (k3 : W.cell? ⟨bC, 3, none⟩ = some (.int .i64 a2))
    (t0 : W.cell? ⟨bA, 0, none⟩ = some (.slice (some ⟨bR, 0, none⟩) 1 cR)) (t1 : W.cell? ⟨bA, 1, none⟩ = some (.int .i64 cap)) (t2 : W.cell? ⟨bA, 2, none⟩ = some (.int .i64 tm)) (t3 : W.cell? ⟨bA, 3, none⟩ = some (.bool ar))
    (r0 : W.cell? ⟨bR, 0, none⟩ = some (.int .i64 r))
    (n0 : W.cell? ⟨bN, 0, none⟩ = some (.int .i64 tt)) (n1 : W.cell? ⟨bN, 1, none⟩ = some (.int .i64 hd)) (n2 : W.cell? ⟨bN, 2, none⟩ = some (.slice A 0 c)) :
    PrgV W (.agg #[.slice (some ⟨bH, 0, none⟩) 1 cH, .slice (some ⟨bA, 0, none⟩) 1 cA, .slice (some ⟨bN, 0, none⟩) 1 cN, .int .i64 fuel]) ⟨[⟨args, [⟨o1, a1⟩, ⟨o2, a2⟩]⟩], [⟨[r], cap, tm, ar⟩], [⟨tt, hd, []⟩], fuel⟩ :=
  ⟨_, _, _, rfl, sl1 trivial zH ⟨h0, _, h1, sl2 trivial zC ⟨k0, k1⟩ ⟨k2, k3⟩⟩, sl1 trivial zA ⟨⟨_, t0, sl1 trivial zR r0⟩, t1, t2, t3⟩, sl1 trivial zN ⟨n0, n1, _, n2, sl0⟩⟩

def odd0P : PPrg := ⟨[⟨1, [⟨7, 0⟩, ⟨6, 0⟩]⟩], [⟨[3], 2, -1, false⟩], [⟨0, 0, [5]⟩], 257⟩
theorem odd0C : chk odd0P = 1 := by decide +kernel
set_option maxHeartbeats 4000000 in
set_option maxRecDepth 100000 in
theorem odd0 (k : Int) (w : World) (ht : Tab w) (hr : rnd k 16 = 0) : Calls Tryd.prog 6 #[.int .i64 k] w fun e w' => e = .returned (.bool true) ∧ Below w.heap.size w w' := by
  have HT : Hid (Tab w) := ht
  have hc := odd0C
  have g1 := f1
  clear ht
  go_enter Tryd.func6, Tryd.ntmps6
  go_wp2_with fail
  refine (round_any k 16 _ (by decide) (by decide)).mono ?_
  rintro e w0 ⟨rfl, rfl⟩
  go_wp2_with fail
  refine (one_exact _).mono ?_
  rintro e w1 ⟨rfl, rfl⟩
  unfold oneV oneW
  go_wp2_with fail
  refine (check_at (w0 := w0) (p := odd0P) HT.out ?hb ?hp).mono ?hk
  case hb => (repeat (first | exact bRefl _ | refine bAlloc ?_ _))
  case hp =>
    clear HT hc g1 hr
    apply mk1 (bH := w0.heap.size + 1 + 1) (bC := w0.heap.size + 1) (bA := w0.heap.size + 1 + 1 + 1 + 1) (bR := w0.heap.size + 1 + 1 + 1) (bN := w0.heap.size + 1 + 1 + 1 + 1 + 1 + 1) (bG := w0.heap.size + 1 + 1 + 1 + 1 + 1)
    all_goals (simp [go_sem]; try rfl)
  case hk =>
    rintro e w1 ⟨rfl, hb1⟩
    go_wp2_with fail
    refine (one_at hb1).mono ?_
    rintro e w2 ⟨v, rfl, hp, hb2⟩
    go_wp2_with fail
    refine (check_at (p := oneP) HT.out hb2 hp).mono ?_
    rintro e w3 ⟨rfl, hb3⟩
    go_wp2_with fail
    refine (awake_at HT.out hb3).mono ?_
    rintro e w4 ⟨rfl, hb4⟩
    go_wp2_with fail
    go_ret
    exact ⟨rfl, hb4⟩

def odd1P : PPrg := ⟨[⟨1, [⟨7, 0⟩, ⟨6, 0⟩]⟩], [], [⟨0, 0, [5]⟩], 10⟩
theorem odd1C : chk odd1P = 1 := by decide +kernel
set_option maxHeartbeats 4000000 in
set_option maxRecDepth 100000 in
theorem odd1 (k : Int) (w : World) (ht : Tab w) (hr : rnd k 16 = 1) : Calls Tryd.prog 6 #[.int .i64 k] w fun e w' => e = .returned (.bool true) ∧ Below w.heap.size w w' := by
  have HT : Hid (Tab w) := ht
  have hc := odd1C
  have g1 := f1
  clear ht
  go_enter Tryd.func6, Tryd.ntmps6
  go_wp2_with fail
  refine (round_any k 16 _ (by decide) (by decide)).mono ?_
  rintro e w0 ⟨rfl, rfl⟩
  go_wp2_with fail
  refine (one_exact _).mono ?_
  rintro e w1 ⟨rfl, rfl⟩
  unfold oneV oneW
  go_wp2_with fail
  refine (check_at (w0 := w0) (p := odd1P) HT.out ?hb ?hp).mono ?hk
  case hb => (repeat (first | exact bRefl _ | refine bAlloc ?_ _))
  case hp =>
    clear HT hc g1 hr
    apply mk1a (bH := w0.heap.size + 1 + 1) (bC := w0.heap.size + 1) (bN := w0.heap.size + 1 + 1 + 1 + 1 + 1 + 1) (bG := w0.heap.size + 1 + 1 + 1 + 1 + 1)
    all_goals (simp [go_sem]; try rfl)
  case hk =>
    rintro e w1 ⟨rfl, hb1⟩
    go_wp2_with fail
    refine (one_at hb1).mono ?_
    rintro e w2 ⟨v, rfl, hp, hb2⟩
    go_wp2_with fail
    refine (check_at (p := oneP) HT.out hb2 hp).mono ?_
    rintro e w3 ⟨rfl, hb3⟩
    go_wp2_with fail
    refine (awake_at HT.out hb3).mono ?_
    rintro e w4 ⟨rfl, hb4⟩
    go_wp2_with fail
    go_ret
    exact ⟨rfl, hb4⟩

def odd2P : PPrg := ⟨[⟨5, [⟨7, 0⟩, ⟨6, 0⟩]⟩], [⟨[3], 2, -1, false⟩], [⟨0, 0, [5]⟩], 10⟩
theorem odd2C : chk odd2P = 1 := by decide +kernel
set_option maxHeartbeats 4000000 in
set_option maxRecDepth 100000 in
theorem odd2 (k : Int) (w : World) (ht : Tab w) (hr : rnd k 16 = 2) : Calls Tryd.prog 6 #[.int .i64 k] w fun e w' => e = .returned (.bool true) ∧ Below w.heap.size w w' := by
  have HT : Hid (Tab w) := ht
  have hc := odd2C
  have g1 := f1
  clear ht
  go_enter Tryd.func6, Tryd.ntmps6
  go_wp2_with fail
  refine (round_any k 16 _ (by decide) (by decide)).mono ?_
  rintro e w0 ⟨rfl, rfl⟩
  go_wp2_with fail
  refine (one_exact _).mono ?_
  rintro e w1 ⟨rfl, rfl⟩
  unfold oneV oneW
  go_wp2_with fail
  refine (check_at (w0 := w0) (p := odd2P) HT.out ?hb ?hp).mono ?hk
  case hb => (repeat (first | exact bRefl _ | refine bAlloc ?_ _))
  case hp =>
    clear HT hc g1 hr
    apply mk1 (bH := w0.heap.size + 1 + 1) (bC := w0.heap.size + 1) (bA := w0.heap.size + 1 + 1 + 1 + 1) (bR := w0.heap.size + 1 + 1 + 1) (bN := w0.heap.size + 1 + 1 + 1 + 1 + 1 + 1) (bG := w0.heap.size + 1 + 1 + 1 + 1 + 1)
    all_goals (simp [go_sem]; try rfl)
  case hk =>
    rintro e w1 ⟨rfl, hb1⟩
    go_wp2_with fail
    refine (one_at hb1).mono ?_
    rintro e w2 ⟨v, rfl, hp, hb2⟩
    go_wp2_with fail
    refine (check_at (p := oneP) HT.out hb2 hp).mono ?_
    rintro e w3 ⟨rfl, hb3⟩
    go_wp2_with fail
    refine (awake_at HT.out hb3).mono ?_
    rintro e w4 ⟨rfl, hb4⟩
    go_wp2_with fail
    go_ret
    exact ⟨rfl, hb4⟩

def odd3P : PPrg := ⟨[⟨1, [⟨26, 0⟩, ⟨6, 0⟩]⟩], [⟨[3], 2, -1, false⟩], [⟨0, 0, [5]⟩], 10⟩
theorem odd3C : chk odd3P = 1 := by decide +kernel
set_option maxHeartbeats 4000000 in
set_option maxRecDepth 100000 in
theorem odd3 (k : Int) (w : World) (ht : Tab w) (hr : rnd k 16 = 3) : Calls Tryd.prog 6 #[.int .i64 k] w fun e w' => e = .returned (.bool true) ∧ Below w.heap.size w w' := by
  have HT : Hid (Tab w) := ht
  have hc := odd3C
  have g1 := f1
  clear ht
  go_enter Tryd.func6, Tryd.ntmps6
  go_wp2_with fail
  refine (round_any k 16 _ (by decide) (by decide)).mono ?_
  rintro e w0 ⟨rfl, rfl⟩
  go_wp2_with fail
  refine (one_exact _).mono ?_
  rintro e w1 ⟨rfl, rfl⟩
  unfold oneV oneW
  go_wp2_with fail
  refine (check_at (w0 := w0) (p := odd3P) HT.out ?hb ?hp).mono ?hk
  case hb => (repeat (first | exact bRefl _ | refine bAlloc ?_ _))
  case hp =>
    clear HT hc g1 hr
    apply mk1 (bH := w0.heap.size + 1 + 1) (bC := w0.heap.size + 1) (bA := w0.heap.size + 1 + 1 + 1 + 1) (bR := w0.heap.size + 1 + 1 + 1) (bN := w0.heap.size + 1 + 1 + 1 + 1 + 1 + 1) (bG := w0.heap.size + 1 + 1 + 1 + 1 + 1)
    all_goals (simp [go_sem]; try rfl)
  case hk =>
    rintro e w1 ⟨rfl, hb1⟩
    go_wp2_with fail
    refine (one_at hb1).mono ?_
    rintro e w2 ⟨v, rfl, hp, hb2⟩
    go_wp2_with fail
    refine (check_at (p := oneP) HT.out hb2 hp).mono ?_
    rintro e w3 ⟨rfl, hb3⟩
    go_wp2_with fail
    refine (awake_at HT.out hb3).mono ?_
    rintro e w4 ⟨rfl, hb4⟩
    go_wp2_with fail
    go_ret
    exact ⟨rfl, hb4⟩

def odd4P : PPrg := ⟨[⟨1, [⟨9, 1⟩, ⟨6, 0⟩]⟩], [⟨[3], 2, -1, false⟩], [⟨0, 0, [5]⟩], 10⟩
theorem odd4C : chk odd4P = 1 := by decide +kernel
set_option maxHeartbeats 4000000 in
set_option maxRecDepth 100000 in
theorem odd4 (k : Int) (w : World) (ht : Tab w) (hr : rnd k 16 = 4) : Calls Tryd.prog 6 #[.int .i64 k] w fun e w' => e = .returned (.bool true) ∧ Below w.heap.size w w' := by
  have HT : Hid (Tab w) := ht
  have hc := odd4C
  have g1 := f1
  clear ht
  go_enter Tryd.func6, Tryd.ntmps6
  go_wp2_with fail
  refine (round_any k 16 _ (by decide) (by decide)).mono ?_
  rintro e w0 ⟨rfl, rfl⟩
  go_wp2_with fail
  refine (one_exact _).mono ?_
  rintro e w1 ⟨rfl, rfl⟩
  unfold oneV oneW
  go_wp2_with fail
  refine (check_at (w0 := w0) (p := odd4P) HT.out ?hb ?hp).mono ?hk
  case hb => (repeat (first | exact bRefl _ | refine bAlloc ?_ _))
  case hp =>
    clear HT hc g1 hr
    apply mk1 (bH := w0.heap.size + 1 + 1) (bC := w0.heap.size + 1) (bA := w0.heap.size + 1 + 1 + 1 + 1) (bR := w0.heap.size + 1 + 1 + 1) (bN := w0.heap.size + 1 + 1 + 1 + 1 + 1 + 1) (bG := w0.heap.size + 1 + 1 + 1 + 1 + 1)
    all_goals (simp [go_sem]; try rfl)
  case hk =>
    rintro e w1 ⟨rfl, hb1⟩
    go_wp2_with fail
    refine (one_at hb1).mono ?_
    rintro e w2 ⟨v, rfl, hp, hb2⟩
    go_wp2_with fail
    refine (check_at (p := oneP) HT.out hb2 hp).mono ?_
    rintro e w3 ⟨rfl, hb3⟩
    go_wp2_with fail
    refine (awake_at HT.out hb3).mono ?_
    rintro e w4 ⟨rfl, hb4⟩
    go_wp2_with fail
    go_ret
    exact ⟨rfl, hb4⟩

def odd5P : PPrg := ⟨[⟨1, [⟨20, 3⟩, ⟨6, 0⟩]⟩], [⟨[3], 2, -1, false⟩], [⟨0, 0, [5]⟩], 10⟩
theorem odd5C : chk odd5P = 4 := by decide +kernel
set_option maxHeartbeats 4000000 in
set_option maxRecDepth 100000 in
theorem odd5 (k : Int) (w : World) (ht : Tab w) (hr : rnd k 16 = 5) : Calls Tryd.prog 6 #[.int .i64 k] w fun e w' => e = .returned (.bool true) ∧ Below w.heap.size w w' := by
  have HT : Hid (Tab w) := ht
  have hc := odd5C
  have g1 := f1
  clear ht
  go_enter Tryd.func6, Tryd.ntmps6
  go_wp2_with fail
  refine (round_any k 16 _ (by decide) (by decide)).mono ?_
  rintro e w0 ⟨rfl, rfl⟩
  go_wp2_with fail
  refine (one_exact _).mono ?_
  rintro e w1 ⟨rfl, rfl⟩
  unfold oneV oneW
  go_wp2_with fail
  refine (check_at (w0 := w0) (p := odd5P) HT.out ?hb ?hp).mono ?hk
  case hb => (repeat (first | exact bRefl _ | refine bAlloc ?_ _))
  case hp =>
    clear HT hc g1 hr
    apply mk1 (bH := w0.heap.size + 1 + 1) (bC := w0.heap.size + 1) (bA := w0.heap.size + 1 + 1 + 1 + 1) (bR := w0.heap.size + 1 + 1 + 1) (bN := w0.heap.size + 1 + 1 + 1 + 1 + 1 + 1) (bG := w0.heap.size + 1 + 1 + 1 + 1 + 1)
    all_goals (simp [go_sem]; try rfl)
  case hk =>
    rintro e w1 ⟨rfl, hb1⟩
    go_wp2_with fail
    refine (one_at hb1).mono ?_
    rintro e w2 ⟨v, rfl, hp, hb2⟩
    go_wp2_with fail
    refine (check_at (p := oneP) HT.out hb2 hp).mono ?_
    rintro e w3 ⟨rfl, hb3⟩
    go_wp2_with fail
    refine (awake_at HT.out hb3).mono ?_
    rintro e w4 ⟨rfl, hb4⟩
    go_wp2_with fail
    go_ret
    exact ⟨rfl, hb4⟩

def odd6P : PPrg := ⟨[⟨1, [⟨5, 8⟩, ⟨6, 0⟩]⟩], [⟨[3], 2, -1, false⟩], [⟨0, 0, [5]⟩], 10⟩
theorem odd6C : chk odd6P = 6 := by decide +kernel
set_option maxHeartbeats 4000000 in
set_option maxRecDepth 100000 in
theorem odd6 (k : Int) (w : World) (ht : Tab w) (hr : rnd k 16 = 6) : Calls Tryd.prog 6 #[.int .i64 k] w fun e w' => e = .returned (.bool true) ∧ Below w.heap.size w w' := by
  have HT : Hid (Tab w) := ht
  have hc := odd6C
  have g1 := f1
  clear ht
  go_enter Tryd.func6, Tryd.ntmps6
  go_wp2_with fail
  refine (round_any k 16 _ (by decide) (by decide)).mono ?_
  rintro e w0 ⟨rfl, rfl⟩
  go_wp2_with fail
  refine (one_exact _).mono ?_
  rintro e w1 ⟨rfl, rfl⟩
  unfold oneV oneW
  go_wp2_with fail
  refine (check_at (w0 := w0) (p := odd6P) HT.out ?hb ?hp).mono ?hk
  case hb => (repeat (first | exact bRefl _ | refine bAlloc ?_ _))
  case hp =>
    clear HT hc g1 hr
    apply mk1 (bH := w0.heap.size + 1 + 1) (bC := w0.heap.size + 1) (bA := w0.heap.size + 1 + 1 + 1 + 1) (bR := w0.heap.size + 1 + 1 + 1) (bN := w0.heap.size + 1 + 1 + 1 + 1 + 1 + 1) (bG := w0.heap.size + 1 + 1 + 1 + 1 + 1)
    all_goals (simp [go_sem]; try rfl)
  case hk =>
    rintro e w1 ⟨rfl, hb1⟩
    go_wp2_with fail
    refine (one_at hb1).mono ?_
    rintro e w2 ⟨v, rfl, hp, hb2⟩
    go_wp2_with fail
    refine (check_at (p := oneP) HT.out hb2 hp).mono ?_
    rintro e w3 ⟨rfl, hb3⟩
    go_wp2_with fail
    refine (awake_at HT.out hb3).mono ?_
    rintro e w4 ⟨rfl, hb4⟩
    go_wp2_with fail
    go_ret
    exact ⟨rfl, hb4⟩

def odd7P : PPrg := ⟨[⟨1, [⟨7, 1⟩, ⟨6, 0⟩]⟩], [⟨[3], 2, -1, false⟩], [⟨0, 0, [5]⟩], 10⟩
theorem odd7C : chk odd7P = 6 := by decide +kernel
set_option maxHeartbeats 4000000 in
set_option maxRecDepth 100000 in
theorem odd7 (k : Int) (w : World) (ht : Tab w) (hr : rnd k 16 = 7) : Calls Tryd.prog 6 #[.int .i64 k] w fun e w' => e = .returned (.bool true) ∧ Below w.heap.size w w' := by
  have HT : Hid (Tab w) := ht
  have hc := odd7C
  have g1 := f1
  clear ht
  go_enter Tryd.func6, Tryd.ntmps6
  go_wp2_with fail
  refine (round_any k 16 _ (by decide) (by decide)).mono ?_
  rintro e w0 ⟨rfl, rfl⟩
  go_wp2_with fail
  refine (one_exact _).mono ?_
  rintro e w1 ⟨rfl, rfl⟩
  unfold oneV oneW
  go_wp2_with fail
  refine (check_at (w0 := w0) (p := odd7P) HT.out ?hb ?hp).mono ?hk
  case hb => (repeat (first | exact bRefl _ | refine bAlloc ?_ _))
  case hp =>
    clear HT hc g1 hr
    apply mk1 (bH := w0.heap.size + 1 + 1) (bC := w0.heap.size + 1) (bA := w0.heap.size + 1 + 1 + 1 + 1) (bR := w0.heap.size + 1 + 1 + 1) (bN := w0.heap.size + 1 + 1 + 1 + 1 + 1 + 1) (bG := w0.heap.size + 1 + 1 + 1 + 1 + 1)
    all_goals (simp [go_sem]; try rfl)
  case hk =>
    rintro e w1 ⟨rfl, hb1⟩
    go_wp2_with fail
    refine (one_at hb1).mono ?_
    rintro e w2 ⟨v, rfl, hp, hb2⟩
    go_wp2_with fail
    refine (check_at (p := oneP) HT.out hb2 hp).mono ?_
    rintro e w3 ⟨rfl, hb3⟩
    go_wp2_with fail
    refine (awake_at HT.out hb3).mono ?_
    rintro e w4 ⟨rfl, hb4⟩
    go_wp2_with fail
    go_ret
    exact ⟨rfl, hb4⟩

def odd8P : PPrg := ⟨[⟨1, [⟨22, 1⟩, ⟨6, 0⟩]⟩], [⟨[3], 2, -1, false⟩], [⟨0, 0, [5]⟩], 10⟩
theorem odd8C : chk odd8P = 7 := by decide +kernel
set_option maxHeartbeats 4000000 in
set_option maxRecDepth 100000 in
theorem odd8 (k : Int) (w : World) (ht : Tab w) (hr : rnd k 16 = 8) : Calls Tryd.prog 6 #[.int .i64 k] w fun e w' => e = .returned (.bool true) ∧ Below w.heap.size w w' := by
  have HT : Hid (Tab w) := ht
  have hc := odd8C
  have g1 := f1
  clear ht
  go_enter Tryd.func6, Tryd.ntmps6
  go_wp2_with fail
  refine (round_any k 16 _ (by decide) (by decide)).mono ?_
  rintro e w0 ⟨rfl, rfl⟩
  go_wp2_with fail
  refine (one_exact _).mono ?_
  rintro e w1 ⟨rfl, rfl⟩
  unfold oneV oneW
  go_wp2_with fail
  refine (check_at (w0 := w0) (p := odd8P) HT.out ?hb ?hp).mono ?hk
  case hb => (repeat (first | exact bRefl _ | refine bAlloc ?_ _))
  case hp =>
    clear HT hc g1 hr
    apply mk1 (bH := w0.heap.size + 1 + 1) (bC := w0.heap.size + 1) (bA := w0.heap.size + 1 + 1 + 1 + 1) (bR := w0.heap.size + 1 + 1 + 1) (bN := w0.heap.size + 1 + 1 + 1 + 1 + 1 + 1) (bG := w0.heap.size + 1 + 1 + 1 + 1 + 1)
    all_goals (simp [go_sem]; try rfl)
  case hk =>
    rintro e w1 ⟨rfl, hb1⟩
    go_wp2_with fail
    refine (one_at hb1).mono ?_
    rintro e w2 ⟨v, rfl, hp, hb2⟩
    go_wp2_with fail
    refine (check_at (p := oneP) HT.out hb2 hp).mono ?_
    rintro e w3 ⟨rfl, hb3⟩
    go_wp2_with fail
    refine (awake_at HT.out hb3).mono ?_
    rintro e w4 ⟨rfl, hb4⟩
    go_wp2_with fail
    go_ret
    exact ⟨rfl, hb4⟩

def odd9P : PPrg := ⟨[⟨1, [⟨7, 0⟩, ⟨6, 0⟩]⟩], [⟨[3], 17, -1, false⟩], [⟨0, 0, [5]⟩], 10⟩
theorem odd9C : chk odd9P = 1 := by decide +kernel
set_option maxHeartbeats 4000000 in
set_option maxRecDepth 100000 in
theorem odd9 (k : Int) (w : World) (ht : Tab w) (hr : rnd k 16 = 9) : Calls Tryd.prog 6 #[.int .i64 k] w fun e w' => e = .returned (.bool true) ∧ Below w.heap.size w w' := by
  have HT : Hid (Tab w) := ht
  have hc := odd9C
  have g1 := f1
  clear ht
  go_enter Tryd.func6, Tryd.ntmps6
  go_wp2_with fail
  refine (round_any k 16 _ (by decide) (by decide)).mono ?_
  rintro e w0 ⟨rfl, rfl⟩
  go_wp2_with fail
  refine (one_exact _).mono ?_
  rintro e w1 ⟨rfl, rfl⟩
  unfold oneV oneW
  go_wp2_with fail
  refine (check_at (w0 := w0) (p := odd9P) HT.out ?hb ?hp).mono ?hk
  case hb => (repeat (first | exact bRefl _ | refine bAlloc ?_ _))
  case hp =>
    clear HT hc g1 hr
    apply mk1 (bH := w0.heap.size + 1 + 1) (bC := w0.heap.size + 1) (bA := w0.heap.size + 1 + 1 + 1 + 1) (bR := w0.heap.size + 1 + 1 + 1) (bN := w0.heap.size + 1 + 1 + 1 + 1 + 1 + 1) (bG := w0.heap.size + 1 + 1 + 1 + 1 + 1)
    all_goals (simp [go_sem]; try rfl)
  case hk =>
    rintro e w1 ⟨rfl, hb1⟩
    go_wp2_with fail
    refine (one_at hb1).mono ?_
    rintro e w2 ⟨v, rfl, hp, hb2⟩
    go_wp2_with fail
    refine (check_at (p := oneP) HT.out hb2 hp).mono ?_
    rintro e w3 ⟨rfl, hb3⟩
    go_wp2_with fail
    refine (awake_at HT.out hb3).mono ?_
    rintro e w4 ⟨rfl, hb4⟩
    go_wp2_with fail
    go_ret
    exact ⟨rfl, hb4⟩

def odd10P : PPrg := ⟨[⟨1, [⟨7, 0⟩, ⟨6, 0⟩]⟩], [⟨[3], 2, 0, false⟩], [⟨0, 0, [5]⟩], 10⟩
theorem odd10C : chk odd10P = 7 := by decide +kernel
set_option maxHeartbeats 4000000 in
set_option maxRecDepth 100000 in
theorem odd10 (k : Int) (w : World) (ht : Tab w) (hr : rnd k 16 = 10) : Calls Tryd.prog 6 #[.int .i64 k] w fun e w' => e = .returned (.bool true) ∧ Below w.heap.size w w' := by
  have HT : Hid (Tab w) := ht
  have hc := odd10C
  have g1 := f1
  clear ht
  go_enter Tryd.func6, Tryd.ntmps6
  go_wp2_with fail
  refine (round_any k 16 _ (by decide) (by decide)).mono ?_
  rintro e w0 ⟨rfl, rfl⟩
  go_wp2_with fail
  refine (one_exact _).mono ?_
  rintro e w1 ⟨rfl, rfl⟩
  unfold oneV oneW
  go_wp2_with fail
  refine (check_at (w0 := w0) (p := odd10P) HT.out ?hb ?hp).mono ?hk
  case hb => (repeat (first | exact bRefl _ | refine bAlloc ?_ _))
  case hp =>
    clear HT hc g1 hr
    apply mk1 (bH := w0.heap.size + 1 + 1) (bC := w0.heap.size + 1) (bA := w0.heap.size + 1 + 1 + 1 + 1) (bR := w0.heap.size + 1 + 1 + 1) (bN := w0.heap.size + 1 + 1 + 1 + 1 + 1 + 1) (bG := w0.heap.size + 1 + 1 + 1 + 1 + 1)
    all_goals (simp [go_sem]; try rfl)
  case hk =>
    rintro e w1 ⟨rfl, hb1⟩
    go_wp2_with fail
    refine (one_at hb1).mono ?_
    rintro e w2 ⟨v, rfl, hp, hb2⟩
    go_wp2_with fail
    refine (check_at (p := oneP) HT.out hb2 hp).mono ?_
    rintro e w3 ⟨rfl, hb3⟩
    go_wp2_with fail
    refine (awake_at HT.out hb3).mono ?_
    rintro e w4 ⟨rfl, hb4⟩
    go_wp2_with fail
    go_ret
    exact ⟨rfl, hb4⟩

def odd11P : PPrg := ⟨[⟨1, [⟨7, 0⟩, ⟨6, 0⟩]⟩], [⟨[3], 2, -2, false⟩], [⟨0, 0, [5]⟩], 10⟩
theorem odd11C : chk odd11P = 7 := by decide +kernel
set_option maxHeartbeats 4000000 in
set_option maxRecDepth 100000 in
theorem odd11 (k : Int) (w : World) (ht : Tab w) (hr : rnd k 16 = 11) : Calls Tryd.prog 6 #[.int .i64 k] w fun e w' => e = .returned (.bool true) ∧ Below w.heap.size w w' := by
  have HT : Hid (Tab w) := ht
  have hc := odd11C
  have g1 := f1
  clear ht
  go_enter Tryd.func6, Tryd.ntmps6
  go_wp2_with fail
  refine (round_any k 16 _ (by decide) (by decide)).mono ?_
  rintro e w0 ⟨rfl, rfl⟩
  go_wp2_with fail
  refine (one_exact _).mono ?_
  rintro e w1 ⟨rfl, rfl⟩
  unfold oneV oneW
  go_wp2_with fail
  refine (check_at (w0 := w0) (p := odd11P) HT.out ?hb ?hp).mono ?hk
  case hb => (repeat (first | exact bRefl _ | refine bAlloc ?_ _))
  case hp =>
    clear HT hc g1 hr
    apply mk1 (bH := w0.heap.size + 1 + 1) (bC := w0.heap.size + 1) (bA := w0.heap.size + 1 + 1 + 1 + 1) (bR := w0.heap.size + 1 + 1 + 1) (bN := w0.heap.size + 1 + 1 + 1 + 1 + 1 + 1) (bG := w0.heap.size + 1 + 1 + 1 + 1 + 1)
    all_goals (simp [go_sem]; try rfl)
  case hk =>
    rintro e w1 ⟨rfl, hb1⟩
    go_wp2_with fail
    refine (one_at hb1).mono ?_
    rintro e w2 ⟨v, rfl, hp, hb2⟩
    go_wp2_with fail
    refine (check_at (p := oneP) HT.out hb2 hp).mono ?_
    rintro e w3 ⟨rfl, hb3⟩
    go_wp2_with fail
    refine (awake_at HT.out hb3).mono ?_
    rintro e w4 ⟨rfl, hb4⟩
    go_wp2_with fail
    go_ret
    exact ⟨rfl, hb4⟩

def odd12P : PPrg := ⟨[⟨1, [⟨7, 0⟩, ⟨6, 0⟩]⟩], [⟨[3], 2, -1, true⟩], [⟨0, 0, [5]⟩], 10⟩
theorem odd12C : chk odd12P = 1 := by decide +kernel
set_option maxHeartbeats 4000000 in
set_option maxRecDepth 100000 in
theorem odd12 (k : Int) (w : World) (ht : Tab w) (hr : rnd k 16 = 12) : Calls Tryd.prog 6 #[.int .i64 k] w fun e w' => e = .returned (.bool true) ∧ Below w.heap.size w w' := by
  have HT : Hid (Tab w) := ht
  have hc := odd12C
  have g1 := f1
  clear ht
  go_enter Tryd.func6, Tryd.ntmps6
  go_wp2_with fail
  refine (round_any k 16 _ (by decide) (by decide)).mono ?_
  rintro e w0 ⟨rfl, rfl⟩
  go_wp2_with fail
  refine (one_exact _).mono ?_
  rintro e w1 ⟨rfl, rfl⟩
  unfold oneV oneW
  go_wp2_with fail
  refine (check_at (w0 := w0) (p := odd12P) HT.out ?hb ?hp).mono ?hk
  case hb => (repeat (first | exact bRefl _ | refine bAlloc ?_ _))
  case hp =>
    clear HT hc g1 hr
    apply mk1 (bH := w0.heap.size + 1 + 1) (bC := w0.heap.size + 1) (bA := w0.heap.size + 1 + 1 + 1 + 1) (bR := w0.heap.size + 1 + 1 + 1) (bN := w0.heap.size + 1 + 1 + 1 + 1 + 1 + 1) (bG := w0.heap.size + 1 + 1 + 1 + 1 + 1)
    all_goals (simp [go_sem]; try rfl)
  case hk =>
    rintro e w1 ⟨rfl, hb1⟩
    go_wp2_with fail
    refine (one_at hb1).mono ?_
    rintro e w2 ⟨v, rfl, hp, hb2⟩
    go_wp2_with fail
    refine (check_at (p := oneP) HT.out hb2 hp).mono ?_
    rintro e w3 ⟨rfl, hb3⟩
    go_wp2_with fail
    refine (awake_at HT.out hb3).mono ?_
    rintro e w4 ⟨rfl, hb4⟩
    go_wp2_with fail
    go_ret
    exact ⟨rfl, hb4⟩

def odd13P : PPrg := ⟨[⟨1, [⟨7, 0⟩, ⟨6, 0⟩]⟩], [⟨[3], 2, -1, false⟩], [⟨1, 0, [5]⟩], 10⟩
theorem odd13C : chk odd13P = 7 := by decide +kernel
set_option maxHeartbeats 4000000 in
set_option maxRecDepth 100000 in
theorem odd13 (k : Int) (w : World) (ht : Tab w) (hr : rnd k 16 = 13) : Calls Tryd.prog 6 #[.int .i64 k] w fun e w' => e = .returned (.bool true) ∧ Below w.heap.size w w' := by
  have HT : Hid (Tab w) := ht
  have hc := odd13C
  have g1 := f1
  clear ht
  go_enter Tryd.func6, Tryd.ntmps6
  go_wp2_with fail
  refine (round_any k 16 _ (by decide) (by decide)).mono ?_
  rintro e w0 ⟨rfl, rfl⟩
  go_wp2_with fail
  refine (one_exact _).mono ?_
  rintro e w1 ⟨rfl, rfl⟩
  unfold oneV oneW
  go_wp2_with fail
  refine (check_at (w0 := w0) (p := odd13P) HT.out ?hb ?hp).mono ?hk
  case hb => (repeat (first | exact bRefl _ | refine bAlloc ?_ _))
  case hp =>
    clear HT hc g1 hr
    apply mk1 (bH := w0.heap.size + 1 + 1) (bC := w0.heap.size + 1) (bA := w0.heap.size + 1 + 1 + 1 + 1) (bR := w0.heap.size + 1 + 1 + 1) (bN := w0.heap.size + 1 + 1 + 1 + 1 + 1 + 1) (bG := w0.heap.size + 1 + 1 + 1 + 1 + 1)
    all_goals (simp [go_sem]; try rfl)
  case hk =>
    rintro e w1 ⟨rfl, hb1⟩
    go_wp2_with fail
    refine (one_at hb1).mono ?_
    rintro e w2 ⟨v, rfl, hp, hb2⟩
    go_wp2_with fail
    refine (check_at (p := oneP) HT.out hb2 hp).mono ?_
    rintro e w3 ⟨rfl, hb3⟩
    go_wp2_with fail
    refine (awake_at HT.out hb3).mono ?_
    rintro e w4 ⟨rfl, hb4⟩
    go_wp2_with fail
    go_ret
    exact ⟨rfl, hb4⟩

def odd14P : PPrg := ⟨[⟨1, [⟨7, 0⟩, ⟨6, 0⟩]⟩], [⟨[3], 2, -1, false⟩], [⟨0, -1, [5]⟩], 10⟩
theorem odd14C : chk odd14P = 7 := by decide +kernel
set_option maxHeartbeats 4000000 in
set_option maxRecDepth 100000 in
theorem odd14 (k : Int) (w : World) (ht : Tab w) (hr : rnd k 16 = 14) : Calls Tryd.prog 6 #[.int .i64 k] w fun e w' => e = .returned (.bool true) ∧ Below w.heap.size w w' := by
  have HT : Hid (Tab w) := ht
  have hc := odd14C
  have g1 := f1
  clear ht
  go_enter Tryd.func6, Tryd.ntmps6
  go_wp2_with fail
  refine (round_any k 16 _ (by decide) (by decide)).mono ?_
  rintro e w0 ⟨rfl, rfl⟩
  go_wp2_with fail
  refine (one_exact _).mono ?_
  rintro e w1 ⟨rfl, rfl⟩
  unfold oneV oneW
  go_wp2_with fail
  refine (check_at (w0 := w0) (p := odd14P) HT.out ?hb ?hp).mono ?hk
  case hb => (repeat (first | exact bRefl _ | refine bAlloc ?_ _))
  case hp =>
    clear HT hc g1 hr
    apply mk1 (bH := w0.heap.size + 1 + 1) (bC := w0.heap.size + 1) (bA := w0.heap.size + 1 + 1 + 1 + 1) (bR := w0.heap.size + 1 + 1 + 1) (bN := w0.heap.size + 1 + 1 + 1 + 1 + 1 + 1) (bG := w0.heap.size + 1 + 1 + 1 + 1 + 1)
    all_goals (simp [go_sem]; try rfl)
  case hk =>
    rintro e w1 ⟨rfl, hb1⟩
    go_wp2_with fail
    refine (one_at hb1).mono ?_
    rintro e w2 ⟨v, rfl, hp, hb2⟩
    go_wp2_with fail
    refine (check_at (p := oneP) HT.out hb2 hp).mono ?_
    rintro e w3 ⟨rfl, hb3⟩
    go_wp2_with fail
    refine (awake_at HT.out hb3).mono ?_
    rintro e w4 ⟨rfl, hb4⟩
    go_wp2_with fail
    go_ret
    exact ⟨rfl, hb4⟩

def odd15P : PPrg := ⟨[⟨1, [⟨7, 0⟩, ⟨6, 0⟩]⟩], [⟨[3], 2, -1, false⟩], [⟨0, 0, []⟩], 10⟩
theorem odd15C : chk odd15P = 1 := by decide +kernel
set_option maxHeartbeats 4000000 in
set_option maxRecDepth 100000 in
theorem odd15 (k : Int) (w : World) (ht : Tab w) (hr : rnd k 16 = 15) : Calls Tryd.prog 6 #[.int .i64 k] w fun e w' => e = .returned (.bool true) ∧ Below w.heap.size w w' := by
  have HT : Hid (Tab w) := ht
  have hc := odd15C
  have g1 := f1
  clear ht
  go_enter Tryd.func6, Tryd.ntmps6
  go_wp2_with fail
  refine (round_any k 16 _ (by decide) (by decide)).mono ?_
  rintro e w0 ⟨rfl, rfl⟩
  go_wp2_with fail
  refine (one_exact _).mono ?_
  rintro e w1 ⟨rfl, rfl⟩
  unfold oneV oneW
  go_wp2_with fail
  refine (check_at (w0 := w0) (p := odd15P) HT.out ?hb ?hp).mono ?hk
  case hb => (repeat (first | exact bRefl _ | refine bAlloc ?_ _))
  case hp =>
    clear HT hc g1 hr
    apply mk1g (A := none) (c := 0) (bH := w0.heap.size + 1 + 1) (bC := w0.heap.size + 1) (bA := w0.heap.size + 1 + 1 + 1 + 1) (bR := w0.heap.size + 1 + 1 + 1) (bN := w0.heap.size + 1 + 1 + 1 + 1 + 1 + 1)
    all_goals (simp [go_sem]; try rfl)
  case hk =>
    rintro e w1 ⟨rfl, hb1⟩
    go_wp2_with fail
    refine (one_at hb1).mono ?_
    rintro e w2 ⟨v, rfl, hp, hb2⟩
    go_wp2_with fail
    refine (check_at (p := oneP) HT.out hb2 hp).mono ?_
    rintro e w3 ⟨rfl, hb3⟩
    go_wp2_with fail
    refine (awake_at HT.out hb3).mono ?_
    rintro e w4 ⟨rfl, hb4⟩
    go_wp2_with fail
    go_ret
    exact ⟨rfl, hb4⟩

theorem odd_all (k : Int) (w : World) (ht : Tab w) : Calls Tryd.prog 6 #[.int .i64 k] w fun e w' => e = .returned (.bool true) ∧ Below w.heap.size w w' := by
  have hb := rnd_bd k (n := 16) (by decide)
  rcases (by omega : rnd k 16 = 0 ∨ rnd k 16 = 1 ∨ rnd k 16 = 2 ∨ rnd k 16 = 3 ∨ rnd k 16 = 4 ∨ rnd k 16 = 5 ∨ rnd k 16 = 6 ∨ rnd k 16 = 7 ∨ rnd k 16 = 8 ∨ rnd k 16 = 9 ∨ rnd k 16 = 10 ∨ rnd k 16 = 11 ∨ rnd k 16 = 12 ∨ rnd k 16 = 13 ∨ rnd k 16 = 14 ∨ rnd k 16 = 15) with h | h | h | h | h | h | h | h | h | h | h | h | h | h | h | h
  · exact odd0 k w ht h
  · exact odd1 k w ht h
  · exact odd2 k w ht h
  · exact odd3 k w ht h
  · exact odd4 k w ht h
  · exact odd5 k w ht h
  · exact odd6 k w ht h
  · exact odd7 k w ht h
  · exact odd8 k w ht h
  · exact odd9 k w ht h
  · exact odd10 k w ht h
  · exact odd11 k w ht h
  · exact odd12 k w ht h
  · exact odd13 k w ht h
  · exact odd14 k w ht h
  · exact odd15 k w ht h
end Go.Proofs.YtlpeiiejkpkpjaaDoor
