/-
  The program of one actor and one handler, as the law makes it. No conditions.
-/
import Derived.Test.YtlpeiiejkpkpjaaDoorMem
namespace Go.Proofs.YtlpeiiejkpkpjaaDoor
open Go.RowKit
def oneP : PPrg := ⟨[⟨1, [⟨7, 0⟩, ⟨6, 0⟩]⟩], [⟨[3], 2, -1, false⟩], [⟨0, 0, [5]⟩], 10⟩

theorem sl1 {α : Type} {sz : Nat} {R : World → Nat → Nat → α → Prop} {ok : Nat → Prop} {w : World} {b o c : Nat} {x : α} (hk : ok b) (hb : b < w.heap.size) (h : R w b o x) : Sl sz R ok w (.slice (some ⟨b, o, none⟩) 1 c) [x] :=
  ⟨_, c, rfl, by simp, Or.inr ⟨b, o, rfl, hk, hb, fun k y hy => by
    match k, hy with
    | 0, hy => simp at hy; subst hy; simpa using h⟩⟩
theorem sl2 {α : Type} {sz : Nat} {R : World → Nat → Nat → α → Prop} {ok : Nat → Prop} {w : World} {b o c : Nat} {x y : α} (hk : ok b) (hb : b < w.heap.size) (h : R w b o x) (h' : R w b (o + sz) y) : Sl sz R ok w (.slice (some ⟨b, o, none⟩) 2 c) [x, y] :=
  ⟨_, c, rfl, by simp, Or.inr ⟨b, o, rfl, hk, hb, fun k z hy => by
    match k, hy with
    | 0, hy => simp at hy; subst hy; simpa using h
    | 1, hy => simp at hy; subst hy; simpa using h'⟩⟩
theorem sl0 {α : Type} {sz : Nat} {R : World → Nat → Nat → α → Prop} {ok : Nat → Prop} {w : World} {A : Option Addr} {c : Nat} : Sl sz R ok w (.slice A 0 c) [] :=
  ⟨_, c, rfl, by simp, Or.inl rfl⟩

/-- The world behind: seven blocks. -/
def oneW (w : World) : World :=
  ((((((w.alloc (.cells #[.slice (some ⟨w.heap.size + 1 + 1, 0, none⟩) 1 1, .slice (some ⟨w.heap.size + 1 + 1 + 1 + 1, 0, none⟩) 1 1, .slice (some ⟨w.heap.size + 1 + 1 + 1 + 1 + 1 + 1, 0, none⟩) 1 1, .int .i64 10] 26)).alloc
    (.cells #[.int .i64 7, .int .i64 0, .int .i64 6, .int .i64 0] 38)).alloc
    (.cells #[.int .i64 1, .slice (some ⟨w.heap.size + 1, 0, none⟩) 2 2] 31)).alloc
    (.cells #[.int .i64 3] 3)).alloc
    (.cells #[.slice (some ⟨w.heap.size + 1 + 1 + 1, 0, none⟩) 1 1, .int .i64 2, .int .i64 (-1), .bool false] 41)).alloc
    (.cells #[.int .i64 5] 3)).alloc
    (.cells #[.int .i64 0, .int .i64 0, .slice (some ⟨w.heap.size + 1 + 1 + 1 + 1 + 1, 0, none⟩) 1 1] 43)
def oneV (w : World) : Value :=
  .agg #[.slice (some ⟨w.heap.size + 1 + 1, 0, none⟩) 1 1, .slice (some ⟨w.heap.size + 1 + 1 + 1 + 1, 0, none⟩) 1 1, .slice (some ⟨w.heap.size + 1 + 1 + 1 + 1 + 1 + 1, 0, none⟩) 1 1, .int .i64 10]

set_option maxHeartbeats 800000 in
theorem one_exact (w : World) : Calls Tryd.prog 17 #[] w fun e w' => e = .returned (oneV w) ∧ w' = oneW w := by
  go_enter Tryd.func17, Tryd.ntmps17
  go_wp2
  exact bodyPost_ret (v := oneV w) (by simp [results, Tryd.results17, go_sem, oneV]) rfl ⟨rfl, rfl⟩

theorem oneW_below (w : World) : Below w.heap.size w (oneW w) := bAlloc (bAlloc (bAlloc (bAlloc (bAlloc (bAlloc (bAlloc (bRefl w) _) _) _) _) _) _) _

/-- A program of one handler of two instructions, one actor of one register, one note of one argument, off its cells. -/
theorem mk1 {W : World} {bH bC bA bR bN bG cH cC cA cR cN cG : Nat} {fuel args o1 a1 o2 a2 r cap tm to hd g : Int} {ar : Bool}
    (zH : bH < W.heap.size) (zC : bC < W.heap.size) (zA : bA < W.heap.size) (zR : bR < W.heap.size) (zN : bN < W.heap.size) (zG : bG < W.heap.size)
    (h0 : W.cell? ⟨bH, 0, none⟩ = some (.int .i64 args)) (h1 : W.cell? ⟨bH, 1, none⟩ = some (.slice (some ⟨bC, 0, none⟩) 2 cC))
    (k0 : W.cell? ⟨bC, 0, none⟩ = some (.int .i64 o1)) (k1 : W.cell? ⟨bC, 1, none⟩ = some (.int .i64 a1)) (k2 : W.cell? ⟨bC, 2, none⟩ = some (.int .i64 o2)) (k3 : W.cell? ⟨bC, 3, none⟩ = some (.int .i64 a2))
    (t0 : W.cell? ⟨bA, 0, none⟩ = some (.slice (some ⟨bR, 0, none⟩) 1 cR)) (t1 : W.cell? ⟨bA, 1, none⟩ = some (.int .i64 cap)) (t2 : W.cell? ⟨bA, 2, none⟩ = some (.int .i64 tm)) (t3 : W.cell? ⟨bA, 3, none⟩ = some (.bool ar))
    (r0 : W.cell? ⟨bR, 0, none⟩ = some (.int .i64 r))
    (n0 : W.cell? ⟨bN, 0, none⟩ = some (.int .i64 to)) (n1 : W.cell? ⟨bN, 1, none⟩ = some (.int .i64 hd)) (n2 : W.cell? ⟨bN, 2, none⟩ = some (.slice (some ⟨bG, 0, none⟩) 1 cG))
    (g0 : W.cell? ⟨bG, 0, none⟩ = some (.int .i64 g)) :
    PrgV W (.agg #[.slice (some ⟨bH, 0, none⟩) 1 cH, .slice (some ⟨bA, 0, none⟩) 1 cA, .slice (some ⟨bN, 0, none⟩) 1 cN, .int .i64 fuel]) ⟨[⟨args, [⟨o1, a1⟩, ⟨o2, a2⟩]⟩], [⟨[r], cap, tm, ar⟩], [⟨to, hd, [g]⟩], fuel⟩ :=
  ⟨_, _, _, rfl, sl1 trivial zH ⟨h0, _, h1, sl2 trivial zC ⟨k0, k1⟩ ⟨k2, k3⟩⟩, sl1 trivial zA ⟨⟨_, t0, sl1 trivial zR r0⟩, t1, t2, t3⟩, sl1 trivial zN ⟨n0, n1, _, n2, sl1 trivial zG g0⟩⟩

set_option maxHeartbeats 800000 in
theorem one_reads (w : World) : PrgV (oneW w) (oneV w) oneP := by
  apply mk1 (bH := w.heap.size + 1 + 1) (bC := w.heap.size + 1) (bA := w.heap.size + 1 + 1 + 1 + 1) (bR := w.heap.size + 1 + 1 + 1) (bN := w.heap.size + 1 + 1 + 1 + 1 + 1 + 1) (bG := w.heap.size + 1 + 1 + 1 + 1 + 1)
  all_goals (simp [oneW, go_sem]; try rfl)

theorem one_any (w : World) : Calls Tryd.prog 17 #[] w fun e w' => ∃ v, e = .returned v ∧ PrgV w' v oneP ∧ Below w.heap.size w w' :=
  (one_exact w).mono fun e w' ⟨h1, h2⟩ => ⟨_, h1, by rw [h2]; exact one_reads w, by rw [h2]; exact oneW_below w⟩
end Go.Proofs.YtlpeiiejkpkpjaaDoor
