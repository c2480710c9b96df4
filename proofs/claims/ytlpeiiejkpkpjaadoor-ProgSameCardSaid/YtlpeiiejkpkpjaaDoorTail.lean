/-
  What the last statement of ProgSame knows of the two programs that it holds against each other, and that it stays. No conditions.
-/
import Derived.Test.YtlpeiiejkpkpjaaDoorTwo
namespace Go.Proofs.YtlpeiiejkpkpjaaDoor
open Go.RowKit

theorem eqB_sym {α : Type} [DecidableEq α] (a b : α) : eqB a b = eqB b a := by
  unfold eqB; exact decide_eq_decide.2 ⟨Eq.symm, Eq.symm⟩

structure TailF (w0 w : World) (bp bq : Nat) (P Q : Array Value) (q : PPrg) : Prop where
  low : Below w0.heap.size w0 w
  tab : Tab w
  x1 : Bx w bp P
  x2 : Bx w bq Q
  pp : PrgV w (.agg P) oneP
  pq : PrgV w (.agg Q) q
  sm : Small q
theorem TailF.below {w0 w w' : World} {bp bq : Nat} {P Q : Array Value} {q : PPrg} (h : TailF w0 w bp bq P Q q) (hb : Below w.heap.size w w') : TailF w0 w' bp bq P Q q :=
  ⟨bTrans h.low hb, h.tab.below hb, h.x1.below hb, h.x2.below hb, h.pp.below hb, h.pq.below hb, h.sm⟩
theorem TailF.drew {w0 w : World} {bp bq : Nat} {P Q : Array Value} {q : PPrg} (h : TailF w0 w bp bq P Q q) : TailF w0 w.drew bp bq P Q q := h.below (bRefl w).drew

theorem small_sm (q : PPrg) (h1 : q.hs.length = 1) (h2 : q.acs.length = 1) (h3 : q.bs.length = 1) (h4 : ∀ h ∈ q.hs, h.code.length ≤ 70) (h5 : ∀ a ∈ q.acs, a.regs.length ≤ 10) (h6 : ∀ n ∈ q.bs, n.args.length ≤ 6) : Small q :=
  ⟨by omega, by omega, by omega, h4, h5, h6⟩
theorem q_other {a b c d d' : Value} {o : Nat} (h : ¬ o = 3) : (#[a, b, c, d] : Array Value)[o]? = (#[a, b, c, d'] : Array Value)[o]? := by
  match o, h with
  | 0, _ => rfl
  | 1, _ => rfl
  | 2, _ => rfl
  | n + 4, _ => rfl

/-- A program of one handler of one instruction. -/
theorem mk1b {W : World} {bH bC bA bR bN bG cH cC cA cR cN cG : Nat} {fuel args o1 a1 r cap tm tt hd g : Int} {ar : Bool}
    (zH : bH < W.heap.size) (zC : bC < W.heap.size) (zA : bA < W.heap.size) (zR : bR < W.heap.size) (zN : bN < W.heap.size) (zG : bG < W.heap.size)
    (h0 : W.cell? ⟨bH, 0, none⟩ = some (.int .i64 args)) (h1 : W.cell? ⟨bH, 1, none⟩ = some (.slice (some ⟨bC, 0, none⟩) 1 cC))
    (k0 : W.cell? ⟨bC, 0, none⟩ = some (.int .i64 o1)) (k1 : W.cell? ⟨bC, 1, none⟩ = some (.int .i64 a1))
    (t0 : W.cell? ⟨bA, 0, none⟩ = some (.slice (some ⟨bR, 0, none⟩) 1 cR)) (t1 : W.cell? ⟨bA, 1, none⟩ = some (.int .i64 cap)) (t2 : W.cell? ⟨bA, 2, none⟩ = some (.int .i64 tm)) (t3 : W.cell? ⟨bA, 3, none⟩ = some (.bool ar))
    (r0 : W.cell? ⟨bR, 0, none⟩ = some (.int .i64 r))
    (n0 : W.cell? ⟨bN, 0, none⟩ = some (.int .i64 tt)) (n1 : W.cell? ⟨bN, 1, none⟩ = some (.int .i64 hd)) (n2 : W.cell? ⟨bN, 2, none⟩ = some (.slice (some ⟨bG, 0, none⟩) 1 cG))
    (g0 : W.cell? ⟨bG, 0, none⟩ = some (.int .i64 g)) :
    PrgV W (.agg #[.slice (some ⟨bH, 0, none⟩) 1 cH, .slice (some ⟨bA, 0, none⟩) 1 cA, .slice (some ⟨bN, 0, none⟩) 1 cN, .int .i64 fuel]) ⟨[⟨args, [⟨o1, a1⟩]⟩], [⟨[r], cap, tm, ar⟩], [⟨tt, hd, [g]⟩], fuel⟩ :=
  ⟨_, _, _, rfl, sl1 trivial zH ⟨h0, _, h1, sl1 trivial zC ⟨k0, k1⟩⟩, sl1 trivial zA ⟨⟨_, t0, sl1 trivial zR r0⟩, t1, t2, t3⟩, sl1 trivial zN ⟨n0, n1, _, n2, sl1 trivial zG g0⟩⟩
end Go.Proofs.YtlpeiiejkpkpjaaDoor
