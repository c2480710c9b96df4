/-
  Timers (StepTimers), plainly: the program of one actor, and what its timer does. No conditions.
-/
import Derived.Test.YtgdloonpemaijaaDoorCo
namespace Go.Proofs.YtgdloonpemaijaaDoor
open Go.RowKit
def tcode (a : Bool) : List PIns := if a then [⟨5, 0⟩, ⟨1, 1⟩, ⟨9, 0⟩, ⟨6, 0⟩, ⟨23, 0⟩] else [⟨5, 0⟩, ⟨1, 1⟩, ⟨9, 0⟩, ⟨6, 0⟩]
def timP (a : Bool) : PPrg := ⟨[⟨0, tcode a⟩], [⟨[0], 0, 0, true⟩], [], 9⟩
/-- The world behind k times. -/
def twd (a : Bool) (k : Nat) : PWld := ⟨[⟨[(k : Int)], a || decide (k = 0), 0, 0, 0⟩], [], ⟨0, 0, (k : Int), 0⟩⟩
def evT : PEv := ⟨4, ⟨0, 0, 0⟩, 0⟩
def tbu (b : Nat) : PBud := ⟨0, 0, (b : Int), 0⟩
def tOk (a : Bool) (b k : Nat) : Bool := decide (k < b) && (a || decide (k = 0))
theorem tim_chk : ∀ a, chk (timP a) = 0
  | true => by kernel_rfl
  | false => by kernel_rfl
theorem tim_fc : ∀ a, fc (timP a) = 0
  | true => fc_mk (tim_chk true) fun x hx => by
    have hx' : x ∈ [(⟨0, tcode true⟩ : PHnd)] := hx
    simp only [List.mem_cons, List.not_mem_nil, or_false] at hx'
    subst hx'
    exact (goodB_good (hs := [⟨0, tcode true⟩]) (code := tcode true) (l := [0, 1, 2, 1, 0, 0]) (pr := fun k => k - 1) (by decide +kernel)).de
  | false => fc_mk (tim_chk false) fun x hx => by
    have hx' : x ∈ [(⟨0, tcode false⟩ : PHnd)] := hx
    simp only [List.mem_cons, List.not_mem_nil, or_false] at hx'
    subst hx'
    exact (goodB_good (hs := [⟨0, tcode false⟩]) (code := tcode false) (l := [0, 1, 2, 1, 0]) (pr := fun k => k - 1) (by decide +kernel)).de
theorem tim_small (a : Bool) : Small (timP a) := by
  refine ⟨show 1 ≤ 18 by decide, show 1 ≤ 10 by decide, show 0 ≤ 18 by decide, ?_, ?_, ?_⟩
  · intro h hh
    have hh' : h ∈ [(⟨0, tcode a⟩ : PHnd)] := hh
    simp only [List.mem_cons, List.not_mem_nil, or_false] at hh'
    subst hh'
    cases a <;> decide
  · intro x hx
    have hx' : x ∈ [(⟨[0], 0, 0, true⟩ : PAct)] := hx
    simp only [List.mem_cons, List.not_mem_nil, or_false] at hx'
    subst hx'; decide
  · intro m hm
    exact absurd (show m ∈ ([] : List PNte) from hm) (List.not_mem_nil)
theorem tim_start : ∀ a, startP (timP a) = twd a 0
  | true => by decide +kernel
  | false => by decide +kernel
def tFact (a : Bool) (b k : Nat) : Bool := smwB (twd a k) && (decide (isQ (timP a) (tbu b) (twd a k) evT = tOk a b k) && (!tOk a b k || decide (doQ (timP a) (twd a k) evT = twd a (k + 1))))
theorem t_all1 : ∀ b, b < 13 → ∀ k, k < 11 → tFact true b k = true := by decide +kernel
theorem t_all2 : ∀ b, b < 13 → ∀ k, k < 11 → tFact false b k = true := by decide +kernel
structure TF (a : Bool) (b k : Nat) : Prop where
  sm : SmW (twd a k)
  is : isP (timP a) (tbu b) (twd a k) evT = tOk a b k
  go : tOk a b k = true → doP (timP a) (twd a k) evT = twd a (k + 1)
theorem t_f (a : Bool) {b k : Nat} (hb : b < 13) (hk : k < 11) : TF a b k := by
  have h : tFact a b k = true := by
    cases a
    · exact t_all2 b hb k hk
    · exact t_all1 b hb k hk
  unfold tFact at h
  simp only [Bool.and_eq_true, decide_eq_true_eq, Bool.or_eq_true, Bool.not_eq_true'] at h
  obtain ⟨h1, h2, h3⟩ := h
  refine ⟨smW_of h1, by rw [isP_Q (tim_fc a)]; exact h2, fun ho => ?_⟩
  rw [doP_Q (tim_fc a)]
  rcases h3 with h3 | h3
  · rw [ho] at h3; cases h3
  · exact h3
/-- How many are done behind i tries. -/
def tdn (a : Bool) (b i : Nat) : Nat := if a then min i b else min i (min b 1)
theorem tdn_ok (a : Bool) (b i : Nat) : (tOk a b (tdn a b i) = true ∧ tdn a b (i + 1) = tdn a b i + 1) ∨ (tOk a b (tdn a b i) = false ∧ tdn a b (i + 1) = tdn a b i) := by
  unfold tOk tdn
  cases a
  · by_cases h : i = 0 ∧ 0 < b
    · left; obtain ⟨rfl, h⟩ := h; simp; omega
    · right
      simp only [Bool.false_or, Bool.and_eq_false_iff, decide_eq_false_iff_not, if_neg (show ¬ (false = true) by decide)]
      omega
  · by_cases h : i < b
    · left
      simp only [Bool.true_or, Bool.and_true, decide_eq_true_eq, if_true]
      omega
    · right
      simp only [Bool.true_or, Bool.and_true, decide_eq_false_iff_not, if_true]
      omega
theorem tdn_le (a : Bool) (b i : Nat) : tdn a b i ≤ i := by unfold tdn; split <;> omega
theorem blk2 {b : Nat} {v0 v1 : Value} {t : TypeId} {w : World} (h : w.heap[b]? = some (.cells #[v0, v1] t)) : w.cell? ⟨b, 0, none⟩ = some v0 ∧ w.cell? ⟨b, 1, none⟩ = some v1 :=
  ⟨by rw [cell_of_row _ _ _ _ _ _ h]; rfl, by rw [cell_of_row _ _ _ _ _ _ h]; rfl⟩
/-- The program in memory: its code lies wherever. -/
theorem tim_prg {w : World} {a : Bool} {b1 b2 b3 : Nat} {cv : Value} (hc : Code anyB w cv (tcode a)) (h1 : w.heap[b1]? = some (.cells #[.int .i64 0, cv] 81)) (h2 : w.heap[b2]? = some (.cells #[.int .i64 0] 3))
    (h3 : w.heap[b3]? = some (.cells #[.slice (some ⟨b2, 0, none⟩) 1 1, .int .i64 0, .int .i64 0, .bool true] 83)) :
    PrgV w (.agg #[.slice (some ⟨b1, 0, none⟩) 1 1, .slice (some ⟨b3, 0, none⟩) 1 1, .slice none 0 0, .int .i64 9]) (timP a) := by
  refine ⟨_, _, _, rfl, ?_, ?_, ⟨_, _, rfl, by simp [timP], by simp [timP], Or.inl rfl⟩⟩
  · obtain ⟨c0, c1⟩ := blk2 h1
    refine ⟨_, 1, rfl, by simp [timP], by simp [timP], Or.inr ⟨b1, 0, rfl, trivial, (Array.getElem?_eq_some_iff.1 h1).1, fun j y hy => ?_⟩⟩
    match j, hy with
    | 0, hy => cases hy; exact ⟨c0, _, c1, hc⟩
  · obtain ⟨c0, c1, c2, c3⟩ := blk4 h3
    refine ⟨_, 1, rfl, by simp [timP], by simp [timP], Or.inr ⟨b3, 0, rfl, trivial, (Array.getElem?_eq_some_iff.1 h3).1, fun j y hy => ?_⟩⟩
    match j, hy with
    | 0, hy => cases hy; exact ⟨⟨_, c0, ints_lit h2⟩, c1, c2, c3⟩
/-- Between two tries: the world lies in a box; all below it is as it was. -/
structure TN (wP : World) (x : PWld) (wr : World) : Prop where
  bw : ∃ a m, wr.heap[wP.heap.size]? = some (.cells #[a, m, .int .i64 x.used.drop, .int .i64 x.used.dup, .int .i64 x.used.time, .int .i64 x.used.crash] 44) ∧ WldA (fun b => b ≠ wP.heap.size) wr (wVal x.used a m) x
  low : Below wP.heap.size wP wr
theorem TN.below {wP wr wa : World} {x : PWld} (h : TN wP x wr) (hb : Below wr.heap.size wr wa) : TN wP x wa :=
  let ⟨a, m, h1, h2⟩ := h.bw
  ⟨⟨a, m, boxAt h1 hb, h2.below hb⟩, bTrans h.low hb⟩
theorem TN.next {wP wr wa : World} {x x' : PWld} {a m : Value} (h : TN wP x wr) (hb : Below wr.heap.size wr wa) (hx : WldA (fun b => b ≠ wP.heap.size) wa (wVal x'.used a m) x') :
    TN wP x' (put6 wa wP.heap.size a m (.int .i64 x'.used.drop) (.int .i64 x'.used.dup) (.int .i64 x'.used.time) (.int .i64 x'.used.crash)) := by
  obtain ⟨a0, m0, h1, _⟩ := h.bw
  have hS : Same (fun d => d ≠ wP.heap.size) wa (put6 wa wP.heap.size a m (.int .i64 x'.used.drop) (.int .i64 x'.used.dup) (.int .i64 x'.used.time) (.int .i64 x'.used.crash)) := put6_same
  exact ⟨⟨a, m, put6_heap (boxAt h1 hb), hx.same hS⟩, put6_below (bTrans h.low hb) (Nat.le_refl _)⟩
end Go.Proofs.YtgdloonpemaijaaDoor
