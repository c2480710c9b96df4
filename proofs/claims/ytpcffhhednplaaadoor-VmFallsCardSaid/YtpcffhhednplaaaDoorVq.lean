/-
  The sixth law's program, as plain data: timers armed and calmed in order; and Round. No conditions.
-/
import Derived.Test.YtpcffhhednplaaaDoorCo
namespace Go.Proofs.YtpcffhhednplaaaDoor
open Go.RowKit
theorem wrapN {a n : Int} (h : 0 < n) : -n < a.tmod n ∧ a.tmod n < n := by
  have h1 := Int.tmod_lt_of_pos a h
  have h3 : -n < a.tmod n := by
    have := Int.tmod_lt_of_pos (-a) h
    rw [Int.neg_tmod] at this
    omega
  exact ⟨h3, h1⟩
def rnd (k n : Int) : Int := (k.tmod n + n) % n
theorem rnd_bd (k : Int) {n : Int} (h : 0 < n) : 0 ≤ rnd k n ∧ rnd k n < n := ⟨Int.emod_nonneg _ (by omega), Int.emod_lt_of_pos _ h⟩
set_option maxHeartbeats 400000 in
theorem round_any (k n : Int) (w : World) (h : 0 < n) (h2 : n < 100000) : Calls Tryd.prog 22 #[.int .i64 k, .int .i64 n] w fun e w' => e = .returned (.int .i64 (rnd k n)) ∧ w' = w := by
  obtain ⟨h3, h4⟩ := wrapN (a := k) h
  go_enter Tryd.func22, Tryd.ntmps22
  go_wp2
  go_ret
  exact ⟨rfl, rfl⟩

def aI (b : Bool) : PIns := if b then ⟨23, 0⟩ else ⟨24, 0⟩
def aC (l : List Bool) : List PIns := l.map aI
/-- Whether it is armed behind them, if it may be at all. -/
def aw (z was : Bool) (l : List Bool) : Bool := l.foldl (fun a b => if b then a || z else false) was
theorem aC_len (l : List Bool) : (aC l).length = l.length := by simp [aC]
theorem take_snoc {α : Type} {us : List α} {k : Nat} {b : α} (h : us[k]? = some b) : us.take (k + 1) = us.take k ++ [b] := by rw [List.take_add_one, h]; rfl
theorem aC_step {l : List Bool} {k : Nat} {b : Bool} (h : l[k]? = some b) : aC (l.take k) ++ [aI b] = aC (l.take (k + 1)) := by rw [take_snoc h]; simp [aC]
theorem aw_step {z was : Bool} {l : List Bool} {k : Nat} {b : Bool} (h : l[k]? = some b) : aw z was (l.take (k + 1)) = if b then aw z was (l.take k) || z else false := by
  rw [take_snoc h]; unfold aw; rw [List.foldl_append]; rfl
theorem aC_at {l : List Bool} {k : Nat} {b : Bool} (h : l[k]? = some b) : (aC l)[k]? = some (aI b) := by simp [aC, h]
theorem aI_ok (hs : List PHnd) (b : Bool) : okI hs (aI b) 0 := by cases b <;> exact ⟨(by show (0 : Int) ≤ 0; decide), (by show (0 : Int) ≤ 8; decide)⟩
theorem aI_lft (hs : List PHnd) (b : Bool) : lft hs (aI b) 0 = 0 := by cases b <;> rfl
theorem aI_nxt (b : Bool) (k : Nat) : nxt (aI b) k = [k + 1] := by cases b <;> rfl
theorem a_rch {hs : List PHnd} {l : List Bool} : ∀ k, k ≤ l.length → Rch hs (aC l) k 0
  | 0, _ => .start
  | k + 1, h => by
    obtain ⟨b, hb⟩ := at_lt (l := l) (k := k) (by omega)
    have := Rch.step (a_rch k (by omega)) (aC_at hb) (aI_ok hs b) (j := k + 1) (by rw [aI_nxt]; simp)
    rwa [aI_lft] at this
theorem rep_at {n k : Nat} {d : Int} (h : (List.replicate n (0 : Int))[k]? = some d) : k < n ∧ d = 0 := by
  rw [List.getElem?_replicate] at h
  split at h
  · exact ⟨by assumption, (Option.some.inj h).symm⟩
  · cases h
theorem a_good {hs : List PHnd} {l : List Bool} : Good hs (aC l) (List.replicate (l.length + 1) 0) := by
  refine ⟨⟨by simp [aC_len], by simp, fun k d hd => ?_⟩, fun k d i hd _ hi => ?_⟩
  · obtain ⟨h1, rfl⟩ := rep_at hd
    exact Or.inr (a_rch k (by omega))
  · obtain ⟨_, rfl⟩ := rep_at hd
    have hk : k < l.length := by have := (List.getElem?_eq_some_iff.1 hi).1; rw [aC_len] at this; exact this
    obtain ⟨b, hb⟩ := at_lt hk
    rw [aC_at hb] at hi
    cases hi
    refine ⟨aI_ok hs b, fun j hj => ?_⟩
    rw [aI_nxt, List.mem_singleton] at hj
    subst hj
    rw [aI_lft, List.getElem?_replicate, if_pos (by omega)]
theorem fa1 {l : List Bool} (hl : l.length ≤ 40) : fc (oneP 100 (aC l)) = 0 := one_fc (by decide) (by rw [aC_len]; omega) (fun i hi => by
  obtain ⟨b, _, rfl⟩ := List.mem_map.1 hi
  cases b <;> rfl) a_good
def locA (was : Bool) : PLoc := ⟨[1, 2], was, 0, 0, 0⟩
def raE (z was : Bool) (l : List Bool) : PRes := ⟨⟨[1, 2], aw z was l, 0, 0, 0⟩, [], l.length⟩
def as_ (z was : Bool) (l : List Bool) (j : Nat) : MS := ⟨[1, 2], aw z was (l.take j), [], [], j, j⟩
theorem a_step {who : Int} {z was : Bool} {l : List Bool} (hz : (tmr (oneP 100 (aC l)) who != -1) = z) (j f : Nat) (hj : j < l.length) : rn (oneP 100 (aC l)) who [] (aC l) (f + 1) (as_ z was l j) = rn (oneP 100 (aC l)) who [] (aC l) f (as_ z was l (j + 1)) := by
  obtain ⟨b, hb⟩ := at_lt hj
  have hc := aC_at hb
  have hs := aw_step (z := z) (was := was) hb
  unfold as_
  rw [hs]
  cases b with
  | true => rw [x23 hc, hz]; rfl
  | false => rw [x24 hc]; rfl
theorem eaE {who : Int} {z was : Bool} {l : List Bool} (hl : l.length ≤ 40) (hw : 0 ≤ who ∧ who < 2) (hz : (tmr (oneP 100 (aC l)) who != -1) = z) : runP (oneP 100 (aC l)) who (locA was) 0 [] = raE z was l := by
  rw [one_run (one_may (fa1 hl) hw (by show 2 ≤ 8; decide) rfl)]
  have h := rn_path (sj := as_ z was l) (L := l.length) (fun j f hj => a_step hz j f hj) l.length (100 - l.length) (Nat.le_refl _)
  rw [show 100 - l.length + l.length = 100 by omega] at h
  show fin (locA was) (rn (oneP 100 (aC l)) who [] (aC l) 100 (as_ z was l 0)) = raE z was l
  rw [h, rn_end (by show ¬ l.length < _; rw [aC_len]; omega)]
  unfold fin raE locA as_
  simp [w64]
end Go.Proofs.YtpcffhhednplaaaDoor
