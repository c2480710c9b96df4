/-
  The memory of a handler that runs: the run's own block, the registers, the notes; what each store does to them. No conditions.
-/
import Derived.Test.YtpcffhhednplaaaDoorVPlain
import Derived.Test.YtpcffhhednplaaaDoorDw
namespace Go.Proofs.YtpcffhhednplaaaDoor
open Go.RowKit

theorem setCell_heap {w : World} {b i : Nat} {v : Value} {c : Array Value} {T : TypeId} (h : w.heap[b]? = some (.cells c T)) : (w.setCell ⟨b, i, none⟩ v).heap[b]? = some (.cells (c.setIfInBounds i v) T) := by
  simp [World.setCell, Array.getElem?_modify, h]
theorem grown_low {w wr w' : World} {row : Option Nat} (h : Below w.heap.size w wr) (hg : wr.grownBy w' row) (hr : ∀ g, row = some g → w.heap.size ≤ g) : Below w.heap.size w w' :=
  ⟨hg.os.trans h.os, hg.tape.trans h.tape, hg.output.trans h.output, Nat.le_trans h.size hg.size, fun b hb => by
    rw [hg.block b (Nat.lt_of_lt_of_le hb h.size) (fun e => by have := hr b e.symm; omega)]; exact h.block b hb⟩

/-- What does not turn while a handler runs. -/
structure FX where
  a1 : Value
  a2 : Value
  a3 : Value
  fuel : Int
  who : Int
  va : Value
  vc : Value
  vr : Value
  down : Int
  sent : Int
  over : Int
/-- The run's cells. -/
def rv (x : FX) (ar : Bool) (vn : Value) (sk : List Int) (d a s : Int) : Nat → Value
  | 0 => x.a1
  | 1 => x.a2
  | 2 => x.a3
  | 3 => .int .i64 x.fuel
  | 4 => .int .i64 x.who
  | 5 => x.va
  | 6 => x.vc
  | 7 => x.vr
  | 8 => .bool ar
  | 9 => .int .i64 x.down
  | 10 => .int .i64 x.sent
  | 11 => .int .i64 x.over
  | 12 => vn
  | 21 => .int .i64 d
  | 22 => .int .i64 a
  | 23 => .int .i64 s
  | j => .int .i64 (sk.getD (j - 13) 0)
theorem rv_sk {x : FX} {ar : Bool} {vn : Value} {sk : List Int} {d a s : Int} {j : Nat} (hj : j < 8) : rv x ar vn sk d a s (13 + j) = .int .i64 (sk.getD j 0) := by
  match j, hj with
  | 0, _ => rfl
  | 1, _ => rfl
  | 2, _ => rfl
  | 3, _ => rfl
  | 4, _ => rfl
  | 5, _ => rfl
  | 6, _ => rfl
  | 7, _ => rfl

/-- Numbers in a row of the call's own, at its head. -/
def RG (w0 : World) (B : Nat) (w : World) (v : Value) (l : List Int) : Prop :=
  ∃ A c, v = .slice A l.length c ∧ l.length ≤ 8 ∧ (l = [] ∨ ∃ (b : Nat) (cur : Array Value), A = some ⟨b, 0, none⟩ ∧ w0.heap.size ≤ b ∧ b ≠ B ∧ w.heap[b]? = some (.cells cur 3) ∧ ∀ (k : Nat) (x : Int), l[k]? = some x → cur[k]? = some (Value.int .i64 x))
/-- The block of a list at a row's head. -/
def hb (v : Value) : Option Nat := match v with | .slice (some a) (_ + 1) _ => some a.block | _ => none
theorem RG.hb {w0 w : World} {B : Nat} {v : Value} {l : List Int} (h : RG w0 B w v l) {b : Nat} (e : hb v = some b) : w0.heap.size ≤ b ∧ b ≠ B ∧ b < w.heap.size := by
  obtain ⟨A, c, rfl, _, h⟩ := h
  rcases h with rfl | ⟨b', cur, rfl, h1, h2, h3, _⟩
  · cases A <;> cases e
  · cases l with
    | nil => cases e
    | cons _ _ =>
      have e' : b' = b := Option.some.inj e
      subst e'
      exact ⟨h1, h2, (Array.getElem?_eq_some_iff.1 h3).1⟩
theorem RG.same {w0 w w' : World} {B : Nat} {v : Value} {l : List Int} (h : RG w0 B w v l) (hs : ∀ b, YtpcffhhednplaaaDoor.hb v = some b → w'.heap[b]? = w.heap[b]?) : RG w0 B w' v l := by
  obtain ⟨A, c, rfl, hl, h⟩ := h
  refine ⟨A, c, rfl, hl, ?_⟩
  rcases h with rfl | ⟨b, cur, rfl, h1, h2, h3, h4⟩
  · exact Or.inl rfl
  · cases l with
    | nil => exact Or.inl rfl
    | cons _ _ => exact Or.inr ⟨b, cur, rfl, h1, h2, (hs b rfl).trans h3, h4⟩
theorem RG.form {w0 w : World} {B : Nat} {v : Value} {l : List Int} (h : RG w0 B w v l) : ∃ A c, v = .slice A l.length c ∧ l.length ≤ 8 := let ⟨A, c, h1, h2, _⟩ := h; ⟨A, c, h1, h2⟩
theorem RG.cell {w0 w : World} {B : Nat} {A : Option Addr} {n c : Nat} {l : List Int} (h : RG w0 B w (.slice A n c) l) {k : Nat} (hk : k < l.length) :
    ∃ b x, A = some ⟨b, 0, none⟩ ∧ YtpcffhhednplaaaDoor.hb (.slice A n c) = some b ∧ l[k]? = some x ∧ b < w.heap.size ∧ b ≠ B ∧ w.cell? ⟨b, k, none⟩ = some (.int .i64 x) ∧ ∀ j, w.frozen? ⟨b, j, none⟩ = false := by
  obtain ⟨A', c', e, _, h⟩ := h
  cases e
  obtain ⟨x, hx⟩ := at_lt hk
  rcases h with rfl | ⟨b, cur, rfl, h1, h2, h3, h4⟩
  · cases hx
  · cases l with
    | nil => cases hx
    | cons _ _ => exact ⟨b, x, rfl, rfl, hx, (Array.getElem?_eq_some_iff.1 h3).1, h2, by simp [World.cell?, h3, h4 _ _ hx], fun j => by simp [World.frozen?, h3]⟩
theorem RG.set {w0 w : World} {B : Nat} {A : Option Addr} {n c b k : Nat} {l : List Int} (h : RG w0 B w (.slice A n c) l) (hA : A = some ⟨b, 0, none⟩) (hk : k < l.length) (y : Int) : RG w0 B (w.setCell ⟨b, k, none⟩ (.int .i64 y)) (.slice A n c) (l.set k y) := by
  obtain ⟨A', c', e, hl, h⟩ := h
  cases e
  refine ⟨A, c, by rw [List.length_set], by rw [List.length_set]; exact hl, ?_⟩
  rcases h with rfl | ⟨b', cur, rfl, h1, h2, h3, h4⟩
  · simp at hk
  · cases hA
    refine Or.inr ⟨b, cur.setIfInBounds k (.int .i64 y), rfl, h1, h2, setCell_heap h3, fun j x hx => ?_⟩
    obtain ⟨z, hz⟩ := at_lt hk
    have hkc := (Array.getElem?_eq_some_iff.1 (h4 k z hz)).1
    by_cases e : k = j
    · subst e
      rw [List.getElem?_set_self hk] at hx
      cases hx
      rw [Array.getElem?_setIfInBounds_self_of_lt hkc]
    · rw [List.getElem?_set_ne e] at hx
      rw [Array.getElem?_setIfInBounds_ne e]
      exact h4 j x hx
theorem RG.ints {w0 w : World} {B : Nat} {v : Value} {l : List Int} (h : RG w0 B w v l) : Ints (fun b => w0.heap.size ≤ b) w v l := by
  obtain ⟨A, c, rfl, hl, h⟩ := h
  refine ⟨A, c, rfl, by omega, ?_⟩
  rcases h with rfl | ⟨b, cur, rfl, h1, h2, h3, h4⟩
  · exact Or.inl rfl
  · exact Or.inr ⟨b, 0, rfl, h1, (Array.getElem?_eq_some_iff.1 h3).1, fun k x hx => by
      show w.cell? ⟨b, 0 + k * 1, none⟩ = _
      rw [Nat.zero_add, Nat.mul_one]
      simp [World.cell?, h3, h4 _ _ hx]⟩

/-- Notes in a row of the call's own; each one's arguments elsewhere, in blocks of which ex does not say yes. -/
structure NT (w0 : World) (ex : Nat → Prop) (w : World) (v : Value) (l : List PNte) (us : List Value) : Prop where
  own : w.ownsRow w0.heap.size 47 3 v l.length ((List.zipWith (fun (n : PNte) u => [Value.int .i64 n.to, Value.int .i64 n.hd, u]) l us).flatten)
  len : us.length = l.length
  rd : ∀ (k : Nat) (n : PNte) (u : Value), l[k]? = some n → us[k]? = some u → Ints (fun b => w0.heap.size ≤ b ∧ ¬ ex b ∧ v.ownBlock ≠ some b) w u n.args
  nx : ∀ g, v.ownBlock = some g → ¬ ex g
theorem NT.same {w0 w w' : World} {ex : Nat → Prop} {v : Value} {l : List PNte} {us : List Value} (h : NT w0 ex w v l us) (hz : w.heap.size ≤ w'.heap.size) (hs : ∀ b, b < w.heap.size → ¬ ex b → w'.heap[b]? = w.heap[b]?) : NT w0 ex w' v l us :=
  ⟨own_block h.own fun g hg hlt => hs g hlt (h.nx g hg), h.len, fun k n u hn hu => (h.rd k n u hn hu).same ⟨hz, fun b hb hlt => hs b hlt hb.2.1⟩, h.nx⟩
theorem NT.form {w0 w : World} {ex : Nat → Prop} {v : Value} {l : List PNte} {us : List Value} (h : NT w0 ex w v l us) : ∃ A c, v = .slice A l.length c := by
  obtain ⟨h1, h2⟩ := h.own
  rcases h2 with ⟨rfl, h2⟩ | ⟨g, cap, cur, rfl, _⟩
  · exact ⟨none, 0, by rw [h2]⟩
  · exact ⟨_, cap, rfl⟩
theorem NT.nil (w0 w : World) (ex : Nat → Prop) : NT w0 ex w (.slice none 0 0) [] [] :=
  ⟨⟨rfl, Or.inl ⟨rfl, rfl⟩⟩, rfl, fun k n u hn => by simp at hn, fun g hg => by cases hg⟩
theorem NT.push {w0 w w1 w' : World} {ex : Nat → Prop} {v : Value} {l : List PNte} {us : List Value} {g cap : Nat} {n : PNte} {u : Value} (h : NT w0 ex w v l us) (hz : w0.heap.size ≤ w.heap.size) (hb1 : Below w.heap.size w w1)
    (hex : ∀ b, ex b → b < w.heap.size)
    (ho : w'.ownsRow w0.heap.size 47 3 (.slice (some ⟨g, 0, none⟩) (l.length + 1) cap) (l.length + 1) ((List.zipWith (fun (n : PNte) u => [Value.int .i64 n.to, Value.int .i64 n.hd, u]) l us).flatten ++ [Value.int .i64 n.to, Value.int .i64 n.hd, u]))
    (hg : w1.grownBy w' v.ownBlock) (hat : v.ownBlock = some g ∨ g = w1.heap.size) (hu : Ints (fun b => w.heap.size ≤ b) w1 u n.args) :
    NT w0 ex w' (.slice (some ⟨g, 0, none⟩) (l.length + 1) cap) (l ++ [n]) (us ++ [u]) := by
  have hs := hb1.size
  have hge : ∀ b, (Value.slice (some ⟨g, 0, none⟩) (l.length + 1) cap).ownBlock = some b → b = g := fun b hb => (Option.some.inj hb).symm
  refine ⟨?_, by simp [h.len], fun k n' u' hn hu' => ?_, fun b hb => ?_⟩
  · rw [List.length_append, List.length_singleton]
    rw [List.zipWith_append (by rw [h.len]), List.flatten_append]
    simpa using ho
  · by_cases hk : k < l.length
    · rw [List.getElem?_append_left hk] at hn
      rw [List.getElem?_append_left (by rw [h.len]; exact hk)] at hu'
      have h1 := (h.rd k n' u' hn hu').lt
      refine (h1.imp (fun b hb => ⟨hb.1.1, hb.1.2.1, fun e => ?_⟩) (Nat.le_trans hs hg.size) fun b o x hb hlt hr => ?_)
      · have := hge b e
        subst this
        rcases hat with hat | hat
        · exact hb.1.2.2 hat
        · have := hb.2; omega
      · have e1 := hg.block b (by omega) (fun e => hb.1.2.2 e.symm)
        have e2 := hb1.block b hlt
        exact (World.cell?_of_block (w := w) (e1.trans e2)).trans hr
    · have hk2 : k = l.length := by have := (List.getElem?_eq_some_iff.1 hn).1; simp at this; omega
      subst hk2
      rw [List.getElem?_append_right (by omega)] at hn
      rw [List.getElem?_append_right (by rw [h.len]; omega)] at hu'
      simp [h.len] at hn hu'
      subst hn hu'
      refine hu.lt.imp (fun b hb => ⟨by omega, fun e => ?_, fun e => ?_⟩) hg.size fun b o x hb hlt hr => ?_
      · have := hex b e; omega
      · have := hge b e
        subst this
        rcases hat with hat | hat
        · have := (own_lt h.own hat).2; omega
        · have := hb.2; omega
      · refine (World.cell?_of_block (w := w1) (hg.block b hlt (fun e => ?_))).trans hr
        have := (own_lt h.own e.symm).2; omega
  · have := hge b hb
    subst this
    rcases hat with hat | hat
    · exact h.nx _ hat
    · intro e; have := hex _ e; omega
theorem flat_at {sz : Nat} : ∀ (l : List (List Value)), (∀ e ∈ l, e.length = sz) → ∀ i j, j < sz → l.flatten[i * sz + j]? = (l[i]?).bind (·[j]?)
  | [], _, i, j, _ => by simp
  | e :: l, h, 0, j, hj => by
    have he := h e (by simp)
    rw [List.flatten_cons, Nat.zero_mul, Nat.zero_add, List.getElem?_append_left (by omega)]; rfl
  | e :: l, h, i + 1, j, hj => by
    have he := h e (by simp)
    have e1 : (i + 1) * sz + j = e.length + (i * sz + j) := by rw [he, Nat.succ_mul]; omega
    rw [List.flatten_cons, e1, List.getElem?_append_right (by omega), Nat.add_sub_cancel_left, flat_at l (fun x hx => h x (by simp [hx])) i j hj]; rfl
theorem zip_len : ∀ (l : List PNte) (us : List Value), ∀ e ∈ List.zipWith (fun (n : PNte) u => [Value.int .i64 n.to, Value.int .i64 n.hd, u]) l us, e.length = 3
  | [], _, e, he => by simp at he
  | _ :: _, [], e, he => by simp at he
  | n :: l, u :: us, e, he => by
    rw [List.zipWith_cons_cons, List.mem_cons] at he
    rcases he with rfl | he
    · rfl
    · exact zip_len l us e he
theorem NT.ntes {w0 w : World} {ex : Nat → Prop} {v : Value} {l : List PNte} {us : List Value} (h : NT w0 ex w v l us) (hl : l.length ≤ 1000000) : Ntes (fun b => w0.heap.size ≤ b) (fun b => w0.heap.size ≤ b) w v l := by
  obtain ⟨h1, h2⟩ := h.own
  rcases h2 with ⟨rfl, h2⟩ | ⟨g, cap, cur, rfl, hb, hh, h3, h4, h5, h6⟩
  · have : l = [] := by cases l with | nil => rfl | cons _ _ => simp at h2
    subst this; exact ⟨_, _, rfl, by simp, Or.inl rfl⟩
  · refine ⟨_, cap, rfl, by omega, Or.inr ⟨g, 0, rfl, hb, (Array.getElem?_eq_some_iff.1 hh).1, fun k n hn => ?_⟩⟩
    have hk := (List.getElem?_eq_some_iff.1 hn).1
    obtain ⟨u, hu⟩ := at_lt (l := us) (k := k) (by rw [h.len]; exact hk)
    have hz : (List.zipWith (fun (n : PNte) u => [Value.int .i64 n.to, Value.int .i64 n.hd, u]) l us)[k]? = some [Value.int .i64 n.to, Value.int .i64 n.hd, u] := by
      rw [List.getElem?_zipWith, hn, hu]
    have hcell : ∀ j, j < l.length * 3 → w.cell? ⟨g, j, none⟩ = ((List.zipWith (fun (n : PNte) u => [Value.int .i64 n.to, Value.int .i64 n.hd, u]) l us).flatten)[j]? := fun j hj => by
      rw [cell_of_row _ _ _ _ _ _ hh, ← h6, List.getElem?_take, if_pos hj]; simp
    have hc : ∀ j, j < 3 → w.cell? ⟨g, 0 + k * 3 + j, none⟩ = [Value.int .i64 n.to, Value.int .i64 n.hd, u][j]? := fun j hj => by
      rw [Nat.zero_add, hcell _ (by omega), flat_at _ (zip_len l us) k j hj, hz]; rfl
    exact ⟨hc 0 (by omega), hc 1 (by omega), u, hc 2 (by omega), (h.rd k n u hn hu).imp (fun b hb => hb.1) (Nat.le_refl _) fun _ _ _ _ _ h => h⟩

/-- The machine's memory. w0: the world ahead of the call; B: the run's block. -/
structure RM (w0 : World) (B : Nat) (x : FX) (vn : Value) (us : List Value) (sk : List Int) (s : MS) (w : World) : Prop where
  low : Below w0.heap.size w0 w
  row : w.rowIs B 66 24 (rv x s.armed vn sk s.st.length s.pc s.steps)
  base : w0.heap.size ≤ B
  skl : sk.length = 8
  stk : sk.take s.st.length = s.st.reverse
  st8 : s.st.length ≤ 8
  regs : RG w0 B w x.vr s.regs
  nts : NT w0 (fun b => b = B ∨ hb x.vr = some b) w vn s.notes us
section
variable {w0 w w1 w' : World} {B : Nat} {x : FX} {vn : Value} {us : List Value} {sk : List Int} {s : MS}
theorem RM.lt (h : RM w0 B x vn us sk s w) : B < w.heap.size := h.row.lt
theorem RM.below (h : RM w0 B x vn us sk s w) (hb : Below w.heap.size w w1) : RM w0 B x vn us sk s w1 :=
  ⟨bTrans h.low hb, h.row.of_block (hb.block B h.lt), h.base, h.skl, h.stk, h.st8, h.regs.same fun b e => hb.block b (h.regs.hb e).2.2, h.nts.same hb.size fun b hlt _ => hb.block b hlt⟩
/-- A store into the run's block. -/
theorem RM.setB (h : RM w0 B x vn us sk s w) (j : Nat) (u : Value) (s' : MS) (sk' : List Int) (hr : s'.regs = s.regs) (hn : s'.notes = s.notes) (hl : sk'.length = 8) (ht : sk'.take s'.st.length = s'.st.reverse) (h8 : s'.st.length ≤ 8)
    (hv : ∀ i, i < 24 → (if i = j then u else rv x s.armed vn sk s.st.length s.pc s.steps i) = rv x s'.armed vn sk' s'.st.length s'.pc s'.steps i) : RM w0 B x vn us sk' s' (w.setCell ⟨B, j, none⟩ u) := by
  have hne : ∀ b, b ≠ B → (w.setCell ⟨B, j, none⟩ u).heap[b]? = w.heap[b]? := fun b hb => Below.heap_setCell _ _ _ _ (fun e => hb (by have e' : b = B := e; exact e'))
  refine ⟨h.low.setCell h.base _, (h.row.set j u).congr hv, h.base, hl, ht, h8, ?_, ?_⟩
  · rw [hr]; exact h.regs.same fun b e => hne b (h.regs.hb e).2.1
  · rw [hn]; exact h.nts.same (by simp) fun b _ hb => hne b (fun e => hb (Or.inl e))
/-- What the cells hold. -/
theorem RM.c (h : RM w0 B x vn us sk s w) (i : Nat) (hi : i < 24) : w.cell? ⟨B, i, none⟩ = some (rv x s.armed vn sk s.st.length s.pc s.steps i) := h.row.cell hi
theorem RM.fz (h : RM w0 B x vn us sk s w) (i : Nat) : w.frozen? ⟨B, i, none⟩ = false := h.row.frozen i
theorem RM.sc (h : RM w0 B x vn us sk s w) {j : Nat} (hj : j < 8) : w.cell? ⟨B, 13 + j, none⟩ = some (.int .i64 (sk.getD j 0)) := by rw [h.c _ (by omega), rv_sk hj]
end
end Go.Proofs.YtpcffhhednplaaaDoor
