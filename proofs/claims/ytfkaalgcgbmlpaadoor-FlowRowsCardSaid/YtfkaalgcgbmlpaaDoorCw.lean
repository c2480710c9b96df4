/-
  The memory of a law that makes code and depths by appending: what each append does. No conditions.
-/
import Derived.Test.YtfkaalgcgbmlpaaDoorAw
namespace Go.Proofs.YtfkaalgcgbmlpaaDoor
open Go.RowKit

theorem info43 : (Tryd.prog.info? 43).map (fun i => (i.zero, i.size, i.bytes)) = some (some (.agg #[.int .i64 0, .int .i64 0]), 2, 16) := by kernel_rfl

/-- Instructions, and numbers, as cells. -/
def cv (l : List PIns) : List Value := (l.map fun i => [Value.int .i64 i.op, Value.int .i64 i.a]).flatten
def iv (l : List Int) : List Value := l.map fun x => Value.int .i64 x
theorem cv_len (l : List PIns) : (cv l).length = l.length * 2 := by
  induction l with
  | nil => rfl
  | cons x r ih => simp only [cv, List.map_cons, List.flatten_cons, List.length_append, List.length_cons, List.length_nil] at *; omega
theorem cv_append (a b : List PIns) : cv (a ++ b) = cv a ++ cv b := by simp [cv]
theorem iv_append (a b : List Int) : iv (a ++ b) = iv a ++ iv b := by simp [iv]
theorem iv_len (l : List Int) : (iv l).length = l.length := by simp [iv]
theorem cv_at {l : List PIns} {k : Nat} {x : PIns} (h : l[k]? = some x) : (cv l)[k * 2]? = some (.int .i64 x.op) ∧ (cv l)[k * 2 + 1]? = some (.int .i64 x.a) := by
  induction l generalizing k with
  | nil => simp at h
  | cons y r ih =>
    match k, h with
    | 0, h => simp at h; subst h; exact ⟨rfl, rfl⟩
    | k + 1, h =>
      have := ih (k := k) (by simpa using h)
      have e1 : (k + 1) * 2 = 2 + k * 2 := by omega
      simp only [cv, List.map_cons, List.flatten_cons] at *
      rw [e1, List.getElem?_append_right (by simp), show 2 + k * 2 + 1 = 2 + (k * 2 + 1) by omega, List.getElem?_append_right (by simp)]
      simpa using this
theorem cv_one (l : List PIns) : ∀ u ∈ cv l, u.oneCell' = true := by
  intro u hu
  simp only [cv, List.mem_flatten, List.mem_map] at hu
  obtain ⟨c, ⟨i, _, rfl⟩, hu⟩ := hu
  simp at hu
  rcases hu with rfl | rfl <;> rfl
theorem iv_one (l : List Int) : ∀ u ∈ iv l, u.oneCell' = true := by
  intro u hu
  simp only [iv, List.mem_map] at hu
  obtain ⟨x, _, rfl⟩ := hu
  rfl

/-- w: the world ahead of the law. The list vc holds code, the list vw holds want, each in a row of its own. -/
structure CW (w : World) (vc : Value) (code : List PIns) (vw : Value) (want : List Int) (wr : World) : Prop where
  low : Below w.heap.size w wr
  oc : wr.ownsRow w.heap.size 43 2 vc code.length (cv code)
  ow : wr.ownsRow w.heap.size 3 1 vw want.length (iv want)
  ne : ∀ g, vc.ownBlock = some g → vw.ownBlock ≠ some g
section
variable {w wr w1 w' : World} {vc vw : Value} {code : List PIns} {want : List Int}
theorem CW.below (h : CW w vc code vw want wr) (hb : Below wr.heap.size wr w1) : CW w vc code vw want w1 :=
  ⟨bTrans h.low hb, own_block h.oc fun g _ hg => hb.block g hg, own_block h.ow fun g _ hg => hb.block g hg, h.ne⟩
theorem grown_low {row : Option Nat} (h : Below w.heap.size w wr) (hg : wr.grownBy w' row) (hr : ∀ g, row = some g → w.heap.size ≤ g) : Below w.heap.size w w' :=
  ⟨hg.os.trans h.os, hg.tape.trans h.tape, hg.output.trans h.output, Nat.le_trans h.size hg.size, fun b hb => by
    rw [hg.block b (Nat.lt_of_lt_of_le hb h.size) (fun e => by have := hr b e.symm; omega)]; exact h.block b hb⟩
theorem CW.pushC {g cap : Nat} {cs : List PIns} (h : CW w vc code vw want wr) (ho : w'.ownsRow w.heap.size 43 2 (.slice (some ⟨g, 0, none⟩) (code.length + cs.length) cap) (code.length + cs.length) (cv code ++ cv cs))
    (hg : wr.grownBy w' vc.ownBlock) (hat : vc.ownBlock = some g ∨ g = wr.heap.size) : CW w (.slice (some ⟨g, 0, none⟩) (code.length + cs.length) cap) (code ++ cs) vw want w' := by
  refine ⟨grown_low h.low hg fun k hk => (own_lt h.oc hk).1, by rw [List.length_append, cv_append]; exact ho, own_block h.ow fun k hk hlt => hg.block k hlt (fun e => h.ne k e.symm hk), fun k hk hw => ?_⟩
  have e : g = k := Option.some.inj hk
  subst e
  rcases hat with hat | hat
  · exact h.ne _ hat hw
  · have := (own_lt h.ow hw).2; omega
theorem CW.pushW {g cap : Nat} {xs : List Int} (h : CW w vc code vw want wr) (ho : w'.ownsRow w.heap.size 3 1 (.slice (some ⟨g, 0, none⟩) (want.length + xs.length) cap) (want.length + xs.length) (iv want ++ iv xs))
    (hg : wr.grownBy w' vw.ownBlock) (hat : vw.ownBlock = some g ∨ g = wr.heap.size) : CW w vc code (.slice (some ⟨g, 0, none⟩) (want.length + xs.length) cap) (want ++ xs) w' := by
  refine ⟨grown_low h.low hg fun k hk => (own_lt h.ow hk).1, own_block h.oc fun k hk hlt => hg.block k hlt (fun e => h.ne k hk e.symm), by rw [List.length_append, iv_append]; exact ho, fun k hk hw => ?_⟩
  have e : g = k := Option.some.inj hw
  subst e
  rcases hat with hat | hat
  · exact h.ne _ hk hat
  · have := (own_lt h.oc hk).2; omega
theorem CW.cd (h : CW w vc code vw want wr) (hl : code.length ≤ 1000) : Code anyB wr vc code := by
  obtain ⟨h1, h2⟩ := h.oc
  rcases h2 with ⟨rfl, h2⟩ | ⟨g, cap, cur, rfl, hb, hh, h3, h4, h5, h6⟩
  · have : code = [] := by cases code with | nil => rfl | cons _ _ => simp at h2
    subst this; exact sl0
  · refine ⟨_, cap, rfl, by omega, Or.inr ⟨g, 0, rfl, trivial, (Array.getElem?_eq_some_iff.1 hh).1, fun k x hx => ?_⟩⟩
    have hk := (List.getElem?_eq_some_iff.1 hx).1
    have hc := cv_at hx
    have hcell : ∀ j, j < code.length * 2 → wr.cell? ⟨g, j, none⟩ = (cv code)[j]? := fun j hj => by
      rw [cell_of_row _ _ _ _ _ _ hh, ← h6, List.getElem?_take, if_pos hj]; simp
    rw [Nat.zero_add]
    exact ⟨(hcell _ (by omega)).trans hc.1, (hcell _ (by omega)).trans hc.2⟩
theorem CW.ints (h : CW w vc code vw want wr) (hl : want.length ≤ 1000) : Ints anyB wr vw want := by
  obtain ⟨h1, h2⟩ := h.ow
  rcases h2 with ⟨rfl, h2⟩ | ⟨g, cap, cur, rfl, hb, hh, h3, h4, h5, h6⟩
  · have : want = [] := by cases want with | nil => rfl | cons _ _ => simp at h2
    subst this; exact sl0
  · refine ⟨_, cap, rfl, by omega, Or.inr ⟨g, 0, rfl, trivial, (Array.getElem?_eq_some_iff.1 hh).1, fun k x hx => ?_⟩⟩
    have hk := (List.getElem?_eq_some_iff.1 hx).1
    show wr.cell? ⟨g, 0 + k * 1, none⟩ = some (.int .i64 x)
    rw [Nat.zero_add, Nat.mul_one, cell_of_row _ _ _ _ _ _ hh]
    have e : cur[k]? = (iv want)[k]? := by rw [← h6, List.getElem?_take, if_pos (by omega)]; simp
    rw [e, iv, List.getElem?_map, hx]; rfl
theorem CW.formC (h : CW w vc code vw want wr) : ∃ A c, vc = .slice A code.length c := by
  obtain ⟨h1, h2⟩ := h.oc
  rcases h2 with ⟨rfl, h2⟩ | ⟨g, cap, cur, rfl, _⟩
  · exact ⟨none, 0, by rw [h2]⟩
  · exact ⟨_, cap, rfl⟩
theorem CW.formW (h : CW w vc code vw want wr) : ∃ A c, vw = .slice A want.length c := by
  obtain ⟨h1, h2⟩ := h.ow
  rcases h2 with ⟨rfl, h2⟩ | ⟨g, cap, cur, rfl, _⟩
  · exact ⟨none, 0, by rw [h2]⟩
  · exact ⟨_, cap, rfl⟩
end
/-- A new list of one. -/
theorem CW.start {W : World} {B : Nat} (x : Int) (hB : W.heap.size = B) : CW W (.slice none 0 0) [] (.slice (some ⟨B, 0, none⟩) 1 1) [x] (W.alloc (.cells #[.int .i64 x] 3)) := by
  subst hB
  exact ⟨bAlloc (bRefl W) _, ⟨rfl, Or.inl ⟨rfl, rfl⟩⟩, ⟨rfl, Or.inr ⟨W.heap.size, 1, #[.int .i64 x], rfl, Nat.le_refl _, heap_new _ _, by simp, by simp [maxLen], rfl, rfl⟩⟩, fun g hg => by cases hg⟩

section
variable {w W : World} {vc vw : Value} {code : List PIns} {want : List Int} {ops : Array Oper} {rest : List Oper} {o : Oper} {a : Act} {Q : Exit → Act → World → Prop}
/-- Code is appended. -/
theorem appC (hgd : o.guard = none) (s x : Operand) (ho : o.op = .call { callee := .builtin .append, args := #[s, x], argTypes := #[41, 41] }) (cs : List PIns) (B n m : Nat)
    (h : CW w vc code vw want W) (hs : a.eval s = vc) (hx : a.eval x = .slice (some ⟨B, 0, none⟩) m m) (hm : cs.length = m) (hn : code.length + m = n) (h0 : 0 < m) (hB : W.heap[B]? = some (.cells (cv cs).toArray 43)) (hl : code.length + m ≤ 1000)
    (hK : ∀ g cap w', CW w (.slice (some ⟨g, 0, none⟩) n cap) (code ++ cs) vw want w' → W.grownBy w' vc.ownBlock → wpList Tryd.prog ops Q rest (a.put o.dst (.slice (some ⟨g, 0, none⟩) n cap)) w') : wpList Tryd.prog ops Q (o :: rest) a W := by
  obtain ⟨i0, hi0, hz0, hz1, hz2⟩ := info_parts info43
  subst hm hn
  refine wpList_append_lies W hgd s x 41 ho w.heap.size 43 i0 _ 2 16 Tryd.underlying41 hi0 hz0 hz1 hz2 rfl (by decide) vc code.length (cv code) hs h.oc ⟨B, 0, none⟩ cs.length cs.length (cv cs) hx (cv_len cs) (fun j u hu => World.news_of_block hB j u (by simpa using hu)) (cv_one cs) h0 (by unfold maxLen; omega) (by omega) h.low.size W.heap.size rfl ?_
  intro g cap w' hown hgr hat _
  exact hK g cap w' (h.pushC hown hgr hat) hgr
/-- A number is appended. -/
theorem appW (hgd : o.guard = none) (s x : Operand) (ho : o.op = .call { callee := .builtin .append, args := #[s, x], argTypes := #[29, 29] }) (xs : List Int) (B n m : Nat)
    (h : CW w vc code vw want W) (hs : a.eval s = vw) (hx : a.eval x = .slice (some ⟨B, 0, none⟩) m m) (hm : xs.length = m) (hn : want.length + m = n) (h0 : 0 < m) (hB : W.heap[B]? = some (.cells (iv xs).toArray 3)) (hl : want.length + m ≤ 1000)
    (hK : ∀ g cap w', CW w vc code (.slice (some ⟨g, 0, none⟩) n cap) (want ++ xs) w' → W.grownBy w' vw.ownBlock → wpList Tryd.prog ops Q rest (a.put o.dst (.slice (some ⟨g, 0, none⟩) n cap)) w') : wpList Tryd.prog ops Q (o :: rest) a W := by
  obtain ⟨i0, hi0, hz0, hz1, hz2⟩ := info_parts info3
  subst hm hn
  refine wpList_append_lies W hgd s x 29 ho w.heap.size 3 i0 _ 1 8 Tryd.underlying29 hi0 hz0 hz1 hz2 rfl (by decide) vw want.length (iv want) hs h.ow ⟨B, 0, none⟩ xs.length xs.length (iv xs) hx (by rw [iv_len, Nat.mul_one]) (fun j u hu => World.news_of_block hB j u (by simpa using hu)) (iv_one xs) h0 (by unfold maxLen; omega) (by omega) h.low.size W.heap.size rfl ?_
  intro g cap w' hown hgr hat _
  exact hK g cap w' (h.pushW hown hgr hat) hgr
/-- .. where the statement asks first. -/
theorem appWg (hw : Region.wanted o (yielded ops a.tmps) = true) (s x : Operand) (ho : o.op = .call { callee := .builtin .append, args := #[s, x], argTypes := #[29, 29] }) (xs : List Int) (B n m : Nat)
    (h : CW w vc code vw want W) (hs : a.eval s = vw) (hx : a.eval x = .slice (some ⟨B, 0, none⟩) m m) (hm : xs.length = m) (hn : want.length + m = n) (h0 : 0 < m) (hB : W.heap[B]? = some (.cells (iv xs).toArray 3)) (hl : want.length + m ≤ 1000)
    (hK : ∀ g cap w', CW w vc code (.slice (some ⟨g, 0, none⟩) n cap) (want ++ xs) w' → W.grownBy w' vw.ownBlock → wpList Tryd.prog ops Q rest (a.put o.dst (.slice (some ⟨g, 0, none⟩) n cap)) w') : wpList Tryd.prog ops Q (o :: rest) a W := by
  obtain ⟨i0, hi0, hz0, hz1, hz2⟩ := info_parts info3
  subst hm hn
  refine wpList_step fun K hK' => ?_
  rw [if_pos hw]
  refine wp_append_lies W s x 29 ho w.heap.size 3 i0 _ 1 8 Tryd.underlying29 hi0 hz0 hz1 hz2 rfl (by decide) vw want.length (iv want) hs h.ow ⟨B, 0, none⟩ xs.length xs.length (iv xs) hx (by rw [iv_len, Nat.mul_one]) (fun j u hu => World.news_of_block hB j u (by simpa using hu)) (iv_one xs) h0 (by unfold maxLen; omega) (by omega) h.low.size W.heap.size rfl ?_
  intro g cap w' hown hgr hat _
  exact hK' _ _ (hK g cap w' (h.pushW hown hgr hat) hgr)
end
theorem heap_new2 {w : World} {o : Obj} {n : Nat} (h : w.heap.size = n) : (w.alloc o).heap[n]? = some o := by subst h; exact heap_new _ _

/-- When Check takes the program of one handler. -/
theorem chk_one {code : List PIns} (hl : code.length ≤ 64) (h : ∀ i ∈ code, chkI code.length 0 1 i = 0) : chk (hP code) = 0 := by
  have hs : ∀ l : List PIns, (∀ i ∈ l, chkI code.length 0 1 i = 0) → scan (chkI code.length 0 1) l = 0 := by
    intro l
    induction l with
    | nil => intro _; rfl
    | cons x r ih => intro hx; unfold scan; rw [if_pos (hx x (by simp))]; exact ih fun i hi => hx i (by simp [hi])
  have h1 : chkH 1 ⟨0, code⟩ = 0 := by
    unfold chkH
    rw [if_pos (by simp), if_pos hl]
    exact hs code h
  have h0 : chkC (hP code) = 0 := by unfold chkC hP; simp
  unfold chk
  rw [if_pos h0]
  have h2 : scan (chkH (hP code).hs.length) (hP code).hs = 0 := by
    show (if chkH 1 ⟨0, code⟩ = 0 then 0 else chkH 1 ⟨0, code⟩) = 0
    rw [if_pos h1]
  have h3 : scan (chkA (hP code).hs) (hP code).acs = 0 := by
    show (if chkA (hP code).hs ⟨[0], 0, -1, false⟩ = 0 then 0 else chkA (hP code).hs ⟨[0], 0, -1, false⟩) = 0
    have : chkA (hP code).hs ⟨[0], 0, -1, false⟩ = 0 := by unfold chkA; simp
    rw [if_pos this]
  rw [if_pos h2, if_pos h3]
  rfl
end Go.Proofs.YtfkaalgcgbmlpaaDoor
