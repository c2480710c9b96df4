/-
  What a law holds of a result that it keeps; when a program of one handler may run, and what comes of it. No conditions.
-/
import Derived.Test.YtpcffhhednplaaaDoorVo
import Derived.Deep.DeepCutAuto
namespace Go.Proofs.YtpcffhhednplaaaDoor
open Go.RowKit

/-- A result in a box of the law's own. -/
structure RB (W : World) (b : Nat) (r : PRes) (A : Option Addr) (c : Nat) (An : Option Addr) (cn : Nat) (wc : World) : Prop where
  low : Below W.heap.size W wc
  base : W.heap.size ≤ b
  box : wc.heap[b]? = some (.cells #[.slice A r.loc.regs.length c, .bool r.loc.armed, .int .i64 r.loc.down, .int .i64 r.loc.sent, .int .i64 r.loc.over, .slice An r.notes.length cn, .int .i64 r.steps] 35)
  regs : Ints anyB wc (.slice A r.loc.regs.length c) r.loc.regs
  nts : Ntes anyB anyB wc (.slice An r.notes.length cn) r.notes
section
variable {W w3 wX wc w' : World} {b c cn : Nat} {r : PRes} {A An : Option Addr}
theorem RB.below (h : RB W b r A c An cn wc) (hb : Below wc.heap.size wc w') : RB W b r A c An cn w' :=
  ⟨bTrans h.low hb, h.base, (hb.block _ (Array.getElem?_eq_some_iff.1 h.box).1).trans h.box, Ints.below h.regs hb, Ntes.below h.nts hb⟩
theorem ResV.form {ok : Nat → Prop} {w : World} {v : Value} (h : ResV ok w v r) : ∃ A c An cn, v = .agg #[.slice A r.loc.regs.length c, .bool r.loc.armed, .int .i64 r.loc.down, .int .i64 r.loc.sent, .int .i64 r.loc.over, .slice An r.notes.length cn, .int .i64 r.steps] ∧ Ints ok w (.slice A r.loc.regs.length c) r.loc.regs ∧ Ntes ok ok w (.slice An r.notes.length cn) r.notes := by
  obtain ⟨cr, cn, rfl, h1, h2⟩ := h
  obtain ⟨A, c, rfl, _⟩ := h1.form
  obtain ⟨An, c2, rfl, _⟩ := h2.form
  exact ⟨A, c, An, c2, rfl, h1, h2⟩
abbrev put7 (w : World) (b : Nat) (v0 v1 v2 v3 v4 v5 v6 : Value) : World := ((((((w.setCell ⟨b, 0, none⟩ v0).setCell ⟨b, 1, none⟩ v1).setCell ⟨b, 2, none⟩ v2).setCell ⟨b, 3, none⟩ v3).setCell ⟨b, 4, none⟩ v4).setCell ⟨b, 5, none⟩ v5).setCell ⟨b, 6, none⟩ v6
theorem put7_heap {w : World} {v0 v1 v2 v3 v4 v5 v6 z0 z1 z2 z3 z4 z5 z6 : Value} (h : w.heap[b]? = some (.cells #[z0, z1, z2, z3, z4, z5, z6] 35)) : (put7 w b v0 v1 v2 v3 v4 v5 v6).heap[b]? = some (.cells #[v0, v1, v2, v3, v4, v5, v6] 35) := by
  unfold put7
  rw [setCell_heap (setCell_heap (setCell_heap (setCell_heap (setCell_heap (setCell_heap (setCell_heap h))))))]
  rfl
theorem put7_other {w : World} {v0 v1 v2 v3 v4 v5 v6 : Value} {x : Nat} (h : x ≠ b) : (put7 w b v0 v1 v2 v3 v4 v5 v6).heap[x]? = w.heap[x]? := by
  have hn : ∀ (W : World) (j : Nat) (v : Value), (W.setCell ⟨b, j, none⟩ v).heap[x]? = W.heap[x]? := fun W j v => Below.heap_setCell _ _ _ _ (fun e => h (by have e' : x = b := e; exact e'))
  unfold put7
  rw [hn, hn, hn, hn, hn, hn, hn]
theorem put7_size {w : World} {v0 v1 v2 v3 v4 v5 v6 : Value} : (put7 w b v0 v1 v2 v3 v4 v5 v6).heap.size = w.heap.size := by simp [put7]
theorem put7_below {w : World} {n : Nat} {v0 v1 v2 v3 v4 v5 v6 : Value} (h : Below n W w) (hb : n ≤ b) : Below n W (put7 w b v0 v1 v2 v3 v4 v5 v6) := by
  unfold put7
  exact ((((((h.setCell hb _).setCell hb _).setCell hb _).setCell hb _).setCell hb _).setCell hb _).setCell hb _
theorem rb_a {z0 z1 z2 z3 z4 z5 z6 : Value} (hlow : Below W.heap.size W w3) (hb : W.heap.size ≤ b) (hX : b < wX.heap.size) (hz : w3.heap[b]? = some (.cells #[z0, z1, z2, z3, z4, z5, z6] 35))
    (h1 : Ints (fun x => wX.heap.size ≤ x) w3 (.slice A r.loc.regs.length c) r.loc.regs) (h2 : Ntes (fun x => wX.heap.size ≤ x) (fun x => wX.heap.size ≤ x) w3 (.slice An r.notes.length cn) r.notes) :
    RB W b r A c An cn (put7 w3 b (.slice A r.loc.regs.length c) (.bool r.loc.armed) (.int .i64 r.loc.down) (.int .i64 r.loc.sent) (.int .i64 r.loc.over) (.slice An r.notes.length cn) (.int .i64 r.steps)) := by
  have hs : Same (fun x => wX.heap.size ≤ x) w3 (put7 w3 b (.slice A r.loc.regs.length c) (.bool r.loc.armed) (.int .i64 r.loc.down) (.int .i64 r.loc.sent) (.int .i64 r.loc.over) (.slice An r.notes.length cn) (.int .i64 r.steps)) := ⟨by rw [put7_size]; exact Nat.le_refl _, fun x hx _ => put7_other (by have h' : wX.heap.size ≤ x := hx; omega)⟩
  exact ⟨put7_below hlow hb, hb, put7_heap hz, (h1.same hs).any, Sl.imp (h2.same hs hs) (fun _ _ => trivial) (Nat.le_refl _) fun _ _ _ _ _ h => ⟨h.1, h.2.1, h.2.2.choose, h.2.2.choose_spec.1, h.2.2.choose_spec.2.any⟩⟩
theorem rb_c {ok : Nat → Prop} (hlow : Below W.heap.size W w3)
    (h1 : Ints ok w3 (.slice A r.loc.regs.length c) r.loc.regs) (h2 : Ntes ok ok w3 (.slice An r.notes.length cn) r.notes) :
    RB W w3.heap.size r A c An cn (w3.alloc (.cells #[.slice A r.loc.regs.length c, .bool r.loc.armed, .int .i64 r.loc.down, .int .i64 r.loc.sent, .int .i64 r.loc.over, .slice An r.notes.length cn, .int .i64 r.steps] 35)) :=
  ⟨bAlloc hlow _, hlow.size, heap_new _ _, Ints.below (h1.any) (bAlloc (bRefl _) _), Ntes.below (Sl.imp h2 (fun _ _ => trivial) (Nat.le_refl _) fun _ _ _ _ _ h => ⟨h.1, h.2.1, h.2.2.choose, h.2.2.choose_spec.1, h.2.2.choose_spec.2.any⟩) (bAlloc (bRefl _) _)⟩
end

/-- When the program of one handler may run. -/
theorem one_fc {fuel : Int} {code : List PIns} {l : List Int} (hf : 1 ≤ fuel ∧ fuel ≤ 256) (hl : code.length ≤ 64) (hi : ∀ i ∈ code, chkI code.length 0 1 i = 0) (hg : Good [⟨0, code⟩] code l) : fc (oneP fuel code) = 0 := by
  have hs : ∀ l : List PIns, (∀ i ∈ l, chkI code.length 0 1 i = 0) → scan (chkI code.length 0 1) l = 0 := by
    intro l
    induction l with
    | nil => intro _; rfl
    | cons x r ih => intro hx; unfold scan; rw [if_pos (hx x (by simp))]; exact ih fun i hi => hx i (by simp [hi])
  have h1 : chkH 1 ⟨0, code⟩ = 0 := by
    unfold chkH
    rw [if_pos (by simp), if_pos hl]
    exact hs code hi
  have h0 : chkC (oneP fuel code) = 0 := by
    unfold chkC
    rw [if_pos (by simp [oneP]), if_pos ⟨by simp [oneP], hf⟩]
  have h2 : scan (chkH (oneP fuel code).hs.length) (oneP fuel code).hs = 0 := by
    show (if chkH 1 ⟨0, code⟩ = 0 then 0 else chkH 1 ⟨0, code⟩) = 0
    rw [if_pos h1]
  have hc : chk (oneP fuel code) = 0 := by
    unfold chk
    rw [if_pos h0, if_pos h2]
    rfl
  unfold fc
  rw [if_pos hc]
  show (if de [⟨0, code⟩] code = 0 then 0 else de [⟨0, code⟩] code) = 0
  rw [if_pos hg.de]
theorem one_may {fuel who : Int} {code : List PIns} {l : PLoc} (h : fc (oneP fuel code) = 0) (hw : 0 ≤ who ∧ who < 2) (h8 : l.regs.length ≤ 8) (hd : l.down = 0) : mayP (oneP fuel code) who l 0 [] :=
  ⟨h, hw, ⟨by omega, by show (0 : Int) < 1; omega⟩, rfl, h8, hd⟩
theorem one_run {fuel who : Int} {code : List PIns} {l : PLoc} (h : mayP (oneP fuel code) who l 0 []) : runP (oneP fuel code) who l 0 [] = fin l (rn (oneP fuel code) who [] code fuel.toNat (ms0 l)) := by
  unfold runP
  exact @if_pos _ (Classical.propDecidable _) h _ _ _

/-- Instructions as cells. -/
def cv (l : List PIns) : List Value := (l.map fun i => [Value.int .i64 i.op, Value.int .i64 i.a]).flatten
theorem cv_at {l : List PIns} {k : Nat} {x : PIns} (h : l[k]? = some x) : (cv l)[k * 2]? = some (.int .i64 x.op) ∧ (cv l)[k * 2 + 1]? = some (.int .i64 x.a) := by
  induction l generalizing k with
  | nil => simp at h
  | cons y r ih =>
    match k, h with
    | 0, h => simp at h; subst h; exact ⟨rfl, rfl⟩
    | k + 1, h =>
      have := ih (k := k) (by simpa using h)
      have e1 : (k + 1) * 2 = 2 + k * 2 := by omega
      simp only [cv, List.map_cons, List.flatten_cons] at *
      rw [e1, List.getElem?_append_right (by simp), show 2 + k * 2 + 1 = 2 + (k * 2 + 1) by omega, List.getElem?_append_right (by simp)]
      simpa using this
/-- Code that is written down. -/
theorem code_lit (w : World) (l : List PIns) (hl : l.length ≤ 1000) : Code anyB (w.alloc (.cells (cv l).toArray 41)) (.slice (some ⟨w.heap.size, 0, none⟩) l.length l.length) l := by
  refine ⟨_, _, rfl, by omega, Or.inr ⟨w.heap.size, 0, rfl, trivial, by simp, fun k x hx => ?_⟩⟩
  have hc := cv_at hx
  have h := heap_new w (.cells (cv l).toArray 41)
  rw [Nat.zero_add]
  exact ⟨by rw [cell_of_row _ _ _ _ _ _ h, List.getElem?_toArray]; exact hc.1, by rw [cell_of_row _ _ _ _ _ _ h, List.getElem?_toArray]; exact hc.2⟩
end Go.Proofs.YtpcffhhednplaaaDoor
