/-
  May and Run. Condition: the table of the instructions is in the world; numbers are no giant's.
-/
import Derived.Test.YtpcffhhednplaaaDoorVa
namespace Go.Proofs.YtpcffhhednplaaaDoor
open Go.RowKit
attribute [local go_sem ↓] Go.wp_at_zero Go.wp_at_succ

/-- Numbers made anew, at a row's head. -/
def CL (w w' : World) (v : Value) (l : List Int) : Prop :=
  ∃ A c, v = .slice A l.length c ∧ (l = [] ∨ ∃ (b : Nat) (cur : Array Value), A = some ⟨b, 0, none⟩ ∧ w.heap.size ≤ b ∧ w'.heap[b]? = some (.cells cur 3) ∧ ∀ (k : Nat) (x : Int), l[k]? = some x → cur[k]? = some (Value.int .i64 x))
theorem CL.below {w w' w2 : World} {v : Value} {l : List Int} (h : CL w w' v l) (hb : Below w'.heap.size w' w2) : CL w w2 v l := by
  obtain ⟨A, c, rfl, h⟩ := h
  refine ⟨A, c, rfl, ?_⟩
  rcases h with h | ⟨b, cur, rfl, h1, h2, h3⟩
  · exact Or.inl h
  · exact Or.inr ⟨b, cur, rfl, h1, (hb.block b (Array.getElem?_eq_some_iff.1 h2).1).trans h2, h3⟩
theorem CL.rg {w0 w w' : World} {B : Nat} {v : Value} {l : List Int} (h : CL w w' v l) (hz : w0.heap.size ≤ w.heap.size) (hl : l.length ≤ 8) (hB : w'.heap.size ≤ B ∨ B < w.heap.size) : RG w0 B w' v l := by
  obtain ⟨A, c, rfl, h⟩ := h
  refine ⟨A, c, rfl, hl, ?_⟩
  rcases h with h | ⟨b, cur, rfl, h1, h2, h3⟩
  · exact Or.inl h
  · have := (Array.getElem?_eq_some_iff.1 h2).1
    exact Or.inr ⟨b, cur, rfl, by omega, by omega, h2, h3⟩
theorem CL.mono {w W w' : World} {v : Value} {l : List Int} (h : CL W w' v l) (hz : w.heap.size ≤ W.heap.size) : CL w w' v l := by
  obtain ⟨A, c, rfl, h⟩ := h
  refine ⟨A, c, rfl, ?_⟩
  rcases h with h | ⟨b, cur, rfl, h1, h2, h3⟩
  · exact Or.inl h
  · exact Or.inr ⟨b, cur, rfl, by omega, h2, h3⟩
theorem CL.set {W w' : World} {v : Value} {l : List Int} (h : CL W w' v l) {b' j : Nat} (hb : b' < W.heap.size) (x : Value) : CL W (w'.setCell ⟨b', j, none⟩ x) v l := by
  obtain ⟨A, c, rfl, h⟩ := h
  refine ⟨A, c, rfl, ?_⟩
  rcases h with h | ⟨b, cur, rfl, h1, h2, h3⟩
  · exact Or.inl h
  · refine Or.inr ⟨b, cur, rfl, h1, (Below.heap_setCell _ _ _ _ (fun e => ?_)).trans h2, h3⟩
    have e' : b = b' := e
    omega
theorem CL.form {w w' : World} {v : Value} {l : List Int} (h : CL w w' v l) : ∃ A c, v = .slice A l.length c := let ⟨A, c, h1, _⟩ := h; ⟨A, c, h1⟩
theorem CL.ints {w w' : World} {v : Value} {l : List Int} (h : CL w w' v l) (hl : l.length ≤ 1000) : Ints (fun b => w.heap.size ≤ b) w' v l := by
  obtain ⟨A, c, rfl, h⟩ := h
  refine ⟨A, c, rfl, by omega, ?_⟩
  rcases h with rfl | ⟨b, cur, rfl, h1, h3, h4⟩
  · exact Or.inl rfl
  · exact Or.inr ⟨b, 0, rfl, h1, (Array.getElem?_eq_some_iff.1 h3).1, fun k x hx => by
      show w'.cell? ⟨b, 0 + k * 1, none⟩ = _
      rw [Nat.zero_add, Nat.mul_one]
      rw [cell_of_row _ _ _ _ _ _ h3]
      exact h4 k x hx⟩

set_option maxHeartbeats 1000000 in
set_option maxRecDepth 100000 in
theorem clone_any (ok : Nat → Prop) (w : World) (v : Value) (l : List Int) (h : Ints ok w v l) (hl : l.length ≤ 1000) :
    Calls Tryd.prog 36 #[v] w fun e w' => ∃ u, e = .returned u ∧ CL w w' u l ∧ Below w.heap.size w w' := by
  obtain ⟨i0, hi0, hz0, hz1, hz2⟩ := info_parts info3
  obtain ⟨A, c, rfl, hlen, hr⟩ := h
  have heq := fun (n : Nat) => Lib.run_eql_slice_nil (P := Tryd.prog) w 27 3 A n c 0 0 Tryd.underlying27
  cases A with
  | none =>
    have hl0 : l = [] := by
      rcases hr with h | ⟨b, o, h, _⟩
      · exact h
      · cases h
    subst hl0
    go_enter Tryd.func36, Tryd.ntmps36
    go_wp2
    go_ret
    exact ⟨_, rfl, ⟨none, 0, rfl, Or.inl rfl⟩, bRefl w⟩
  | some ad =>
    have hown : (w.alloc (.cells #[] 3)).ownsRow w.heap.size 3 1 (.slice (some ⟨w.heap.size, 0, none⟩) 0 0) 0 [] := ⟨rfl, Or.inr ⟨w.heap.size, 0, #[], rfl, Nat.le_refl _, heap_new _ _, by simp, by simp [maxLen], rfl, rfl⟩⟩
    by_cases h0 : l = []
    · subst h0
      have hrun : ∀ ty, (Builtin.append_ #[27, 27] ty #[.slice (some ⟨w.heap.size, 0, none⟩) 0 0, .slice (some ad) 0 c]).run Tryd.prog (w.alloc (.cells #[] 3)) = .ok (.slice (some ⟨w.heap.size, 0, none⟩) 0 0) (w.alloc (.cells #[] 3)) := fun ty => by
        have := run_append_room_cells (P := Tryd.prog) (w.alloc (.cells #[] 3)) 27 ty 3 i0 Tryd.underlying27 hi0 w.heap.size 0 0 0 ad 0 c [] (by simp) (by simp) (by simp) (by omega) (by simp) (by simp)
        rw [this]; rfl
      have HR : Hid (∀ ty, (Builtin.append_ #[27, 27] ty #[.slice (some ⟨w.heap.size, 0, none⟩) 0 0, .slice (some ad) 0 c]).run Tryd.prog (w.alloc (.cells #[] 3)) = .ok (.slice (some ⟨w.heap.size, 0, none⟩) 0 0) (w.alloc (.cells #[] 3))) := hrun
      clear hrun hown hr
      go_enter Tryd.func36, Tryd.ntmps36
      go_wp2_with (at_builtin; refine wpList_append_run rfl _ _ 27 rfl _ _ _ _ rfl rfl HR.out ?_)
      go_ret
      exact ⟨_, rfl, ⟨_, 0, rfl, Or.inl rfl⟩, bAlloc (bRefl w) _⟩
    · rcases hr with hr | ⟨b, o, hA, _, hlt, hcell⟩
      · exact absurd hr h0
      · cases hA
        have hp : 0 < l.length := List.length_pos_iff.2 h0
        have HC : Hid (∀ (k : Nat) (x : Int), l[k]? = some x → w.cell? ⟨b, o + k, none⟩ = some (.int .i64 x)) := fun k x hx => by have := hcell k x hx; unfold rInt at this; rwa [Nat.mul_one] at this
        have HO : Hid ((w.alloc (.cells #[] 3)).ownsRow w.heap.size 3 1 (.slice (some ⟨w.heap.size, 0, none⟩) 0 0) 0 []) := hown
        clear hcell hown
        go_enter Tryd.func36, Tryd.ntmps36
        go_wp2_with (at_builtin; refine wpList_append_lies _ rfl _ _ 27 rfl w.heap.size 3 i0 _ 1 8 Tryd.underlying27 hi0 hz0 hz1 hz2 rfl (by decide) _ 0 _ rfl HO.out ⟨b, o, none⟩ l.length c (l.map (Value.int .i64)) rfl (by simp) ?c1 ?c2 hp ?c3 ?c4 ?c5 (w.heap.size + 1) ?c6 ?_)
        case c1 =>
          intro j u hu
          rw [List.getElem?_map] at hu
          cases hx : l[j]? with
          | none => rw [hx] at hu; cases hu
          | some y =>
            rw [hx] at hu
            cases hu
            have hadd : (⟨b, o, none⟩ : Addr).add j = ⟨b, o + j, none⟩ := by
              unfold Addr.add
              by_cases h0 : j = 0
              · subst h0; rfl
              · rw [if_neg h0]
            rw [hadd]
            exact ((bAlloc (bRefl w) (.cells #[] 3)).cell (p := ⟨b, o + j, none⟩) hlt).trans (HC.out j y hx)
        case c2 => intro u hu; rw [List.mem_map] at hu; obtain ⟨y, _, rfl⟩ := hu; rfl
        case c3 => unfold maxLen; omega
        case c4 => omega
        case c5 => simp
        case c6 => simp
        intro g cap w' hown' hgr hat _
        have hb : Below w.heap.size w w' := grown_low (bAlloc (bRefl w) (.cells #[] 3)) hgr fun k hk => by
          have e : w.heap.size = k := Option.some.inj hk
          omega
        have hcl : CL w w' (.slice (some ⟨g, 0, none⟩) l.length cap) l := by
          obtain ⟨h1, h2⟩ := hown'
          rcases h2 with ⟨e, _⟩ | ⟨g', cap', cur, e, hb', hh, h3, h4, h5, h6⟩
          · cases e
          · cases e
            refine ⟨_, _, rfl, Or.inr ⟨g, cur, rfl, hb', hh, fun k x hx => ?_⟩⟩
            have hk := (List.getElem?_eq_some_iff.1 hx).1
            have e2 : cur[k]? = (l.map (Value.int .i64))[k]? := by rw [← h6, List.getElem?_take, if_pos (by omega)]; simp
            rw [e2, List.getElem?_map, hx]; rfl
        clear hown' hgr hat
        go_wp2
        go_ret
        exact ⟨_, rfl, hcl, hb⟩

theorem heap_new2 {w : World} {o : Obj} {n : Nat} (h : w.heap.size = n) : (w.alloc o).heap[n]? = some o := by subst h; exact heap_new _ _
theorem blk5 {w : World} {b : Nat} {v0 v1 v2 v3 v4 : Value} {t : TypeId} (h : w.heap[b]? = some (.cells #[v0, v1, v2, v3, v4] t)) :
    w.cell? ⟨b, 0, none⟩ = some v0 ∧ w.cell? ⟨b, 1, none⟩ = some v1 ∧ w.cell? ⟨b, 2, none⟩ = some v2 ∧ w.cell? ⟨b, 3, none⟩ = some v3 ∧ w.cell? ⟨b, 4, none⟩ = some v4 ∧ ∀ j, w.frozen? ⟨b, j, none⟩ = false :=
  ⟨by rw [cell_of_row _ _ _ _ _ _ h]; rfl, by rw [cell_of_row _ _ _ _ _ _ h]; rfl, by rw [cell_of_row _ _ _ _ _ _ h]; rfl, by rw [cell_of_row _ _ _ _ _ _ h]; rfl, by rw [cell_of_row _ _ _ _ _ _ h]; rfl, fun j => by simp [World.frozen?, h]⟩
/-- An actor's state, as a value. -/
def LocV (ok : Nat → Prop) (w : World) (v : Value) (l : PLoc) : Prop := ∃ c, v = .agg #[c, .bool l.armed, .int .i64 l.down, .int .i64 l.sent, .int .i64 l.over] ∧ Ints ok w c l.regs
theorem LocV.below {ok : Nat → Prop} {w w' : World} {v : Value} {l : PLoc} (h : LocV ok w v l) (hb : Below w.heap.size w w') : LocV ok w' v l := let ⟨c, h1, h2⟩ := h; ⟨c, h1, h2.below hb⟩

set_option maxHeartbeats 1000000 in
set_option maxRecDepth 100000 in
theorem another_any (ok : Nat → Prop) (w : World) (v : Value) (l : PLoc) (h : LocV ok w v l) (hl : l.regs.length ≤ 1000) :
    Calls Tryd.prog 27 #[v] w fun e w' => ∃ u, e = .returned (.agg #[u, .bool l.armed, .int .i64 l.down, .int .i64 l.sent, .int .i64 l.over]) ∧ CL w w' u l.regs ∧ Below w.heap.size w w' := by
  obtain ⟨c, rfl, hr⟩ := h
  obtain ⟨A, d, rfl, hlen⟩ := hr.form
  have HR : Hid (Ints ok w (.slice A l.regs.length d) l.regs) := hr
  clear hr
  go_enter Tryd.func27, Tryd.ntmps27
  go_wp2_with fail
  have hbb : Below w.heap.size w ((w.alloc (.cells #[.slice A l.regs.length d, .bool l.armed, .int .i64 l.down, .int .i64 l.sent, .int .i64 l.over] 29)).alloc (.cells #[.slice none 0 0, .bool false, .int .i64 0, .int .i64 0, .int .i64 0] 29)) := bAlloc (bAlloc (bRefl w) _) _
  refine (clone_any ok _ _ l.regs (HR.out.below hbb) hl).mono ?_
  rintro e w1 ⟨u, rfl, hcl, hb1⟩
  obtain ⟨A1, d1, rfl⟩ := hcl.form
  have hz1 : w.heap.size + 1 < w1.heap.size := by have := hb1.size; simp at this; omega
  have hz0 : w.heap.size < w1.heap.size := by omega
  have k0 : w1.heap[w.heap.size]? = some (.cells #[.slice A l.regs.length d, .bool l.armed, .int .i64 l.down, .int .i64 l.sent, .int .i64 l.over] 29) := (hb1.block _ (by first | (simp; done) | (simp; omega))).trans ((Below.heap_alloc _ _ _ (by first | (simp; done) | (simp; omega))).trans (heap_new _ _))
  have k1 : w1.heap[w.heap.size + 1]? = some (.cells #[.slice none 0 0, .bool false, .int .i64 0, .int .i64 0, .int .i64 0] 29) := (hb1.block _ (by first | (simp; done) | (simp; omega))).trans (heap_new2 (by simp))
  obtain ⟨x0, x1, x2, x3, x4, xf⟩ := blk5 k0
  obtain ⟨y0, y1, y2, y3, y4, yf⟩ := blk5 k1
  have HCL : Hid (CL ((w.alloc (.cells #[.slice A l.regs.length d, .bool l.armed, .int .i64 l.down, .int .i64 l.sent, .int .i64 l.over] 29)).alloc (.cells #[.slice none 0 0, .bool false, .int .i64 0, .int .i64 0, .int .i64 0] 29)) w1 (.slice A1 l.regs.length d1) l.regs) := hcl
  have HB : Hid (Below w.heap.size w w1) := bTrans hbb hb1
  clear hcl hb1 hbb k0 k1
  go_wp2
  refine bodyPost_ret (v := .agg #[.slice A1 l.regs.length d1, .bool l.armed, .int .i64 l.down, .int .i64 l.sent, .int .i64 l.over]) (by simp [results, Tryd.results27, go_sem, *]) rfl ⟨_, rfl, CL.mono (W := ((w.alloc (.cells #[.slice A l.regs.length d, .bool l.armed, .int .i64 l.down, .int .i64 l.sent, .int .i64 l.over] 29)).alloc (.cells #[.slice none 0 0, .bool false, .int .i64 0, .int .i64 0, .int .i64 0] 29))) ?_ (by simp; omega), ?_⟩
  · repeat (refine CL.set ?_ (by first | (simp; done) | (simp; omega)) _)
    exact HCL.out
  · repeat (refine Below.setCell ?_ (by first | (simp; done) | (simp; omega)) _)
    exact HB.out
end Go.Proofs.YtpcffhhednplaaaDoor
