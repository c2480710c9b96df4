/-
  How names of messages are written (ident.Text); a Builder's writes; how a world is written, plainly. Conditions: numbers of 64 bits; what is read of the world is there.
-/
import Derived.Test.YtflpkdhmkgidiaaDoorWe
namespace Go.Proofs.YtflpkdhmkgidiaaDoor
open Go.RowKit
attribute [local go_sem ↓] Go.wp_at_zero Go.wp_at_succ
def nmI (l : List Int) : List Value := l.map (Value.int .i64)
theorem nmI_len (l : List Int) : (nmI l).length = l.length := by simp [nmI]
theorem nmI_app (a b : List Int) : nmI (a ++ b) = nmI a ++ nmI b := by simp [nmI]
theorem nmI_at {l : List Int} {k : Nat} {x : Int} (h : l[k]? = some x) : (nmI l)[k]? = some (.int .i64 x) := by simp [nmI, h]
theorem rown0 {P : Program} {w : World} {base e size k : Nat} {v : Value} {xs : List Value} (t ty : TypeId) (i : TypeInfo) (ht : P.underlying t = some (.slice e)) (hi : P.info? e = some i) (h : w.ownsRow base e size v k xs) (A : Option Addr) (c : Nat) :
    (Builtin.append_ #[t, t] ty #[v, .slice A 0 c]).run P w = .ok v w := by
  obtain ⟨h1, h2⟩ := h
  rcases h2 with ⟨rfl, _⟩ | ⟨g, cap, cur, rfl, hb, hh, h3, h4, h5, h6⟩
  · exact run_append_empty t ty e i ht hi A c
  · cases A with
    | none =>
      have hst : ∀ a : Addr, (storeCells a []).run P w = .ok () w := fun a => by rw [storeCells]; rfl
      simp [Builtin.append_, run_underlying ht, sizeOf, typeInfo, hi, Builtin.lenOf, Builtin.firstCells, h3, hst, Result.andThen]
    | some a =>
      have := run_append_room_cells (P := P) w t ty e i ht hi g 0 k cap a 0 c [] (by simp) (by simp) (by simp) (by omega) (by simp) (by simp)
      rw [this]
      rfl
theorem radd (b o j : Nat) : (⟨b, o, none⟩ : Addr).add j = ⟨b, o + j, none⟩ := by
  unfold Addr.add
  by_cases h0 : j = 0
  · subst h0; rfl
  · rw [if_neg h0]
theorem rnews {w : World} {b o : Nat} {cs : List Int} (h : ∀ k x, cs[k]? = some x → rInt w b (o + k * 1) x) : ∀ j u, (nmI cs)[j]? = some u → w.cell? ((⟨b, o, none⟩ : Addr).add j) = some u := by
  intro j u hu
  rw [radd]
  rw [nmI, List.getElem?_map] at hu
  cases hx : cs[j]? with
  | none => rw [hx] at hu; cases hu
  | some x =>
    rw [hx] at hu
    have := h j x hx
    rw [Nat.mul_one] at this
    rw [← Option.some.inj hu]
    exact this
/-- Numbers in a row of the call's own. -/
abbrev OwnI (base : Nat) (w : World) (v : Value) (l : List Int) : Prop := w.ownsRow base 3 1 v l.length (nmI l)
/-- What an append of numbers leaves. -/
def IA (base : Nat) (W : World) (v : Value) (l : List Int) (v' : Value) (W' : World) : Prop := OwnI base W' v' l ∧ W.grownBy W' v.ownBlock ∧ (v'.ownBlock = v.ownBlock ∨ v'.ownBlock = some W.heap.size)
section
variable {base : Nat} {w W W' : World} {v v' : Value} {l a b : List Int} {ok : Nat → Prop}
theorem OwnI.form (h : OwnI base w v l) : ∃ A c, v = .slice A l.length c := by
  obtain ⟨h1, h2⟩ := h
  rcases h2 with ⟨rfl, h2⟩ | ⟨g, cap, cur, rfl, _⟩
  · exact ⟨none, 0, by rw [h2]⟩
  · exact ⟨_, cap, rfl⟩
theorem OwnI.ints (h : OwnI base w v l) (hl : l.length ≤ 1000000) : Ints (fun b => base ≤ b ∧ v.ownBlock = some b) w v l := by
  obtain ⟨h1, h2⟩ := h
  rcases h2 with ⟨rfl, h2⟩ | ⟨g, cap, cur, rfl, hb, hh, h3, h4, h5, h6⟩
  · have : l = [] := List.length_eq_zero_iff.1 h2
    subst this; exact ⟨_, _, rfl, by simp, by simp, Or.inl rfl⟩
  · refine ⟨_, cap, rfl, by omega, h3, Or.inr ⟨g, 0, rfl, ⟨hb, rfl⟩, (Array.getElem?_eq_some_iff.1 hh).1, fun k x hx => ?_⟩⟩
    have hk := (List.getElem?_eq_some_iff.1 hx).1
    show w.cell? ⟨g, 0 + k * 1, none⟩ = _
    rw [Nat.zero_add, Nat.mul_one, cell_of_row _ _ _ _ _ _ hh]
    have : cur[k]? = (nmI l)[k]? := by rw [← h6, List.getElem?_take, if_pos (by omega)]; simp
    rw [this]; exact nmI_at hx
theorem OwnI.cell {A : Option Addr} {n c : Nat} (h : OwnI base w (.slice A n c) l) {k : Nat} {x : Int} (hx : l[k]? = some x) : ∃ g, A = some ⟨g, 0, none⟩ ∧ base ≤ g ∧ g < w.heap.size ∧ w.cell? ⟨g, k, none⟩ = some (.int .i64 x) ∧ (∀ j, w.frozen? ⟨g, j, none⟩ = false) ∧ l.length ≤ c := by
  obtain ⟨h1, h2⟩ := h
  have hk := (List.getElem?_eq_some_iff.1 hx).1
  rcases h2 with ⟨e, h2⟩ | ⟨g, cap, cur, e, hb, hh, h3, h4, h5, h6⟩
  · omega
  · cases e
    refine ⟨g, rfl, hb, (Array.getElem?_eq_some_iff.1 hh).1, ?_, fun j => by simp [World.frozen?, hh], h3⟩
    rw [cell_of_row _ _ _ _ _ _ hh]
    have : cur[k]? = (nmI l)[k]? := by rw [← h6, List.getElem?_take, if_pos (by omega)]; simp
    rw [this]; exact nmI_at hx
/-- The first m of them. -/
theorem OwnI.take {A : Option Addr} {n c m : Nat} (h : OwnI base w (.slice A n c) l) (hm : m ≤ l.length) : OwnI base w (.slice A m c) (l.take m) := by
  obtain ⟨h1, h2⟩ := h
  have e1 : (l.take m).length = m := by simp; omega
  refine ⟨by rw [nmI_len]; simp, ?_⟩
  rcases h2 with ⟨e, h2⟩ | ⟨g, cap, cur, e, hb, hh, h3, h4, h5, h6⟩
  · cases e
    exact Or.inl ⟨by rw [show m = 0 by omega], by omega⟩
  · cases e
    refine Or.inr ⟨g, c, cur, by rw [e1], hb, hh, by omega, h4, h5, ?_⟩
    rw [e1, Nat.mul_one]
    rw [Nat.mul_one] at h6
    have := congrArg (List.take m) h6
    rw [List.take_take, Nat.min_eq_left hm] at this
    rw [this]; simp [nmI, List.map_take]
theorem OwnI.set {A : Option Addr} {n c g k : Nat} (h : OwnI base w (.slice A n c) l) (hA : A = some ⟨g, 0, none⟩) (hk : k < l.length) (y : Int) : OwnI base (w.setCell ⟨g, k, none⟩ (.int .i64 y)) (.slice A n c) (l.set k y) := by
  obtain ⟨h1, h2⟩ := h
  refine ⟨by rw [nmI_len]; simp, ?_⟩
  rcases h2 with ⟨e, h2⟩ | ⟨g', cap, cur, e, hb, hh, h3, h4, h5, h6⟩
  · omega
  · cases e
    cases hA
    refine Or.inr ⟨g, c, cur.setIfInBounds k (.int .i64 y), by rw [List.length_set], hb, setCell_heap hh, by rw [List.length_set]; exact h3, h4, by simpa using h5, ?_⟩
    rw [List.length_set, Nat.mul_one]
    rw [Nat.mul_one] at h6
    rw [Array.toList_setIfInBounds, List.take_set, h6]
    simp [nmI, List.map_set]
theorem OwnI.same (h : OwnI base w v l) (hs : ∀ g, v.ownBlock = some g → W.heap[g]? = w.heap[g]?) : OwnI base W v l := own_block h fun g hg _ => hs g hg
theorem run_appI (ty : TypeId) (h : OwnI base W v a) {A : Option Addr} {c n : Nat} (h2 : Ints ok W (.slice A n c) b) (hl : a.length + b.length ≤ 1000000) (hbase : base ≤ W.heap.size) :
    ∃ A' c' W', (Builtin.append_ #[38, 38] ty #[v, .slice A n c]).run Tryd.prog W = .ok (.slice A' (a.length + b.length) c') W' ∧ IA base W v (a ++ b) (.slice A' (a.length + b.length) c') W' := by
  obtain ⟨i0, hi0, hz0, hz1, hz2⟩ := info_parts infI3
  obtain ⟨A1, c1, e1, _, _, hr⟩ := h2
  cases e1
  by_cases h0 : b = []
  · subst h0
    obtain ⟨A2, c2, rfl⟩ := h.form
    exact ⟨A2, c2, W, rown0 38 ty i0 Tryd.underlying38 hi0 h A c, by simpa using h, ⟨rfl, rfl, rfl, Nat.le_refl _, fun _ _ _ => rfl⟩, Or.inl rfl⟩
  · rcases hr with hr | ⟨bb, o, rfl, _, hlt, hcell⟩
    · exact absurd hr h0
    · obtain ⟨g, cap, W', hrun, ho, hg, hat, _⟩ := run_append_lies (P := Tryd.prog) W 38 ty base 3 i0 _ 1 8 Tryd.underlying38 hi0 hz0 hz1 hz2 rfl (by decide) v a.length _ h ⟨bb, o, none⟩ b.length c (nmI b) (by rw [nmI_len, Nat.mul_one]) (rnews hcell) (fun u hu => by simp only [nmI, List.mem_map] at hu; obtain ⟨_, _, rfl⟩ := hu; rfl) (List.length_pos_iff.2 h0) (by unfold maxLen; omega) (by omega) hbase W.heap.size rfl
      refine ⟨_, cap, W', hrun, by unfold OwnI; rw [List.length_append, nmI_app]; exact ho, hg, ?_⟩
      rcases hat with hat | hat
      · exact Or.inl hat.symm
      · subst hat; exact Or.inr rfl
variable {ops : Array Oper} {rest : List Oper} {o : Oper} {ac : Act} {Q : Exit → Act → World → Prop} {K : Act → World → Prop}
theorem wp_appI (s x : Operand) (ho : o.op = .call { callee := .builtin .append, args := #[s, x], argTypes := #[38, 38] }) {A : Option Addr} {c n : Nat} (h : OwnI base W v a) (hs : ac.eval s = v) (hx : ac.eval x = .slice A n c)
    (hm : Ints ok W (.slice A n c) b) (hl : a.length + b.length ≤ 1000000) (hbase : base ≤ W.heap.size)
    (hK : ∀ A' c' W', IA base W v (a ++ b) (.slice A' (a.length + b.length) c') W' → K (ac.put o.dst (.slice A' (a.length + b.length) c')) W') : o.wp Tryd.prog ac W K Q := by
  obtain ⟨A', c', W', hr, hma⟩ := run_appI o.type h hm hl hbase
  unfold Oper.wp execOp
  simp only [ho, resolve, invoke, builtin, Sem.run_bind, Sem.run_pure, Result.andThen_ok, List.map_toArray, List.map_cons, List.map_nil, hs, hx, hr]
  exact hK A' c' W' hma
theorem appI (hgd : o.guard = none) (s x : Operand) (ho : o.op = .call { callee := .builtin .append, args := #[s, x], argTypes := #[38, 38] }) {A : Option Addr} {c n : Nat} (h : OwnI base W v a) (hs : ac.eval s = v) (hx : ac.eval x = .slice A n c)
    (hm : Ints ok W (.slice A n c) b) (hl : a.length + b.length ≤ 1000000) (hbase : base ≤ W.heap.size)
    (hK : ∀ A' c' W', IA base W v (a ++ b) (.slice A' (a.length + b.length) c') W' → wpList Tryd.prog ops Q rest (ac.put o.dst (.slice A' (a.length + b.length) c')) W') : wpList Tryd.prog ops Q (o :: rest) ac W :=
  wpList_plain hgd fun _ hK' => wp_appI s x ho h hs hx hm hl hbase fun A' c' W' hma => hK' _ _ (hK A' c' W' hma)
theorem step_appI (hgd : o.guard = none) (s x : Operand) (ho : o.op = .call { callee := .builtin .append, args := #[s, x], argTypes := #[38, 38] }) {A : Option Addr} {c n : Nat} {E : Prop} (h : OwnI base W v a) (hs : ac.eval s = v) (hx : ac.eval x = .slice A n c)
    (hm : Ints ok W (.slice A n c) b) (hl : a.length + b.length ≤ 1000000) (hbase : base ≤ W.heap.size)
    (hK : ∀ A' c' W', IA base W v (a ++ b) (.slice A' (a.length + b.length) c') W' → K (ac.put o.dst (.slice A' (a.length + b.length) c')) W') :
    if Region.wanted o (yielded ops ac.tmps) = true then Oper.wp Tryd.prog o ac W K Q else E := by
  have hw : Region.wanted o (yielded ops ac.tmps) = true := by simp [Region.wanted, hgd]
  rw [if_pos hw]
  exact wp_appI s x ho h hs hx hm hl hbase hK
end
theorem OwnI.empty {base : Nat} {W : World} {e : Nat} (h : W.heap[e]? = some (.cells #[] 3)) (he : base ≤ e) : OwnI base W (.slice (some ⟨e, 0, none⟩) 0 0) [] :=
  ⟨rfl, Or.inr ⟨e, 0, #[], rfl, he, h, by simp, by simp [maxLen], rfl, rfl⟩⟩
theorem ints1 {W : World} {B : Nat} {n : Int} (h : W.heap[B]? = some (.cells #[.int .i64 n] 3)) : Ints (fun b => b = B) W (.slice (some ⟨B, 0, none⟩) 1 1) [n] := by
  refine ⟨_, 1, rfl, by simp, by simp, Or.inr ⟨B, 0, rfl, rfl, (Array.getElem?_eq_some_iff.1 h).1, fun k x hx => ?_⟩⟩
  cases k with
  | zero => cases hx; show W.cell? ⟨B, 0, none⟩ = _; rw [cell_of_row _ _ _ _ _ _ h]; rfl
  | succ k => cases hx
theorem ints2 {W : World} {B : Nat} {n m : Int} (h : W.heap[B]? = some (.cells #[.int .i64 n, .int .i64 m] 3)) : Ints (fun b => b = B) W (.slice (some ⟨B, 0, none⟩) 2 2) [n, m] := by
  refine ⟨_, 2, rfl, by simp, by simp, Or.inr ⟨B, 0, rfl, rfl, (Array.getElem?_eq_some_iff.1 h).1, fun k x hx => ?_⟩⟩
  match k, hx with
  | 0, hx => cases hx; show W.cell? ⟨B, 0, none⟩ = _; rw [cell_of_row _ _ _ _ _ _ h]; rfl
  | 1, hx => cases hx; show W.cell? ⟨B, 1, none⟩ = _; rw [cell_of_row _ _ _ _ _ _ h]; rfl
  | k + 2, hx => simp at hx
/-- An actor's state in its box. -/
def tid (a : PID) : List UInt8 := Lib.itoa a.f ++ 46 :: (Lib.itoa a.n ++ 46 :: Lib.itoa a.c)
def RgD (a : PID) : Prop := Rg a.f ∧ Rg a.n ∧ Rg a.c
theorem cat5 {a b c t : List UInt8} (h : t = a ++ 46 :: (b ++ 46 :: c)) : bs a ++ ⟨#[46]⟩ ++ bs b ++ ⟨#[46]⟩ ++ bs c = bs t := by
  rw [h, show (⟨#[46]⟩ : ByteArray) = bs [46] from rfl, bs_app, bs_app, bs_app, bs_app]
  congr 1
  simp
set_option maxHeartbeats 2000000 in
set_option maxRecDepth 100000 in
theorem text_any (a : PID) (w : World) (hr : RgD a) (he : Env w) : Calls Tryd.prog 51 #[dV a] w fun e w' => e = .returned (.string (bs (tid a))) ∧ Below w.heap.size w w' := by
  obtain ⟨hf, hn, hc⟩ := hr
  have HR1 : Hid (Rg a.f) := hf
  have HR2 : Hid (Rg a.n) := hn
  have HR3 : Hid (Rg a.c) := hc
  have y1 : (bs (Lib.itoa a.f)).size ≤ 21 := by rw [bs_size]; exact Lib.itoa_length_le _ hf.1 hf.2
  have y2 : (bs (Lib.itoa a.n)).size ≤ 21 := by rw [bs_size]; exact Lib.itoa_length_le _ hn.1 hn.2
  have y3 : (bs (Lib.itoa a.c)).size ≤ 21 := by rw [bs_size]; exact Lib.itoa_length_le _ hc.1 hc.2
  have z1 : ¬ 9223372036854775807 < (bs (Lib.itoa a.f)).size + 1 := by omega
  have z2 : ¬ 9223372036854775807 < (bs (Lib.itoa a.f)).size + 1 + (bs (Lib.itoa a.n)).size := by omega
  have z3 : ¬ 9223372036854775807 < (bs (Lib.itoa a.f)).size + 1 + (bs (Lib.itoa a.n)).size + 1 := by omega
  have z4 : ¬ 9223372036854775807 < (bs (Lib.itoa a.f)).size + 1 + (bs (Lib.itoa a.n)).size + 1 + (bs (Lib.itoa a.c)).size := by omega
  clear hf hn hc y1 y2 y3
  go_enter Tryd.func51, Tryd.ntmps51
  go_wp2_with fail
  have hA : (w.alloc (.cells #[.int .i64 a.f, .int .i64 a.n, .int .i64 a.c] 45)).heap[w.heap.size]? = some (.cells #[.int .i64 a.f, .int .i64 a.n, .int .i64 a.c] 45) := heap_new _ _
  have HL : Hid (Below w.heap.size w (w.alloc (.cells #[.int .i64 a.f, .int .i64 a.n, .int .i64 a.c] 45))) := bAlloc (bRefl _) _
  have hs0 : w.heap.size < (w.alloc (.cells #[.int .i64 a.f, .int .i64 a.n, .int .i64 a.c] 45)).heap.size := by simp
  have he1 : Env (w.alloc (.cells #[.int .i64 a.f, .int .i64 a.n, .int .i64 a.c] 45)) := he.below (bAlloc (bRefl _) _)
  generalize (w.alloc (.cells #[.int .i64 a.f, .int .i64 a.n, .int .i64 a.c] 45)) = w1 at hA HL hs0 he1 ⊢
  obtain ⟨p0, p1, p2⟩ := blk3 hA
  have hbb : Below w1.heap.size w1 w1 := bRefl w1
  have hed : Env w1.drew := he1.below (bRefl w1).drew
  clear he
  clear hA
  go_region_held3 (fun w' => w'.cell? ⟨w.heap.size, 0, none⟩ = some (.int .i64 a.f) ∧ w'.cell? ⟨w.heap.size, 1, none⟩ = some (.int .i64 a.n) ∧ w'.cell? ⟨w.heap.size, 2, none⟩ = some (.int .i64 a.c)) (go_keep)
    (first
      | (go_at_call 79; refine (itoaB _ _ (by first | exact HR1.out | exact HR2.out | exact HR3.out) (by first | exact hed | exact he1)).mono ?_; rintro e w2 ⟨rfl, hb2⟩; have hc2 := (by first | exact bcell (undrew hb2) | exact bcell hb2); replace he1 := (by first | exact hed.below hb2 | exact he1.below hb2); replace hbb := (by first | exact bTrans hbb (undrew hb2) | exact bTrans hbb hb2); have hz2 := Nat.lt_of_lt_of_le hs0 hbb.size))
  all_goals
    go_wp2_with fail
    go_ret
    exact ⟨ret_str (cat5 rfl), bTrans HL.out hbb⟩
theorem builder_new (w : World) : Lib.IsBuilder 89 5 w.heap.size w.heap.size (Lib.byteCells []) (w.alloc (Obj.cells #[Value.pointer none, Value.slice none 0 0] 89)) :=
  Or.inl ⟨Nat.le_refl _, _, heap_new w _, ⟨by simp [Lib.byteCells], Or.inl ⟨rfl, rfl⟩⟩, by simp [Value.ownBlock]⟩
theorem cells_len (t : List UInt8) : (Lib.byteCells t).length = t.length := by simp [Lib.byteCells]
theorem cells_app (a b : List UInt8) : Lib.byteCells (a ++ b) = Lib.byteCells a ++ Lib.byteCells b := by simp [Lib.byteCells]
theorem wsB {B b : Nat} {t : List UInt8} (s : List UInt8) {w : World} (h : Lib.IsBuilder 89 5 B b (Lib.byteCells t) w) (hlen : t.length + s.length ≤ 1000000) (hBw : B ≤ w.heap.size) :
    Calls Tryd.prog 48 #[.pointer (some ⟨b, 0, none⟩), .string (bs s)] w fun e w' => e = .returned (.tuple #[.int .i64 (bs s).size, .nilIface]) ∧ Lib.IsBuilder 89 5 B b (Lib.byteCells (t ++ s)) w' ∧ Below B w w' := by
  refine (writeString_any B b _ (bs s) w h (by rw [cells_len, bs_size]; omega) hBw).mono ?_
  rintro e w' ⟨rfl, h1, h2⟩
  exact ⟨rfl, Or.inr (by rw [cells_app]; exact h1), h2⟩

theorem builder_top {B b : Nat} {bs : List Value} {w w' : World} (h : Lib.IsBuilder 89 5 B b bs w) (hb : Below w.heap.size w w') : ∀ p v T f, w'.heap[b]? = some (.cells #[p, v] T f) → ∀ g, v.ownBlock = some g → g < w.heap.size := by
  intro p v T f hh g hg
  have key : ∀ q, Lib.BuilderAt 89 5 B b q bs w → g < w.heap.size := fun q hq => by
    have hlt := hq.lt
    obtain ⟨_, v0, h2, h3, _⟩ := hq
    have e := (hb.block b hlt).trans h2
    rw [hh] at e
    simp only [Option.some.injEq, Obj.cells.injEq] at e
    have e2 : v = v0 := by have := congrArg (fun a : Array Value => a[1]?) e.1; simpa using this
    subst e2
    exact (own_lt h3 hg).2
  exact h.elim (key _) (key _)
theorem builder_lt {B b : Nat} {bs : List Value} {w : World} (h : Lib.IsBuilder 89 5 B b bs w) : b < w.heap.size := h.elim (fun h => h.lt) (fun h => h.lt)
theorem wsBK {B b : Nat} {t : List UInt8} (s : List UInt8) {w0 w : World} (h0 : Lib.IsBuilder 89 5 B b (Lib.byteCells t) w0) (hb : Below w0.heap.size w0 w) (hlen : t.length + s.length ≤ 1000000) (hBw : B ≤ w0.heap.size) :
    Calls Tryd.prog 48 #[.pointer (some ⟨b, 0, none⟩), .string (bs s)] w fun e w' => e = .returned (.tuple #[.int .i64 (bs s).size, .nilIface]) ∧ Lib.IsBuilder 89 5 B b (Lib.byteCells (t ++ s)) w' ∧ Below B w w' ∧ ∀ k, w0.heap.size ≤ k → k < w.heap.size → w'.heap[k]? = w.heap[k]? := by
  refine (writeString_K B b (Lib.byteCells t) (bs s) w (builder_below h0 hb) (by rw [cells_len, bs_size]; omega) (Nat.le_trans hBw hb.size) w0.heap.size (builder_lt h0) (builder_top h0 hb)).mono ?_
  rintro e w' ⟨rfl, ⟨h1, h2⟩, h3⟩
  refine ⟨rfl, Or.inr ?_, h2, h3⟩
  have e : Lib.byteCells t ++ Lib.strCells (bs s) = Lib.byteCells (t ++ s) := by rw [cells_app]; rfl
  rw [← e]; exact h1
def dg (b : Bool) : Int := if b = true then 1 else 0
theorem digit_any (b : Bool) (w : World) : Calls Tryd.prog 50 #[.bool b] w fun e w' => e = .returned (.int .i64 (dg b)) ∧ w' = w := by
  cases b
  · go_enter Tryd.func50, Tryd.ntmps50
    go_wp2
    go_ret
    exact ⟨rfl, rfl⟩
  · go_enter Tryd.func50, Tryd.ntmps50
    go_wp2
    go_ret
    exact ⟨rfl, rfl⟩
/-! ### Worlds as texts -/
def four (x : PLoc) : List Int := [dg x.armed, x.down, x.sent, x.over]
def nts (m : PMsg) : List Int := m.nt.to :: m.nt.hd :: m.nt.args
def usd (u : PBud) : List Int := [u.drop, u.dup, u.time, u.crash]
def txtL (x : PLoc) : List UInt8 := spc x.regs ++ 124 :: (spc (four x) ++ [10])
def txtM (m : PMsg) : List UInt8 := tid m.id ++ 32 :: (spc (nts m) ++ [10])
def txtLs (l : List PLoc) : List UInt8 := (l.map txtL).flatten
def txtMs (l : List PMsg) : List UInt8 := (l.map txtM).flatten
def txtW (x : PWld) : List UInt8 := txtLs x.acts ++ (txtMs x.mail ++ (spc (usd x.used) ++ [10]))
/-- Numbers of 64 bits, and not too many. -/
def OkL (x : PLoc) : Prop := x.regs.length ≤ 20 ∧ (∀ n ∈ x.regs, Rg n) ∧ ∀ n ∈ four x, Rg n
def OkM (m : PMsg) : Prop := m.nt.args.length ≤ 20 ∧ RgD m.id ∧ ∀ n ∈ nts m, Rg n
structure OkT (x : PWld) : Prop where
  na : x.acts.length ≤ 20
  nm : x.mail.length ≤ 50
  acts : ∀ a ∈ x.acts, OkL a
  mail : ∀ m ∈ x.mail, OkM m
  used : ∀ n ∈ usd x.used, Rg n
theorem tid_len {a : PID} (h : RgD a) : (tid a).length ≤ 65 := by
  have h1 := itoa_len h.1; have h2 := itoa_len h.2.1; have h3 := itoa_len h.2.2
  unfold tid; simp only [List.length_append, List.length_cons]; omega
theorem txtL_len {x : PLoc} (h : OkL x) : (txtL x).length ≤ 600 := by
  have h1 := spc_len h.2.1; have h2 := spc_len h.2.2; have h3 := h.1
  have h4 : (four x).length = 4 := rfl
  unfold txtL; simp only [List.length_append, List.length_cons, List.length_nil]; omega
theorem txtM_len {m : PMsg} (h : OkM m) : (txtM m).length ≤ 600 := by
  have h1 := tid_len h.2.1; have h2 := spc_len h.2.2; have h3 := h.1
  have h4 : (nts m).length = m.nt.args.length + 2 := rfl
  unfold txtM; simp only [List.length_append, List.length_cons, List.length_nil]; omega
theorem txtLs_take {l : List PLoc} {k : Nat} {x : PLoc} (h : l[k]? = some x) : txtLs (l.take (k + 1)) = txtLs (l.take k) ++ txtL x := by
  unfold txtLs; rw [List.take_add_one, h]; simp
theorem txtMs_take {l : List PMsg} {k : Nat} {x : PMsg} (h : l[k]? = some x) : txtMs (l.take (k + 1)) = txtMs (l.take k) ++ txtM x := by
  unfold txtMs; rw [List.take_add_one, h]; simp
theorem txtLs_len {l : List PLoc} (h : ∀ x ∈ l, OkL x) : (txtLs l).length ≤ 600 * l.length := by
  induction l with
  | nil => simp [txtLs]
  | cons x r ih =>
    have h1 := txtL_len (h x (List.mem_cons_self ..))
    have h2 := ih (fun y hy => h y (List.mem_cons_of_mem _ hy))
    simp only [txtLs, List.map_cons, List.flatten_cons, List.length_append, List.length_cons] at *
    omega
theorem txtMs_len {l : List PMsg} (h : ∀ x ∈ l, OkM x) : (txtMs l).length ≤ 600 * l.length := by
  induction l with
  | nil => simp [txtMs]
  | cons x r ih =>
    have h1 := txtM_len (h x (List.mem_cons_self ..))
    have h2 := ih (fun y hy => h y (List.mem_cons_of_mem _ hy))
    simp only [txtMs, List.map_cons, List.flatten_cons, List.length_append, List.length_cons] at *
    omega
end Go.Proofs.YtflpkdhmkgidiaaDoor
