/-
  What is known of a copy whose numbers are raised, while the first program and a second copy stay. No conditions.
-/
import Derived.Test.YtlpeiiejkpkpjaaDoorPoke
import Derived.Test.YtlpeiiejkpkpjaaDoorAwake
namespace Go.Proofs.YtlpeiiejkpkpjaaDoor
open Go.RowKit

def up1 (a : Int) : Int := wrap64 (a + 1)
theorem up1_ne (a : Int) : up1 a ≠ a := by unfold up1 wrap64; omega

def HQ (i : Nat) (l l' : List PHnd) : Prop := l'.length = l.length ∧ ∀ (j : Nat) x y, l[j]? = some x → l'[j]? = some y → y.args = if j < i then up1 x.args else x.args
def AQ (i : Nat) (l l' : List PAct) : Prop := l'.length = l.length ∧ ∀ (j : Nat) x y, l[j]? = some x → l'[j]? = some y → y.cap = if j < i then up1 x.cap else x.cap
def NQ (i : Nat) (l l' : List PNte) : Prop := l'.length = l.length ∧ ∀ (j : Nat) x y, l[j]? = some x → l'[j]? = some y → y.to = if j < i then up1 x.to else x.to

theorem HQ.self (l : List PHnd) : HQ 0 l l := ⟨rfl, fun j x y hx hy => by rw [hx] at hy; obtain rfl := Option.some.inj hy; simp⟩
theorem HQ.poke {i : Nat} {l l' l'' : List PHnd} (h : HQ i l l') (hl : l''.length = l'.length) (hk : ∀ (j : Nat) x y, l'[j]? = some x → l''[j]? = some y → kH x y) : HQ i l l'' := by
  refine ⟨hl.trans h.1, fun j x y hx hy => ?_⟩
  have hj : j < l'.length := by rw [← hl]; exact (List.getElem?_eq_some_iff.1 hy).1
  have e := h.2 j x _ hx (List.getElem?_eq_getElem hj)
  have k := hk j _ y (List.getElem?_eq_getElem hj) hy
  unfold kH at k
  rw [k, e]
theorem HQ.step {i : Nat} {l l' : List PHnd} {x y : PHnd} (h : HQ i l l') (hx : l[i]? = some x) : HQ (i + 1) l (l'.set i ⟨up1 x.args, y.code⟩) := by
  refine ⟨by simpa using h.1, fun j x' y' hx' hy' => ?_⟩
  rw [List.getElem?_set] at hy'
  by_cases hj : i = j
  · subst hj
    rw [if_pos rfl] at hy'
    split at hy'
    · obtain rfl := Option.some.inj hy'
      obtain rfl := Option.some.inj (hx.symm.trans hx')
      simp
    · simp at hy'
  · rw [if_neg hj] at hy'
    have e := h.2 j x' y' hx' hy'
    rw [e]
    by_cases hlt : j < i
    · rw [if_pos hlt, if_pos (by omega)]
    · rw [if_neg hlt, if_neg (by omega)]
theorem HQ.ne {l l' : List PHnd} (h : HQ l.length l l') (h0 : l ≠ []) : l ≠ l' := by
  rintro rfl
  have hp := List.length_pos_iff.2 h0
  have e := h.2 0 _ _ (List.getElem?_eq_getElem hp) (List.getElem?_eq_getElem hp)
  rw [if_pos hp] at e
  exact up1_ne _ e.symm
theorem AQ.self (l : List PAct) : AQ 0 l l := ⟨rfl, fun j x y hx hy => by rw [hx] at hy; obtain rfl := Option.some.inj hy; simp⟩
theorem AQ.poke {i : Nat} {l l' l'' : List PAct} (h : AQ i l l') (hl : l''.length = l'.length) (hk : ∀ (j : Nat) x y, l'[j]? = some x → l''[j]? = some y → kA x y) : AQ i l l'' := by
  refine ⟨hl.trans h.1, fun j x y hx hy => ?_⟩
  have hj : j < l'.length := by rw [← hl]; exact (List.getElem?_eq_some_iff.1 hy).1
  have e := h.2 j x _ hx (List.getElem?_eq_getElem hj)
  have k := hk j _ y (List.getElem?_eq_getElem hj) hy
  unfold kA at k
  rw [k, e]
theorem AQ.step {i : Nat} {l l' : List PAct} {x y : PAct} (h : AQ i l l') (hx : l[i]? = some x) : AQ (i + 1) l (l'.set i ⟨y.regs, up1 x.cap, y.timer, y.armed⟩) := by
  refine ⟨by simpa using h.1, fun j x' y' hx' hy' => ?_⟩
  rw [List.getElem?_set] at hy'
  by_cases hj : i = j
  · subst hj
    rw [if_pos rfl] at hy'
    split at hy'
    · obtain rfl := Option.some.inj hy'
      obtain rfl := Option.some.inj (hx.symm.trans hx')
      simp
    · simp at hy'
  · rw [if_neg hj] at hy'
    have e := h.2 j x' y' hx' hy'
    rw [e]
    by_cases hlt : j < i
    · rw [if_pos hlt, if_pos (by omega)]
    · rw [if_neg hlt, if_neg (by omega)]
theorem AQ.ne {l l' : List PAct} (h : AQ l.length l l') (h0 : l ≠ []) : l ≠ l' := by
  rintro rfl
  have hp := List.length_pos_iff.2 h0
  have e := h.2 0 _ _ (List.getElem?_eq_getElem hp) (List.getElem?_eq_getElem hp)
  rw [if_pos hp] at e
  exact up1_ne _ e.symm
theorem NQ.self (l : List PNte) : NQ 0 l l := ⟨rfl, fun j x y hx hy => by rw [hx] at hy; obtain rfl := Option.some.inj hy; simp⟩
theorem NQ.poke {i : Nat} {l l' l'' : List PNte} (h : NQ i l l') (hl : l''.length = l'.length) (hk : ∀ (j : Nat) x y, l'[j]? = some x → l''[j]? = some y → kN x y) : NQ i l l'' := by
  refine ⟨hl.trans h.1, fun j x y hx hy => ?_⟩
  have hj : j < l'.length := by rw [← hl]; exact (List.getElem?_eq_some_iff.1 hy).1
  have e := h.2 j x _ hx (List.getElem?_eq_getElem hj)
  have k := hk j _ y (List.getElem?_eq_getElem hj) hy
  unfold kN at k
  rw [k, e]
theorem NQ.step {i : Nat} {l l' : List PNte} {x y : PNte} (h : NQ i l l') (hx : l[i]? = some x) : NQ (i + 1) l (l'.set i ⟨up1 x.to, y.hd, y.args⟩) := by
  refine ⟨by simpa using h.1, fun j x' y' hx' hy' => ?_⟩
  rw [List.getElem?_set] at hy'
  by_cases hj : i = j
  · subst hj
    rw [if_pos rfl] at hy'
    split at hy'
    · obtain rfl := Option.some.inj hy'
      obtain rfl := Option.some.inj (hx.symm.trans hx')
      simp
    · simp at hy'
  · rw [if_neg hj] at hy'
    have e := h.2 j x' y' hx' hy'
    rw [e]
    by_cases hlt : j < i
    · rw [if_pos hlt, if_pos (by omega)]
    · rw [if_neg hlt, if_neg (by omega)]
theorem NQ.ne {l l' : List PNte} (h : NQ l.length l l') (h0 : l ≠ []) : l ≠ l' := by
  rintro rfl
  have hp := List.length_pos_iff.2 h0
  have e := h.2 0 _ _ (List.getElem?_eq_getElem hp) (List.getElem?_eq_getElem hp)
  rw [if_pos hp] at e
  exact up1_ne _ e.symm

/-- A block whose first four cells are known. -/
structure B4 (w : World) (b : Nat) (cs : Array Value) : Prop where
  lt : b < w.heap.size
  cell : ∀ o, o < 4 → w.cell? ⟨b, o, none⟩ = cs[o]?
theorem B4.below {w w' : World} {b : Nat} {cs : Array Value} (h : B4 w b cs) (hb : Below w.heap.size w w') : B4 w' b cs :=
  ⟨Nat.lt_of_lt_of_le h.lt hb.size, fun o ho => (hb.cell (p := ⟨b, o, none⟩) h.lt).trans (h.cell o ho)⟩
theorem B4.mk4 {w : World} {b : Nat} {a0 a1 a2 a3 : Value} (h : b < w.heap.size) (h0 : w.cell? ⟨b, 0, none⟩ = some a0) (h1 : w.cell? ⟨b, 1, none⟩ = some a1) (h2 : w.cell? ⟨b, 2, none⟩ = some a2) (h3 : w.cell? ⟨b, 3, none⟩ = some a3) : B4 w b #[a0, a1, a2, a3] :=
  ⟨h, fun o ho => by
    match o, ho with
    | 0, _ => exact h0
    | 1, _ => exact h1
    | 2, _ => exact h2
    | 3, _ => exact h3⟩

/-- Which blocks are whose. -/
structure CK (w : World) (bp bq bs B1 p1 q1 p2 q2 p3 q3 C E1 : Nat) : Prop where
  a : w.heap.size < B1
  a0 : B1 ≤ p1
  a1 : p1 ≤ q1
  a2 : q1 ≤ p2
  a3 : p2 ≤ q2
  a4 : q2 ≤ p3
  a5 : p3 ≤ q3
  a6 : q3 ≤ C
  a7 : C ≤ E1
  p : bp < B1
  q : bq < B1 ∨ E1 ≤ bq
  s : bs < B1 ∨ E1 ≤ bs

structure CV (w : World) (p : PPrg) (bp bq bs : Nat) (PC QC : Array Value) (wa wb wc : Value) (B1 p1 q1 p2 q2 p3 q3 C E1 : Nat) (A1 A2 A3 : Option Addr) (d1 d2 d3 i1 i2 i3 : Nat) (wr : World) : Prop where
  low : Below w.heap.size w wr
  pl : ∀ b, B1 ≤ b → b < E1 → ∃ cs T, wr.heap[b]? = some (.cells cs T (0, 0))
  top : E1 ≤ wr.heap.size
  xp : B4 wr bp PC
  xq : B4 wr bq QC
  xw : B4 wr bs #[wa, wb, wc, .int .i64 p.fuel]
  sh : Hnds (fun b => E1 ≤ b) (fun b => E1 ≤ b) wr wa p.hs
  sa : Acts (fun b => E1 ≤ b) (fun b => E1 ≤ b) wr wb p.acs
  sn : Ntes (fun b => E1 ≤ b) (fun b => E1 ≤ b) wr wc p.bs
  q : ∃ Q : PPrg, Hnds (In p1 q1) (In C E1) wr (.slice A1 p.hs.length d1) Q.hs ∧ Acts (In p2 q2) (In C E1) wr (.slice A2 p.acs.length d2) Q.acs ∧ Ntes (In p3 q3) (In C E1) wr (.slice A3 p.bs.length d3) Q.bs ∧ HQ i1 p.hs Q.hs ∧ AQ i2 p.acs Q.acs ∧ NQ i3 p.bs Q.bs

section
variable {w : World} {p : PPrg} {bp bq bs : Nat} {PC QC : Array Value} {wa wb wc : Value} {B1 p1 q1 p2 q2 p3 q3 C E1 : Nat} {A1 A2 A3 : Option Addr} {d1 d2 d3 i1 i2 i3 : Nat} {wr w' : World}

theorem B4.set {w : World} {b b' i : Nat} {cs : Array Value} {v : Value} (h : B4 w b cs) (hne : b ≠ b') : B4 (w.setCell ⟨b', i, none⟩ v) b cs :=
  ⟨by rw [setCell_size]; exact h.lt, fun o ho => (far hne).trans (h.cell o ho)⟩

/-- New memory behind keeps it. -/
theorem CV.below (h : CV w p bp bq bs PC QC wa wb wc B1 p1 q1 p2 q2 p3 q3 C E1 A1 A2 A3 d1 d2 d3 i1 i2 i3 wr) (hb : Below wr.heap.size wr w') : CV w p bp bq bs PC QC wa wb wc B1 p1 q1 p2 q2 p3 q3 C E1 A1 A2 A3 d1 d2 d3 i1 i2 i3 w' := by
  have ht := h.top
  obtain ⟨Q, h1, h2, h3, h4⟩ := h.q
  exact ⟨bTrans h.low hb, fun b h1 h2 => by rw [hb.block b (by omega)]; exact h.pl b h1 h2, Nat.le_trans h.top hb.size, h.xp.below hb, h.xq.below hb, h.xw.below hb, h.sh.below hb, h.sa.below hb, h.sn.below hb, Q, h1.below hb, h2.below hb, h3.below hb, h4⟩

/-- A store into a block of the copy's own keeps all but the copy. -/
theorem CV.store {b i : Nat} {v : Value} (h : CV w p bp bq bs PC QC wa wb wc B1 p1 q1 p2 q2 p3 q3 C E1 A1 A2 A3 d1 d2 d3 i1 i2 i3 wr) (ck : CK w bp bq bs B1 p1 q1 p2 q2 p3 q3 C E1) (h1 : B1 ≤ b) (h2 : b < E1) {j1 j2 j3 : Nat}
    (hq : ∃ Q : PPrg, Hnds (In p1 q1) (In C E1) (wr.setCell ⟨b, i, none⟩ v) (.slice A1 p.hs.length d1) Q.hs ∧ Acts (In p2 q2) (In C E1) (wr.setCell ⟨b, i, none⟩ v) (.slice A2 p.acs.length d2) Q.acs ∧ Ntes (In p3 q3) (In C E1) (wr.setCell ⟨b, i, none⟩ v) (.slice A3 p.bs.length d3) Q.bs ∧ HQ j1 p.hs Q.hs ∧ AQ j2 p.acs Q.acs ∧ NQ j3 p.bs Q.bs) :
    CV w p bp bq bs PC QC wa wb wc B1 p1 q1 p2 q2 p3 q3 C E1 A1 A2 A3 d1 d2 d3 j1 j2 j3 (wr.setCell ⟨b, i, none⟩ v) := by
  obtain ⟨c0, c1, c2, c3, c4, c5, c6, c7, c8, c9, c10, c11⟩ := ck
  refine ⟨h.low.setCell (by simp; omega) _, fun d hd1 hd2 => ?_, by rw [setCell_size]; exact h.top, h.xp.set (by omega), h.xq.set (by omega), h.xw.set (by omega), Hnds.same h.sh (setCell_same (fun d hd => by omega)) (setCell_same (fun d hd => by omega)), Acts.same h.sa (setCell_same (fun d hd => by omega)) (setCell_same (fun d hd => by omega)), Ntes.same h.sn (setCell_same (fun d hd => by omega)) (setCell_same (fun d hd => by omega)), hq⟩
  obtain ⟨cs, T, hc⟩ := h.pl d hd1 hd2
  by_cases hb : d = b
  · subst hb
    exact ⟨_, _, setCell_heap hc⟩
  · rw [Below.heap_setCell _ _ _ _ hb]
    exact ⟨cs, T, hc⟩

theorem CV.frozen (h : CV w p bp bq bs PC QC wa wb wc B1 p1 q1 p2 q2 p3 q3 C E1 A1 A2 A3 d1 d2 d3 i1 i2 i3 wr) {b o : Nat} (h1 : B1 ≤ b) (h2 : b < E1) : wr.frozen? ⟨b, o, none⟩ = false := by
  obtain ⟨cs, T, hc⟩ := h.pl b h1 h2
  simp [World.frozen?, hc]

/-- A number of a part's own list is stored. -/
theorem CV.poke {b i : Nat} {a a0 : Int} (h : CV w p bp bq bs PC QC wa wb wc B1 p1 q1 p2 q2 p3 q3 C E1 A1 A2 A3 d1 d2 d3 i1 i2 i3 wr) (ck : CK w bp bq bs B1 p1 q1 p2 q2 p3 q3 C E1) (hb : In C E1 b) (h0 : wr.cell? ⟨b, i, none⟩ = some (.int .i64 a0)) :
    CV w p bp bq bs PC QC wa wb wc B1 p1 q1 p2 q2 p3 q3 C E1 A1 A2 A3 d1 d2 d3 i1 i2 i3 (wr.setCell ⟨b, i, none⟩ (.int .i64 a)) := by
  have ck' := ck
  obtain ⟨c0, c1, c2, c3, c4, c5, c6, c7, c8, c9, c10, c11⟩ := ck
  obtain ⟨Q, h1, h2, h3, h4, h5, h6⟩ := h.q
  unfold In at hb
  obtain ⟨l1, g1, e1, k1⟩ := Hnds.poke (a := a) h1 (fun d hd => by unfold In at hd; omega) h0
  obtain ⟨l2, g2, e2, k2⟩ := Acts.poke (a := a) h2 (fun d hd => by unfold In at hd; omega) h0
  obtain ⟨l3, g3, e3, k3⟩ := Ntes.poke (a := a) h3 (fun d hd => by unfold In at hd; omega) h0
  exact h.store ck' (by omega) (by omega) ⟨⟨l1, l2, l3, Q.fuel⟩, g1, g2, g3, h4.poke e1 k1, h5.poke e2 k2, h6.poke e3 k3⟩

/-- The number of the next handler, actor, note is raised. -/
theorem CV.args {b o : Nat} {x : PHnd} (h : CV w p bp bq bs PC QC wa wb wc B1 p1 q1 p2 q2 p3 q3 C E1 (some ⟨b, o, none⟩) A2 A3 d1 d2 d3 i1 i2 i3 wr) (ck : CK w bp bq bs B1 p1 q1 p2 q2 p3 q3 C E1) (hx : p.hs[i1]? = some x) :
    CV w p bp bq bs PC QC wa wb wc B1 p1 q1 p2 q2 p3 q3 C E1 (some ⟨b, o, none⟩) A2 A3 d1 d2 d3 (i1 + 1) i2 i3 (wr.setCell ⟨b, o + i1 * 2, none⟩ (.int .i64 (up1 x.args))) := by
  have ck' := ck
  obtain ⟨c0, c1, c2, c3, c4, c5, c6, c7, c8, c9, c10, c11⟩ := ck
  obtain ⟨Q, h1, h2, h3, h4, h5, h6⟩ := h.q
  have hk : i1 < Q.hs.length := by rw [h4.1]; exact (List.getElem?_eq_some_iff.1 hx).1
  obtain ⟨b', o', hA, hok, _, _⟩ := h1.at (by omega)
  simp only [Option.some.injEq, Addr.mk.injEq, and_true] at hA
  obtain ⟨rfl, rfl⟩ := hA
  unfold In at hok
  exact h.store ck' (by omega) (by omega) ⟨⟨Q.hs.set i1 ⟨up1 x.args, Q.hs[i1].code⟩, Q.acs, Q.bs, Q.fuel⟩, Hnds.args h1 (List.getElem?_eq_getElem hk) (fun d hd => by unfold In at hd; omega),
    Acts.same h2 (setCell_same (fun d hd => by unfold In at hd; omega)) (setCell_same (fun d hd => by unfold In at hd; omega)), Ntes.same h3 (setCell_same (fun d hd => by unfold In at hd; omega)) (setCell_same (fun d hd => by unfold In at hd; omega)), h4.step hx, h5, h6⟩
theorem CV.caps {b o : Nat} {x : PAct} (h : CV w p bp bq bs PC QC wa wb wc B1 p1 q1 p2 q2 p3 q3 C E1 A1 (some ⟨b, o, none⟩) A3 d1 d2 d3 i1 i2 i3 wr) (ck : CK w bp bq bs B1 p1 q1 p2 q2 p3 q3 C E1) (hx : p.acs[i2]? = some x) :
    CV w p bp bq bs PC QC wa wb wc B1 p1 q1 p2 q2 p3 q3 C E1 A1 (some ⟨b, o, none⟩) A3 d1 d2 d3 i1 (i2 + 1) i3 (wr.setCell ⟨b, o + i2 * 4 + 1, none⟩ (.int .i64 (up1 x.cap))) := by
  have ck' := ck
  obtain ⟨c0, c1, c2, c3, c4, c5, c6, c7, c8, c9, c10, c11⟩ := ck
  obtain ⟨Q, h1, h2, h3, h4, h5, h6⟩ := h.q
  have hk : i2 < Q.acs.length := by rw [h5.1]; exact (List.getElem?_eq_some_iff.1 hx).1
  obtain ⟨b', o', hA, hok, _, _⟩ := h2.at (by omega)
  simp only [Option.some.injEq, Addr.mk.injEq, and_true] at hA
  obtain ⟨rfl, rfl⟩ := hA
  unfold In at hok
  exact h.store ck' (by omega) (by omega) ⟨⟨Q.hs, Q.acs.set i2 ⟨Q.acs[i2].regs, up1 x.cap, Q.acs[i2].timer, Q.acs[i2].armed⟩, Q.bs, Q.fuel⟩, Hnds.same h1 (setCell_same (fun d hd => by unfold In at hd; omega)) (setCell_same (fun d hd => by unfold In at hd; omega)), Acts.caps h2 (List.getElem?_eq_getElem hk) (fun d hd => by unfold In at hd; omega),
    Ntes.same h3 (setCell_same (fun d hd => by unfold In at hd; omega)) (setCell_same (fun d hd => by unfold In at hd; omega)), h4, h5.step hx, h6⟩
theorem CV.tos {b o : Nat} {x : PNte} (h : CV w p bp bq bs PC QC wa wb wc B1 p1 q1 p2 q2 p3 q3 C E1 A1 A2 (some ⟨b, o, none⟩) d1 d2 d3 i1 i2 i3 wr) (ck : CK w bp bq bs B1 p1 q1 p2 q2 p3 q3 C E1) (hx : p.bs[i3]? = some x) :
    CV w p bp bq bs PC QC wa wb wc B1 p1 q1 p2 q2 p3 q3 C E1 A1 A2 (some ⟨b, o, none⟩) d1 d2 d3 i1 i2 (i3 + 1) (wr.setCell ⟨b, o + i3 * 3, none⟩ (.int .i64 (up1 x.to))) := by
  have ck' := ck
  obtain ⟨c0, c1, c2, c3, c4, c5, c6, c7, c8, c9, c10, c11⟩ := ck
  obtain ⟨Q, h1, h2, h3, h4, h5, h6⟩ := h.q
  have hk : i3 < Q.bs.length := by rw [h6.1]; exact (List.getElem?_eq_some_iff.1 hx).1
  obtain ⟨b', o', hA, hok, _, _⟩ := h3.at (by omega)
  simp only [Option.some.injEq, Addr.mk.injEq, and_true] at hA
  obtain ⟨rfl, rfl⟩ := hA
  unfold In at hok
  exact h.store ck' (by omega) (by omega) ⟨⟨Q.hs, Q.acs, Q.bs.set i3 ⟨up1 x.to, Q.bs[i3].hd, Q.bs[i3].args⟩, Q.fuel⟩, Hnds.same h1 (setCell_same (fun d hd => by unfold In at hd; omega)) (setCell_same (fun d hd => by unfold In at hd; omega)), Acts.same h2 (setCell_same (fun d hd => by unfold In at hd; omega)) (setCell_same (fun d hd => by unfold In at hd; omega)),
    Ntes.tos h3 (List.getElem?_eq_getElem hk) (fun d hd => by unfold In at hd; omega), h4, h5, h6.step hx⟩

/-- What stands at a place of the copy. -/
theorem CV.atH (h : CV w p bp bq bs PC QC wa wb wc B1 p1 q1 p2 q2 p3 q3 C E1 A1 A2 A3 d1 d2 d3 i1 i2 i3 wr) (ck : CK w bp bq bs B1 p1 q1 p2 q2 p3 q3 C E1) {k : Nat} {x : PHnd} (hx : p.hs[k]? = some x) :
    ∃ b o V m c, A1 = some ⟨b, o, none⟩ ∧ B1 ≤ b ∧ b < C ∧ b < E1 ∧ b < wr.heap.size ∧ wr.cell? ⟨b, o + k * 2, none⟩ = some (.int .i64 (if k < i1 then up1 x.args else x.args)) ∧ wr.cell? ⟨b, o + k * 2 + 1, none⟩ = some (.slice V m c) := by
  obtain ⟨c0, c1, c2, c3, c4, c5, c6, c7, c8, c9, c10, c11⟩ := ck
  obtain ⟨Q, h1, h2, h3, h4, h5, h6⟩ := h.q
  have hk : k < Q.hs.length := by rw [h4.1]; exact (List.getElem?_eq_some_iff.1 hx).1
  obtain ⟨b, o, rfl, hok, hlt, hc⟩ := h1.at (by omega)
  unfold In at hok
  obtain ⟨g1, v, g2, g3⟩ := hc k _ (List.getElem?_eq_getElem hk)
  obtain ⟨V, c, rfl, _⟩ := g3.form
  rw [h4.2 k x _ hx (List.getElem?_eq_getElem hk)] at g1
  exact ⟨b, o, V, _, c, rfl, by omega, by omega, by omega, hlt, g1, g2⟩
theorem CV.atA (h : CV w p bp bq bs PC QC wa wb wc B1 p1 q1 p2 q2 p3 q3 C E1 A1 A2 A3 d1 d2 d3 i1 i2 i3 wr) (ck : CK w bp bq bs B1 p1 q1 p2 q2 p3 q3 C E1) {k : Nat} {x : PAct} (hx : p.acs[k]? = some x) :
    ∃ b o V m c, A2 = some ⟨b, o, none⟩ ∧ B1 ≤ b ∧ b < C ∧ b < E1 ∧ b < wr.heap.size ∧ wr.cell? ⟨b, o + k * 4 + 1, none⟩ = some (.int .i64 (if k < i2 then up1 x.cap else x.cap)) ∧ wr.cell? ⟨b, o + k * 4, none⟩ = some (.slice V m c) := by
  obtain ⟨c0, c1, c2, c3, c4, c5, c6, c7, c8, c9, c10, c11⟩ := ck
  obtain ⟨Q, h1, h2, h3, h4, h5, h6⟩ := h.q
  have hk : k < Q.acs.length := by rw [h5.1]; exact (List.getElem?_eq_some_iff.1 hx).1
  obtain ⟨b, o, rfl, hok, hlt, hc⟩ := h2.at (by omega)
  unfold In at hok
  obtain ⟨⟨v, g1, g2⟩, g3, _⟩ := hc k _ (List.getElem?_eq_getElem hk)
  obtain ⟨V, c, rfl, _⟩ := g2.form
  rw [h5.2 k x _ hx (List.getElem?_eq_getElem hk)] at g3
  exact ⟨b, o, V, _, c, rfl, by omega, by omega, by omega, hlt, g3, g1⟩
theorem CV.atN (h : CV w p bp bq bs PC QC wa wb wc B1 p1 q1 p2 q2 p3 q3 C E1 A1 A2 A3 d1 d2 d3 i1 i2 i3 wr) (ck : CK w bp bq bs B1 p1 q1 p2 q2 p3 q3 C E1) {k : Nat} {x : PNte} (hx : p.bs[k]? = some x) :
    ∃ b o V m c, A3 = some ⟨b, o, none⟩ ∧ B1 ≤ b ∧ b < C ∧ b < E1 ∧ b < wr.heap.size ∧ wr.cell? ⟨b, o + k * 3, none⟩ = some (.int .i64 (if k < i3 then up1 x.to else x.to)) ∧ wr.cell? ⟨b, o + k * 3 + 2, none⟩ = some (.slice V m c) := by
  obtain ⟨c0, c1, c2, c3, c4, c5, c6, c7, c8, c9, c10, c11⟩ := ck
  obtain ⟨Q, h1, h2, h3, h4, h5, h6⟩ := h.q
  have hk : k < Q.bs.length := by rw [h6.1]; exact (List.getElem?_eq_some_iff.1 hx).1
  obtain ⟨b, o, rfl, hok, hlt, hc⟩ := h3.at (by omega)
  unfold In at hok
  obtain ⟨g1, _, v, g2, g3⟩ := hc k _ (List.getElem?_eq_getElem hk)
  obtain ⟨V, c, rfl, _⟩ := g3.form
  rw [h6.2 k x _ hx (List.getElem?_eq_getElem hk)] at g1
  exact ⟨b, o, V, _, c, rfl, by omega, by omega, by omega, hlt, g1, g2⟩

variable {b o : Nat}
/-- What stands at a place of a part's own list. -/
theorem CV.inH (h : CV w p bp bq bs PC QC wa wb wc B1 p1 q1 p2 q2 p3 q3 C E1 (some ⟨b, o, none⟩) A2 A3 d1 d2 d3 i1 i2 i3 wr) {k k2 m c : Nat} {V : Option Addr} (hk : k < p.hs.length) (hc : wr.cell? ⟨b, o + k * 2 + 1, none⟩ = some (.slice V m c)) (hm : k2 < m) :
    (m : Int) ≤ 9223372036854775807 ∧ ∃ b2 o2 y z, V = some ⟨b2, o2, none⟩ ∧ In C E1 b2 ∧ b2 < wr.heap.size ∧ wr.cell? ⟨b2, o2 + k2 * 2, none⟩ = some (.int .i64 y) ∧ wr.cell? ⟨b2, o2 + k2 * 2 + 1, none⟩ = some (.int .i64 z) := by
  obtain ⟨Q, h1, h2, h3, h4, h5, h6⟩ := h.q
  have hk' : k < Q.hs.length := by rw [h4.1]; exact hk
  obtain ⟨b', o', hA, _, hlt, hcc⟩ := h1.at (by omega)
  simp only [Option.some.injEq, Addr.mk.injEq, and_true] at hA
  obtain ⟨rfl, rfl⟩ := hA
  obtain ⟨_, v, g2, g3⟩ := hcc k _ (List.getElem?_eq_getElem hk')
  rw [hc] at g2
  obtain rfl := Option.some.inj g2
  obtain ⟨_, _, he, hb⟩ := g3.form
  simp only [Value.slice.injEq] at he
  obtain ⟨_, hm', _⟩ := he
  rw [← hm'] at hb
  obtain ⟨b2, o2, hV, hok, hlt2, hcell⟩ := g3.at (by omega)
  have := hcell k2 _ (List.getElem?_eq_getElem (by omega))
  exact ⟨hb, b2, o2, _, _, hV, hok, hlt2, this.1, this.2⟩
theorem CV.inA (h : CV w p bp bq bs PC QC wa wb wc B1 p1 q1 p2 q2 p3 q3 C E1 A1 (some ⟨b, o, none⟩) A3 d1 d2 d3 i1 i2 i3 wr) {k k2 m c : Nat} {V : Option Addr} (hk : k < p.acs.length) (hc : wr.cell? ⟨b, o + k * 4, none⟩ = some (.slice V m c)) (hm : k2 < m) :
    (m : Int) ≤ 9223372036854775807 ∧ ∃ b2 o2 y, V = some ⟨b2, o2, none⟩ ∧ In C E1 b2 ∧ b2 < wr.heap.size ∧ wr.cell? ⟨b2, o2 + k2, none⟩ = some (.int .i64 y) := by
  obtain ⟨Q, h1, h2, h3, h4, h5, h6⟩ := h.q
  have hk' : k < Q.acs.length := by rw [h5.1]; exact hk
  obtain ⟨b', o', hA, _, hlt, hcc⟩ := h2.at (by omega)
  simp only [Option.some.injEq, Addr.mk.injEq, and_true] at hA
  obtain ⟨rfl, rfl⟩ := hA
  obtain ⟨⟨v, g2, g3⟩, _⟩ := hcc k _ (List.getElem?_eq_getElem hk')
  rw [hc] at g2
  obtain rfl := Option.some.inj g2
  obtain ⟨_, _, he, hb⟩ := g3.form
  simp only [Value.slice.injEq] at he
  obtain ⟨_, hm', _⟩ := he
  rw [← hm'] at hb
  obtain ⟨b2, o2, hV, hok, hlt2, hcell⟩ := g3.at (by omega)
  have := hcell k2 _ (List.getElem?_eq_getElem (by omega))
  rw [Nat.mul_one] at this
  exact ⟨hb, b2, o2, _, hV, hok, hlt2, this⟩
theorem CV.inN (h : CV w p bp bq bs PC QC wa wb wc B1 p1 q1 p2 q2 p3 q3 C E1 A1 A2 (some ⟨b, o, none⟩) d1 d2 d3 i1 i2 i3 wr) {k k2 m c : Nat} {V : Option Addr} (hk : k < p.bs.length) (hc : wr.cell? ⟨b, o + k * 3 + 2, none⟩ = some (.slice V m c)) (hm : k2 < m) :
    (m : Int) ≤ 9223372036854775807 ∧ ∃ b2 o2 y, V = some ⟨b2, o2, none⟩ ∧ In C E1 b2 ∧ b2 < wr.heap.size ∧ wr.cell? ⟨b2, o2 + k2, none⟩ = some (.int .i64 y) := by
  obtain ⟨Q, h1, h2, h3, h4, h5, h6⟩ := h.q
  have hk' : k < Q.bs.length := by rw [h6.1]; exact hk
  obtain ⟨b', o', hA, _, hlt, hcc⟩ := h3.at (by omega)
  simp only [Option.some.injEq, Addr.mk.injEq, and_true] at hA
  obtain ⟨rfl, rfl⟩ := hA
  obtain ⟨_, _, v, g2, g3⟩ := hcc k _ (List.getElem?_eq_getElem hk')
  rw [hc] at g2
  obtain rfl := Option.some.inj g2
  obtain ⟨_, _, he, hb⟩ := g3.form
  simp only [Value.slice.injEq] at he
  obtain ⟨_, hm', _⟩ := he
  rw [← hm'] at hb
  obtain ⟨b2, o2, hV, hok, hlt2, hcell⟩ := g3.at (by omega)
  have := hcell k2 _ (List.getElem?_eq_getElem (by omega))
  rw [Nat.mul_one] at this
  exact ⟨hb, b2, o2, _, hV, hok, hlt2, this⟩

/-- The second copy, and the first, as programs. -/
theorem CV.was (h : CV w p bp bq bs PC QC wa wb wc B1 p1 q1 p2 q2 p3 q3 C E1 A1 A2 A3 d1 d2 d3 i1 i2 i3 wr) : PrgV wr (.agg #[wa, wb, wc, .int .i64 p.fuel]) p :=
  ⟨_, _, _, rfl, h.sh.mono (fun _ _ _ => trivial) (fun _ _ _ => trivial), h.sa.mono (fun _ _ _ => trivial) (fun _ _ _ => trivial), h.sn.mono (fun _ _ _ => trivial) (fun _ _ _ => trivial)⟩
theorem CV.raised (h : CV w p bp bq bs PC QC wa wb wc B1 p1 q1 p2 q2 p3 q3 C E1 A1 A2 A3 d1 d2 d3 p.hs.length p.acs.length p.bs.length wr) : ∃ Q, PrgV wr (.agg #[.slice A1 p.hs.length d1, .slice A2 p.acs.length d2, .slice A3 p.bs.length d3, .int .i64 p.fuel]) Q ∧ eqB p Q = (decide (p.hs = []) && decide (p.acs = []) && decide (p.bs = [])) := by
  obtain ⟨Q, h1, h2, h3, h4, h5, h6⟩ := h.q
  refine ⟨⟨Q.hs, Q.acs, Q.bs, p.fuel⟩, ⟨_, _, _, rfl, h1.mono (fun _ _ _ => trivial) (fun _ _ _ => trivial), h2.mono (fun _ _ _ => trivial) (fun _ _ _ => trivial), h3.mono (fun _ _ _ => trivial) (fun _ _ _ => trivial)⟩, ?_⟩
  by_cases e1 : p.hs = []
  · by_cases e2 : p.acs = []
    · by_cases e3 : p.bs = []
      · rw [decide_eq_true e1, decide_eq_true e2, decide_eq_true e3]
        have f1 : Q.hs = [] := List.length_eq_zero_iff.1 (by rw [h4.1, e1]; rfl)
        have f2 : Q.acs = [] := List.length_eq_zero_iff.1 (by rw [h5.1, e2]; rfl)
        have f3 : Q.bs = [] := List.length_eq_zero_iff.1 (by rw [h6.1, e3]; rfl)
        refine eqB_yes ?_
        obtain ⟨a, b, c, d⟩ := p
        simp_all
      · rw [decide_eq_false e3, Bool.and_false]
        exact eqB_no (fun e => h6.ne e3 (by have := congrArg PPrg.bs e; exact this))
    · rw [decide_eq_false e2, Bool.and_false, Bool.false_and]
      exact eqB_no (fun e => h5.ne e2 (by have := congrArg PPrg.acs e; exact this))
  · rw [decide_eq_false e1, Bool.false_and, Bool.false_and]
    exact eqB_no (fun e => h4.ne e1 (by have := congrArg PPrg.hs e; exact this))
end

theorem Same.alloc' {ok : Nat → Prop} {a w : World} (h : Same ok a w) (o : Obj) : Same ok a (w.alloc o) := h.trans (Same.all (bAlloc (bRefl w) o))
theorem Same.setCell' {ok : Nat → Prop} {a w : World} (h : Same ok a w) {b i : Nat} (hne : ∀ d, ok d → d ≠ b) (v : Value) : Same ok a (w.setCell ⟨b, i, none⟩ v) := h.trans (setCell_same hne)
theorem Same.drew' {ok : Nat → Prop} {a w : World} (h : Same ok a w) : Same ok a w.drew := ⟨h.size, h.block⟩
theorem Same.rfl' {ok : Nat → Prop} {a : World} : Same ok a a := ⟨Nat.le_refl _, fun _ _ _ => rfl⟩

/-- The start. -/
theorem cv_mk {w W1 u1 W2 u2 wf : World} {p : PPrg} {bq bs : Nat} {PC : Array Value} {wa wb wc : Value} {A1 A2 A3 : Option Addr} {d1 d2 d3 : Nat}
    (z1 : w.heap.size < W1.heap.size) (n1 : PNew W1.heap.size u1 (.agg #[.slice A1 p.hs.length d1, .slice A2 p.acs.length d2, .slice A3 p.bs.length d3, .int .i64 p.fuel]) p) (b1 : Below W1.heap.size W1 u1)
    (y2 : Below u1.heap.size u1 W2) (n2 : PNew W2.heap.size u2 (.agg #[wa, wb, wc, .int .i64 p.fuel]) p) (b2 : Below W2.heap.size W2 u2) (sf : Same (fun d => d ≠ bq ∧ d ≠ bs) u2 wf) (low : Below w.heap.size w wf)
    (xp : B4 wf w.heap.size PC) (xq : B4 wf bq #[.slice A1 p.hs.length d1, .slice A2 p.acs.length d2, .slice A3 p.bs.length d3, .int .i64 p.fuel]) (xw : B4 wf bs #[wa, wb, wc, .int .i64 p.fuel])
    (m1 : bq < W1.heap.size ∨ u1.heap.size ≤ bq) (m2 : bq < W2.heap.size ∨ u2.heap.size ≤ bq) (m3 : bs < W1.heap.size ∨ u1.heap.size ≤ bs) (m4 : bs < W2.heap.size ∨ u2.heap.size ≤ bs) :
    ∃ B1 p1 q1 p2 q2 p3 q3 C E1, CK w w.heap.size bq bs B1 p1 q1 p2 q2 p3 q3 C E1 ∧ CV w p w.heap.size bq bs PC #[.slice A1 p.hs.length d1, .slice A2 p.acs.length d2, .slice A3 p.bs.length d3, .int .i64 p.fuel] wa wb wc B1 p1 q1 p2 q2 p3 q3 C E1 A1 A2 A3 d1 d2 d3 0 0 0 wf ∧ PrgV wf (.agg #[.slice A1 p.hs.length d1, .slice A2 p.acs.length d2, .slice A3 p.bs.length d3, .int .i64 p.fuel]) p := by
  have s1 := b1.size
  have s2 := y2.size
  have s3 := b2.size
  have s4 := sf.size
  obtain ⟨⟨p1, q1, p2, q2, p3, q3, C, X1, X2, X3, e1, e2, e3, hv, k0, k1, k2, k3, k4, k5, k6, h1, h2, h3⟩, pl1⟩ := n1
  simp only [Value.agg.injEq, Array.mk.injEq, List.cons.injEq, Value.slice.injEq, true_and, and_true] at hv
  obtain ⟨⟨rfl, rfl⟩, ⟨rfl, rfl⟩, ⟨rfl, rfl⟩⟩ := hv
  obtain ⟨⟨r1, t1, r2, t2, r3, t3, D, Y1, Y2, Y3, g1, g2, g3, hw, j0, j1, j2, j3, j4, j5, j6, h4, h5, h6⟩, pl2⟩ := n2
  simp only [Value.agg.injEq, Array.mk.injEq, List.cons.injEq, and_true] at hw
  obtain ⟨rfl, rfl, rfl⟩ := hw
  have su : Same (fun d => d ≠ bq ∧ d ≠ bs) u1 wf := (Same.all (bTrans y2 b2)).trans sf
  have f1 := Hnds.same (h1.mono (out' := In (min p1 u1.heap.size) (min q1 u1.heap.size)) (i' := In (min C u1.heap.size) u1.heap.size) (fun b hb hl => by unfold In at *; omega) (fun b hb hl => by unfold In; omega)) (su.weak (by intro b hb; unfold In at hb; omega)) (su.weak (by intro b hb; unfold In at hb; omega))
  have f2 := Acts.same (h2.mono (out' := In (min p2 u1.heap.size) (min q2 u1.heap.size)) (i' := In (min C u1.heap.size) u1.heap.size) (fun b hb hl => by unfold In at *; omega) (fun b hb hl => by unfold In; omega)) (su.weak (by intro b hb; unfold In at hb; omega)) (su.weak (by intro b hb; unfold In at hb; omega))
  have f3 := Ntes.same (h3.mono (out' := In (min p3 u1.heap.size) (min q3 u1.heap.size)) (i' := In (min C u1.heap.size) u1.heap.size) (fun b hb hl => by unfold In at *; omega) (fun b hb hl => by unfold In; omega)) (su.weak (by intro b hb; unfold In at hb; omega)) (su.weak (by intro b hb; unfold In at hb; omega))
  refine ⟨W1.heap.size, min p1 u1.heap.size, min q1 u1.heap.size, min p2 u1.heap.size, min q2 u1.heap.size, min p3 u1.heap.size, min q3 u1.heap.size, min C u1.heap.size, u1.heap.size,
    ⟨z1, by omega, by omega, by omega, by omega, by omega, by omega, by omega, by omega, z1, m1, m3⟩, ⟨low, fun b hb1 hb2 => ?_, by omega, xp, xq, xw, ?_, ?_, ?_, p, f1, f2, f3, HQ.self _, AQ.self _, NQ.self _⟩, ⟨_, _, _, rfl, f1.mono (fun _ _ _ => trivial) (fun _ _ _ => trivial), f2.mono (fun _ _ _ => trivial) (fun _ _ _ => trivial), f3.mono (fun _ _ _ => trivial) (fun _ _ _ => trivial)⟩⟩
  · rw [su.block b (by omega) hb2]
    exact pl1 b hb1 hb2
  · exact (Hnds.same (h4.mono (out' := fun b => W2.heap.size ≤ b ∧ b < u2.heap.size) (i' := fun b => W2.heap.size ≤ b ∧ b < u2.heap.size) (fun b hb hl => by unfold In at hb; omega) (fun b hb hl => by omega)) (sf.weak (by intro b hb; omega)) (sf.weak (by intro b hb; omega))).mono (fun b hb _ => by omega) (fun b hb _ => by omega)
  · exact (Acts.same (h5.mono (out' := fun b => W2.heap.size ≤ b ∧ b < u2.heap.size) (i' := fun b => W2.heap.size ≤ b ∧ b < u2.heap.size) (fun b hb hl => by unfold In at hb; omega) (fun b hb hl => by omega)) (sf.weak (by intro b hb; omega)) (sf.weak (by intro b hb; omega))).mono (fun b hb _ => by omega) (fun b hb _ => by omega)
  · exact (Ntes.same (h6.mono (out' := fun b => W2.heap.size ≤ b ∧ b < u2.heap.size) (i' := fun b => W2.heap.size ≤ b ∧ b < u2.heap.size) (fun b hb hl => by unfold In at hb; omega) (fun b hb hl => by omega)) (sf.weak (by intro b hb; omega)) (sf.weak (by intro b hb; omega))).mono (fun b hb _ => by omega) (fun b hb _ => by omega)
end Go.Proofs.YtlpeiiejkpkpjaaDoor
