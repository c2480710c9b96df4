/-
  The reference's Take: a message taken out. Condition: the lists are short.
-/
import Derived.Test.YtjdkbgeehjihfaaMb
namespace Go.Proofs.Ytjdkbgeehjihfaa
open Go.RowKit
attribute [local go_sem ↓] Go.wp_at_zero Go.wp_at_succ subA_rule
attribute [local go_sem] subA_rule2
theorem Ints.set1 {g j : Nat} {w : World} {v y : Value} {l : List Int} {ok : Nat → Prop} (h : Ints ok w v l) (hg : ∀ b, ok b → b ≠ g) : Ints ok (w.setCell ⟨g, j, none⟩ y) v l :=
  h.same ⟨by simp, fun b hb _ => Below.heap_setCell _ _ _ _ (fun e => hg b hb (by have e' : b = g := e; exact e'))⟩
theorem Msgs.set1 {g j : Nat} {w : World} {v y : Value} {l : List PMsg} {ok inn : Nat → Prop} (h : Msgs ok inn w v l) (ho : ∀ b, ok b → b ≠ g) (hg : ∀ b, inn b → b ≠ g) : Msgs ok inn (w.setCell ⟨g, j, none⟩ y) v l :=
  h.same ⟨by simp, fun b hb _ => Below.heap_setCell _ _ _ _ (fun e => ho b hb (by have e' : b = g := e; exact e'))⟩ ⟨by simp, fun b hb _ => Below.heap_setCell _ _ _ _ (fun e => hg b hb (by have e' : b = g := e; exact e'))⟩
set_option maxHeartbeats 1000000 in
theorem rtake_none (w : World) (v : Value) (l : List PMsg) (d : PID) (h : Msgs anyB anyB w v l) (hf : fnd l d = -1) :
    Calls Try.prog 11 #[v, dV d] w fun e w' => e = .returned (.tuple #[.slice none 0 0, mVal msg0 (.slice none 0 0), .bool false]) ∧ Below w.heap.size w w' := by
  obtain ⟨A, c, rfl, hl⟩ := h.form
  go_enter Try.func11, Try.ntmps11
  go_wp2_with fail
  refine (rfind_any _ _ l d (h.below (by exact bAlloc (bAlloc (bRefl _) _) _))).mono ?_
  rintro e w1 ⟨rfl, hb1⟩
  have kb : w1.heap[w.heap.size + 1]? = some (.cells #[.int .i64 0, .int .i64 0, .int .i64 0, .int .i64 0, .int .i64 0, .slice none 0 0] 29) := (hb1.block _ (by simp)).trans (heap_new2 (by simp))
  have yf : ∀ j, w1.frozen? ⟨w.heap.size + 1, j, none⟩ = false := fun j => by simp [World.frozen?, kb]
  obtain ⟨z0, z1, z2, z3, z4, z5⟩ := blk6 kb
  have HB : Hid (Below w.heap.size w w1) := bTrans (bAlloc (bAlloc (bRefl _) _) _) hb1
  clear hb1 kb
  go_wp2
  refine bodyPost_ret (v := .tuple #[.slice none 0 0, mVal msg0 (.slice none 0 0), .bool false]) (by simp [results, Try.results11, go_sem, msg0, *]) rfl ⟨rfl, ?_⟩
  repeat (refine Below.setCell ?_ (by first | (simp; done) | (simp; omega)) _)
  exact HB.out
set_option maxHeartbeats 4000000 in
set_option maxRecDepth 100000 in
theorem rtake_there (w : World) (v : Value) (l : List PMsg) (d : PID) (h : Msgs anyB anyB w v l) (k : Nat) (x : PMsg) (hf : fnd l d = k) (hx : l[k]? = some x) (hF : Few l) :
    Calls Try.prog 11 #[v, dV d] w fun e w' => ∃ u u2, e = .returned (.tuple #[u, mVal x u2, .bool true]) ∧ Msgs anyB anyB w' u (cutP l k) ∧ Ints anyB w' u2 x.nt.args ∧ Below w.heap.size w w' := by
  obtain ⟨A, c, rfl, hl⟩ := h.form
  have hcap := h.cap
  have hkl : k < l.length := (List.getElem?_eq_some_iff.1 hx).1
  have HF : Hid (Few l) := hF
  have hi : (0 : Int) ≤ k := by omega
  have hi2 : (k : Int) < l.length := by omega
  have hkc : (k : Int) ≤ c := by omega
  have hi3 : (k : Int) + 1 ≤ l.length := by omega
  have hi4 : (0 : Int) ≤ (k : Int) + 1 := by omega
  have hi5 : ((k : Int) + 1).toNat = k + 1 := by omega
  have hw1 : IntKind.i64.wrap ((k : Int) + 1) = (k : Int) + 1 := by rw [IntKind.wrap_i64]; omega
  have HK : Hid (k < l.length) := hkl
  have HX : Hid (l[k]? = some x) := hx
  clear hF hcap hx
  go_enter Try.func11, Try.ntmps11
  go_wp2_with fail
  refine (rfind_any _ _ l d (h.below (by exact bAlloc (bAlloc (bRefl _) _) _))).mono ?_
  rintro e w1 ⟨rfl, hb1⟩
  have kb0 : w1.heap[w.heap.size + 1]? = some (.cells #[.int .i64 0, .int .i64 0, .int .i64 0, .int .i64 0, .int .i64 0, .slice none 0 0] 29) := (hb1.block _ (by simp)).trans (heap_new2 (by simp))
  have HB : Hid (Below w.heap.size w w1) := bTrans (bAlloc (bAlloc (bRefl _) _) _) hb1
  obtain ⟨b1, o1, x', v1, rfl, hx', hlt1, q1, q2, q3, q4, q5, q6, hv1⟩ := h.cell HB.out HK.out
  have ex := HX.out
  rw [ex] at hx'
  cases hx'
  obtain ⟨V1, n1, rfl, _⟩ := hv1.form
  have hbo : b1 < w.heap.size := by
    obtain ⟨b, o, e, _, hlt, _⟩ := h.at (by omega)
    cases e; exact hlt
  have hz : w.heap.size + 1 < w1.heap.size := by have := hb1.size; simp at this; omega
  have hn1 : ¬ b1 = w.heap.size + 1 := by omega
  have hn2 : ¬ w.heap.size + 1 = b1 := by omega
  have HZ : Hid (w.heap.size + 1 < w1.heap.size) := hz
  have HFZ : Hid (∀ j, w1.frozen? ⟨w.heap.size + 1, j, none⟩ = false) := fun j => by simp [World.frozen?, kb0]
  have hbb : Below w1.heap.size w1 w1 := bRefl w1
  clear hb1 ex
  obtain ⟨a, ha⟩ : ∃ a, a = l.take k := ⟨_, rfl⟩
  obtain ⟨z, hz0⟩ : ∃ z, z = l.drop (k + 1) := ⟨_, rfl⟩
  have HP : Hid (cutP l k = a ++ z) := by show _ = _; unfold cutP; rw [ha, hz0]
  have HTA : Hid (Msgs anyB (fun b => b < w.heap.size) w (.slice (some ⟨b1, o1, none⟩) k c) a) := by rw [ha]; exact h.lt2.takeS (by omega)
  have HTZ : Hid (Msgs anyB (fun b => b < w.heap.size) w (.slice (subA (some ⟨b1, o1, none⟩) c (k + 1)) (l.length - (k + 1)) (c - (k + 1))) z) := by rw [hz0]; exact h.lt2.dropS (by omega)
  have HLA : Hid (a.length ≤ 900 ∧ z.length ≤ 900) := by rw [ha, hz0]; exact ⟨by have := HF.out.1; simp; omega, by have := HF.out.1; simp; omega⟩
  have HWX : Hid (w.heap.size + 1 < w1.heap.size) := hz
  have HV : Hid (Ints (fun b => b < w.heap.size) w (.slice V1 x.nt.args.length n1) x.nt.args) := by
    obtain ⟨b, o, y, v, e, hy, _, _, _, _, _, _, g6, hg⟩ := h.lt2.cell (bRefl w) HK.out
    cases e
    have g7 := (HB.out.cell (p := ⟨b1, o1 + k * 6 + 5, none⟩) hbo).trans g6
    rw [q6] at g7
    cases g7
    rw [HX.out] at hy
    cases hy
    exact hg
  clear ha hz0 h
  go_wp2_with fail
  go_region_held3 (fun w' => w'.cell? ⟨b1, o1 + k * 6, none⟩ = some (.int .i64 x.id.f) ∧ w'.cell? ⟨b1, o1 + k * 6 + 1, none⟩ = some (.int .i64 x.id.n) ∧ w'.cell? ⟨b1, o1 + k * 6 + 2, none⟩ = some (.int .i64 x.id.c) ∧ w'.cell? ⟨b1, o1 + k * 6 + 3, none⟩ = some (.int .i64 x.nt.to) ∧ w'.cell? ⟨b1, o1 + k * 6 + 4, none⟩ = some (.int .i64 x.nt.hd) ∧ w'.cell? ⟨b1, o1 + k * 6 + 5, none⟩ = some (.slice V1 x.nt.args.length n1)) (go_keep)
    (first
      | (refine step_appM (l := []) rfl _ _ rfl (MT.empty (P := fun b => b < w.heap.size) (base := w1.heap.size) (by exact heap_new2 (by simp)) (by first | exact Nat.le_refl _ | (simp; done) | (simp; omega))) rfl rfl (HTA.out.below (bTrans HB.out (by first | exact hbb | exact hbb.drew | exact bAlloc hbb _ | exact (bAlloc hbb _).drew | exact bAlloc hbb.drew _))) (fun b hb => ⟨hb, ne_own (N := w.heap.size) (by have := HWX.out; first | omega | (simp; omega)) hb⟩) (by have := HLA.out.1; simp; omega) (by first | (simp; done) | (simp; omega)) ?_; rintro A4 c4 W1 ⟨⟨us1, hm1⟩, hg1, -⟩; have hb1 := MT.low (MT.empty (P := fun b => b < w.heap.size) (base := w1.heap.size) (by exact heap_new2 (by simp)) (by first | exact Nat.le_refl _ | (simp; done) | (simp; omega))) (mid hg1 (by first | exact hbb | exact hbb.drew | exact bAlloc hbb _ | exact (bAlloc hbb _).drew | exact bAlloc hbb.drew _)) hg1; replace hbb := hb1; simp only [List.nil_append, List.length_nil, Nat.zero_add] at hm1 hg1 ⊢; have kb := (hbb.block (w.heap.size + 1) hz).trans kb0; have yf : (∀ j, W1.frozen? ⟨w.heap.size + 1, j, none⟩ = false) := (fun j => by simp [World.frozen?, kb]); obtain ⟨z0, z1, z2, z3, z4, z5⟩ := blk6 kb; clear kb; have t0 := (hbb.cell (p := ⟨b1, o1 + k * 6, none⟩) hlt1).trans q1; have t1 := (hbb.cell (p := ⟨b1, o1 + k * 6 + 1, none⟩) hlt1).trans q2; have t2 := (hbb.cell (p := ⟨b1, o1 + k * 6 + 2, none⟩) hlt1).trans q3; have t3 := (hbb.cell (p := ⟨b1, o1 + k * 6 + 3, none⟩) hlt1).trans q4; have t4 := (hbb.cell (p := ⟨b1, o1 + k * 6 + 4, none⟩) hlt1).trans q5; have t5 := (hbb.cell (p := ⟨b1, o1 + k * 6 + 5, none⟩) hlt1).trans q6; have hzz := Nat.lt_of_lt_of_le hz hbb.size; have hlz := Nat.lt_of_lt_of_le hlt1 hbb.size)
      | (refine step_appM (l := a) (ms := z) rfl _ _ rfl hm1 rfl rfl (HTZ.out.below (bTrans HB.out hbb)) (fun b hb => ⟨hb, fun e => by have := (own_lt hm1.own e).1; have := HWX.out; omega⟩) (by have := HLA.out; omega) (by have := hbb.size; omega) ?_; rintro A6 c6 W3 ⟨⟨us3, hm3⟩, hg3, -⟩; have hb3 := MT.low hm1 (mid hg3 hbb) hg3; replace hbb := hb3; have kb := (hbb.block (w.heap.size + 1) hz).trans kb0; have yf : (∀ j, W3.frozen? ⟨w.heap.size + 1, j, none⟩ = false) := (fun j => by simp [World.frozen?, kb]); obtain ⟨z0, z1, z2, z3, z4, z5⟩ := blk6 kb; clear kb; have t0 := (hbb.cell (p := ⟨b1, o1 + k * 6, none⟩) hlt1).trans q1; have t1 := (hbb.cell (p := ⟨b1, o1 + k * 6 + 1, none⟩) hlt1).trans q2; have t2 := (hbb.cell (p := ⟨b1, o1 + k * 6 + 2, none⟩) hlt1).trans q3; have t3 := (hbb.cell (p := ⟨b1, o1 + k * 6 + 3, none⟩) hlt1).trans q4; have t4 := (hbb.cell (p := ⟨b1, o1 + k * 6 + 4, none⟩) hlt1).trans q5; have t5 := (hbb.cell (p := ⟨b1, o1 + k * 6 + 5, none⟩) hlt1).trans q6; have hzz := Nat.lt_of_lt_of_le hz hbb.size; have hlz := Nat.lt_of_lt_of_le hlt1 hbb.size))
  all_goals
    have HM3 : Hid (∃ us, MT (fun b => b < w.heap.size) w1.heap.size W3 (.slice A6 (a.length + z.length) c6) (a ++ z) us) := ⟨us3, hm3⟩
    have HB3 : Hid (Below w1.heap.size w1 W3) := hb3
    clear hbb hb3 hm3
    go_wp2
    obtain ⟨us, h3⟩ := HM3.out
    have h4 := h3.msgs (by have := HLA.out; simp; omega)
    refine bodyPost_ret (v := .tuple #[.slice A6 (a.length + z.length) c6, mVal x (.slice V1 x.nt.args.length n1), .bool true]) (by simp [results, Try.results11, go_sem, z0, z1, z2, z3, z4, z5]) rfl ⟨_, _, rfl, ?_, ?_, ?_⟩
    · rw [HP.out]
      refine Msgs.any2 (ok := fun b => w1.heap.size ≤ b) (inn := fun b => b < w.heap.size) ?_
      repeat (refine Msgs.set1 ?_ (fun b hb => by have := HWX.out; omega) (fun b hb => by omega))
      exact h4.weak (fun b hb => hb.1) fun b hb => hb
    · refine Ints.weak (ok := fun b => b < w.heap.size) ?_ (fun _ _ => trivial)
      repeat (refine Ints.set1 ?_ (fun b hb => by omega))
      exact HV.out.below (bTrans HB.out HB3.out)
    · repeat (refine Below.setCell ?_ (Nat.le_succ _) _)
      exact bTrans HB.out HB3.out
/-- A message of a number. -/
def msgN (n : Int) : PMsg := ⟨⟨n % 3, n / 3, 0⟩, ⟨n % 2, 0, [n]⟩⟩
theorem ints1 {W : World} {B : Nat} {n : Int} (h : W.heap[B]? = some (.cells #[.int .i64 n] 3)) : Ints (fun b => b = B) W (.slice (some ⟨B, 0, none⟩) 1 1) [n] := by
  refine ⟨_, 1, rfl, by simp, by simp, Or.inr ⟨B, 0, rfl, rfl, (Array.getElem?_eq_some_iff.1 h).1, fun k x hx => ?_⟩⟩
  cases k with
  | zero => cases hx; show W.cell? ⟨B, 0, none⟩ = _; rw [cell_of_row _ _ _ _ _ _ h]; rfl
  | succ k => cases hx
set_option maxHeartbeats 1000000 in
theorem message_any (w : World) (n : Int) (h0 : 0 ≤ n) (h1 : n ≤ 1000) :
    Calls Try.prog 22 #[.int .i64 n] w fun e w' => ∃ u, e = .returned (mVal (msgN n) u) ∧ Ints (fun b => w.heap.size ≤ b) w' u (msgN n).nt.args ∧ Below w.heap.size w w' := by
  have hw2 : IntKind.i64.wrap (n / 3) = n / 3 := by rw [IntKind.wrap_i64]; omega
  have hm3 : n.tmod 3 = n % 3 := Int.tmod_eq_emod_of_nonneg h0
  have hm2 : n.tmod 2 = n % 2 := Int.tmod_eq_emod_of_nonneg h0
  have hd3 : n.tdiv 3 = n / 3 := Int.tdiv_eq_ediv_of_nonneg h0
  go_enter Try.func22, Try.ntmps22
  go_wp2
  refine bodyPost_ret (v := mVal (msgN n) (.slice (some ⟨w.heap.size + 1, 0, none⟩) 1 1)) (by simp [results, Try.results22, go_sem, msgN, *]) rfl ⟨_, rfl, ?_, ?_⟩
  · refine Ints.weak (ok := fun b => b = w.heap.size + 1) ?_ (fun b hb => by omega)
    repeat (refine Ints.set1 ?_ (fun b hb => by omega))
    exact ints1 (heap_new2 (by simp))
  · repeat (refine Below.setCell ?_ (Nat.le_refl _) _)
    exact bAlloc (bAlloc (bRefl w) _) _
theorem round_any (w : World) (x : Int) :
    Calls Try.prog 21 #[.int .i64 x, .int .i64 30] w fun e w' => ∃ k : Nat, k < 30 ∧ e = .returned (.int .i64 k) ∧ w' = w := by
  have h1 : -30 < x.tmod 30 ∧ x.tmod 30 < 30 := by
    rcases Int.le_total 0 x with h | h
    · rw [Int.tmod_eq_emod_of_nonneg h]; omega
    · have e : x = -(-x) := by omega
      rw [e, Int.neg_tmod, Int.tmod_eq_emod_of_nonneg (by omega : 0 ≤ -x)]; omega
  have hw : IntKind.i64.wrap (x.tmod 30 + 30) = x.tmod 30 + 30 := by rw [IntKind.wrap_i64]; omega
  have hm : (x.tmod 30 + 30).tmod 30 = (x.tmod 30 + 30) % 30 := Int.tmod_eq_emod_of_nonneg (by omega)
  obtain ⟨k, hk⟩ : ∃ k : Nat, (k : Int) = (x.tmod 30 + 30) % 30 := ⟨((x.tmod 30 + 30) % 30).toNat, by omega⟩
  go_enter Try.func21, Try.ntmps21
  go_wp2
  go_ret
  exact ⟨k, by omega, ret_i (by simp [*]), rfl⟩
end Go.Proofs.Ytjdkbgeehjihfaa
