/-
  A message taken out, by its name: Take. Condition: the lists are short.
-/
import Derived.Test.YtjdkbgeehjihfaaM9
namespace Go.Proofs.Ytjdkbgeehjihfaa
open Go.RowKit
attribute [local go_sem ↓] Go.wp_at_zero Go.wp_at_succ subA_rule
attribute [local go_sem] subA_rule2
theorem midB {a W w2 : World} (_ : Below W.heap.size W w2) (h : Below a.heap.size a W) : Below a.heap.size a W := h
theorem same_set {N g j : Nat} {w : World} {y : Value} (hg : g < N) : Same (fun b => N ≤ b) w (w.setCell ⟨g, j, none⟩ y) :=
  ⟨by simp, fun b hb _ => Below.heap_setCell _ _ _ _ (fun e => by have e' : b = g := e; omega)⟩
theorem Ints.setFar {N g j : Nat} {w : World} {v y : Value} {l : List Int} (h : Ints (fun b => N ≤ b) w v l) (hg : g < N) : Ints (fun b => N ≤ b) (w.setCell ⟨g, j, none⟩ y) v l := h.same (same_set hg)
theorem Msgs.setFar {N g j : Nat} {w : World} {v y : Value} {l : List PMsg} (h : Msgs (fun b => N ≤ b) (fun b => N ≤ b) w v l) (hg : g < N) : Msgs (fun b => N ≤ b) (fun b => N ≤ b) (w.setCell ⟨g, j, none⟩ y) v l := h.same (same_set hg) (same_set hg)
def msg0 : PMsg := ⟨⟨0, 0, 0⟩, ⟨0, 0, []⟩⟩
/-- Without the k-th. -/
def cutP (l : List PMsg) (k : Nat) : List PMsg := l.take k ++ l.drop (k + 1)
set_option maxHeartbeats 1000000 in
theorem take_none (w : World) (v : Value) (l : List PMsg) (d : PID) (h : Msgs anyB anyB w v l) (hf : fnd l d = -1) :
    Calls Try.prog 10 #[v, dV d] w fun e w' => e = .returned (.tuple #[.slice none 0 0, mVal msg0 (.slice none 0 0), .int .i64 8]) ∧ Below w.heap.size w w' := by
  obtain ⟨A, c, rfl, hl⟩ := h.form
  go_enter Try.func10, Try.ntmps10
  go_wp2_with fail
  refine (find_any _ _ l d (h.below (by exact bAlloc (bAlloc (bRefl _) _) _))).mono ?_
  rintro e w1 ⟨rfl, hb1⟩
  have kb : w1.heap[w.heap.size + 1]? = some (.cells #[.int .i64 0, .int .i64 0, .int .i64 0, .int .i64 0, .int .i64 0, .slice none 0 0] 29) := (hb1.block _ (by simp)).trans (heap_new2 (by simp))
  have yf : ∀ j, w1.frozen? ⟨w.heap.size + 1, j, none⟩ = false := fun j => by simp [World.frozen?, kb]
  obtain ⟨z0, z1, z2, z3, z4, z5⟩ := blk6 kb
  have HB : Hid (Below w.heap.size w w1) := bTrans (bAlloc (bAlloc (bRefl _) _) _) hb1
  clear hb1 kb
  go_wp2
  refine bodyPost_ret (v := .tuple #[.slice none 0 0, mVal msg0 (.slice none 0 0), .int .i64 8]) (by simp [results, Try.results10, go_sem, msg0, *]) rfl ⟨rfl, ?_⟩
  repeat (refine Below.setCell ?_ (by first | (simp; done) | (simp; omega)) _)
  exact HB.out
set_option maxHeartbeats 4000000 in
set_option maxRecDepth 100000 in
theorem take_there (w : World) (v : Value) (l : List PMsg) (d : PID) (h : Msgs anyB anyB w v l) (k : Nat) (x : PMsg) (hf : fnd l d = k) (hx : l[k]? = some x) (hF : Few l) :
    Calls Try.prog 10 #[v, dV d] w fun e w' => ∃ u u2, e = .returned (.tuple #[u, mVal x u2, .int .i64 0]) ∧ Msgs (fun b => w.heap.size ≤ b) (fun b => w.heap.size ≤ b) w' u (cutP l k) ∧ Ints (fun b => w.heap.size ≤ b) w' u2 x.nt.args ∧ Below w.heap.size w w' := by
  obtain ⟨A, c, rfl, hl⟩ := h.form
  have hcap := h.cap
  have hkl : k < l.length := (List.getElem?_eq_some_iff.1 hx).1
  have HF : Hid (Few l) := hF
  have hx6 : x.nt.args.length ≤ 1000 := hF.2 x (List.mem_of_getElem? hx)
  have HP : Hid (cutP l k = l.take k ++ (l.drop (k + 1) ++ [])) := by show _ = _; unfold cutP; simp
  have hi : (0 : Int) ≤ k := by omega
  have hi2 : (k : Int) < l.length := by omega
  have hkc : (k : Int) ≤ c := by omega
  have hi3 : (k : Int) + 1 ≤ l.length := by omega
  have hi4 : (0 : Int) ≤ (k : Int) + 1 := by omega
  have hi5 : ((k : Int) + 1).toNat = k + 1 := by omega
  have hw1 : IntKind.i64.wrap ((k : Int) + 1) = (k : Int) + 1 := by rw [IntKind.wrap_i64]; omega
  have HK : Hid (k < l.length) := hkl
  have HX : Hid (l[k]? = some x) := hx
  clear hF hcap hx
  go_enter Try.func10, Try.ntmps10
  go_wp2_with fail
  refine (find_any _ _ l d (h.below (by exact bAlloc (bAlloc (bRefl _) _) _))).mono ?_
  rintro e w1 ⟨rfl, hb1⟩
  have kb0 : w1.heap[w.heap.size + 1]? = some (.cells #[.int .i64 0, .int .i64 0, .int .i64 0, .int .i64 0, .int .i64 0, .slice none 0 0] 29) := (hb1.block _ (by simp)).trans (heap_new2 (by simp))
  have HB : Hid (Below w.heap.size w w1) := bTrans (bAlloc (bAlloc (bRefl _) _) _) hb1
  obtain ⟨b1, o1, x', v1, rfl, hx', hlt1, q1, q2, q3, q4, q5, q6, hv1⟩ := h.cell HB.out HK.out
  have ex := HX.out
  rw [ex] at hx'
  cases hx'
  obtain ⟨V1, n1, rfl, _⟩ := hv1.form
  have hbo : b1 < w.heap.size := by
    obtain ⟨b, o, e, _, hlt, _⟩ := h.at (by omega)
    cases e; exact hlt
  have hz : w.heap.size + 1 < w1.heap.size := by have := hb1.size; simp at this; omega
  have hn1 : ¬ b1 = w.heap.size + 1 := by omega
  have hn2 : ¬ w.heap.size + 1 = b1 := by omega
  have HZ : Hid (w.heap.size + 1 < w1.heap.size) := hz
  have HFZ : Hid (∀ j, w1.frozen? ⟨w.heap.size + 1, j, none⟩ = false) := fun j => by simp [World.frozen?, kb0]
  have hbb : Below w1.heap.size w1 w1 := bRefl w1
  have hq : Below w1.heap.size w1 w1 := bRefl w1
  have hj : Below w1.heap.size w1 w1 := bRefl w1
  clear hb1 ex
  have HMS : Hid (Msgs anyB anyB w (.slice (some ⟨b1, o1, none⟩) l.length c) l) := h
  clear h
  go_wp2_with fail
  go_region_held3 (fun w' => w'.cell? ⟨b1, o1 + k * 6, none⟩ = some (.int .i64 x.id.f) ∧ w'.cell? ⟨b1, o1 + k * 6 + 1, none⟩ = some (.int .i64 x.id.n) ∧ w'.cell? ⟨b1, o1 + k * 6 + 2, none⟩ = some (.int .i64 x.id.c) ∧ w'.cell? ⟨b1, o1 + k * 6 + 3, none⟩ = some (.int .i64 x.nt.to) ∧ w'.cell? ⟨b1, o1 + k * 6 + 4, none⟩ = some (.int .i64 x.nt.hd) ∧ w'.cell? ⟨b1, o1 + k * 6 + 5, none⟩ = some (.slice V1 x.nt.args.length n1)) (go_keep)
    (first
      | (go_at_call 26; refine (another_any anyB _ _ x ⟨_, rfl, hv1.below (by first | exact hbb | exact hbb.drew | exact (bAlloc hbb _).drew | exact bAlloc hbb _)⟩ hx6).mono ?_; rintro e w2 ⟨u2, rfl, hu2, hb2⟩; have hbw := midB hb2 (by first | exact hbb | exact hbb.drew | exact (bAlloc hbb _).drew | exact bAlloc hbb _); obtain ⟨A5, d5, rfl, _⟩ := hu2.form; have HA : Hid (Ints (fun b => w1.heap.size ≤ b) w2 (.slice A5 x.nt.args.length d5) x.nt.args) := (hu2.weak fun b hb => Nat.le_trans hbw.size hb); have hq := hb2; replace hbb := bTrans hbw hb2; clear hu2 hbw; have kb := (hbb.block (w.heap.size + 1) hz).trans kb0; have yf : (∀ j, w2.frozen? ⟨w.heap.size + 1, j, none⟩ = false) := (fun j => by simp [World.frozen?, kb]); obtain ⟨z0, z1, z2, z3, z4, z5⟩ := blk6 kb; clear kb; have t0 := (hbb.cell (p := ⟨b1, o1 + k * 6, none⟩) hlt1).trans q1; have t1 := (hbb.cell (p := ⟨b1, o1 + k * 6 + 1, none⟩) hlt1).trans q2; have t2 := (hbb.cell (p := ⟨b1, o1 + k * 6 + 2, none⟩) hlt1).trans q3; have t3 := (hbb.cell (p := ⟨b1, o1 + k * 6 + 3, none⟩) hlt1).trans q4; have t4 := (hbb.cell (p := ⟨b1, o1 + k * 6 + 4, none⟩) hlt1).trans q5; have t5 := (hbb.cell (p := ⟨b1, o1 + k * 6 + 5, none⟩) hlt1).trans q6; have hzz := Nat.lt_of_lt_of_le hz hbb.size; have hlz := Nat.lt_of_lt_of_le hlt1 hbb.size)
      | (go_at_call 24; refine (join_any _ _ [l.take k, l.drop (k + 1)] (parts2 (by first | exact heap_new2 (by simp) | exact (hq.block _ (by simp)).trans (heap_new2 (by simp))) (((HMS.out.below (bTrans HB.out (by first | exact hbb | exact hbb.drew | exact (bAlloc hbb _).drew | exact bAlloc hbb _))).takeS (by have := HK.out; omega)).any2) (((HMS.out.below (bTrans HB.out (by first | exact hbb | exact hbb.drew | exact (bAlloc hbb _).drew | exact bAlloc hbb _))).dropS (by have := HK.out; omega)).any2)) (by have := HF.out.1; simp; omega) (by have hF2 := HF.out.2; intro y hy; simp only [List.flatten_cons, List.flatten_nil, List.mem_append, List.append_nil] at hy; rcases hy with hy | hy; exact hF2 y (List.mem_of_mem_take hy); exact hF2 y (List.mem_of_mem_drop hy))).mono ?_; rintro e w3 ⟨u, rfl, hu, hb3⟩; have hbw := midB hb3 (by first | exact hbb | exact hbb.drew | exact (bAlloc hbb _).drew | exact bAlloc hbb _); have HU : Hid (Msgs (fun b => w1.heap.size ≤ b) (fun b => w1.heap.size ≤ b) w3 u (l.take k ++ (l.drop (k + 1) ++ []))) := (hu.weak (fun b hb => Nat.le_trans hbw.size hb) (fun b hb => Nat.le_trans hbw.size hb)); have hj := hb3; replace hbb := bTrans hbw hb3; clear hu hbw; have kb := (hbb.block (w.heap.size + 1) hz).trans kb0; have yf : (∀ j, w3.frozen? ⟨w.heap.size + 1, j, none⟩ = false) := (fun j => by simp [World.frozen?, kb]); obtain ⟨z0, z1, z2, z3, z4, z5⟩ := blk6 kb; clear kb; have t0 := (hbb.cell (p := ⟨b1, o1 + k * 6, none⟩) hlt1).trans q1; have t1 := (hbb.cell (p := ⟨b1, o1 + k * 6 + 1, none⟩) hlt1).trans q2; have t2 := (hbb.cell (p := ⟨b1, o1 + k * 6 + 2, none⟩) hlt1).trans q3; have t3 := (hbb.cell (p := ⟨b1, o1 + k * 6 + 3, none⟩) hlt1).trans q4; have t4 := (hbb.cell (p := ⟨b1, o1 + k * 6 + 4, none⟩) hlt1).trans q5; have t5 := (hbb.cell (p := ⟨b1, o1 + k * 6 + 5, none⟩) hlt1).trans q6; have hzz := Nat.lt_of_lt_of_le hz hbb.size; have hlz := Nat.lt_of_lt_of_le hlt1 hbb.size))
  all_goals
    have HBB := hbb
    clear hbb
    go_wp2
    refine bodyPost_ret (v := .tuple #[u, mVal x (.slice A5 x.nt.args.length d5), .int .i64 0]) (by simp [results, Try.results10, go_sem, z0, z1, z2, z3, z4, z5]) rfl ⟨_, _, rfl, ?_, ?_, ?_⟩
    · rw [HP.out]
      refine Msgs.weak (ok := fun b => w1.heap.size ≤ b) (inn := fun b => w1.heap.size ≤ b) ?_ (fun b hb => Nat.le_trans HB.out.size hb) (fun b hb => Nat.le_trans HB.out.size hb)
      repeat (refine Msgs.setFar ?_ HZ.out)
      first | exact HU.out | exact HU.out.below hq
    · refine Ints.weak (ok := fun b => w1.heap.size ≤ b) ?_ (fun b hb => Nat.le_trans HB.out.size hb)
      repeat (refine Ints.setFar ?_ HZ.out)
      first | exact HA.out | exact HA.out.below hj | exact HA.out.below (bTrans (bAlloc (bRefl _) _) hj)
    · repeat (refine Below.setCell ?_ (Nat.le_succ _) _)
      exact bTrans HB.out HBB
end Go.Proofs.Ytjdkbgeehjihfaa
