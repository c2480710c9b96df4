/-
  A message put in, a message taken out: Put, Take. Condition: the lists are short.
-/
import Derived.Test.YtgdloonpemaijaaDoorM8
namespace Go.Proofs.YtgdloonpemaijaaDoor
open Go.RowKit
/-- Where a list begins behind its place k. -/
def subA (A : Option Addr) (c k : Nat) : Option Addr := if c = k then A else Option.map (fun x => x.add (k * 6)) A
theorem subA_rule (A : Option Addr) (c k : Nat) : (if c = k then A else Option.map (fun x => x.add (k * 6)) A) = subA A c k := rfl
theorem subA_rule2 (b o c k : Nat) : (if c = k then some (⟨b, o, none⟩ : Addr) else some ⟨b, o + k * 6, none⟩) = subA (some ⟨b, o, none⟩) c k := by unfold subA; simp [addr_add]
attribute [local go_sem ↓] Go.wp_at_zero Go.wp_at_succ subA_rule
section
variable {ok inn : Nat → Prop} {w : World} {A : Option Addr} {n c k : Nat} {l : List PMsg}
theorem Msgs.takeS (h : Msgs ok inn w (.slice A n c) l) (hk : k ≤ l.length) : Msgs ok inn w (.slice A k c) (l.take k) := by
  obtain ⟨A', c', e, h1, h2, h3⟩ := h
  cases e
  have e1 : (l.take k).length = k := by simp; omega
  refine ⟨A, c, by rw [e1], by omega, by omega, ?_⟩
  rcases h3 with h3 | ⟨b, o, rfl, hb, hlt, hc⟩
  · exact Or.inl (by rw [h3]; simp)
  · exact Or.inr ⟨b, o, rfl, hb, hlt, fun j x hx => hc j x (by rw [List.getElem?_take] at hx; split at hx; exact hx; cases hx)⟩
theorem Msgs.dropS (h : Msgs ok inn w (.slice A n c) l) (hk : k ≤ l.length) : Msgs ok inn w (.slice (subA A c k) (l.length - k) (c - k)) (l.drop k) := by
  unfold subA
  obtain ⟨A', c', e, h1, h2, h3⟩ := h
  cases e
  have e1 : (l.drop k).length = l.length - k := by simp
  refine ⟨_, c - k, by rw [e1], by omega, by omega, ?_⟩
  by_cases he : c = k
  · exact Or.inl (List.drop_eq_nil_of_le (by omega))
  · rw [if_neg he]
    rcases h3 with h3 | ⟨b, o, rfl, hb, hlt, hc⟩
    · exact Or.inl (by rw [h3]; simp)
    · refine Or.inr ⟨b, o + k * 6, by simp [addr_add], hb, hlt, fun j x hx => ?_⟩
      rw [List.getElem?_drop] at hx
      have := hc (k + j) x hx
      rwa [Nat.add_mul, ← Nat.add_assoc] at this
end
theorem parts3 {W : World} {B : Nat} {v0 v1 v2 : Value} {l0 l1 l2 : List PMsg} (hB : W.heap[B]? = some (.cells #[v0, v1, v2] 40)) (h0 : Msgs anyB anyB W v0 l0) (h1 : Msgs anyB anyB W v1 l1) (h2 : Msgs anyB anyB W v2 l2) : Parts W (.slice (some ⟨B, 0, none⟩) 3 3) [l0, l1, l2] := by
  obtain ⟨x0, x1, x2⟩ := blk3 hB
  refine ⟨_, 3, rfl, by simp, by simp, Or.inr ⟨B, 0, rfl, trivial, (Array.getElem?_eq_some_iff.1 hB).1, fun k x hx => ?_⟩⟩
  match k, hx with
  | 0, hx => cases hx; exact ⟨v0, x0, h0⟩
  | 1, hx => cases hx; exact ⟨v1, x1, h1⟩
  | 2, hx => cases hx; exact ⟨v2, x2, h2⟩
  | k + 3, hx => simp at hx
theorem parts2 {W : World} {B : Nat} {v0 v1 : Value} {l0 l1 : List PMsg} (hB : W.heap[B]? = some (.cells #[v0, v1] 40)) (h0 : Msgs anyB anyB W v0 l0) (h1 : Msgs anyB anyB W v1 l1) : Parts W (.slice (some ⟨B, 0, none⟩) 2 2) [l0, l1] := by
  refine ⟨_, 2, rfl, by simp, by simp, Or.inr ⟨B, 0, rfl, trivial, (Array.getElem?_eq_some_iff.1 hB).1, fun k x hx => ?_⟩⟩
  match k, hx with
  | 0, hx => cases hx; exact ⟨v0, by rw [cell_of_row _ _ _ _ _ _ hB]; rfl, h0⟩
  | 1, hx => cases hx; exact ⟨v1, by rw [cell_of_row _ _ _ _ _ _ hB]; rfl, h1⟩
  | k + 2, hx => simp at hx
/-- Short enough. -/
def Few (l : List PMsg) : Prop := l.length ≤ 900 ∧ ∀ x ∈ l, x.nt.args.length ≤ 1000
theorem fnd_neg {l : List PMsg} {d : PID} {k : Nat} (h : fnd l d = k) : ¬ fnd l d = -1 := by omega
set_option maxHeartbeats 1000000 in
theorem put_there (w : World) (v vm : Value) (l : List PMsg) (m : PMsg) (h : Msgs anyB anyB w v l) (hm : MsgV anyB w vm m) (k : Nat) (hf : fnd l m.id = k) :
    Calls Tryd.prog 134 #[v, vm] w fun e w' => e = .returned (.tuple #[.slice none 0 0, .int .i64 1]) ∧ Below w.heap.size w w' := by
  obtain ⟨A, c, rfl, hl⟩ := h.form
  obtain ⟨c2, rfl, hI⟩ := hm
  obtain ⟨A2, d2, rfl, _⟩ := hI.form
  have hk : (0 : Int) ≤ k := by omega
  obtain ⟨p0, p1, p2, p3, p4, p5⟩ := blk6 (heap_new w (.cells #[.int .i64 m.id.f, .int .i64 m.id.n, .int .i64 m.id.c, .int .i64 m.nt.to, .int .i64 m.nt.hd, .slice A2 m.nt.args.length d2] 58))
  go_enter Tryd.func134, Tryd.ntmps134
  go_wp2_with (first | (go_at_call 72; refine (find_any _ _ l m.id (h.below (by exact bAlloc (bRefl _) _))).mono ?_; rintro e w1 ⟨rfl, hb1⟩))
  exact bodyPost_ret (v := .tuple #[.slice none 0 0, .int .i64 1]) (by simp [results, Tryd.results134, go_sem]) rfl ⟨rfl, bTrans (bAlloc (bRefl _) _) hb1⟩
set_option maxHeartbeats 1000000 in
set_option maxRecDepth 100000 in
theorem put_new (w : World) (v vm : Value) (l : List PMsg) (m : PMsg) (h : Msgs anyB anyB w v l) (hm : MsgV anyB w vm m) (hf : fnd l m.id = -1) (hF : Few l) (hm6 : m.nt.args.length ≤ 1000) :
    Calls Tryd.prog 134 #[v, vm] w fun e w' => ∃ u, e = .returned (.tuple #[u, .int .i64 0]) ∧ Msgs (nO w.heap.size u) (nI w.heap.size u) w' u (putP l m) ∧ Below w.heap.size w w' := by
  obtain ⟨A, c, rfl, hl⟩ := h.form
  obtain ⟨c2, rfl, hI⟩ := hm
  obtain ⟨A2, d2, rfl, _⟩ := hI.form
  have hcap := h.cap
  obtain ⟨k, hp⟩ : ∃ k, plc l m.id = k := ⟨_, rfl⟩
  have hkl : k ≤ l.length := hp ▸ plc_le l m.id
  have HF : Hid (Few l) := hF
  have HP : Hid (putP l m = l.take k ++ ([m] ++ (l.drop k ++ []))) := by show _ = _; unfold putP; rw [hp]; simp
  have hi : (0 : Int) ≤ k := by omega
  have hi2 : (k : Int) ≤ l.length := by omega
  have hkc : (k : Int) ≤ c := by omega
  have HK : Hid (k ≤ l.length) := hkl
  clear hF hcap
  obtain ⟨p0, p1, p2, p3, p4, p5⟩ := blk6 (heap_new w (.cells #[.int .i64 m.id.f, .int .i64 m.id.n, .int .i64 m.id.c, .int .i64 m.nt.to, .int .i64 m.nt.hd, .slice A2 m.nt.args.length d2] 58))
  go_enter Tryd.func134, Tryd.ntmps134
  go_wp2_with (first | (go_at_call 72; refine (find_any _ _ l m.id (h.below (by exact bAlloc (bRefl _) _))).mono ?_; rintro e w1 ⟨rfl, hb1⟩; have kz := hb1.size; have k0 := (hb1.cell (p := ⟨w.heap.size, 0, none⟩) (by simp)).trans p0; have k1 := (hb1.cell (p := ⟨w.heap.size, 1, none⟩) (by simp)).trans p1; have k2 := (hb1.cell (p := ⟨w.heap.size, 2, none⟩) (by simp)).trans p2; have k3 := (hb1.cell (p := ⟨w.heap.size, 3, none⟩) (by simp)).trans p3; have k4 := (hb1.cell (p := ⟨w.heap.size, 4, none⟩) (by simp)).trans p4; have k5 := (hb1.cell (p := ⟨w.heap.size, 5, none⟩) (by simp)).trans p5; clear p0 p1 p2 p3 p4 p5) | (go_at_call 153; refine (place_any _ _ l m.id (h.below (by exact bTrans (bAlloc (bRefl _) _) hb1))).mono ?_; rintro e w2 ⟨rfl, hb2⟩))
  have hz : w.heap.size < w1.heap.size := by simp at kz; omega
  replace k0 := (hb2.cell (p := ⟨w.heap.size, 0, none⟩) hz).trans k0
  replace k1 := (hb2.cell (p := ⟨w.heap.size, 1, none⟩) hz).trans k1
  replace k2 := (hb2.cell (p := ⟨w.heap.size, 2, none⟩) hz).trans k2
  replace k3 := (hb2.cell (p := ⟨w.heap.size, 3, none⟩) hz).trans k3
  replace k4 := (hb2.cell (p := ⟨w.heap.size, 4, none⟩) hz).trans k4
  replace k5 := (hb2.cell (p := ⟨w.heap.size, 5, none⟩) hz).trans k5
  have HB : Hid (Below w.heap.size w w2) := bTrans (bTrans (bAlloc (bRefl _) _) hb1) hb2
  have hz2 : w.heap.size < w2.heap.size := Nat.lt_of_lt_of_le hz hb2.size
  clear hb1 hb2 kz hz
  go_region_held3 (fun w' => w'.cell? ⟨w.heap.size, 0, none⟩ = some (.int .i64 m.id.f) ∧ w'.cell? ⟨w.heap.size, 1, none⟩ = some (.int .i64 m.id.n) ∧ w'.cell? ⟨w.heap.size, 2, none⟩ = some (.int .i64 m.id.c) ∧ w'.cell? ⟨w.heap.size, 3, none⟩ = some (.int .i64 m.nt.to) ∧ w'.cell? ⟨w.heap.size, 4, none⟩ = some (.int .i64 m.nt.hd) ∧ w'.cell? ⟨w.heap.size, 5, none⟩ = some (.slice A2 m.nt.args.length d2)) (go_keep)
          (first | (go_at_call 101; have HW := fun (x y : Obj) => (bAlloc (bAlloc HB.out x) y).drew; refine (join_any _ _ [l.take k, [m], l.drop k] (parts3 (by exact heap_new2 (by simp)) (((h.below (HW _ _)).takeS HK.out).any2) ((one_msgs (by exact ((bAlloc (bRefl _) _).block _ (by simp)).trans (heap_new _ _)) (hI.below (HW _ _))).any2) (((h.below (HW _ _)).dropS HK.out).any2)) (by have := HF.out.1; simp; omega) (by have hF2 := HF.out.2; intro x hx; simp only [List.flatten_cons, List.flatten_nil, List.mem_append, List.append_nil] at hx; rcases hx with hx | hx | hx; exact hF2 x (List.mem_of_mem_take hx); (simp at hx; rw [hx]; exact hm6); exact hF2 x (List.mem_of_mem_drop hx))).mono ?_; rintro e w3 ⟨u, rfl, hu, hb3⟩; have HB23 := bTrans (bAlloc (bAlloc (bRefl w2) _) _).drew hb3; have y0 := (HB23.cell (p := ⟨w.heap.size, 0, none⟩) hz2).trans k0; have y1 := (HB23.cell (p := ⟨w.heap.size, 1, none⟩) hz2).trans k1; have y2 := (HB23.cell (p := ⟨w.heap.size, 2, none⟩) hz2).trans k2; have y3 := (HB23.cell (p := ⟨w.heap.size, 3, none⟩) hz2).trans k3; have y4 := (HB23.cell (p := ⟨w.heap.size, 4, none⟩) hz2).trans k4; have y5 := (HB23.cell (p := ⟨w.heap.size, 5, none⟩) hz2).trans k5; have HB3 : Hid (Below w.heap.size w w3) := bTrans (HW _ _) hb3; have HU : Hid (Msgs (nO w.heap.size u) (nI w.heap.size u) w3 u (l.take k ++ ([m] ++ (l.drop k ++ [])))) := (hu.weak (nO.le (Nat.le_trans (Nat.le_of_lt hz2) (by simp; omega))) (nI.le (Nat.le_trans (Nat.le_of_lt hz2) (by simp; omega)))); clear hu hb3 HB23))
  go_wp2
  exact bodyPost_ret (v := .tuple #[u, .int .i64 0]) (by simp [results, Tryd.results134, go_sem]) rfl ⟨u, rfl, by rw [HP.out]; exact HU.out, HB3.out⟩
end Go.Proofs.YtgdloonpemaijaaDoor
