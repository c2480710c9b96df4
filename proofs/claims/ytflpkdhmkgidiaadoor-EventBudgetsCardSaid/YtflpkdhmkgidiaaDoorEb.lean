/-
  Just as many faults as a budget lets (EventBudgets). Conditions: numbers of 64 bits; the table of the instructions is in the world.
-/
import Derived.Test.YtflpkdhmkgidiaaDoorE8
namespace Go.Proofs.YtflpkdhmkgidiaaDoor
open Go.RowKit
/-! ### Plainly -/
def xB (n : Nat) (u : PBud) : PWld := { xn n with used := u }
theorem start_chkU {p : PPrg} (hf : fc p = 0) {u : PBud} (hu : chkUsed u = true) : chkW p { startP p with used := u } = true := by
  have h0 := start_chk hf
  have hp := chk_parts (fc_chk hf)
  have h := start_inv hp
  have hud : 0 ≤ u.dup := by
    unfold chkUsed at hu
    simp only [Bool.and_eq_true, decide_eq_true_eq] at hu
    exact hu.2.1
  unfold chkW at h0 ⊢
  simp only [Bool.and_eq_true] at h0 ⊢
  refine ⟨h0.1, h0.2.1, ?_, hu⟩
  have h2 := h0.2.2.1
  unfold chkM at h2 ⊢
  simp only [Bool.and_eq_true] at h2 ⊢
  refine ⟨List.all_eq_true.2 fun m hm => ?_, h2.2⟩
  have h3 := List.all_eq_true.1 h2.1 m hm
  simp only [Bool.and_eq_true] at h3 ⊢
  refine ⟨h3.1, ?_⟩
  have h4 := h3.2
  unfold chkD at h4 ⊢
  simp only [Bool.and_eq_true] at h4 ⊢
  refine ⟨h4.1, h4.2.1, in_yes ?_⟩
  have h5 := (h.mail m hm).2.2.2.2
  rw [h5]
  exact ⟨Int.le_refl _, hud⟩
def sI (a : Int) : Int := if 0 < a then 1 else 0
def sg (l : PBud) : PBud := ⟨sI l.drop, sI l.dup, sI l.time, sI l.crash⟩
theorem sI_pos (a : Int) : decide (0 < sI a) = decide (0 < a) := by unfold sI; split <;> simp [*]
theorem ofM_sg (l : PBud) (x : PWld) (k : Int) (m : PMsg) : ofM (sg l) x k m = ofM l x k m := by unfold ofM sg; simp only [sI_pos]
theorem ofA_sg (l : PBud) (k : Int) (a : PLoc) : ofA (sg l) k a = ofA l k a := by unfold ofA sg; simp only [sI_pos]
theorem enP_sg (l : PBud) (x : PWld) : ∀ k, enP (sg l) x k = enP l x k
  | 0 => rfl
  | k + 1 => by unfold enP; rw [enP_sg l x k]; unfold gM; simp only [ofM_sg]
theorem enQ_sg (l : PBud) (x : PWld) : ∀ k, enQ (sg l) x k = enQ l x k
  | 0 => enP_sg l x 3
  | k + 1 => by unfold enQ; rw [enQ_sg l x k]; unfold gA; simp only [ofA_sg]
theorem enP_used (l : PBud) (x : PWld) (u : PBud) : ∀ k, enP l { x with used := u } k = enP l x k
  | 0 => rfl
  | k + 1 => by unfold enP; rw [enP_used l x u k]; rfl
theorem enQ_used (l : PBud) (x : PWld) (u : PBud) : ∀ k, enQ l { x with used := u } k = enQ l x k
  | 0 => enP_used l x u 3
  | k + 1 => by unfold enQ; rw [enQ_used l x u k]; rfl
def okL (m : Nat) (j : Int) (more : Nat) (L : List PEv) : Bool := decide (L.length = m + more) && ((L.take m).all (fun e => decide (e.kind = 1)) && (L.drop m).all (fun e => decide (e.kind = j)))
theorem okL_len {m : Nat} {j : Int} {more : Nat} {L : List PEv} (h : okL m j more L = true) : L.length = m + more := by unfold okL at h; simp only [Bool.and_eq_true, decide_eq_true_eq] at h; exact h.1
theorem okL_lo {m : Nat} {j : Int} {more : Nat} {L : List PEv} (h : okL m j more L = true) {i : Nat} {e : PEv} (hi : L[i]? = some e) (hlt : i < m) : e.kind = 1 := by
  unfold okL at h
  simp only [Bool.and_eq_true] at h
  have := List.all_eq_true.1 h.2.1 e (List.mem_of_getElem? (i := i) (by rw [List.getElem?_take, if_pos hlt]; exact hi))
  exact of_decide_eq_true this
theorem okL_hi {m : Nat} {j : Int} {more : Nat} {L : List PEv} (h : okL m j more L = true) {i : Nat} {e : PEv} (hi : L[i]? = some e) (hlt : m ≤ i) : e.kind = j := by
  unfold okL at h
  simp only [Bool.and_eq_true] at h
  have := List.all_eq_true.1 h.2.2 e (List.mem_of_getElem? (i := i - m) (by rw [List.getElem?_drop, show m + (i - m) = i by omega]; exact hi))
  exact of_decide_eq_true this
theorem rest_no {a b : Int} (ha : 0 ≤ a ∧ a ≤ 1000) (hb : 0 ≤ b ∧ b ≤ 2000) (h : a ≤ b) : sI (restI a b) = 0 := by
  unfold restI; rw [IntWalk.wrap64_in _ ⟨by omega, by omega⟩, if_neg (by omega)]; rfl
theorem rest_yes {a b : Int} (ha : 0 ≤ a ∧ a ≤ 1000) (hb : 0 ≤ b ∧ b ≤ 2000) (h : b < a) : sI (restI a b) = 1 := by
  unfold restI; rw [IntWalk.wrap64_in _ ⟨by omega, by omega⟩, if_pos (by omega)]; unfold sI; rw [if_pos (by omega)]
theorem rest_00 : sI (restI 0 0) = 0 := by decide +kernel
theorem bl2 {n : Nat} (hn : n ≤ 4) : okL (n + 2) 2 (n + 2) (enQ ⟨1, 0, 0, 0⟩ (xn n) 2) = true :=
  le4 (P := fun n => okL (n + 2) 2 (n + 2) (enQ ⟨1, 0, 0, 0⟩ (xn n) 2) = true) hn (by decide +kernel) (by decide +kernel) (by decide +kernel) (by decide +kernel) (by decide +kernel)
theorem bm2 {a : Int} (ha : 0 ≤ a ∧ a ≤ 1000) : mayB ⟨a, 0, 0, 0⟩ = true := by
  have h1 : inB a 0 1000 = true := in_yes ha
  have h0 : inB 0 0 1000 = true := by decide
  unfold mayB; simp [h1, h0]
theorem bf2 {n : Nat} (hn : n ≤ 4) {a u : Int} (ha : 0 ≤ a ∧ a ≤ 1000) (hu : 0 ≤ u ∧ u ≤ 2000) : fitsP (oneP n) ⟨a, 0, 0, 0⟩ (xB n ⟨u, 0, 0, 0⟩) = true := by
  unfold fitsP
  rw [bm2 ha, show chkW (oneP n) (xB n ⟨u, 0, 0, 0⟩) = true from start_chkU (one_fc hn) (by unfold chkUsed; simp [hu.1])]
  rfl
theorem bn2 {n : Nat} (hn : n ≤ 4) {a u : Int} (ha : 0 ≤ a ∧ a ≤ 1000) (hu : 0 ≤ u ∧ u ≤ 2000) (h : a ≤ u) : (enabP (oneP n) ⟨a, 0, 0, 0⟩ (xB n ⟨u, 0, 0, 0⟩)).length = n + 2 := by
  have hs : sg (leftB ⟨a, 0, 0, 0⟩ ⟨u, 0, 0, 0⟩) = ⟨0, 0, 0, 0⟩ := by unfold sg leftB; simp only [rest_no ha hu h, rest_00]
  rw [enabP_yes (bf2 hn ha hu), show (xB n ⟨u, 0, 0, 0⟩).used = ⟨u, 0, 0, 0⟩ from rfl, ← enQ_sg, hs, show enQ ⟨0, 0, 0, 0⟩ (xB n ⟨u, 0, 0, 0⟩) 2 = enQ ⟨0, 0, 0, 0⟩ (xn n) 2 from enQ_used _ _ _ _]
  exact le4 (P := fun n => (enQ ⟨0, 0, 0, 0⟩ (xn n) 2).length = n + 2) hn (by decide +kernel) (by decide +kernel) (by decide +kernel) (by decide +kernel) (by decide +kernel)
theorem by2 {n : Nat} (hn : n ≤ 4) {a u : Int} (ha : 0 ≤ a ∧ a ≤ 1000) (hu : 0 ≤ u ∧ u ≤ 2000) (h : u < a) : okL (n + 2) 2 (n + 2) (enabP (oneP n) ⟨a, 0, 0, 0⟩ (xB n ⟨u, 0, 0, 0⟩)) = true := by
  have hs : sg (leftB ⟨a, 0, 0, 0⟩ ⟨u, 0, 0, 0⟩) = ⟨1, 0, 0, 0⟩ := by unfold sg leftB; simp only [rest_yes ha hu h, rest_00]
  rw [enabP_yes (bf2 hn ha hu), show (xB n ⟨u, 0, 0, 0⟩).used = ⟨u, 0, 0, 0⟩ from rfl, ← enQ_sg, hs, show enQ ⟨1, 0, 0, 0⟩ (xB n ⟨u, 0, 0, 0⟩) 2 = enQ ⟨1, 0, 0, 0⟩ (xn n) 2 from enQ_used _ _ _ _]
  exact bl2 hn
theorem bl3 {n : Nat} (hn : n ≤ 4) : okL (n + 2) 3 (n + 2) (enQ ⟨0, 1, 0, 0⟩ (xn n) 2) = true :=
  le4 (P := fun n => okL (n + 2) 3 (n + 2) (enQ ⟨0, 1, 0, 0⟩ (xn n) 2) = true) hn (by decide +kernel) (by decide +kernel) (by decide +kernel) (by decide +kernel) (by decide +kernel)
theorem bm3 {a : Int} (ha : 0 ≤ a ∧ a ≤ 1000) : mayB ⟨0, a, 0, 0⟩ = true := by
  have h1 : inB a 0 1000 = true := in_yes ha
  have h0 : inB 0 0 1000 = true := by decide
  unfold mayB; simp [h1, h0]
theorem bf3 {n : Nat} (hn : n ≤ 4) {a u : Int} (ha : 0 ≤ a ∧ a ≤ 1000) (hu : 0 ≤ u ∧ u ≤ 2000) : fitsP (oneP n) ⟨0, a, 0, 0⟩ (xB n ⟨0, u, 0, 0⟩) = true := by
  unfold fitsP
  rw [bm3 ha, show chkW (oneP n) (xB n ⟨0, u, 0, 0⟩) = true from start_chkU (one_fc hn) (by unfold chkUsed; simp [hu.1])]
  rfl
theorem bn3 {n : Nat} (hn : n ≤ 4) {a u : Int} (ha : 0 ≤ a ∧ a ≤ 1000) (hu : 0 ≤ u ∧ u ≤ 2000) (h : a ≤ u) : (enabP (oneP n) ⟨0, a, 0, 0⟩ (xB n ⟨0, u, 0, 0⟩)).length = n + 2 := by
  have hs : sg (leftB ⟨0, a, 0, 0⟩ ⟨0, u, 0, 0⟩) = ⟨0, 0, 0, 0⟩ := by unfold sg leftB; simp only [rest_no ha hu h, rest_00]
  rw [enabP_yes (bf3 hn ha hu), show (xB n ⟨0, u, 0, 0⟩).used = ⟨0, u, 0, 0⟩ from rfl, ← enQ_sg, hs, show enQ ⟨0, 0, 0, 0⟩ (xB n ⟨0, u, 0, 0⟩) 2 = enQ ⟨0, 0, 0, 0⟩ (xn n) 2 from enQ_used _ _ _ _]
  exact le4 (P := fun n => (enQ ⟨0, 0, 0, 0⟩ (xn n) 2).length = n + 2) hn (by decide +kernel) (by decide +kernel) (by decide +kernel) (by decide +kernel) (by decide +kernel)
theorem by3 {n : Nat} (hn : n ≤ 4) {a u : Int} (ha : 0 ≤ a ∧ a ≤ 1000) (hu : 0 ≤ u ∧ u ≤ 2000) (h : u < a) : okL (n + 2) 3 (n + 2) (enabP (oneP n) ⟨0, a, 0, 0⟩ (xB n ⟨0, u, 0, 0⟩)) = true := by
  have hs : sg (leftB ⟨0, a, 0, 0⟩ ⟨0, u, 0, 0⟩) = ⟨0, 1, 0, 0⟩ := by unfold sg leftB; simp only [rest_yes ha hu h, rest_00]
  rw [enabP_yes (bf3 hn ha hu), show (xB n ⟨0, u, 0, 0⟩).used = ⟨0, u, 0, 0⟩ from rfl, ← enQ_sg, hs, show enQ ⟨0, 1, 0, 0⟩ (xB n ⟨0, u, 0, 0⟩) 2 = enQ ⟨0, 1, 0, 0⟩ (xn n) 2 from enQ_used _ _ _ _]
  exact bl3 hn
theorem bl4 {n : Nat} (hn : n ≤ 4) : okL (n + 2) 4 (1) (enQ ⟨0, 0, 1, 0⟩ (xn n) 2) = true :=
  le4 (P := fun n => okL (n + 2) 4 (1) (enQ ⟨0, 0, 1, 0⟩ (xn n) 2) = true) hn (by decide +kernel) (by decide +kernel) (by decide +kernel) (by decide +kernel) (by decide +kernel)
theorem bm4 {a : Int} (ha : 0 ≤ a ∧ a ≤ 1000) : mayB ⟨0, 0, a, 0⟩ = true := by
  have h1 : inB a 0 1000 = true := in_yes ha
  have h0 : inB 0 0 1000 = true := by decide
  unfold mayB; simp [h1, h0]
theorem bf4 {n : Nat} (hn : n ≤ 4) {a u : Int} (ha : 0 ≤ a ∧ a ≤ 1000) (hu : 0 ≤ u ∧ u ≤ 2000) : fitsP (oneP n) ⟨0, 0, a, 0⟩ (xB n ⟨0, 0, u, 0⟩) = true := by
  unfold fitsP
  rw [bm4 ha, show chkW (oneP n) (xB n ⟨0, 0, u, 0⟩) = true from start_chkU (one_fc hn) (by unfold chkUsed; simp [hu.1])]
  rfl
theorem bn4 {n : Nat} (hn : n ≤ 4) {a u : Int} (ha : 0 ≤ a ∧ a ≤ 1000) (hu : 0 ≤ u ∧ u ≤ 2000) (h : a ≤ u) : (enabP (oneP n) ⟨0, 0, a, 0⟩ (xB n ⟨0, 0, u, 0⟩)).length = n + 2 := by
  have hs : sg (leftB ⟨0, 0, a, 0⟩ ⟨0, 0, u, 0⟩) = ⟨0, 0, 0, 0⟩ := by unfold sg leftB; simp only [rest_no ha hu h, rest_00]
  rw [enabP_yes (bf4 hn ha hu), show (xB n ⟨0, 0, u, 0⟩).used = ⟨0, 0, u, 0⟩ from rfl, ← enQ_sg, hs, show enQ ⟨0, 0, 0, 0⟩ (xB n ⟨0, 0, u, 0⟩) 2 = enQ ⟨0, 0, 0, 0⟩ (xn n) 2 from enQ_used _ _ _ _]
  exact le4 (P := fun n => (enQ ⟨0, 0, 0, 0⟩ (xn n) 2).length = n + 2) hn (by decide +kernel) (by decide +kernel) (by decide +kernel) (by decide +kernel) (by decide +kernel)
theorem by4 {n : Nat} (hn : n ≤ 4) {a u : Int} (ha : 0 ≤ a ∧ a ≤ 1000) (hu : 0 ≤ u ∧ u ≤ 2000) (h : u < a) : okL (n + 2) 4 (1) (enabP (oneP n) ⟨0, 0, a, 0⟩ (xB n ⟨0, 0, u, 0⟩)) = true := by
  have hs : sg (leftB ⟨0, 0, a, 0⟩ ⟨0, 0, u, 0⟩) = ⟨0, 0, 1, 0⟩ := by unfold sg leftB; simp only [rest_yes ha hu h, rest_00]
  rw [enabP_yes (bf4 hn ha hu), show (xB n ⟨0, 0, u, 0⟩).used = ⟨0, 0, u, 0⟩ from rfl, ← enQ_sg, hs, show enQ ⟨0, 0, 1, 0⟩ (xB n ⟨0, 0, u, 0⟩) 2 = enQ ⟨0, 0, 1, 0⟩ (xn n) 2 from enQ_used _ _ _ _]
  exact bl4 hn
theorem bl5 {n : Nat} (hn : n ≤ 4) : okL (n + 2) 5 (2) (enQ ⟨0, 0, 0, 1⟩ (xn n) 2) = true :=
  le4 (P := fun n => okL (n + 2) 5 (2) (enQ ⟨0, 0, 0, 1⟩ (xn n) 2) = true) hn (by decide +kernel) (by decide +kernel) (by decide +kernel) (by decide +kernel) (by decide +kernel)
theorem bm5 {a : Int} (ha : 0 ≤ a ∧ a ≤ 1000) : mayB ⟨0, 0, 0, a⟩ = true := by
  have h1 : inB a 0 1000 = true := in_yes ha
  have h0 : inB 0 0 1000 = true := by decide
  unfold mayB; simp [h1, h0]
theorem bf5 {n : Nat} (hn : n ≤ 4) {a u : Int} (ha : 0 ≤ a ∧ a ≤ 1000) (hu : 0 ≤ u ∧ u ≤ 2000) : fitsP (oneP n) ⟨0, 0, 0, a⟩ (xB n ⟨0, 0, 0, u⟩) = true := by
  unfold fitsP
  rw [bm5 ha, show chkW (oneP n) (xB n ⟨0, 0, 0, u⟩) = true from start_chkU (one_fc hn) (by unfold chkUsed; simp [hu.1])]
  rfl
theorem bn5 {n : Nat} (hn : n ≤ 4) {a u : Int} (ha : 0 ≤ a ∧ a ≤ 1000) (hu : 0 ≤ u ∧ u ≤ 2000) (h : a ≤ u) : (enabP (oneP n) ⟨0, 0, 0, a⟩ (xB n ⟨0, 0, 0, u⟩)).length = n + 2 := by
  have hs : sg (leftB ⟨0, 0, 0, a⟩ ⟨0, 0, 0, u⟩) = ⟨0, 0, 0, 0⟩ := by unfold sg leftB; simp only [rest_no ha hu h, rest_00]
  rw [enabP_yes (bf5 hn ha hu), show (xB n ⟨0, 0, 0, u⟩).used = ⟨0, 0, 0, u⟩ from rfl, ← enQ_sg, hs, show enQ ⟨0, 0, 0, 0⟩ (xB n ⟨0, 0, 0, u⟩) 2 = enQ ⟨0, 0, 0, 0⟩ (xn n) 2 from enQ_used _ _ _ _]
  exact le4 (P := fun n => (enQ ⟨0, 0, 0, 0⟩ (xn n) 2).length = n + 2) hn (by decide +kernel) (by decide +kernel) (by decide +kernel) (by decide +kernel) (by decide +kernel)
theorem by5 {n : Nat} (hn : n ≤ 4) {a u : Int} (ha : 0 ≤ a ∧ a ≤ 1000) (hu : 0 ≤ u ∧ u ≤ 2000) (h : u < a) : okL (n + 2) 5 (2) (enabP (oneP n) ⟨0, 0, 0, a⟩ (xB n ⟨0, 0, 0, u⟩)) = true := by
  have hs : sg (leftB ⟨0, 0, 0, a⟩ ⟨0, 0, 0, u⟩) = ⟨0, 0, 0, 1⟩ := by unfold sg leftB; simp only [rest_yes ha hu h, rest_00]
  rw [enabP_yes (bf5 hn ha hu), show (xB n ⟨0, 0, 0, u⟩).used = ⟨0, 0, 0, u⟩ from rfl, ← enQ_sg, hs, show enQ ⟨0, 0, 0, 1⟩ (xB n ⟨0, 0, 0, u⟩) 2 = enQ ⟨0, 0, 0, 1⟩ (xn n) 2 from enQ_used _ _ _ _]
  exact bl5 hn
/-! ### The program with more notes, in its box -/
structure TN (w : World) (pb : Nat) (l : List PNte) (v : Value) (wr : World) : Prop where
  b1 : wr.heap[w.heap.size + 1]? = some (.cells #[.int .i64 0, .slice none 0 0] 71)
  b2 : wr.heap[w.heap.size + 1 + 1]? = some (.cells #[.slice none 0 0, .int .i64 4, .int .i64 0, .bool true, .slice none 0 0, .int .i64 4, .int .i64 (-1), .bool false] 73)
  box : wr.heap[pb]? = some (.cells #[.slice (some ⟨w.heap.size + 1, 0, none⟩) 1 1, .slice (some ⟨w.heap.size + 1 + 1, 0, none⟩) 2 2, v, .int .i64 5] 27)
  nt : ∃ us, NR (fun _ => True) (w.heap.size + 1 + 1 + 1) wr v l us
  nb : v.ownBlock ≠ some pb
  ar : ∀ (k : Nat) n, l[k]? = some n → n.args = []
  hp : w.heap.size + 1 + 1 + 1 < pb
  low : Below w.heap.size w wr
section
variable {w w1 wr w6 : World} {pb : Nat} {l : List PNte} {v : Value} {us : List Value}
theorem TN.start (ho : OneB w.heap.size w1) (hb : Below w.heap.size w w1) : TN w w1.heap.size (bootN 0) (.slice (some ⟨w.heap.size + 1 + 1 + 1, 0, none⟩) 2 2) (w1.alloc (.cells #[.slice (some ⟨w.heap.size + 1, 0, none⟩) 1 1, .slice (some ⟨w.heap.size + 1 + 1, 0, none⟩) 2 2, .slice (some ⟨w.heap.size + 1 + 1 + 1, 0, none⟩) 2 2, .int .i64 5] 27)) := by
  have ht := ho.top
  have hA := ho.below (bAlloc (bRefl _) (.cells #[.slice (some ⟨w.heap.size + 1, 0, none⟩) 1 1, .slice (some ⟨w.heap.size + 1 + 1, 0, none⟩) 2 2, .slice (some ⟨w.heap.size + 1 + 1 + 1, 0, none⟩) 2 2, .int .i64 5] 27))
  refine ⟨hA.b1, hA.b2, heap_new _ _, ⟨[.slice none 0 0, .slice none 0 0], ⟨rfl, Or.inr ⟨w.heap.size + 1 + 1 + 1, 2, _, rfl, Nat.le_refl _, hA.b3, Nat.le_refl _, by unfold maxLen; omega, rfl, rfl⟩⟩, rfl, fun k n u hn hu => ?_⟩, by show some (w.heap.size + 1 + 1 + 1) ≠ some w1.heap.size; simp; omega, fun k n hn => by (match k, hn with | 0, hn => (cases hn; rfl) | 1, hn => (cases hn; rfl)), ht, bAlloc hb _⟩
  match k, hn, hu with
  | 0, hn, hu => cases hn; cases hu; exact ⟨_, _, rfl, by simp, by simp, Or.inl rfl⟩
  | 1, hn, hu => cases hn; cases hu; exact ⟨_, _, rfl, by simp, by simp, Or.inl rfl⟩
theorem TN.plt (h : TN w pb l v wr) : pb < wr.heap.size := (Array.getElem?_eq_some_iff.1 h.box).1
theorem TN.next {x : PNte} {gn cn : Nat} (h : TN w pb l v wr) (hu : NR (fun _ => True) (w.heap.size + 1 + 1 + 1) wr v l us) (hx : x.args = [])
    (ho : w6.ownsRow (w.heap.size + 1 + 1 + 1) 42 3 (.slice (some ⟨gn, 0, none⟩) (l.length + 1) cn) (l.length + 1) ((List.zipWith ntrow l us).flatten ++ ntrow x (.slice none 0 0)))
    (hg : (wr.alloc (.cells #[.int .i64 x.to, .int .i64 x.hd, .slice none 0 0] 42)).grownBy w6 v.ownBlock) (hat : v.ownBlock = some gn ∨ gn = wr.heap.size + 1) :
    TN w pb (l ++ [x]) (.slice (some ⟨gn, 0, none⟩) (l.length + 1) cn) (w6.setCell ⟨pb, 2, none⟩ (.slice (some ⟨gn, 0, none⟩) (l.length + 1) cn)) := by
  have hp := h.hp
  have hpl := h.plt
  have hlo : ∀ b, v.ownBlock = some b → w.heap.size + 1 + 1 + 1 ≤ b := fun b e => (own_lt hu.own e).1
  have hB : Below wr.heap.size wr (wr.alloc (.cells #[.int .i64 x.to, .int .i64 x.hd, .slice none 0 0] 42)) := bAlloc (bRefl _) _
  have hsz : (wr.alloc (.cells #[.int .i64 x.to, .int .i64 x.hd, .slice none 0 0] 42)).heap.size = wr.heap.size + 1 := by simp
  have hgn : w.heap.size + 1 + 1 + 1 ≤ gn ∧ gn ≠ pb := by
    rcases hat with e | e
    · exact ⟨hlo gn e, fun e2 => h.nb (by rw [e, e2])⟩
    · exact ⟨by omega, by omega⟩
  have keep : ∀ (b : Nat) (X : Obj), b < wr.heap.size → v.ownBlock ≠ some b → wr.heap[b]? = some X → w6.heap[b]? = some X := fun b X hb hne hX =>
    (hg.block b (by omega) (fun e => hne e.symm)).trans (boxAt hX hB)
  have hS : Same (fun d => d ≠ pb) w6 (w6.setCell ⟨pb, 2, none⟩ (.slice (some ⟨gn, 0, none⟩) (l.length + 1) cn)) := setCell_same fun _ h => h
  have keep2 : ∀ (b : Nat) (X : Obj), b < w.heap.size + 1 + 1 + 1 → wr.heap[b]? = some X → (w6.setCell ⟨pb, 2, none⟩ (.slice (some ⟨gn, 0, none⟩) (l.length + 1) cn)).heap[b]? = some X := fun b X hb hX => by
    have h6 := keep b X (by omega) (fun e => by have := hlo b e; omega) hX
    exact (hS.block b (by show b ≠ pb; omega) (Array.getElem?_eq_some_iff.1 h6).1).trans h6
  have key := (hu.below hB).push (ms := [x]) (xs := [.slice none 0 0]) (m := 1) rfl rfl (by simpa using ho) hg (hat.imp id fun e => by rw [e, hsz]) (fun j n u' hn hu' => by
    cases j with
    | zero => simp at hn hu'; subst hn hu'; rw [hx]; exact ⟨_, _, rfl, by simp, by simp, Or.inl rfl⟩
    | succ j => simp at hn)
  refine ⟨keep2 _ _ (by omega) h.b1, keep2 _ _ (by omega) h.b2, (setCell_heap (keep _ _ hpl h.nb h.box)).trans (by simp), ⟨us ++ [.slice none 0 0], ?_⟩, by show some gn ≠ some pb; simp; exact hgn.2, fun k n hn => ?_, hp, ?_⟩
  · refine ⟨own_block key.own fun g hgg hlt => hS.block g ?_ hlt, key.len, fun k n u hn hu' => ?_⟩
    · have : g = gn := (Option.some.inj hgg).symm
      rw [this]; exact hgn.2
    · have hr := key.rd k n u hn hu'
      by_cases hk : k < l.length
      · rw [List.getElem?_append_left hk] at hn
        rw [List.getElem?_append_left (by rw [hu.len]; exact hk)] at hu'
        have ha := h.ar k n hn
        rw [ha] at hr ⊢
        obtain ⟨A, c, e, h1, h2, _⟩ := hr
        exact ⟨A, c, e, h1, h2, Or.inl rfl⟩
      · rw [List.getElem?_append_right (by omega)] at hn
        have : n = x := by
          cases hkk : k - l.length with
          | zero => rw [hkk] at hn; simp at hn; exact hn.symm
          | succ j => rw [hkk] at hn; simp at hn
        rw [this, hx] at hr ⊢
        obtain ⟨A, c, e, h1, h2, _⟩ := hr
        exact ⟨A, c, e, h1, h2, Or.inl rfl⟩
  · by_cases hk : k < l.length
    · rw [List.getElem?_append_left hk] at hn; exact h.ar k n hn
    · rw [List.getElem?_append_right (by omega)] at hn
      cases hkk : k - l.length with
      | zero => rw [hkk] at hn; simp at hn; rw [← hn]; exact hx
      | succ j => rw [hkk] at hn; simp at hn
  · have h1 : Below w.heap.size w (wr.alloc (.cells #[.int .i64 x.to, .int .i64 x.hd, .slice none 0 0] 42)) := (h.low.trans (hB.mono (by have := h.low.size; omega)))
    exact (h1.grown hg (by have := h.low.size; omega) (fun j hj => by have := hlo j hj; omega)).setCell (p := ⟨pb, 2, none⟩) (by show w.heap.size ≤ pb; omega) _
theorem TN.prg {n : Nat} (h : TN w pb (bootN n) v wr) (hn : n ≤ 4) : PrgV wr (.agg #[.slice (some ⟨w.heap.size + 1, 0, none⟩) 1 1, .slice (some ⟨w.heap.size + 1 + 1, 0, none⟩) 2 2, v, .int .i64 5]) (oneP n) := by
  have t1 := (Array.getElem?_eq_some_iff.1 h.b1).1
  have t2 := (Array.getElem?_eq_some_iff.1 h.b2).1
  refine ⟨_, _, _, rfl, ?_, ?_, ?_⟩
  · obtain ⟨c0, c1⟩ : wr.cell? ⟨w.heap.size + 1, 0, none⟩ = some (.int .i64 0) ∧ wr.cell? ⟨w.heap.size + 1, 1, none⟩ = some (.slice none 0 0) := ⟨by rw [cell_of_row _ _ _ _ _ _ h.b1]; rfl, by rw [cell_of_row _ _ _ _ _ _ h.b1]; rfl⟩
    refine ⟨_, 1, rfl, by simp [oneP], by simp [oneP], Or.inr ⟨w.heap.size + 1, 0, rfl, trivial, by omega, fun j y hy => ?_⟩⟩
    match j, hy with
    | 0, hy => cases hy; exact ⟨c0, _, c1, ⟨_, _, rfl, by simp, by simp, Or.inl rfl⟩⟩
  · obtain ⟨c0, c1, c2, c3, c4, c5, c6, c7⟩ := blk8 h.b2
    refine ⟨_, 2, rfl, by simp [oneP], by simp [oneP], Or.inr ⟨w.heap.size + 1 + 1, 0, rfl, trivial, by omega, fun j y hy => ?_⟩⟩
    match j, hy with
    | 0, hy => cases hy; exact ⟨⟨_, c0, ⟨_, _, rfl, by simp, by simp, Or.inl rfl⟩⟩, c1, c2, c3⟩
    | 1, hy => cases hy; exact ⟨⟨_, c4, ⟨_, _, rfl, by simp, by simp, Or.inl rfl⟩⟩, c5, c6, c7⟩
  · obtain ⟨us, hu⟩ := h.nt
    have hh := hu.ntes (by rw [bootN_len]; omega)
    exact hh.imp (fun _ _ => trivial) (Nat.le_refl _) fun _ _ _ _ _ ⟨h1, h2, c, h3, h4⟩ => ⟨h1, h2, c, h3, h4.weak fun _ _ => trivial⟩
end
end Go.Proofs.YtflpkdhmkgidiaaDoor
