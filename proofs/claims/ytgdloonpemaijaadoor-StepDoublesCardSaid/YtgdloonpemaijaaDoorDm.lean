/-
  Doubled messages (StepDoubles), plainly. No conditions.
-/
import Derived.Test.YtgdloonpemaijaaDoorNw
namespace Go.Proofs.YtgdloonpemaijaaDoor
open Go.RowKit
/-- One actor that counts what is delivered; room for m; n messages at the start. -/
def nte0 : PNte := ⟨0, 0, []⟩
def dblP (n m : Nat) : PPrg := ⟨[⟨0, tcode false⟩], [⟨[0], (m : Int), -1, false⟩], List.replicate n nte0, 9⟩
def dbu (d : Nat) : PBud := ⟨0, (d : Int), 0, 0⟩
def dal (n c : Nat) : List PMsg := ((List.range (c + 1)).map fun k => (⟨⟨-1, 0, ((k : Nat) : Int)⟩, nte0⟩ : PMsg)) ++ ((List.range (n - 1)).map fun k => (⟨⟨-1, ((k + 1 : Nat) : Int), 0⟩, nte0⟩ : PMsg))
/-- How many copies there is room for, of i. -/
def dcp (n m i : Nat) : Nat := min i (m - n)
/-- The world behind i doubles, and j deliveries. -/
def xD (n m i j : Nat) : PWld := ⟨[⟨[(j : Int)], false, 0, 0, ((i - dcp n m i : Nat) : Int)⟩], (dal n (dcp n m i)).drop j, ⟨0, (i : Int), 0, 0⟩⟩
def evD : PEv := ⟨3, ⟨-1, 0, 0⟩, 0⟩
def evX (n m i j : Nat) : PEv := ⟨1, ((dal n (dcp n m i)).getD j ⟨⟨0, 0, 0⟩, nte0⟩).id, 0⟩
def hav (n m i : Nat) : Nat := min (n + i) m
theorem d_start : ∀ n, n < 4 → ∀ m, m < 11 → n = 0 ∨ m < n ∨ startP (dblP n m) = xD n m 0 0 := by decide +kernel
theorem d_chk : ∀ n, n < 4 → ∀ m, m < 11 → chk (dblP n m) = 0 := by decide +kernel
theorem d_len : ∀ n, n < 4 → ∀ m, m < 11 → ∀ i, i < 9 → n = 0 ∨ m < n ∨ (dal n (dcp n m i)).length = hav n m i := by decide +kernel
theorem dbl_fc {n m : Nat} (hn : n < 4) (hm : m < 11) : fc (dblP n m) = 0 := fc_mk (d_chk n hn m hm) fun x hx => by
  have hx' : x ∈ [(⟨0, tcode false⟩ : PHnd)] := hx
  simp only [List.mem_cons, List.not_mem_nil, or_false] at hx'
  subst hx'
  exact (goodB_good (hs := [⟨0, tcode false⟩]) (code := tcode false) (l := [0, 1, 2, 1, 0]) (pr := fun k => k - 1) (by decide +kernel)).de
theorem dbl_small {n m : Nat} (hn : n < 4) : Small (dblP n m) := by
  refine ⟨show 1 ≤ 18 by decide, show 1 ≤ 10 by decide, ?_, ?_, ?_, ?_⟩
  · show (List.replicate n nte0).length ≤ 18
    rw [List.length_replicate]; omega
  · intro h hh
    have hh' : h ∈ [(⟨0, tcode false⟩ : PHnd)] := hh
    simp only [List.mem_cons, List.not_mem_nil, or_false] at hh'
    subst hh'; decide
  · intro x hx
    have hx' : x ∈ [(⟨[0], (m : Int), -1, false⟩ : PAct)] := hx
    simp only [List.mem_cons, List.not_mem_nil, or_false] at hx'
    subst hx'
    show ([0] : List Int).length ≤ 10
    decide
  · intro a ha
    have ha' : a ∈ List.replicate n nte0 := ha
    obtain ⟨_, rfl⟩ := List.mem_replicate.1 ha'
    decide
def dA (n m i : Nat) : Bool := smwB (xD n m i 0) && decide (doQ (dblP n m) (xD n m i 0) evD = xD n m (i + 1) 0)
def dB (n m d i : Nat) : Bool := isQ (dblP n m) (dbu d) (xD n m i 0) evD
def dC (n m i j : Nat) : Bool := smwB (xD n m i j) && (isQ (dblP n m) (dbu i) (xD n m i j) (evX n m i j) && decide (doQ (dblP n m) (xD n m i j) (evX n m i j) = xD n m i (j + 1)))
theorem dA_all : ∀ n, n < 4 → ∀ m, m < 11 → ∀ i, i < 9 → n = 0 ∨ m < n ∨ dA n m i = true := by decide +kernel
theorem dB_all : ∀ n, n < 4 → ∀ m, m < 11 → ∀ d, d < 9 → ∀ i, i < d → n = 0 ∨ m < n ∨ dB n m d i = true := by decide +kernel
theorem dC_all : ∀ n, n < 4 → ∀ m, m < 11 → ∀ i, i < 9 → ∀ j, j < hav n m i → n = 0 ∨ m < n ∨ dC n m i j = true := by decide +kernel
/-- What is asked of the three numbers. -/
structure DR (n m d : Nat) : Prop where
  n0 : 1 ≤ n
  n3 : n < 4
  mn : n ≤ m
  m10 : m < 11
  d8 : d < 9
section
variable {n m d i j : Nat}
theorem DR.start (h : DR n m d) : startP (dblP n m) = xD n m 0 0 := by
  have h0 := h.n0; have h1 := h.mn
  rcases d_start n h.n3 m h.m10 with e | e | e
  · omega
  · omega
  · exact e
theorem DR.len (h : DR n m d) (hi : i < 9) : (dal n (dcp n m i)).length = hav n m i := by
  have h0 := h.n0; have h1 := h.mn
  rcases d_len n h.n3 m h.m10 i hi with e | e | e
  · omega
  · omega
  · exact e
theorem DR.mail (h : DR n m d) (hi : i < 9) : (xD n m i j).mail.length = hav n m i - j := by
  show ((dal n (dcp n m i)).drop j).length = _
  rw [List.length_drop, h.len hi]
theorem DR.dup (h : DR n m d) (hi : i < d) : SmW (xD n m i 0) ∧ isP (dblP n m) (dbu d) (xD n m i 0) evD = true ∧ doP (dblP n m) (xD n m i 0) evD = xD n m (i + 1) 0 := by
  have h0 := h.n0; have h1 := h.mn; have h2 := h.d8
  have hf := dbl_fc h.n3 h.m10
  have hA : dA n m i = true := by
    rcases dA_all n h.n3 m h.m10 i (by omega) with e | e | e
    · omega
    · omega
    · exact e
  have hB : dB n m d i = true := by
    rcases dB_all n h.n3 m h.m10 d h.d8 i hi with e | e | e
    · omega
    · omega
    · exact e
  unfold dA at hA
  simp only [Bool.and_eq_true, decide_eq_true_eq] at hA
  exact ⟨smW_of hA.1, by rw [isP_Q hf]; exact hB, by rw [doP_Q hf]; exact hA.2⟩
theorem DR.del (h : DR n m d) (hj : j < hav n m d) : SmW (xD n m d j) ∧ isP (dblP n m) (dbu d) (xD n m d j) (evX n m d j) = true ∧ doP (dblP n m) (xD n m d j) (evX n m d j) = xD n m d (j + 1) := by
  have h0 := h.n0; have h1 := h.mn
  have hf := dbl_fc h.n3 h.m10
  have hC : dC n m d j = true := by
    rcases dC_all n h.n3 m h.m10 d h.d8 j hj with e | e | e
    · omega
    · omega
    · exact e
  unfold dC at hC
  simp only [Bool.and_eq_true, decide_eq_true_eq] at hC
  exact ⟨smW_of hC.1, by rw [isP_Q hf]; exact hC.2.1, by rw [doP_Q hf]; exact hC.2.2⟩
/-- The first message that is there behind j deliveries. -/
theorem dbl_head {y : PMsg} (hy : (xD n m d j).mail[0]? = some y) : y.id = (evX n m d j).id := by
  have hy' : ((dal n (dcp n m d)).drop j)[0]? = some y := hy
  rw [List.getElem?_drop, Nat.add_zero] at hy'
  show y.id = ((dal n (dcp n m d)).getD j ⟨⟨0, 0, 0⟩, nte0⟩).id
  rw [List.getD_eq_getElem?_getD, hy']; rfl
/-- The copy is there, under a name of its own. -/
theorem DR.two (h : DR n m d) (hc : n < hav n m d) {y : PMsg} (hy : (xD n m d 0).mail[1]? = some y) : y.id = ⟨-1, 0, 1⟩ := by
  have h0 := h.n0; have h1 := h.mn
  have hcp : 1 ≤ dcp n m d := by unfold hav at hc; unfold dcp; omega
  have hy' : (dal n (dcp n m d))[1]? = some y := hy
  unfold dal at hy'
  rw [List.getElem?_append_left (by simp; omega), List.getElem?_map, List.getElem?_range (by omega)] at hy'
  cases hy'; rfl
end
end Go.Proofs.YtgdloonpemaijaaDoor
