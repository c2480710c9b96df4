/-
  Messages put in and taken out, as plain lists: they stay in order; what is there. No conditions.
-/
import Derived.Test.YtjdkbgeehjihfaaMd
namespace Go.Proofs.Ytjdkbgeehjihfaa
theorem less_trans {a b c : PID} (h1 : lessD a b = true) (h2 : lessD b c = true) : lessD a c = true := by rw [lessD_iff] at *; omega
theorem less_irr (a : PID) : lessD a a = false := by
  cases h : lessD a a with
  | false => rfl
  | true => rw [lessD_iff] at h; omega
theorem less_ne {a b : PID} (h : lessD a b = true) : a ≠ b := by rintro rfl; rw [less_irr] at h; cases h
theorem less_total {a b : PID} (h : a ≠ b) (h1 : lessD a b = false) : lessD b a = true := by
  have h2 : ¬ lessD a b = true := by rw [h1]; decide
  rw [lessD_iff] at *
  have h3 : ¬ (a.f = b.f ∧ a.n = b.n ∧ a.c = b.c) := fun ⟨e1, e2, e3⟩ => h (by obtain ⟨f, n, c⟩ := a; obtain ⟨f', n', c'⟩ := b; dsimp only at e1 e2 e3; rw [e1, e2, e3])
  omega
theorem srt_pw : ∀ (l : List PMsg), srt l = true ↔ l.Pairwise (fun x y => lessD x.id y.id = true)
  | [] => by simp [srt]
  | [a] => by simp [srt]
  | a :: b :: r => by
    rw [srt, Bool.and_eq_true, srt_pw (b :: r)]
    rw [List.pairwise_cons (a := a)]
    constructor
    · rintro ⟨h1, h2⟩
      refine ⟨fun y hy => ?_, h2⟩
      rcases List.mem_cons.1 hy with rfl | hy
      · exact h1
      · exact less_trans h1 ((List.pairwise_cons.1 h2).1 y hy)
    · rintro ⟨h1, h2⟩
      exact ⟨h1 b (by simp), h2⟩
theorem fnd_iff {l : List PMsg} {d : PID} : fnd l d = -1 ↔ ∀ x ∈ l, x.id ≠ d := by
  rcases fnd_cases l d with ⟨h, h1⟩ | ⟨k, x, h, h1, h2, _⟩
  · refine ⟨fun _ x hx => ?_, fun _ => h⟩
    obtain ⟨j, hj⟩ := List.mem_iff_getElem?.1 hx
    exact h1 j x hj
  · refine ⟨fun e => by omega, fun hh => absurd h2 (hh x (List.mem_of_getElem? h1))⟩
theorem fnd_some {l : List PMsg} {d : PID} (h : fnd l d ≠ -1) : ∃ (k : Nat) (x : PMsg), fnd l d = k ∧ l[k]? = some x ∧ x.id = d := by
  rcases fnd_cases l d with ⟨e, _⟩ | ⟨k, x, h, h1, h2, _⟩
  · exact absurd e h
  · exact ⟨k, x, h, h1, h2⟩
theorem fnd_mem {l : List PMsg} {x : PMsg} (h : x ∈ l) : ∃ (k : Nat) (y : PMsg), fnd l x.id = k ∧ l[k]? = some y ∧ y.id = x.id :=
  fnd_some fun e => fnd_iff.1 e x h rfl
theorem put_perm (l : List PMsg) (m : PMsg) : (putP l m).Perm (m :: l) := by
  unfold putP
  exact (List.perm_middle).trans (by rw [List.take_append_drop])
theorem put_len (l : List PMsg) (m : PMsg) : (putP l m).length = l.length + 1 := (put_perm l m).length_eq
theorem put_mem {l : List PMsg} {m x : PMsg} : x ∈ putP l m ↔ x = m ∨ x ∈ l := by rw [(put_perm l m).mem_iff, List.mem_cons]
theorem put_srt {l : List PMsg} {m : PMsg} (h : srt l = true) (hf : fnd l m.id = -1) : srt (putP l m) = true := by
  rw [srt_pw] at *
  rw [fnd_iff] at hf
  have h1 : ∀ x ∈ l.take (plc l m.id), lessD x.id m.id = true := fun x hx => by
    obtain ⟨j, hj⟩ := List.mem_iff_getElem?.1 hx
    rw [List.getElem?_take] at hj
    split at hj
    · rename_i hlt
      obtain ⟨hjl, rfl⟩ := List.getElem?_eq_some_iff.1 hj
      have := List.not_of_lt_findIdx (p := fun m' : PMsg => !lessD m'.id m.id) hlt
      simpa using this
    · cases hj
  have h2 : ∀ y ∈ l.drop (plc l m.id), lessD m.id y.id = true := fun y hy => by
    by_cases hp : plc l m.id < l.length
    · have e0 : lessD (l[plc l m.id]).id m.id = false := by
        have := List.findIdx_getElem (p := fun m' : PMsg => !lessD m'.id m.id) (w := hp)
        unfold plc; simpa using this
      have e1 := less_total (hf _ (List.getElem_mem hp)) e0
      rw [List.drop_eq_getElem_cons hp] at hy
      rcases List.mem_cons.1 hy with rfl | hy
      · exact e1
      · have h3 : (l.drop (plc l m.id)).Pairwise (fun x y => lessD x.id y.id = true) := h.drop
        rw [List.drop_eq_getElem_cons hp, List.pairwise_cons] at h3
        exact less_trans e1 (h3.1 y hy)
    · rw [List.drop_eq_nil_of_le (by omega)] at hy; cases hy
  unfold putP
  rw [List.pairwise_append, List.pairwise_cons]
  refine ⟨h.take, ⟨h2, h.drop⟩, fun x hx y hy => ?_⟩
  rcases List.mem_cons.1 hy with rfl | hy
  · exact h1 x hx
  · exact less_trans (h1 x hx) (h2 y hy)
theorem cut_perm {l : List PMsg} {k : Nat} {x : PMsg} (h : l[k]? = some x) : l.Perm (x :: cutP l k) := by
  obtain ⟨hk, rfl⟩ := List.getElem?_eq_some_iff.1 h
  have e : l = l.take k ++ l[k] :: l.drop (k + 1) := by rw [← List.drop_eq_getElem_cons hk, List.take_append_drop]
  conv => lhs; rw [e]
  exact List.perm_middle
theorem cut_len {l : List PMsg} {k : Nat} {x : PMsg} (h : l[k]? = some x) : (cutP l k).length + 1 = l.length := by have := (cut_perm h).length_eq; simpa using this.symm
theorem cut_srt {l : List PMsg} {k : Nat} (h : srt l = true) : srt (cutP l k) = true := by
  rw [srt_pw] at *
  refine h.sublist ?_
  unfold cutP
  conv => rhs; rw [← List.take_append_drop k l]
  exact List.Sublist.append (List.Sublist.refl _) (by rw [← List.drop_drop]; exact List.drop_sublist _ _)
/-- Names that stand once. -/
def Once (l : List PMsg) : Prop := l.Pairwise (fun x y => x.id ≠ y.id)
theorem Once.of_srt {l : List PMsg} (h : srt l = true) : Once l := ((srt_pw l).1 h).imp fun h => less_ne h
theorem Once.eq {l : List PMsg} (h : Once l) {x y : PMsg} (hx : x ∈ l) (hy : y ∈ l) (e : x.id = y.id) : x = y := by
  induction l with
  | nil => cases hx
  | cons a r ih =>
    obtain ⟨h1, h2⟩ := List.pairwise_cons.1 h
    rcases List.mem_cons.1 hx with rfl | hx
    · rcases List.mem_cons.1 hy with rfl | hy
      · rfl
      · exact absurd e (h1 y hy)
    · rcases List.mem_cons.1 hy with hy | hy
      · subst hy; exact absurd e.symm (h1 x ‹_›)
      · exact ih h2 ‹_› hy
theorem Once.perm {l l' : List PMsg} (h : Once l) (p : l.Perm l') : Once l' := (p.pairwise_iff (fun h => h.symm)).1 h
theorem cut_mem {l : List PMsg} {k : Nat} {x y : PMsg} (h : l[k]? = some x) (ho : Once l) : y ∈ cutP l k ↔ y ∈ l ∧ y.id ≠ x.id := by
  have p := cut_perm h
  have ho2 := ho.perm p
  obtain ⟨h1, _⟩ := List.pairwise_cons.1 ho2
  rw [p.mem_iff, List.mem_cons]
  constructor
  · intro hy; exact ⟨Or.inr hy, fun e => h1 y hy e.symm⟩
  · rintro ⟨rfl | hy, hne⟩
    · exact absurd rfl hne
    · exact hy
/-- Names of numbers below 30 tell them apart. -/
theorem msgN_inj {j k : Nat} (e : (msgN j).id = (msgN k).id) : j = k := by
  have e1 : ((j : Int) % 3) = (k : Int) % 3 := congrArg PID.f e
  have e2 : ((j : Int) / 3) = (k : Int) / 3 := congrArg PID.n e
  omega
theorem toN_sum : ∀ {l : List PMsg}, (∀ x ∈ l, x.nt.to = 0 ∨ x.nt.to = 1) → toN l 0 + toN l 1 = l.length
  | [], _ => rfl
  | x :: r, h => by
    have ih := toN_sum (l := r) fun y hy => h y (by simp [hy])
    have h1 : toN (x :: r) 0 = toN r 0 + if x.nt.to = 0 then 1 else 0 := by unfold toN; rw [List.countP_cons]; simp
    have h2 : toN (x :: r) 1 = toN r 1 + if x.nt.to = 1 then 1 else 0 := by unfold toN; rw [List.countP_cons]; simp
    rw [h1, h2, List.length_cons]
    rcases h x (by simp) with e | e
    · rw [e]; simp; omega
    · rw [e]; simp; omega
/-- What is in a list of numbers' messages: just those below K that s names. -/
structure In (s : Nat → Bool) (K : Nat) (l : List PMsg) : Prop where
  ord : srt l = true
  from_ : ∀ x ∈ l, ∃ k : Nat, k < K ∧ x = msgN k ∧ s k = true
  all : ∀ k : Nat, k < K → s k = true → msgN k ∈ l
theorem In.nil (K : Nat) : In (fun _ => false) K [] := ⟨rfl, (fun x hx => by cases hx), (fun k _ h => by cases h)⟩
theorem In.no {s : Nat → Bool} {K k : Nat} {l : List PMsg} (h : In s K l) (hs : s k = false) : fnd l (msgN k).id = -1 := by
  rw [fnd_iff]
  intro x hx e
  obtain ⟨j, _, rfl, hj⟩ := h.from_ x hx
  have := msgN_inj e
  subst this
  rw [hs] at hj; cases hj
theorem In.yes {s : Nat → Bool} {K k : Nat} {l : List PMsg} (h : In s K l) (hk : k < K) (hs : s k = true) : ∃ j : Nat, fnd l (msgN k).id = j ∧ l[j]? = some (msgN k) := by
  obtain ⟨j, y, h1, h2, h3⟩ := fnd_mem (h.all k hk hs)
  exact ⟨j, h1, by rw [h2, (Once.of_srt h.ord).eq (List.mem_of_getElem? h2) (h.all k hk hs) h3]⟩
def put1 (s : Nat → Bool) (k : Nat) : Nat → Bool := fun j => if j = k then true else s j
theorem In.put {s : Nat → Bool} {K k : Nat} {l : List PMsg} (h : In s K l) (hk : k < K) (hs : s k = false) : In (put1 s k) K (putP l (msgN k)) := by
  refine ⟨put_srt h.ord (h.no hs), fun x hx => ?_, fun j hj hsj => ?_⟩
  · rcases put_mem.1 hx with rfl | hx
    · exact ⟨k, hk, rfl, by simp [put1]⟩
    · obtain ⟨j, h1, h2, h3⟩ := h.from_ x hx
      exact ⟨j, h1, h2, by unfold put1; split <;> first | rfl | exact h3⟩
  · rw [put_mem]
    by_cases e : j = k
    · subst e; exact Or.inl rfl
    · exact Or.inr (h.all j hj (by simpa [put1, e] using hsj))
theorem In.cut {s : Nat → Bool} {K j : Nat} {l : List PMsg} (h : In s (K + 1) l) (hj : l[j]? = some (msgN K)) : In s K (cutP l j) := by
  have ho := Once.of_srt h.ord
  refine ⟨cut_srt h.ord, fun x hx => ?_, fun k hk hs => ?_⟩
  · obtain ⟨hx1, hx2⟩ := (cut_mem hj ho).1 hx
    obtain ⟨k, h1, rfl, h3⟩ := h.from_ x hx1
    exact ⟨k, by
      have : k ≠ K := fun e => hx2 (by rw [e])
      omega, rfl, h3⟩
  · exact (cut_mem hj ho).2 ⟨h.all k (by omega) hs, fun e => by have := msgN_inj e; omega⟩
theorem In.less {s : Nat → Bool} {K : Nat} {l : List PMsg} (h : In s (K + 1) l) (hs : s K = false) : In s K l :=
  ⟨h.ord, fun x hx => by
    obtain ⟨k, h1, h2, h3⟩ := h.from_ x hx
    refine ⟨k, ?_, h2, h3⟩
    have : k ≠ K := fun e => by rw [e, hs] at h3; cases h3
    omega, fun k hk => h.all k (by omega)⟩
theorem In.zero {s : Nat → Bool} {l : List PMsg} (h : In s 0 l) : l = [] := by
  cases l with
  | nil => rfl
  | cons x r => obtain ⟨k, hk, _⟩ := h.from_ x (by simp); omega
theorem In.few {s : Nat → Bool} {K : Nat} {l : List PMsg} (h : In s K l) (hl : l.length ≤ 900) : Few l := ⟨hl, fun x hx => by
  obtain ⟨k, _, rfl, _⟩ := h.from_ x hx
  show [(k : Int)].length ≤ 1000
  simp⟩
theorem In.to01 {s : Nat → Bool} {K : Nat} {l : List PMsg} (h : In s K l) : toN l 0 + toN l 1 = l.length := toN_sum fun x hx => by
  obtain ⟨k, _, rfl, _⟩ := h.from_ x hx
  show (k : Int) % 2 = 0 ∨ (k : Int) % 2 = 1
  omega
end Go.Proofs.Ytjdkbgeehjihfaa
