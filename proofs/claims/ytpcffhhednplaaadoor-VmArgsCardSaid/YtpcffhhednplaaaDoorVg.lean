/-
  The eighth law's program, as plain data: one register, or none; and numbers that are made by appending. No conditions.
-/
import Derived.Test.YtpcffhhednplaaaDoorCo
namespace Go.Proofs.YtpcffhhednplaaaDoor
open Go.RowKit
def gC (at_ v : Int) : List PIns := [⟨5, at_⟩, ⟨1, v⟩, ⟨9, 0⟩, ⟨6, at_⟩]
def gP (at_ v : Int) : PPrg := ⟨[⟨0, gC at_ v⟩], [⟨[], 0, -1, false⟩], [], 9⟩
theorem g_chk (v : Int) : ((List.range 8).all fun at_ => (gC at_ v).all (fun i => decide (chkI (gC at_ v).length 0 1 i = 0))) = true := by kernel_rfl
theorem g_good (v : Int) : ((List.range 8).all fun at_ => goodB [⟨0, gC at_ v⟩] (gC at_ v) [0, 1, 2, 1, 0] prv) = true := by kernel_rfl
theorem chk_alln {n : Int} {code : List PIns} (h : code.all (fun i => decide (chkI code.length n 1 i = 0)) = true) : ∀ i ∈ code, chkI code.length n 1 i = 0 := fun i hi => of_decide_eq_true (List.all_eq_true.1 h i hi)
theorem fg1 {k : Nat} {v : Int} (hk : k < 8) : fc (gP k v) = 0 :=
  gen_fc (by decide) (by rfl) (by rfl) (by show 4 ≤ 64; decide) (chk_alln (all_of (g_chk v) hk)) (goodB_good (all_of (g_good v) hk))
def gR : Nat → List Int
  | 0 => []
  | n + 1 => gR n ++ [10 + (n : Int)]
theorem gR_len : ∀ n, (gR n).length = n
  | 0 => rfl
  | n + 1 => by rw [gR, List.length_append, gR_len n]; rfl
def locR (l : List Int) : PLoc := ⟨l, false, 0, 0, 0⟩
def gW (l : List Int) (k : Nat) (v : Int) : List Int := l.set k (wrap64 (l.getD k 0 + v))
theorem egE {l : List Int} {k : Nat} {v : Int} (hk : k < 8) (hl : l.length ≤ 8) : runP (gP k v) 0 (locR l) 0 [] = ⟨⟨gW l k v, false, 0, 0, 0⟩, [], 4⟩ := by
  have hm : mayP (gP k v) 0 (locR l) 0 [] := ⟨fg1 hk, ⟨by decide, by show (0 : Int) < 1; decide⟩, ⟨by decide, by show (0 : Int) < 1; decide⟩, rfl, hl, rfl⟩
  rw [run_of hm]
  have h : rnR (gP k v) 0 (locR l) 0 [] = (0, ⟨gW l k v, false, [], [], 4, 4⟩) :=
    (x5 (p := gP k v) (who := 0) (args := []) (code := gC k v) (f := 8) (pc := 0) (t := 0) (R := l) (ar := false) (N := []) (S := []) rfl).trans ((x1 (code := gC k v) rfl).trans ((x9 (code := gC k v) rfl).trans ((x6 (code := gC k v) (pc := 3) rfl).trans (rn_end (by show ¬ 4 < 4; decide)))))
  rw [h]
  unfold fin locR
  simp [w64]
theorem gW_in {n k : Nat} {v : Int} (h : k < n) : gW (gR n) k v = (gR n).set k (wrap64 (10 + (k : Int) + v)) := by
  have : ∀ n, k < n → (gR n)[k]? = some (10 + (k : Int)) := by
    intro n
    induction n with
    | zero => intro h; omega
    | succ n ih =>
      intro h
      have hl := gR_len n
      rw [gR]
      by_cases e : k < n
      · rw [List.getElem?_append_left (by omega)]; exact ih e
      · obtain rfl : k = n := by omega
        rw [List.getElem?_append_right (by omega), hl, Nat.sub_self]; rfl
  unfold gW
  rw [List.getD_eq_getElem?_getD, this n h]; rfl
theorem gR_at {n k : Nat} (h : k < n) : (gR n)[k]? = some (10 + (k : Int)) := by
  induction n with
  | zero => omega
  | succ n ih =>
    have hl := gR_len n
    rw [gR]
    by_cases e : k < n
    · rw [List.getElem?_append_left (by omega)]; exact ih e
    · obtain rfl : k = n := by omega
      rw [List.getElem?_append_right (by omega), hl, Nat.sub_self]; rfl
theorem gW_out {n k : Nat} {v : Int} (h : ¬ k < n) : gW (gR n) k v = gR n := by
  unfold gW
  exact List.set_eq_of_length_le (by rw [gR_len]; omega)

/-- Numbers as cells. -/
def iv (l : List Int) : List Value := l.map fun x => Value.int .i64 x
theorem iv_append (a b : List Int) : iv (a ++ b) = iv a ++ iv b := by simp [iv]
theorem iv_len (l : List Int) : (iv l).length = l.length := by simp [iv]
theorem iv_one (l : List Int) : ∀ u ∈ iv l, u.oneCell' = true := by
  intro u hu
  simp only [iv, List.mem_map] at hu
  obtain ⟨x, _, rfl⟩ := hu
  rfl
theorem infoInt : (Tryd.prog.info? 3).map (fun i => (i.zero, i.size, i.bytes)) = some (some (.int .i64 0), 1, 8) := by kernel_rfl
/-- Two lists of numbers, each in a row of its own. -/
structure NW (w : World) (va : Value) (la : List Int) (vb : Value) (lb : List Int) (wr : World) : Prop where
  low : Below w.heap.size w wr
  oa : wr.ownsRow w.heap.size 3 1 va la.length (iv la)
  ob : wr.ownsRow w.heap.size 3 1 vb lb.length (iv lb)
  ne : ∀ g, va.ownBlock = some g → vb.ownBlock ≠ some g
section
variable {w wr w1 w' : World} {va vb : Value} {la lb : List Int}
theorem NW.nil (w : World) : NW w (.slice none 0 0) [] (.slice none 0 0) [] w := ⟨bRefl w, ⟨rfl, Or.inl ⟨rfl, rfl⟩⟩, ⟨rfl, Or.inl ⟨rfl, rfl⟩⟩, fun g hg => by cases hg⟩
theorem NW.below (h : NW w va la vb lb wr) (hb : Below wr.heap.size wr w1) : NW w va la vb lb w1 :=
  ⟨bTrans h.low hb, own_block h.oa fun g _ hg => hb.block g hg, own_block h.ob fun g _ hg => hb.block g hg, h.ne⟩
theorem NW.swap (h : NW w va la vb lb wr) : NW w vb lb va la wr := ⟨h.low, h.ob, h.oa, fun g h1 h2 => h.ne g h2 h1⟩
theorem NW.push {g cap : Nat} {xs : List Int} (h : NW w va la vb lb wr) (ho : w'.ownsRow w.heap.size 3 1 (.slice (some ⟨g, 0, none⟩) (la.length + xs.length) cap) (la.length + xs.length) (iv la ++ iv xs))
    (hg : wr.grownBy w' va.ownBlock) (hat : va.ownBlock = some g ∨ g = wr.heap.size) : NW w (.slice (some ⟨g, 0, none⟩) (la.length + xs.length) cap) (la ++ xs) vb lb w' := by
  refine ⟨grown_low h.low hg fun k hk => (own_lt h.oa hk).1, by rw [List.length_append, iv_append]; exact ho, own_block h.ob fun k hk hlt => hg.block k hlt (fun e => h.ne k e.symm hk), fun k hk hw => ?_⟩
  have e : g = k := Option.some.inj hk
  subst e
  rcases hat with hat | hat
  · exact h.ne _ hat hw
  · have := (own_lt h.ob hw).2; omega
theorem NW.ints (h : NW w va la vb lb wr) (hl : la.length ≤ 1000) : Ints anyB wr va la := by
  obtain ⟨h1, h2⟩ := h.oa
  rcases h2 with ⟨rfl, h2⟩ | ⟨g, cap, cur, rfl, hb, hh, h3, h4, h5, h6⟩
  · have : la = [] := by cases la with | nil => rfl | cons _ _ => simp at h2
    subst this; exact sl0
  · refine ⟨_, cap, rfl, by omega, Or.inr ⟨g, 0, rfl, trivial, (Array.getElem?_eq_some_iff.1 hh).1, fun k x hx => ?_⟩⟩
    have hk := (List.getElem?_eq_some_iff.1 hx).1
    show wr.cell? ⟨g, 0 + k * 1, none⟩ = some (.int .i64 x)
    rw [Nat.zero_add, Nat.mul_one, cell_of_row _ _ _ _ _ _ hh]
    have e : cur[k]? = (iv la)[k]? := by rw [← h6, List.getElem?_take, if_pos (by omega)]; simp
    rw [e, iv, List.getElem?_map, hx]; rfl
theorem NW.formN (h : NW w va la vb lb wr) (n : Nat) (e : la.length = n) : ∃ A c, va = .slice A n c := by
  subst e
  obtain ⟨h1, h2⟩ := h.oa
  rcases h2 with ⟨rfl, h2⟩ | ⟨g, cap, cur, rfl, _⟩
  · exact ⟨none, 0, by rw [h2]⟩
  · exact ⟨_, cap, rfl⟩
end
section
variable {w W : World} {va vb : Value} {la lb : List Int} {ops : Array Oper} {rest : List Oper} {o : Oper} {a : Act} {Q : Exit → Act → World → Prop}
/-- Numbers are appended. -/
theorem appN (hgd : o.guard = none) (s x : Operand) (ho : o.op = .call { callee := .builtin .append, args := #[s, x], argTypes := #[27, 27] }) (xs : List Int) (B n m : Nat)
    (h : NW w va la vb lb W) (hs : a.eval s = va) (hx : a.eval x = .slice (some ⟨B, 0, none⟩) m m) (hm : xs.length = m) (hn : la.length + m = n) (h0 : 0 < m) (hB : W.heap[B]? = some (.cells (iv xs).toArray 3)) (hl : la.length + m ≤ 1000)
    (hK : ∀ g cap w', NW w (.slice (some ⟨g, 0, none⟩) n cap) (la ++ xs) vb lb w' → W.grownBy w' va.ownBlock → wpList Tryd.prog ops Q rest (a.put o.dst (.slice (some ⟨g, 0, none⟩) n cap)) w') : wpList Tryd.prog ops Q (o :: rest) a W := by
  obtain ⟨i0, hi0, hz0, hz1, hz2⟩ := info_parts infoInt
  subst hm hn
  refine wpList_append_lies W hgd s x 27 ho w.heap.size 3 i0 _ 1 8 Tryd.underlying27 hi0 hz0 hz1 hz2 rfl (by decide) va la.length (iv la) hs h.oa ⟨B, 0, none⟩ xs.length xs.length (iv xs) hx (by rw [iv_len, Nat.mul_one]) (fun j u hu => World.news_of_block hB j u (by simpa using hu)) (iv_one xs) h0 (by unfold maxLen; omega) (by omega) h.low.size W.heap.size rfl ?_
  intro g cap w' hown hgr hat _
  exact hK g cap w' (h.push hown hgr hat) hgr
end
end Go.Proofs.YtpcffhhednplaaaDoor
