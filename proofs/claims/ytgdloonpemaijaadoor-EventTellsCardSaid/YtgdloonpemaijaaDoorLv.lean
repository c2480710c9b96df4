/-
  What takes, leaves and follow answer. Conditions: the table of the instructions is in the world; a send names a handler that there is; handlers have 0 to 4 Args.
-/
import Derived.Test.YtgdloonpemaijaaDoorOps2
import Derived.Test.YtgdloonpemaijaaDoorCell
import Derived.Test.YtgdloonpemaijaaDoorChk2
import Derived.Test.YtgdloonpemaijaaDoorFPlain
import Derived.Deep.RegionHeld3
import Derived.Deep.DrawnRows
namespace Go.Proofs.YtgdloonpemaijaaDoor
open Go.RowKit
attribute [local go_sem ↓] Go.wp_at_zero Go.wp_at_succ

/-- What Check took: of the instructions of a handler. -/
structure OkI (hs : List PHnd) (n : Nat) (i : PIns) : Prop where
  vl : vl i.op = true
  tgt : i.op = 20 ∨ i.op = 21 → 0 ≤ i.a ∧ i.a ≤ n
  snd : i.op = 22 → 0 ≤ i.a ∧ i.a < hs.length
theorem wrap_in {x : Int} (h1 : -1000000 ≤ x) (h2 : x ≤ 1000000) : IntKind.i64.wrap x = x := by rw [IntKind.wrap_i64]; omega
def OkH (hs : List PHnd) : Prop := ∀ h ∈ hs, 0 ≤ h.args ∧ h.args ≤ 4

set_option maxHeartbeats 2000000 in
theorem takes_any (w : World) (i : PIns) (vh : Value) (hs : List PHnd) (ht : Tab w) (hh : Hnds anyB anyB w vh hs) (ha : OkH hs) (n : Nat) (hi : OkI hs n i) :
    Calls Tryd.prog 147 #[.agg #[.int .i64 i.op, .int .i64 i.a], vh] w fun e w' => e = .returned (.int .i64 (tk hs i)) ∧ Below w.heap.size w w' := by
  obtain ⟨A, c, rfl, hl⟩ := hh.form
  have HB : ∀ (x : Obj), Below w.heap.size w (w.alloc x) := fun x => bAlloc (bRefl w) x
  have HT : Hid (Tab w) := ht
  have hp := po_bd i.op
  clear ht
  by_cases e : i.op = 22
  · obtain ⟨h1, h2⟩ := hi.snd e
    obtain ⟨k, hk⟩ := Int.eq_ofNat_of_zero_le h1
    obtain ⟨b1, o1, x, v1, rfl, hx, hz1, q1, q2, hv1⟩ := hh.cell (bRefl w) (k := k) (by omega)
    have hxa := ha x (List.mem_of_getElem? hx)
    have HR : Hid (po (at_ i.op) + x.args = tk hs i) := by
      unfold tk; rw [if_pos e, hk, argsOf_at hx]; rfl
    have hk2 : k < hs.length := by omega
    have hz2 : b1 < w.heap.size + 1 := by omega
    have e' : (i.op == 22) = true := by simp [e]
    clear hx hv1 hi hh e h1 h2
    obtain ⟨op, a⟩ := i
    dsimp only at *
    subst hk
    go_enter Tryd.func147, Tryd.ntmps147
    go_wp2
    go_region_held3 (fun w' => w'.cell? ⟨w.heap.size, 0, none⟩ = some (.int .i64 op) ∧ w'.cell? ⟨w.heap.size, 1, none⟩ = some (.int .i64 k) ∧ w'.cell? ⟨b1, o1 + k * 2, none⟩ = some (.int .i64 x.args)) (go_keep)
      (first | (go_at_call 159; refine (pops_any _ _ (HT.out.below (by first | exact HB _ | exact (HB _).drew))).mono ?_; rintro e w1 ⟨rfl, hb1⟩; have hc1 := bcell (undrew hb1)))
    all_goals (go_wp2; go_ret; exact ⟨ret_int ((wrap_in (by omega) (by omega)).trans HR.out), bTrans (HB _) (undrew hb1)⟩)
  · have e' : (i.op == 22) = false := by simp [e]
    have HR : Hid (po (at_ i.op) = tk hs i) := by unfold tk; rw [if_neg e]; rfl
    clear e
    go_enter Tryd.func147, Tryd.ntmps147
    go_wp2_with (go_at_call 159; refine (pops_any _ _ (HT.out.below (by exact HB _))).mono ?_; rintro e w1 ⟨rfl, hb1⟩)
    go_ret
    exact ⟨ret_int HR.out, bTrans (HB _) hb1⟩

theorem tk_bd {hs : List PHnd} {n : Nat} {i : PIns} (ha : OkH hs) (hi : OkI hs n i) : 0 ≤ tk hs i ∧ tk hs i ≤ 6 := by
  have hp := po_bd i.op
  unfold tk
  split
  · rename_i e
    obtain ⟨h1, h2⟩ := hi.snd e
    obtain ⟨k, hk⟩ := Int.eq_ofNat_of_zero_le h1
    obtain ⟨x, hx⟩ := at_lt (l := hs) (k := k) (by omega)
    have := ha x (List.mem_of_getElem? hx)
    rw [hk, argsOf_at hx]
    omega
  · omega

set_option maxHeartbeats 2000000 in
theorem leaves_yes (w : World) (i : PIns) (d : Int) (vh : Value) (hs : List PHnd) (ht : Tab w) (hh : Hnds anyB anyB w vh hs) (ha : OkH hs) (n : Nat) (hi : OkI hs n i) (_h0 : 0 ≤ d) (_h8 : d ≤ 8) (ho : okI hs i d) :
    Calls Tryd.prog 120 #[.agg #[.int .i64 i.op, .int .i64 i.a], .int .i64 d, vh] w fun e w' => e = .returned (.tuple #[.int .i64 (lft hs i d), .bool true]) ∧ Below w.heap.size w w' := by
  have HB : ∀ (x : Obj), Below w.heap.size w (w.alloc x) := fun x => bAlloc (bRefl w) x
  have HT : Hid (Tab w) := ht
  have htk := tk_bd ha hi
  have hpt : 0 ≤ pu (at_ i.op) ∧ pu (at_ i.op) ≤ 2 := pt_bd i
  obtain ⟨A, c, rfl, hl⟩ := hh.form
  clear ht
  have e1 : tk hs i ≤ d := ho.1
  have e2 : d - tk hs i + pu (at_ i.op) ≤ 8 := ho.2
  clear ho
  go_enter Tryd.func120, Tryd.ntmps120
  go_wp2_with (first
    | (go_at_call 147; refine (takes_any _ i _ hs (HT.out.below (by exact HB _)) (hh.below (by exact HB _)) ha n hi).mono ?_; rintro e w1 ⟨rfl, hb1⟩; have hc1 := bcell hb1)
    | (go_at_call 148; refine (puts_any _ _ (HT.out.below (by exact bTrans (HB _) hb1))).mono ?_; rintro e w2 ⟨rfl, hb2⟩))
  go_ret2
  exact ⟨rfl, bTrans (bTrans (HB _) hb1) hb2⟩

set_option maxHeartbeats 2000000 in
theorem leaves_no (w : World) (i : PIns) (d : Int) (vh : Value) (hs : List PHnd) (ht : Tab w) (hh : Hnds anyB anyB w vh hs) (ha : OkH hs) (n : Nat) (hi : OkI hs n i) (h0 : 0 ≤ d) (h8 : d ≤ 8) (ho : ¬ okI hs i d) :
    Calls Tryd.prog 120 #[.agg #[.int .i64 i.op, .int .i64 i.a], .int .i64 d, vh] w fun e w' => e = .returned (.tuple #[.int .i64 (0), .bool false]) ∧ Below w.heap.size w w' := by
  have HB : ∀ (x : Obj), Below w.heap.size w (w.alloc x) := fun x => bAlloc (bRefl w) x
  have HT : Hid (Tab w) := ht
  have htk := tk_bd ha hi
  have hpt : 0 ≤ pu (at_ i.op) ∧ pu (at_ i.op) ≤ 2 := pt_bd i
  obtain ⟨A, c, rfl, hl⟩ := hh.form
  clear ht
  by_cases e1 : tk hs i ≤ d
  · have e2 : ¬ d - tk hs i + pu (at_ i.op) ≤ 8 := fun h => ho ⟨e1, h⟩
    clear ho
    go_enter Tryd.func120, Tryd.ntmps120
    go_wp2_with (first
      | (go_at_call 147; refine (takes_any _ i _ hs (HT.out.below (by exact HB _)) (hh.below (by exact HB _)) ha n hi).mono ?_; rintro e w1 ⟨rfl, hb1⟩; have hc1 := bcell hb1)
      | (go_at_call 148; refine (puts_any _ _ (HT.out.below (by exact bTrans (HB _) hb1))).mono ?_; rintro e w2 ⟨rfl, hb2⟩))
    go_ret2
    exact ⟨rfl, bTrans (bTrans (HB _) hb1) hb2⟩
  · clear ho
    go_enter Tryd.func120, Tryd.ntmps120
    go_wp2_with (first
      | (go_at_call 147; refine (takes_any _ i _ hs (HT.out.below (by exact HB _)) (hh.below (by exact HB _)) ha n hi).mono ?_; rintro e w1 ⟨rfl, hb1⟩; have hc1 := bcell hb1)
      | (go_at_call 148; refine (puts_any _ _ (HT.out.below (by exact bTrans (HB _) hb1))).mono ?_; rintro e w2 ⟨rfl, hb2⟩))
    go_ret2
    exact ⟨rfl, bTrans (bTrans (HB _) hb1) hb2⟩

/-- A list of numbers, in a block of its own that is new. -/
def Fol (B : Nat) (w : World) (v : Value) (l : List Nat) : Prop :=
  ∃ A c, v = .slice A l.length c ∧ l.length ≤ 2 ∧ (l = [] ∨ ∃ b, A = some ⟨b, 0, none⟩ ∧ B ≤ b ∧ b < w.heap.size ∧ ∀ (m j : Nat), l[m]? = some j → w.cell? ⟨b, m, none⟩ = some (.int .i64 (j : Int)))

set_option maxHeartbeats 2000000 in
theorem follow_any (w : World) (i : PIns) (k : Nat) (hs : List PHnd) (n : Nat) (hi : OkI hs n i) (hk : k ≤ 64) :
    Calls Tryd.prog 121 #[.agg #[.int .i64 i.op, .int .i64 i.a], .int .i64 (k : Int)] w fun e w' => ∃ v, e = .returned v ∧ Fol w.heap.size w' v (nxt i k) ∧ Below w.heap.size w w' := by
  have HB : ∀ (x : Obj), Below w.heap.size w (w.alloc x) := fun x => bAlloc (bRefl w) x
  by_cases e1 : i.op = 25
  · have e1' : (i.op == 25) = true := by simp [e1]
    have HN : Hid (nxt i k = []) := by unfold nxt; rw [if_pos e1]; rfl
    clear e1
    go_enter Tryd.func121, Tryd.ntmps121
    go_wp2
    go_ret
    exact ⟨_, rfl, by rw [HN.out]; exact ⟨_, _, rfl, by simp, Or.inl rfl⟩, HB _⟩
  · have e1' : (i.op == 25) = false := by simp [e1]
    by_cases e2 : i.op = 20
    · have e2' : (i.op == 20) = true := by simp [e2]
      obtain ⟨m, hm⟩ := Int.eq_ofNat_of_zero_le (hi.tgt (Or.inl e2)).1
      have HN : Hid (nxt i k = [m]) := by unfold nxt; rw [if_neg e1, if_pos e2, hm]; rfl
      clear e1 e2
      go_enter Tryd.func121, Tryd.ntmps121
      go_wp2
      go_ret
      refine ⟨_, rfl, ?_, bAlloc (HB _) _⟩
      rw [HN.out]
      refine ⟨_, _, rfl, by simp, Or.inr ⟨w.heap.size + 1, rfl, by omega, by simp, fun x j hx => ?_⟩⟩
      match x, hx with
      | 0, hx => simp at hx; subst hx; simp [go_sem]
    · have e2' : (i.op == 20) = false := by simp [e2]
      by_cases e3 : i.op = 21
      · have e3' : (i.op == 21) = true := by simp [e3]
        obtain ⟨m, hm⟩ := Int.eq_ofNat_of_zero_le (hi.tgt (Or.inr e3)).1
        have HN : Hid (nxt i k = [m, k + 1]) := by unfold nxt; rw [if_neg e1, if_neg e2, if_pos e3, hm]; rfl
        clear e1 e2 e3
        go_enter Tryd.func121, Tryd.ntmps121
        go_wp2
        go_ret
        refine ⟨_, rfl, ?_, bAlloc (HB _) _⟩
        rw [HN.out]
        refine ⟨_, _, rfl, by simp, Or.inr ⟨w.heap.size + 1, rfl, by omega, by simp, fun x j hx => ?_⟩⟩
        match x, hx with
        | 0, hx => simp at hx; subst hx; simp [go_sem]
        | 1, hx => simp at hx; subst hx; simp [go_sem]
      · have e3' : (i.op == 21) = false := by simp [e3]
        have HN : Hid (nxt i k = [k + 1]) := by unfold nxt; rw [if_neg e1, if_neg e2, if_neg e3]; rfl
        clear e1 e2 e3
        go_enter Tryd.func121, Tryd.ntmps121
        go_wp2
        go_ret
        refine ⟨_, rfl, ?_, bAlloc (HB _) _⟩
        rw [HN.out]
        refine ⟨_, _, rfl, by simp, Or.inr ⟨w.heap.size + 1, rfl, by omega, by simp, fun x j hx => ?_⟩⟩
        match x, hx with
        | 0, hx => simp at hx; subst hx; simp [go_sem]
end Go.Proofs.YtgdloonpemaijaaDoor
