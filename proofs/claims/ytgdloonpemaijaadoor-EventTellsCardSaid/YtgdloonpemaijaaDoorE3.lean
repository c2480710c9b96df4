/-
  What may happen, as plain data; package event's small functions: May, Left, and whether an event may be of a message, or of an actor. Conditions: numbers of 64 bits; whom a message goes to is there. What is left of a budget (event.Left); whether an event may be of an actor, or of a message. Conditions: whom a message goes to is there. Whether an event may be of an actor, of a message; whether anything may happen (event.ofActor, ofMessage, fits). Conditions: whom a message goes to is there; of fits: the table of the instructions is in the world.
-/
import Derived.Test.YtgdloonpemaijaaDoorW3
import Derived.Test.YtgdloonpemaijaaDoorW5
import Derived.Deep.RegionHeld3
namespace Go.Proofs.YtgdloonpemaijaaDoor
open Go.RowKit
structure PEv where
  kind : Int
  id : PID
  who : Int
  deriving DecidableEq, Inhabited
abbrev eVal (e : PEv) : Value := .agg #[.int .i64 e.kind, .int .i64 e.id.f, .int .i64 e.id.n, .int .i64 e.id.c, .int .i64 e.who]
def mayB (b : PBud) : Bool := inB b.drop 0 1000 && (inB b.dup 0 1000 && (inB b.time 0 1000 && inB b.crash 0 1000))
def restI (a b : Int) : Int := if wrap64 (a - b) > 0 then wrap64 (a - b) else 0
def leftB (b u : PBud) : PBud := ⟨restI b.drop u.drop, restI b.dup u.dup, restI b.time u.time, restI b.crash u.crash⟩
def ofM (l : PBud) (x : PWld) (k : Int) (m : PMsg) : Bool := if k = 1 then decide ((x.acts.getD m.nt.to.toNat default).down = 0) else if k = 2 then decide (0 < l.drop) else if k = 3 then decide (0 < l.dup) else false
def ofA (l : PBud) (k : Int) (a : PLoc) : Bool := if k = 4 then decide (a.down = 0) && a.armed && decide (0 < l.time) else if k = 5 then decide (a.down = 0) && decide (0 < l.crash) else false
noncomputable def fitsP (p : PPrg) (b : PBud) (x : PWld) : Bool := mayB b && chkW p x
set_option maxHeartbeats 400000 in
theorem mayBe_any (n : Int) (w : World) : Calls Tryd.prog 81 #[.int .i64 n] w fun e w' => e = .returned (.bool (inB n 0 1000)) ∧ w' = w := by
  by_cases h : 0 ≤ n
  · go_enter Tryd.func81, Tryd.ntmps81
    go_wp2
    go_ret
    exact ⟨ret_bool (by simp [inB, h]), rfl⟩
  · go_enter Tryd.func81, Tryd.ntmps81
    go_wp2
    go_ret
    exact ⟨ret_bool (by simp [inB]; omega), rfl⟩
theorem run_max0 (P : Program) (w : World) (ts : Array TypeId) (t : TypeId) (a b : Int) : (Builtin.max_ ts t #[.int .i64 0, .int .i64 (wrap64 (a - b))]).run P w = .ok (.int .i64 (restI a b)) w := by
  rw [run_max_int2]; rfl
section
attribute [local go_sem ↓] run_max0
theorem rest_any (a b : Int) (w : World) : Calls Tryd.prog 79 #[.int .i64 a, .int .i64 b] w fun e w' => e = .returned (.int .i64 (restI a b)) ∧ w' = w := by
  go_enter Tryd.func79, Tryd.ntmps79
  go_wp2
  go_ret
  exact ⟨rfl, rfl⟩
end
theorem runs_any (w : World) (x : PLoc) (c : Value) : Calls Tryd.prog 110 #[lVal x c] w fun e w' => e = .returned (.bool (decide (x.down = 0))) ∧ Below w.heap.size w w' := by
  go_enter Tryd.func110, Tryd.ntmps110
  go_wp2
  go_ret
  exact ⟨ret_b rfl, bAlloc (bRefl _) _⟩
set_option maxHeartbeats 1000000 in
theorem may_any (w : World) (b : PBud) : Calls Tryd.prog 37 #[uVal b] w fun e w' => e = .returned (.bool (mayB b)) ∧ Below w.heap.size w w' := by
  cases h1 : inB b.drop 0 1000
  · have HR : Hid (false = mayB b) := by show _ = _; unfold mayB; simp [h1]
    go_enter Tryd.func37, Tryd.ntmps37
    go_wp2_with (first | (go_at_call 81; refine (mayBe_any _ _).mono ?_; rintro e w2 ⟨rfl, rfl⟩))
    go_ret
    exact ⟨ret_b HR.out, bAlloc (bRefl _) _⟩
  · cases h2 : inB b.dup 0 1000
    · have HR : Hid (false = mayB b) := by show _ = _; unfold mayB; simp [h1, h2]
      go_enter Tryd.func37, Tryd.ntmps37
      go_wp2_with (first | (go_at_call 81; refine (mayBe_any _ _).mono ?_; rintro e w2 ⟨rfl, rfl⟩))
      go_ret
      exact ⟨ret_b HR.out, bAlloc (bRefl _) _⟩
    · cases h3 : inB b.time 0 1000
      · have HR : Hid (false = mayB b) := by show _ = _; unfold mayB; simp [h1, h2, h3]
        go_enter Tryd.func37, Tryd.ntmps37
        go_wp2_with (first | (go_at_call 81; refine (mayBe_any _ _).mono ?_; rintro e w2 ⟨rfl, rfl⟩))
        go_ret
        exact ⟨ret_b HR.out, bAlloc (bRefl _) _⟩
      · have HR : Hid (inB b.crash 0 1000 = mayB b) := by show _ = _; unfold mayB; simp [h1, h2, h3]
        go_enter Tryd.func37, Tryd.ntmps37
        go_wp2_with (first | (go_at_call 81; refine (mayBe_any _ _).mono ?_; rintro e w2 ⟨rfl, rfl⟩))
        go_ret
        exact ⟨ret_b HR.out, bAlloc (bRefl _) _⟩
theorem three_nw (w : World) (X Y Z : Obj) : (((w.alloc X).alloc Y).alloc Z).heap[w.heap.size]? = some X ∧ (((w.alloc X).alloc Y).alloc Z).heap[w.heap.size + 1]? = some Y ∧ (((w.alloc X).alloc Y).alloc Z).heap[w.heap.size + 1 + 1]? = some Z ∧ (((w.alloc X).alloc Y).alloc Z).heap.size = w.heap.size + 3 := by
  refine ⟨?_, ?_, ?_, by simp⟩
  · rw [Below.heap_alloc _ _ _ (by simp <;> omega), Below.heap_alloc _ _ _ (by simp)]; exact heap_new _ _
  · rw [Below.heap_alloc _ _ _ (by simp)]; exact heap_new2 (by simp)
  · exact heap_new2 (by simp)
theorem left_below {w w1 : World} {a0 a1 a2 a3 : Value} (h : Below w.heap.size w w1) : Below w.heap.size w ((((w1.setCell ⟨w.heap.size + 1 + 1, 0, none⟩ a0).setCell ⟨w.heap.size + 1 + 1, 1, none⟩ a1).setCell ⟨w.heap.size + 1 + 1, 2, none⟩ a2).setCell ⟨w.heap.size + 1 + 1, 3, none⟩ a3) :=
  (((h.setCell (p := ⟨_, 0, none⟩) (by show w.heap.size ≤ w.heap.size + 1 + 1; omega) _).setCell (p := ⟨_, 1, none⟩) (by show w.heap.size ≤ w.heap.size + 1 + 1; omega) _).setCell (p := ⟨_, 2, none⟩) (by show w.heap.size ≤ w.heap.size + 1 + 1; omega) _).setCell (p := ⟨_, 3, none⟩) (by show w.heap.size ≤ w.heap.size + 1 + 1; omega) _
set_option maxHeartbeats 8000000 in
set_option maxRecDepth 100000 in
theorem left_any (w : World) (b u : PBud) (A1 : Option Addr) (n1 c1 : Nat) (A2 : Option Addr) (n2 c2 : Nat) : Calls Tryd.prog 35 #[uVal b, wVal u (.slice A1 n1 c1) (.slice A2 n2 c2)] w fun e w' => e = .returned (uVal (leftB b u)) ∧ Below w.heap.size w w' := by
  go_enter Tryd.func35, Tryd.ntmps35
  go_wp2_with fail
  obtain ⟨h0, h1, h2, h3⟩ := three_nw w (.cells #[.int .i64 b.drop, .int .i64 b.dup, .int .i64 b.time, .int .i64 b.crash] 42) (.cells #[.slice A1 n1 c1, .slice A2 n2 c2, .int .i64 u.drop, .int .i64 u.dup, .int .i64 u.time, .int .i64 u.crash] 44) (.cells #[.int .i64 0, .int .i64 0, .int .i64 0, .int .i64 0] 42)
  have HL : Hid (Below w.heap.size w (((w.alloc (.cells #[.int .i64 b.drop, .int .i64 b.dup, .int .i64 b.time, .int .i64 b.crash] 42)).alloc (.cells #[.slice A1 n1 c1, .slice A2 n2 c2, .int .i64 u.drop, .int .i64 u.dup, .int .i64 u.time, .int .i64 u.crash] 44)).alloc (.cells #[.int .i64 0, .int .i64 0, .int .i64 0, .int .i64 0] 42))) := bAlloc (bAlloc (bAlloc (bRefl _) _) _) _
  generalize (((w.alloc (.cells #[.int .i64 b.drop, .int .i64 b.dup, .int .i64 b.time, .int .i64 b.crash] 42)).alloc (.cells #[.slice A1 n1 c1, .slice A2 n2 c2, .int .i64 u.drop, .int .i64 u.dup, .int .i64 u.time, .int .i64 u.crash] 44)).alloc (.cells #[.int .i64 0, .int .i64 0, .int .i64 0, .int .i64 0] 42)) = w1 at h0 h1 h2 h3 HL ⊢
  obtain ⟨p0, p1, p2, p3⟩ := blk4 h0
  obtain ⟨q0, q1, q2, q3, q4, q5⟩ := blk6 h1
  obtain ⟨r0, r1, r2, r3⟩ := blk4 h2
  have ff : ∀ o, w1.frozen? ⟨w.heap.size + 1 + 1, o, none⟩ = false := fun o => heap_frozen h2
  have fd : ∀ o, w1.drew.frozen? ⟨w.heap.size + 1 + 1, o, none⟩ = false := ff
  have z2 : w.heap.size + 1 + 1 < w1.heap.size := by omega
  have z1 : w.heap.size + 1 < w1.heap.size := by omega
  have z0 : w.heap.size < w1.heap.size := by omega
  have n1 : ¬ (w.heap.size + 1 + 1 = w.heap.size) := by omega
  have n2 : ¬ (w.heap.size = w.heap.size + 1 + 1) := by omega
  clear h0 h1 h2 h3
  go_region_held3 (fun w' => w'.cell? ⟨w.heap.size, 0, none⟩ = some (.int .i64 b.drop) ∧ w'.cell? ⟨w.heap.size, 1, none⟩ = some (.int .i64 b.dup) ∧ w'.cell? ⟨w.heap.size, 2, none⟩ = some (.int .i64 b.time) ∧ w'.cell? ⟨w.heap.size, 3, none⟩ = some (.int .i64 b.crash) ∧ w'.cell? ⟨w.heap.size + 1, 2, none⟩ = some (.int .i64 u.drop) ∧ w'.cell? ⟨w.heap.size + 1, 3, none⟩ = some (.int .i64 u.dup) ∧ w'.cell? ⟨w.heap.size + 1, 4, none⟩ = some (.int .i64 u.time) ∧ w'.cell? ⟨w.heap.size + 1, 5, none⟩ = some (.int .i64 u.crash)) (go_keep)
    (first
      | (go_at_call 79; refine (rest_any _ _ _).mono ?_; rintro e w2 ⟨rfl, rfl⟩))
  all_goals
    go_wp2_with fail
    exact bodyPost_ret (v := uVal (leftB b u)) (by simp [results, Tryd.results35, go_sem, r0, r1, r2, r3, leftB]) rfl ⟨rfl, left_below HL.out.drew⟩
set_option maxHeartbeats 2000000 in
theorem ofAct_any (w : World) (l : PBud) (k : Int) (a : PLoc) (A : Option Addr) (n c : Nat) : Calls Tryd.prog 74 #[uVal l, .int .i64 k, lVal a (.slice A n c)] w fun e w' => e = .returned (.bool (ofA l k a)) ∧ Below w.heap.size w w' := by
  have HB3 : Hid (∀ X Y : Obj, Below w.heap.size w ((w.alloc X).alloc Y)) := fun X Y => bAlloc (bAlloc (bRefl _) _) _
  obtain ⟨rg, ar, dn, st, ov⟩ := a
  by_cases h4 : k = 4
  · subst h4
    by_cases hd : dn = 0
    · have hd' : decide (dn = 0) = true := decide_eq_true hd
      cases ar
      · have HR : Hid (false = ofA l 4 ⟨rg, false, dn, st, ov⟩) := by show _ = _; unfold ofA; simp
        clear hd
        go_enter Tryd.func74, Tryd.ntmps74
        go_wp2_with (first | (go_at_call 110; refine (runs_any _ ⟨rg, false, dn, st, ov⟩ _).mono ?_; rintro e w2 ⟨rfl, hb2⟩; have hc2 := bcell hb2; have HB := hid_mk hb2))
        go_ret
        exact ⟨ret_b HR.out, bTrans (HB3.out _ _) HB.out⟩
      · have HR : Hid (decide (0 < l.time) = ofA l 4 ⟨rg, true, dn, st, ov⟩) := by show _ = _; unfold ofA; simp [hd]
        clear hd
        go_enter Tryd.func74, Tryd.ntmps74
        go_wp2_with (first | (go_at_call 110; refine (runs_any _ ⟨rg, true, dn, st, ov⟩ _).mono ?_; rintro e w2 ⟨rfl, hb2⟩; have hc2 := bcell hb2; have HB := hid_mk hb2))
        go_ret
        exact ⟨ret_b HR.out, bTrans (HB3.out _ _) HB.out⟩
    · have hd' : decide (dn = 0) = false := decide_eq_false hd
      have HR : Hid (false = ofA l 4 ⟨rg, ar, dn, st, ov⟩) := by show _ = _; unfold ofA; simp [hd]
      clear hd
      go_enter Tryd.func74, Tryd.ntmps74
      go_wp2_with (first | (go_at_call 110; refine (runs_any _ ⟨rg, ar, dn, st, ov⟩ _).mono ?_; rintro e w2 ⟨rfl, hb2⟩; have hc2 := bcell hb2; have HB := hid_mk hb2))
      go_ret
      exact ⟨ret_b HR.out, bTrans (HB3.out _ _) HB.out⟩
  · by_cases h5 : k = 5
    · subst h5
      by_cases hd : dn = 0
      · have hd' : decide (dn = 0) = true := decide_eq_true hd
        have HR : Hid (decide (0 < l.crash) = ofA l 5 ⟨rg, ar, dn, st, ov⟩) := by show _ = _; unfold ofA; simp [hd]
        clear hd
        go_enter Tryd.func74, Tryd.ntmps74
        go_wp2_with (first | (go_at_call 110; refine (runs_any _ ⟨rg, ar, dn, st, ov⟩ _).mono ?_; rintro e w2 ⟨rfl, hb2⟩; have hc2 := bcell hb2; have HB := hid_mk hb2))
        go_ret
        exact ⟨ret_b HR.out, bTrans (HB3.out _ _) HB.out⟩
      · have hd' : decide (dn = 0) = false := decide_eq_false hd
        have HR : Hid (false = ofA l 5 ⟨rg, ar, dn, st, ov⟩) := by show _ = _; unfold ofA; simp [hd]
        clear hd
        go_enter Tryd.func74, Tryd.ntmps74
        go_wp2_with (first | (go_at_call 110; refine (runs_any _ ⟨rg, ar, dn, st, ov⟩ _).mono ?_; rintro e w2 ⟨rfl, hb2⟩; have hc2 := bcell hb2; have HB := hid_mk hb2))
        go_ret
        exact ⟨ret_b HR.out, bTrans (HB3.out _ _) HB.out⟩
    · have HR : Hid (false = ofA l k ⟨rg, ar, dn, st, ov⟩) := by show _ = _; unfold ofA; simp [h4, h5]
      go_enter Tryd.func74, Tryd.ntmps74
      go_wp2
      go_ret
      exact ⟨ret_b HR.out, bAlloc (bAlloc (bRefl _) _) _⟩
set_option maxHeartbeats 2000000 in
theorem ofMsg_any (w : World) (l : PBud) (x : PWld) (k : Int) (m : PMsg) (A : Option Addr) (n c : Nat) (A1 : Option Addr) (c1 : Nat) (A2 : Option Addr) (n2 c2 : Nat) (hx : Locs anyB anyB w (.slice A1 x.acts.length c1) x.acts) (h0 : 0 ≤ m.nt.to) (h1 : m.nt.to < x.acts.length) :
    Calls Tryd.prog 73 #[uVal l, wVal x.used (.slice A1 x.acts.length c1) (.slice A2 n2 c2), .int .i64 k, mVal m (.slice A n c)] w fun e w' => e = .returned (.bool (ofM l x k m)) ∧ Below w.heap.size w w' := by
  by_cases hk1 : k = 1
  · subst hk1
    obtain ⟨j, hj⟩ : ∃ j : Nat, m.nt.to = j := ⟨m.nt.to.toNat, by omega⟩
    have hjl : j < x.acts.length := by omega
    have hji : (j : Int) < x.acts.length := by omega
    have HB3 : Hid (∀ X Y Z : Obj, Below w.heap.size w (((w.alloc X).alloc Y).alloc Z)) := fun X Y Z => bAlloc (bAlloc (bAlloc (bRefl _) _) _) _
    obtain ⟨b, o, a, v, rfl, ha, hz, q1, q2, q3, q4, q5, hv⟩ := hx.cell (bRefl w) hjl
    obtain ⟨V, nv, rfl, _⟩ := hv.form
    have HR : Hid (decide (a.down = 0) = ofM l x 1 m) := by show _ = _; unfold ofM; simp [hj, List.getD_eq_getElem?_getD, ha]
    have r1 := fun X Y Z => ((HB3.out X Y Z).cell (p := ⟨b, _, none⟩) hz).trans q1
    have r2 := fun X Y Z => ((HB3.out X Y Z).cell (p := ⟨b, _, none⟩) hz).trans q2
    have r3 := fun X Y Z => ((HB3.out X Y Z).cell (p := ⟨b, _, none⟩) hz).trans q3
    have r4 := fun X Y Z => ((HB3.out X Y Z).cell (p := ⟨b, _, none⟩) hz).trans q4
    have r5 := fun X Y Z => ((HB3.out X Y Z).cell (p := ⟨b, _, none⟩) hz).trans q5
    clear hv ha h0 h1 hx q1 q2 q3 q4 q5
    obtain ⟨⟨i1, i2, i3⟩, ⟨t, d, ar⟩⟩ := m
    simp only at hj
    subst hj
    go_enter Tryd.func73, Tryd.ntmps73
    go_wp2_with (first | (go_at_call 110; refine (runs_any _ a _).mono ?_; rintro e w2 ⟨rfl, hb2⟩; have HB := hid_mk hb2))
    go_ret
    exact ⟨ret_b HR.out, bTrans (HB3.out _ _ _) HB.out⟩
  · clear hx h0 h1
    by_cases hk2 : k = 2
    · subst hk2
      have HR : Hid (decide (0 < l.drop) = ofM l x 2 m) := by show _ = _; unfold ofM; simp
      go_enter Tryd.func73, Tryd.ntmps73
      go_wp2
      go_ret
      exact ⟨ret_b HR.out, bAlloc (bAlloc (bAlloc (bRefl _) _) _) _⟩
    · by_cases hk3 : k = 3
      · subst hk3
        have HR : Hid (decide (0 < l.dup) = ofM l x 3 m) := by show _ = _; unfold ofM; simp
        go_enter Tryd.func73, Tryd.ntmps73
        go_wp2
        go_ret
        exact ⟨ret_b HR.out, bAlloc (bAlloc (bAlloc (bRefl _) _) _) _⟩
      · have HR : Hid (false = ofM l x k m) := by show _ = _; unfold ofM; simp [hk1, hk2, hk3]
        go_enter Tryd.func73, Tryd.ntmps73
        go_wp2
        go_ret
        exact ⟨ret_b HR.out, bAlloc (bAlloc (bAlloc (bRefl _) _) _) _⟩
set_option maxHeartbeats 2000000 in
theorem fits_any (w : World) (vp vw : Value) (p : PPrg) (b : PBud) (x : PWld) (ht : Tab w) (hp : PrgV w vp p) (hx : WldV w vw x) : Calls Tryd.prog 71 #[vp, uVal b, vw] w fun e w' => e = .returned (.bool (fitsP p b x)) ∧ Below w.heap.size w w' := by
  have HP := hid_mk hp
  have HX := hid_mk hx
  have HT := hid_mk ht
  obtain ⟨vh, vb, vc, rfl, h1, h2, h3⟩ := hp
  obtain ⟨A1, c1, rfl, _⟩ := h1.form
  obtain ⟨A2, c2, rfl, _⟩ := h2.form
  obtain ⟨A3, c3, rfl, _⟩ := h3.form
  obtain ⟨va, vm, rfl, g1, g2⟩ := hx
  obtain ⟨B1, d1, rfl, _⟩ := g1.form
  obtain ⟨B2, d2, rfl, _⟩ := g2.form
  have HB3 : Hid (∀ X Y Z : Obj, Below w.heap.size w (((w.alloc X).alloc Y).alloc Z)) := fun X Y Z => bAlloc (bAlloc (bAlloc (bRefl _) _) _) _
  clear h1 h2 h3 g1 g2 ht
  cases hm : mayB b
  · have HR : Hid (false = fitsP p b x) := by show _ = _; unfold fitsP; simp [hm]
    go_enter Tryd.func71, Tryd.ntmps71
    go_wp2_with (first | (go_at_call 37; refine (may_any _ b).mono ?_; rintro e w2 ⟨rfl, hb2⟩; have hc2 := bcell hb2; have HB := hid_mk hb2))
    go_ret
    exact ⟨ret_b HR.out, bTrans (HB3.out _ _ _) HB.out⟩
  · have HR : Hid (chkW p x = fitsP p b x) := by show _ = _; unfold fitsP; simp [hm]
    go_enter Tryd.func71, Tryd.ntmps71
    go_wp2_with (first | (go_at_call 37; refine (may_any _ b).mono ?_; rintro e w2 ⟨rfl, hb2⟩; have hc2 := bcell hb2; have HB := hid_mk (bTrans (HB3.out _ _ _) hb2)) | (go_at_call 22; refine (check_W _ _ _ p x (HT.out.below HB.out) (HP.out.below HB.out) (HX.out.below HB.out)).mono ?_; rintro e w3 ⟨rfl, hb3⟩; have HB2 := hid_mk (bTrans HB.out hb3)))
    go_ret
    exact ⟨ret_b HR.out, HB2.out⟩
end Go.Proofs.YtgdloonpemaijaaDoor
