/-
  Worlds as plain data; what it means that the memory holds one: readings, cell by cell, that stay where nothing old has turned. No conditions.
-/
import Derived.Test.YtgdloonpemaijaaDoorM9
import Derived.Test.YtgdloonpemaijaaDoorChk2
namespace Go.Proofs.YtgdloonpemaijaaDoor
open Go.RowKit

structure PLoc where
  regs : List Int
  armed : Bool
  down : Int
  sent : Int
  over : Int
  deriving DecidableEq, Inhabited
structure PBud where
  drop : Int
  dup : Int
  time : Int
  crash : Int
  deriving DecidableEq, Inhabited
structure PWld where
  acts : List PLoc
  mail : List PMsg
  used : PBud
  deriving DecidableEq, Inhabited

def rLoc (ok : Nat → Prop) (w : World) (b o : Nat) (x : PLoc) : Prop :=
  (∃ v, w.cell? ⟨b, o, none⟩ = some v ∧ Ints ok w v x.regs) ∧ w.cell? ⟨b, o + 1, none⟩ = some (.bool x.armed) ∧ w.cell? ⟨b, o + 2, none⟩ = some (.int .i64 x.down) ∧
  w.cell? ⟨b, o + 3, none⟩ = some (.int .i64 x.sent) ∧ w.cell? ⟨b, o + 4, none⟩ = some (.int .i64 x.over)
abbrev Locs (out inn : Nat → Prop) := Sl 5 (rLoc inn) out
abbrev lVal (x : PLoc) (c : Value) : Value := .agg #[c, .bool x.armed, .int .i64 x.down, .int .i64 x.sent, .int .i64 x.over]
def LocV (ok : Nat → Prop) (w : World) (v : Value) (x : PLoc) : Prop := ∃ c, v = lVal x c ∧ Ints ok w c x.regs
abbrev uVal (u : PBud) : Value := .agg #[.int .i64 u.drop, .int .i64 u.dup, .int .i64 u.time, .int .i64 u.crash]
abbrev wVal (u : PBud) (a b : Value) : Value := .agg #[a, b, .int .i64 u.drop, .int .i64 u.dup, .int .i64 u.time, .int .i64 u.crash]
def WldV (w : World) (v : Value) (x : PWld) : Prop := ∃ a b, v = wVal x.used a b ∧ Locs anyB anyB w a x.acts ∧ Msgs anyB anyB w b x.mail

section
variable {w w' : World} {ok ok' inn inn' : Nat → Prop} {v : Value}
theorem Locs.same {l : List PLoc} (h : Locs ok inn w v l) (s : Same ok w w') (t : Same inn w w') : Locs ok inn w' v l :=
  h.imp (fun _ h => h) s.size fun _ _ _ hk hb ⟨⟨c, h1, h2⟩, h3, h4, h5, h6⟩ => ⟨⟨c, (s.cell hk hb).trans h1, h2.same t⟩, (s.cell hk hb).trans h3, (s.cell hk hb).trans h4, (s.cell hk hb).trans h5, (s.cell hk hb).trans h6⟩
theorem Locs.below {l : List PLoc} (h : Locs ok inn w v l) (hb : Below w.heap.size w w') : Locs ok inn w' v l := h.same (Same.all hb) (Same.all hb)
theorem Locs.weak {l : List PLoc} (h : Locs ok inn w v l) (k : ∀ b, ok b → ok' b) (k' : ∀ b, inn b → inn' b) : Locs ok' inn' w v l :=
  h.imp k (Nat.le_refl _) fun _ _ _ _ _ ⟨⟨c, h1, h2⟩, h3⟩ => ⟨⟨c, h1, h2.weak k'⟩, h3⟩
theorem Locs.any2 {l : List PLoc} (h : Locs ok inn w v l) : Locs anyB anyB w v l := h.weak (fun _ _ => trivial) (fun _ _ => trivial)
theorem LocV.below {x : PLoc} (h : LocV ok w v x) (hb : Below w.heap.size w w') : LocV ok w' v x := let ⟨c, h1, h2⟩ := h; ⟨c, h1, h2.below hb⟩
theorem WldV.below {x : PWld} (h : WldV w v x) (hb : Below w.heap.size w w') : WldV w' v x := let ⟨a, b, h0, h1, h2⟩ := h; ⟨a, b, h0, h1.below hb, h2.below hb⟩
end
theorem Locs.cell {out inn : Nat → Prop} {w wr : World} {A : Option Addr} {n c : Nat} {l : List PLoc} (h : Locs out inn w (.slice A n c) l) (hb : Below w.heap.size w wr) {k : Nat} (hk : k < l.length) :
    ∃ b o x v, A = some ⟨b, o, none⟩ ∧ l[k]? = some x ∧ b < wr.heap.size ∧ wr.cell? ⟨b, o + k * 5, none⟩ = some v ∧ wr.cell? ⟨b, o + k * 5 + 1, none⟩ = some (.bool x.armed) ∧ wr.cell? ⟨b, o + k * 5 + 2, none⟩ = some (.int .i64 x.down) ∧
      wr.cell? ⟨b, o + k * 5 + 3, none⟩ = some (.int .i64 x.sent) ∧ wr.cell? ⟨b, o + k * 5 + 4, none⟩ = some (.int .i64 x.over) ∧ Ints inn wr v x.regs := by
  obtain ⟨x, hx⟩ := at_lt hk
  obtain ⟨b, o, rfl, _, hlt, hc⟩ := h.at (by omega)
  obtain ⟨⟨v, h1, h2⟩, h3, h4, h5, h6⟩ := hc k x hx
  exact ⟨b, o, x, v, rfl, hx, Nat.lt_of_lt_of_le hlt hb.size, (hb.cell (p := ⟨b, _, none⟩) hlt).trans h1, (hb.cell (p := ⟨b, _, none⟩) hlt).trans h3, (hb.cell (p := ⟨b, _, none⟩) hlt).trans h4, (hb.cell (p := ⟨b, _, none⟩) hlt).trans h5, (hb.cell (p := ⟨b, _, none⟩) hlt).trans h6, h2.below hb⟩

/-! ### What the document says, plainly -/
def chkUsed (u : PBud) : Bool := decide (0 ≤ u.drop) && (decide (0 ≤ u.dup) && (decide (0 ≤ u.time) && decide (0 ≤ u.crash)))
def chkLoc (a : PAct) (l : PLoc) : Bool :=
  ((l.regs.length : Int) == (a.regs.length : Int)) && (inB l.down 0 4 && (inB l.sent 0 2199023255551 && (inB l.over 0 2199023255551 && (!l.armed || (a.timer != -1)))))
def chkNt (p : PPrg) (n : PNte) : Bool := inB n.to 0 ((p.acs.length : Int) - 1) && (inB n.hd 0 ((p.hs.length : Int) - 1) && ((n.args.length : Int) == argsOf p.hs n.hd))
/-- How many names one may have given. -/
def sentP (x : PWld) (f : Int) : Int := if f = -1 then 16 else ((x.acts[f.toNat]?).map (·.sent)).getD 0
def chkD (x : PWld) (d : PID) : Bool := inB d.f (-1) ((x.acts.length : Int) - 1) && (inB d.n 0 (wrap64 (sentP x d.f - 1)) && inB d.c 0 x.used.dup)
def chkAs (p : PPrg) (l : List PLoc) : Bool := decide (l.length = p.acs.length ∧ ∀ i, i < l.length → chkLoc (p.acs.getD i default) (l.getD i default) = true)
def chkM (p : PPrg) (x : PWld) : Bool := x.mail.all (fun m => chkNt p m.nt && chkD x m.id) && srt x.mail

/-! ### Small functions -/
set_option maxHeartbeats 400000 in
theorem win_any (n lo hi : Int) (w : World) : Calls Tryd.prog 94 #[.int .i64 n, .int .i64 lo, .int .i64 hi] w fun e w' => e = .returned (.bool (inB n lo hi)) ∧ w' = w := by
  by_cases h : lo ≤ n
  · go_enter Tryd.func94, Tryd.ntmps94
    go_wp2
    go_ret
    exact ⟨ret_bool (by simp [inB, h]), rfl⟩
  · go_enter Tryd.func94, Tryd.ntmps94
    go_wp2
    go_ret
    exact ⟨ret_bool (by simp [inB]; omega), rfl⟩
theorem isActor_any (w : World) (v : Value) (p : PPrg) (n : Int) (h : PrgV w v p) :
    Calls Tryd.prog 135 #[v, .int .i64 n] w fun e w' => e = .returned (.bool (inB n 0 ((p.acs.length : Int) - 1))) ∧ Below w.heap.size w w' := by
  obtain ⟨va, vb, vc, rfl, h1, h2, h3⟩ := h
  obtain ⟨A2, c2, rfl, hl2⟩ := h2.form
  obtain ⟨A1, c1, rfl, hl1⟩ := h1.form
  obtain ⟨A3, c3, rfl, hl3⟩ := h3.form
  clear h1 h2 h3
  go_enter Tryd.func135, Tryd.ntmps135
  go_wp2_with (go_at_call 94; refine (win_any _ _ _ _).mono ?_; rintro e w' ⟨rfl, rfl⟩)
  go_ret
  exact ⟨rfl, bAlloc (bRefl _) _⟩
set_option maxHeartbeats 1000000 in
theorem chkUsed_any (w : World) (u : PBud) : Calls Tryd.prog 58 #[uVal u] w fun e w' => e = .returned (.bool (chkUsed u)) ∧ Below w.heap.size w w' := by
  by_cases h1 : 0 ≤ u.drop
  · by_cases h2 : 0 ≤ u.dup
    · by_cases h3 : 0 ≤ u.time
      · have HR : Hid (decide (0 ≤ u.crash) = chkUsed u) := by show _ = _; unfold chkUsed; simp [h1, h2, h3]
        go_enter Tryd.func58, Tryd.ntmps58
        go_wp2
        go_ret
        exact ⟨ret_b HR.out, bAlloc (bRefl _) _⟩
      · have HR : Hid (false = chkUsed u) := by show _ = _; unfold chkUsed; simp [h1, h2, h3]
        go_enter Tryd.func58, Tryd.ntmps58
        go_wp2
        go_ret
        exact ⟨ret_b HR.out, bAlloc (bRefl _) _⟩
    · have HR : Hid (false = chkUsed u) := by show _ = _; unfold chkUsed; simp [h1, h2]
      go_enter Tryd.func58, Tryd.ntmps58
      go_wp2
      go_ret
      exact ⟨ret_b HR.out, bAlloc (bRefl _) _⟩
  · have HR : Hid (false = chkUsed u) := by show _ = _; unfold chkUsed; simp [h1]
    go_enter Tryd.func58, Tryd.ntmps58
    go_wp2
    go_ret
    exact ⟨ret_b HR.out, bAlloc (bRefl _) _⟩
set_option maxHeartbeats 2000000 in
set_option maxRecDepth 100000 in
theorem chkLocal_any (w : World) (v1 v2 : Value) (a : PAct) (l : PLoc) (h1 : ActV w v1 a) (h2 : LocV anyB w v2 l) :
    Calls Tryd.prog 97 #[v1, v2] w fun e w' => e = .returned (.bool (chkLoc a l)) ∧ Below w.heap.size w w' := by
  obtain ⟨c1, rfl, h1⟩ := h1
  obtain ⟨c2, rfl, h2⟩ := h2
  obtain ⟨A1, d1, rfl, _⟩ := h1.form
  obtain ⟨A2, d2, rfl, _⟩ := h2.form
  have HB : ∀ (x y : Obj), Below w.heap.size w ((w.alloc x).alloc y) := fun x y => bAlloc (bAlloc (bRefl w) x) y
  clear h1 h2
  cases e1 : ((l.regs.length : Int) == (a.regs.length : Int)) with
  | false =>
    have HR : Hid (false = chkLoc a l) := by show _ = _; unfold chkLoc; rw [e1]; rfl
    go_enter Tryd.func97, Tryd.ntmps97
    go_wp2
    go_ret
    exact ⟨ret_b HR.out, HB _ _⟩
  | true =>
    cases e2 : inB l.down 0 4 with
    | false =>
      have HR : Hid (false = chkLoc a l) := by show _ = _; unfold chkLoc; rw [e1, e2]; rfl
      go_enter Tryd.func97, Tryd.ntmps97
      go_wp2_with (go_at_call 94; refine (win_any _ _ _ _).mono ?_; rintro e w' ⟨rfl, rfl⟩)
      go_ret
      exact ⟨ret_b HR.out, HB _ _⟩
    | true =>
      cases e3 : inB l.sent 0 2199023255551 with
      | false =>
        have HR : Hid (false = chkLoc a l) := by show _ = _; unfold chkLoc; rw [e1, e2, e3]; rfl
        go_enter Tryd.func97, Tryd.ntmps97
        go_wp2_with (go_at_call 94; refine (win_any _ _ _ _).mono ?_; rintro e w' ⟨rfl, rfl⟩)
        go_ret
        exact ⟨ret_b HR.out, HB _ _⟩
      | true =>
        cases e4 : inB l.over 0 2199023255551 with
        | false =>
          have HR : Hid (false = chkLoc a l) := by show _ = _; unfold chkLoc; rw [e1, e2, e3, e4]; rfl
          go_enter Tryd.func97, Tryd.ntmps97
          go_wp2_with (go_at_call 94; refine (win_any _ _ _ _).mono ?_; rintro e w' ⟨rfl, rfl⟩)
          go_ret
          exact ⟨ret_b HR.out, HB _ _⟩
        | true =>
          cases e5 : l.armed with
          | false =>
            have HR : Hid (true = chkLoc a l) := by show _ = _; unfold chkLoc; rw [e1, e2, e3, e4, e5]; rfl
            go_enter Tryd.func97, Tryd.ntmps97
            go_wp2_with (go_at_call 94; refine (win_any _ _ _ _).mono ?_; rintro e w' ⟨rfl, rfl⟩)
            go_ret
            exact ⟨ret_b HR.out, HB _ _⟩
          | true =>
            have HR : Hid ((a.timer != -1) = chkLoc a l) := by show _ = _; unfold chkLoc; rw [e1, e2, e3, e4, e5]; rfl
            go_enter Tryd.func97, Tryd.ntmps97
            go_wp2_with (go_at_call 94; refine (win_any _ _ _ _).mono ?_; rintro e w' ⟨rfl, rfl⟩)
            go_ret
            exact ⟨ret_b HR.out, HB _ _⟩
set_option maxHeartbeats 1000000 in
theorem sentBy_any (w : World) (v : Value) (x : PWld) (f : Int) (h : WldV w v x) (hf : f = -1 ∨ (0 ≤ f ∧ f < x.acts.length)) :
    Calls Tryd.prog 136 #[v, .int .i64 f] w fun e w' => e = .returned (.int .i64 (sentP x f)) ∧ Below w.heap.size w w' := by
  obtain ⟨va, vb, rfl, h1, h2⟩ := h
  obtain ⟨A1, c1, rfl, hl1⟩ := h1.form
  obtain ⟨A2, c2, rfl, hl2⟩ := h2.form
  by_cases e : f = -1
  · subst e
    go_enter Tryd.func136, Tryd.ntmps136
    go_wp2
    go_ret
    exact ⟨rfl, bAlloc (bRefl _) _⟩
  · have e' : (f == -1) = false := by simp [e]
    have hf' : 0 ≤ f ∧ f < x.acts.length := by omega
    obtain ⟨k, rfl⟩ := Int.eq_ofNat_of_zero_le hf'.1
    have hk : k < x.acts.length := by omega
    obtain ⟨b1, o1, y, v1, rfl, hx, hz1, q1, q2, q3, q4, q5, hv1⟩ := h1.cell (bRefl w) hk
    have HR : Hid (y.sent = sentP x (k : Int)) := by show _ = _; unfold sentP; rw [if_neg e, Int.toNat_natCast, hx]; rfl
    clear hx hf hf' e h1 h2 hv1
    go_enter Tryd.func136, Tryd.ntmps136
    go_wp2
    go_ret
    exact ⟨ret_i HR.out, bAlloc (bRefl _) _⟩
set_option maxHeartbeats 1000000 in
theorem firstN_any (w : World) (v : Value) (x : PWld) (f n : Int) (h : WldV w v x) (hf : f = -1 ∨ (0 ≤ f ∧ f < x.acts.length)) :
    Calls Tryd.prog 95 #[v, .int .i64 f, .int .i64 n] w fun e w' => e = .returned (.int .i64 (if f = -1 then 0 else wrap64 (sentP x f - n))) ∧ Below w.heap.size w w' := by
  obtain ⟨va, vb, rfl, h1, h2⟩ := h
  obtain ⟨A1, c1, rfl, hl1⟩ := h1.form
  obtain ⟨A2, c2, rfl, hl2⟩ := h2.form
  by_cases e : f = -1
  · subst e
    rw [if_pos rfl]
    go_enter Tryd.func95, Tryd.ntmps95
    go_wp2
    go_ret
    exact ⟨rfl, bAlloc (bRefl _) _⟩
  · have e' : (f == -1) = false := by simp [e]
    have hf' : 0 ≤ f ∧ f < x.acts.length := by omega
    rw [if_neg e]
    obtain ⟨k, rfl⟩ := Int.eq_ofNat_of_zero_le hf'.1
    have hk : k < x.acts.length := by omega
    obtain ⟨b1, o1, y, v1, rfl, hx, hz1, q1, q2, q3, q4, q5, hv1⟩ := h1.cell (bRefl w) hk
    have HR : Hid (y.sent = sentP x (k : Int)) := by show _ = _; unfold sentP; rw [if_neg e, Int.toNat_natCast, hx]; rfl
    clear hx hf hf' e h1 h2 hv1
    go_enter Tryd.func95, Tryd.ntmps95
    go_wp2
    go_ret
    exact ⟨ret_i (by rw [← HR.out]), bAlloc (bRefl _) _⟩
end Go.Proofs.YtgdloonpemaijaaDoor
