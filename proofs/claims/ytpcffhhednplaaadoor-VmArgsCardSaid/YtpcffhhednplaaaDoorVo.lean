/-
  A program of one handler and two actors, and a state of two registers, as the laws make them. No conditions.
-/
import Derived.Test.YtpcffhhednplaaaDoorVu2
import Derived.Test.YtpcffhhednplaaaDoorCrit
namespace Go.Proofs.YtpcffhhednplaaaDoor
open Go.RowKit
attribute [local go_sem ↓] Go.wp_at_zero Go.wp_at_succ

theorem sl1 {α : Type} {sz : Nat} {R : World → Nat → Nat → α → Prop} {ok : Nat → Prop} {w : World} {b o c : Nat} {x : α} (hk : ok b) (hb : b < w.heap.size) (h : R w b o x) : Sl sz R ok w (.slice (some ⟨b, o, none⟩) 1 c) [x] :=
  ⟨_, c, rfl, by simp, Or.inr ⟨b, o, rfl, hk, hb, fun k y hy => by
    match k, hy with
    | 0, hy => simp at hy; subst hy; simpa using h⟩⟩
theorem sl2 {α : Type} {sz : Nat} {R : World → Nat → Nat → α → Prop} {ok : Nat → Prop} {w : World} {b o c : Nat} {x y : α} (hk : ok b) (hb : b < w.heap.size) (h : R w b o x) (h2 : R w b (o + sz) y) : Sl sz R ok w (.slice (some ⟨b, o, none⟩) 2 c) [x, y] :=
  ⟨_, c, rfl, by simp, Or.inr ⟨b, o, rfl, hk, hb, fun k z hz => by
    match k, hz with
    | 0, hz => simp at hz; subst hz; simpa using h
    | 1, hz => simp at hz; subst hz; simpa using h2⟩⟩
def oneP (fuel : Int) (code : List PIns) : PPrg := ⟨[⟨0, code⟩], [⟨[0, 0], 0, 0, false⟩, ⟨[], 0, -1, false⟩], [], fuel⟩
def locP (a b : Int) : PLoc := ⟨[a, b], false, 0, 0, 0⟩

set_option maxHeartbeats 1000000 in
set_option maxRecDepth 100000 in
theorem mk1_any (ok : Nat → Prop) (w : World) (fuel : Int) (vc : Value) (code : List PIns) (h : Code ok w vc code) :
    Calls Tryd.prog 18 #[.int .i64 fuel, vc] w fun e w' => ∃ v1 c1 v2 c2, e = .returned (.agg #[.slice v1 1 c1, .slice v2 2 c2, .slice none 0 0, .int .i64 fuel]) ∧ PrgV w' (.agg #[.slice v1 1 c1, .slice v2 2 c2, .slice none 0 0, .int .i64 fuel]) (oneP fuel code) ∧ Below w.heap.size w w' := by
  obtain ⟨A, c, rfl, hl⟩ := h.form
  have HC : Hid (Code anyB w (.slice A code.length c) code) := h.any
  clear h
  go_enter Tryd.func18, Tryd.ntmps18
  go_wp2
  refine bodyPost_ret (v := .agg #[.slice (some ⟨w.heap.size + 1, 0, none⟩) 1 1, .slice (some ⟨w.heap.size + 1 + 1 + 1, 0, none⟩) 2 2, .slice none 0 0, .int .i64 fuel]) (by simp [results, Tryd.results18, go_sem]) rfl ⟨_, _, _, _, rfl, ?_, bAlloc (bAlloc (bAlloc (bAlloc (bRefl w) _) _) _) _⟩
  have hb : ∀ (o1 o2 o3 o4 : Obj), Below w.heap.size w ((((w.alloc o1).alloc o2).alloc o3).alloc o4) := fun _ _ _ _ => bAlloc (bAlloc (bAlloc (bAlloc (bRefl w) _) _) _) _
  refine ⟨_, _, _, rfl, ?_, ?_, sl0⟩
  · exact sl1 trivial (by simp) ⟨(by simp [go_sem]; try rfl), .slice A code.length c, (by simp [go_sem]; try rfl), HC.out.below (hb _ _ _ _)⟩
  · exact sl2 trivial (by simp) ⟨⟨.slice (some ⟨w.heap.size + 1 + 1, 0, none⟩) 2 2, (by simp [go_sem]; try rfl), sl2 trivial (by simp) (by simp [rInt, go_sem]; try rfl) (by simp [rInt, go_sem]; try rfl)⟩, (by simp [go_sem]; try rfl), (by simp [go_sem]; try rfl), (by simp [go_sem]; try rfl)⟩ ⟨⟨.slice none 0 0, (by simp [go_sem]; try rfl), sl0⟩, (by simp [go_sem]; try rfl), (by simp [go_sem]; try rfl), (by simp [go_sem]; try rfl)⟩
set_option maxHeartbeats 1000000 in
theorem local_any (w : World) (a b : Int) :
    Calls Tryd.prog 19 #[.int .i64 a, .int .i64 b] w fun e w' => ∃ A, e = .returned (.agg #[.slice (some A) 2 2, .bool false, .int .i64 0, .int .i64 0, .int .i64 0]) ∧ LocV (fun x => w.heap.size ≤ x) w' (.agg #[.slice (some A) 2 2, .bool false, .int .i64 0, .int .i64 0, .int .i64 0]) (locP a b) ∧ Below w.heap.size w w' := by
  go_enter Tryd.func19, Tryd.ntmps19
  go_wp2
  refine bodyPost_ret (v := .agg #[.slice (some ⟨w.heap.size + 1, 0, none⟩) 2 2, .bool false, .int .i64 0, .int .i64 0, .int .i64 0]) (by simp [results, Tryd.results19, go_sem]) rfl ⟨_, rfl, ⟨_, rfl, ?_⟩, bAlloc (bAlloc (bRefl w) _) _⟩
  exact sl2 (by omega) (by simp) (by simp [rInt, go_sem]) (by simp [rInt, go_sem])
end Go.Proofs.YtpcffhhednplaaaDoor
