/-
  What Depths, Most and Check answer of a program. Condition: the table of the instructions is in the world.
-/
import Derived.Test.YtgdloonpemaijaaDoorWalk
import Derived.Test.YtgdloonpemaijaaDoorChk3
namespace Go.Proofs.YtgdloonpemaijaaDoor
open Go.RowKit
attribute [local go_sem ↓] Go.wp_at_zero Go.wp_at_succ

theorem scan_zero {α : Type} {f : α → Int} : ∀ {l : List α}, scan f l = 0 → ∀ x ∈ l, f x = 0
  | [], _, x, hx => by cases hx
  | y :: r, h, x, hx => by
    unfold scan at h
    by_cases e : f y = 0
    · rw [if_pos e] at h
      rcases List.mem_cons.1 hx with rfl | hx
      · exact e
      · exact scan_zero h x hx
    · rw [if_neg e] at h; exact absurd h e
theorem okI_of {hs : List PHnd} {n : Nat} {args : Int} {i : PIns} (h : chkI n args hs.length i = 0) : OkI hs n i := by
  have hv : vl i.op = true := by
    cases e : vl i.op with
    | true => rfl
    | false => rw [← chkI_bad e] at h; cases h
  refine ⟨hv, fun e => ?_, fun e => ?_⟩
  · have ho : opd i.op = 4 := by rcases e with e | e <;> (rw [e]; decide)
    rw [← chkI_4 hv ho] at h
    unfold unl inB at h
    by_cases hr : 0 ≤ i.a ∧ i.a ≤ n
    · exact hr
    · rw [decide_eq_false hr] at h; simp at h
  · have ho : opd i.op = 5 := by rw [e]; decide
    rw [← chkI_5 hv ho] at h
    unfold unl inB at h
    by_cases hr : 0 ≤ i.a ∧ i.a ≤ (hs.length : Int) - 1
    · omega
    · rw [decide_eq_false hr] at h; simp at h
theorem chk_hs {p : PPrg} (h : chk p = 0) : ∀ x ∈ p.hs, chkH p.hs.length x = 0 := by
  unfold chk at h
  by_cases e0 : chkC p = 0
  · rw [if_pos e0] at h
    by_cases e1 : scan (chkH p.hs.length) p.hs = 0
    · exact scan_zero e1
    · rw [if_neg e1] at h; exact absurd h e1
  · rw [if_neg e0] at h; exact absurd h e0
theorem chkH_parts {hs : List PHnd} {x : PHnd} (h : chkH hs.length x = 0) : (0 ≤ x.args ∧ x.args ≤ 4) ∧ x.code.length ≤ 64 ∧ ∀ i ∈ x.code, OkI hs x.code.length i := by
  unfold chkH at h
  by_cases e0 : 0 ≤ x.args ∧ x.args ≤ 4
  · rw [if_pos e0] at h
    by_cases e1 : x.code.length ≤ 64
    · rw [if_pos e1] at h
      exact ⟨e0, e1, fun i hi => okI_of (scan_zero h i hi)⟩
    · rw [if_neg e1] at h; cases h
  · rw [if_neg e0] at h; cases h
theorem chk_ok {p : PPrg} (h : chk p = 0) : OkH p.hs ∧ ∀ x ∈ p.hs, x.code.length ≤ 64 ∧ ∀ i ∈ x.code, OkI p.hs x.code.length i :=
  ⟨fun x hx => (chkH_parts (chk_hs h x hx)).1, fun x hx => (chkH_parts (chk_hs h x hx)).2⟩

/-- P4.1: Depths' error, and its depths; Most; Check. -/
def fcode (p : PPrg) (h : Int) : List PIns := ((p.hs[h.toNat]?).map (·.code)).getD []
noncomputable def fe (p : PPrg) (h : Int) : Int := if chk p = 0 then (if 0 ≤ h ∧ h < p.hs.length then de p.hs (fcode p h) else 7) else chk p
noncomputable def fl (p : PPrg) (h : Int) : List Int := if chk p = 0 then (if 0 ≤ h ∧ h < p.hs.length then dl p.hs (fcode p h) else []) else []
noncomputable def fm (p : PPrg) (h : Int) : Int := if fe p h = 0 then mxl (fl p h) else -1
noncomputable def fc (p : PPrg) : Int := if chk p = 0 then scan (fun h => de p.hs h.code) p.hs else chk p
theorem fcode_at {p : PPrg} {k : Nat} {x : PHnd} (h : p.hs[k]? = some x) : fcode p (k : Int) = x.code := by unfold fcode; rw [Int.toNat_natCast, h]; rfl

end Go.Proofs.YtgdloonpemaijaaDoor
