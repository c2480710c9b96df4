/-
  What the fixed examples of chapter 9 come to, plainly. No conditions.
-/
import Derived.Test.YtflpkdhmkgidiaaDoorWh
import Derived.Test.YtflpkdhmkgidiaaDoorWg
import Derived.Test.YtflpkdhmkgidiaaDoorWd
namespace Go.Proofs.YtflpkdhmkgidiaaDoor
open Go.RowKit
theorem de_nil (hs : List PHnd) : de hs [] = 0 := (goodB_good (hs := hs) (code := []) (l := [0]) (pr := fun _ => 0) (by rfl)).de
theorem fc_of {p : PPrg} (h : chk p = 0) (hc : ∀ x ∈ p.hs, x.code = []) : fc p = 0 := by
  unfold fc
  rw [if_pos h]
  have : ∀ l : List PHnd, (∀ x ∈ l, x.code = []) → scan (fun h => de p.hs h.code) l = 0 := by
    intro l hl
    induction l with
    | nil => rfl
    | cons x r ih =>
      unfold scan
      rw [hl x (List.mem_cons_self ..), de_nil, if_pos rfl]
      exact ih fun y hy => hl y (List.mem_cons_of_mem _ hy)
  exact this _ hc
theorem fc_two {n : Nat} {most : Int} (h : chk (twoP n most) = 0) : fc (twoP n most) = 0 := fc_of h fun x hx => by
  have : x ∈ [(⟨1, []⟩ : PHnd)] := hx
  simp at this; subst this; rfl
def p31 : PPrg := twoP 3 1
theorem p31_fc : fc p31 = 0 := fc_two (by decide +kernel)
theorem p31_small : Small p31 := by decide +kernel
def x31 : PWld := ⟨[⟨[4], false, 0, 0, 1⟩, ⟨[], false, 0, 0, 0⟩], [⟨⟨-1, 0, 0⟩, ⟨0, 0, [0]⟩⟩, ⟨⟨-1, 1, 0⟩, ⟨1, 0, [1]⟩⟩], ⟨0, 0, 0, 0⟩⟩
theorem x31_start : startP p31 = x31 := by decide +kernel
def p00 : PPrg := ⟨[], [], [], 0⟩
def x00 : PWld := ⟨[], [], ⟨0, 0, 0, 0⟩⟩
theorem p00_fc : fc p00 = 1 := by
  unfold fc
  rw [if_neg (by decide +kernel)]
  decide +kernel
theorem x31_chk : chkW p31 x31 = true := by
  unfold chkW
  rw [p31_fc]
  decide +kernel
theorem x00_chk : chkW p31 x00 = false := by
  unfold chkW
  rw [p31_fc]
  decide +kernel
def lit31 : List UInt8 := [52, 124, 48, 32, 48, 32, 48, 32, 49, 10, 124, 48, 32, 48, 32, 48, 32, 48, 10, 45, 49, 46, 48, 46, 48, 32, 48, 32, 48, 32, 48, 10, 45, 49, 46, 49, 46, 48, 32, 49, 32, 48, 32, 49, 10, 48, 32, 48, 32, 48, 32, 48, 10]
theorem x31_txt : txtW x31 = lit31 := by decide +kernel
instance (n : Int) : Decidable (Rg n) := by unfold Rg; infer_instance
instance (d : PID) : Decidable (RgD d) := by unfold RgD; infer_instance
instance (x : PLoc) : Decidable (OkL x) := by unfold OkL; infer_instance
instance (x : PMsg) : Decidable (OkM x) := by unfold OkM; infer_instance
theorem x31_ok : OkT x31 := ⟨by decide +kernel, by decide +kernel, by decide +kernel, by decide +kernel, by decide +kernel⟩
theorem x31_sm : SmW x31 := ⟨by decide +kernel, by decide +kernel, by decide +kernel, by decide +kernel⟩
end Go.Proofs.YtflpkdhmkgidiaaDoor
