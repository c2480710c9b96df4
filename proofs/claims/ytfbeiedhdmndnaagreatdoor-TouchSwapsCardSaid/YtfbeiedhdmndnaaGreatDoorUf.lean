/-
 What awake of chapter 12's laws answers: true. Its one region draws its order: a theorem for each of its nine conditions, from the last, whatever lies in the slots that are read no more.
-/
import Derived.Test.YtfbeiedhdmndnaaGreatDoorUb
import Derived.Test.YtfbeiedhdmndnaaGreatDoorUd
import Derived.Test.YtfbeiedhdmndnaaGreatDoorUe
namespace Go.Proofs.YtfbeiedhdmndnaaGreatDoor
open Go.RowKit
attribute [local go_sem ↓] Go.wp_at_zero Go.wp_at_succ
theorem ints_lit2 {w : World} {B : Nat} {a b : Int} (h : w.heap[B]? = some (.cells #[.int .i64 a, .int .i64 b] 3)) : Ints anyB w (.slice (some ⟨B, 0, none⟩) 2 2) [a, b] := by
 refine ⟨_, 2, rfl, by simp, by simp, Or.inr ⟨B, 0, rfl, trivial, (Array.getElem?_eq_some_iff.1 h).1, fun j y hy => ?_⟩⟩
 match j, hy with
 | 0, hy => cases hy; show World.cell? _ _ = _; rw [cell_of_row _ _ _ _ _ _ h]; rfl
 | 1, hy => cases hy; show World.cell? _ _ = _; rw [cell_of_row _ _ _ _ _ _ h]; rfl
theorem aw_eq (w : World) (v1 v2 : Value) (a b : List Int) (h1 : Ints anyB w v1 a) (h2 : Ints anyB w v2 b) (he : eqB a b = true) :
  Calls Tryz.prog 24 #[v1, v2] w fun e w' => e = .returned (.bool true) ∧ Below w.heap.size w w' := by
 refine (alikeI _ _ _ _ _ _ _ h1 h2).mono ?_
 rintro r w' ⟨rfl, n, rfl⟩
 rw [he]
 exact ⟨rfl, ⟨rfl, rfl, rfl, Nat.le_refl _, fun _ _ => rfl⟩⟩
theorem awSm : SmW (netW aL) := (net_wk (l := aL) (by decide)).sm
theorem awRg : RgU (netW aL).used := RgU.of (net_wk (l := aL) (by decide)).used
theorem wpAnyH_to {P : Program} {md : Region.Mode} {ops : Array Oper} {Q : Exit → Act → World → Prop} {S : World → Prop} {f : Nat} {l l' : Array Bool} {a : Act} {w : World} (h : wpAnyH P md ops Q S f l' a w) (e : l = l') : wpAnyH P md ops Q S f l a w := e ▸ h
def awO : Array Oper := #[
 ⟨some 13, .load 26 (.tmp 1), 26, "law.go:37", #[], none⟩,
 ⟨some 14, .load 32 (.tmp 2), 32, "law.go:37", #[], none⟩,
 ⟨some 15, .call { callee := .value (.func 32), args := #[.const (.int .i64 0)], argTypes := #[3] }, 36, "law.go:37", #[], none⟩,
 ⟨some 16, .call { callee := .value (.func 25), args := #[.tmp 13, .tmp 14, .tmp 15], argTypes := #[26, 32, 36] }, 54, "law.go:37", #[⟨0, .data⟩, ⟨1, .data⟩, ⟨2, .data⟩, ⟨2, .chain⟩], none⟩,
 ⟨some 17, .buildSlice 54 1 #[(0, .const (.int .i64 0))], 54, "law.go:37", #[], none⟩,
 ⟨some 18, .call { callee := .value (.func 24), args := #[.tmp 16, .tmp 17], argTypes := #[54, 54] }, 4, "law.go:37", #[⟨3, .data⟩, ⟨4, .data⟩, ⟨3, .chain⟩], none⟩,
 ⟨some 19, .move (.tmp 18), 4, "law.go:37", #[⟨5, .data⟩, ⟨5, .chain⟩], none⟩,
 ⟨some 20, .load 26 (.tmp 1), 26, "law.go:37", #[⟨6, .guard⟩], some (6, true)⟩,
 ⟨some 21, .load 32 (.tmp 2), 32, "law.go:37", #[⟨6, .guard⟩], some (6, true)⟩,
 ⟨some 22, .call { callee := .value (.func 32), args := #[.const (.int .i64 1)], argTypes := #[3] }, 36, "law.go:37", #[⟨6, .chain⟩, ⟨6, .guard⟩], some (6, true)⟩,
 ⟨some 23, .call { callee := .value (.func 25), args := #[.tmp 20, .tmp 21, .tmp 22], argTypes := #[26, 32, 36] }, 54, "law.go:37", #[⟨7, .data⟩, ⟨8, .data⟩, ⟨9, .data⟩, ⟨9, .chain⟩, ⟨6, .guard⟩], some (6, true)⟩,
 ⟨some 24, .buildSlice 54 2 #[(0, .const (.int .i64 1)), (1, .const (.int .i64 2))], 54, "law.go:37", #[⟨6, .guard⟩], some (6, true)⟩,
 ⟨some 25, .call { callee := .value (.func 24), args := #[.tmp 23, .tmp 24], argTypes := #[54, 54] }, 4, "law.go:37", #[⟨10, .data⟩, ⟨11, .data⟩, ⟨10, .chain⟩, ⟨6, .guard⟩], some (6, true)⟩,
 ⟨some 26, .pick (.tmp 19) (.tmp 25) (.const (.bool false)), 4, "law.go:37", #[⟨6, .data⟩, ⟨12, .data⟩], none⟩,
 ⟨some 27, .move (.tmp 26), 4, "law.go:37", #[⟨13, .data⟩, ⟨12, .chain⟩], none⟩,
 ⟨some 28, .load 26 (.tmp 1), 26, "law.go:37", #[⟨14, .guard⟩], some (14, true)⟩,
 ⟨some 29, .load 32 (.tmp 2), 32, "law.go:37", #[⟨14, .guard⟩], some (14, true)⟩,
 ⟨some 30, .call { callee := .value (.func 32), args := #[.const (.int .i64 2)], argTypes := #[3] }, 36, "law.go:37", #[⟨14, .chain⟩, ⟨14, .guard⟩], some (14, true)⟩,
 ⟨some 31, .call { callee := .value (.func 25), args := #[.tmp 28, .tmp 29, .tmp 30], argTypes := #[26, 32, 36] }, 54, "law.go:37", #[⟨15, .data⟩, ⟨16, .data⟩, ⟨17, .data⟩, ⟨17, .chain⟩, ⟨14, .guard⟩], some (14, true)⟩,
 ⟨some 32, .buildSlice 54 2 #[(0, .const (.int .i64 1)), (1, .const (.int .i64 2))], 54, "law.go:37", #[⟨14, .guard⟩], some (14, true)⟩,
 ⟨some 33, .call { callee := .value (.func 24), args := #[.tmp 31, .tmp 32], argTypes := #[54, 54] }, 4, "law.go:37", #[⟨18, .data⟩, ⟨19, .data⟩, ⟨18, .chain⟩, ⟨14, .guard⟩], some (14, true)⟩,
 ⟨some 34, .pick (.tmp 27) (.tmp 33) (.const (.bool false)), 4, "law.go:37", #[⟨14, .data⟩, ⟨20, .data⟩], none⟩,
 ⟨some 35, .move (.tmp 34), 4, "law.go:37", #[⟨21, .data⟩, ⟨20, .chain⟩], none⟩,
 ⟨some 36, .load 26 (.tmp 1), 26, "law.go:37", #[⟨22, .guard⟩], some (22, true)⟩,
 ⟨some 37, .load 32 (.tmp 2), 32, "law.go:37", #[⟨22, .guard⟩], some (22, true)⟩,
 ⟨some 38, .call { callee := .value (.func 32), args := #[.const (.int .i64 0)], argTypes := #[3] }, 36, "law.go:37", #[⟨22, .chain⟩, ⟨22, .guard⟩], some (22, true)⟩,
 ⟨some 39, .call { callee := .value (.func 32), args := #[.const (.int .i64 1)], argTypes := #[3] }, 36, "law.go:37", #[⟨25, .chain⟩, ⟨22, .guard⟩], some (22, true)⟩,
 ⟨some 40, .call { callee := .value (.func 22), args := #[.tmp 36, .tmp 37, .tmp 38, .tmp 39], argTypes := #[26, 32, 36, 36] }, 4, "law.go:37", #[⟨23, .data⟩, ⟨24, .data⟩, ⟨25, .data⟩, ⟨26, .data⟩, ⟨26, .chain⟩, ⟨22, .guard⟩], some (22, true)⟩,
 ⟨some 41, .pick (.tmp 35) (.tmp 40) (.const (.bool false)), 4, "law.go:37", #[⟨22, .data⟩, ⟨27, .data⟩], none⟩,
 ⟨some 42, .move (.tmp 41), 4, "law.go:37", #[⟨28, .data⟩, ⟨27, .chain⟩], none⟩,
 ⟨some 43, .load 26 (.tmp 1), 26, "law.go:37", #[⟨29, .guard⟩], some (29, true)⟩,
 ⟨some 44, .load 32 (.tmp 2), 32, "law.go:37", #[⟨29, .guard⟩], some (29, true)⟩,
 ⟨some 45, .call { callee := .value (.func 32), args := #[.const (.int .i64 1)], argTypes := #[3] }, 36, "law.go:37", #[⟨29, .chain⟩, ⟨29, .guard⟩], some (29, true)⟩,
 ⟨some 46, .call { callee := .value (.func 32), args := #[.const (.int .i64 2)], argTypes := #[3] }, 36, "law.go:37", #[⟨32, .chain⟩, ⟨29, .guard⟩], some (29, true)⟩,
 ⟨some 47, .call { callee := .value (.func 22), args := #[.tmp 43, .tmp 44, .tmp 45, .tmp 46], argTypes := #[26, 32, 36, 36] }, 4, "law.go:37", #[⟨30, .data⟩, ⟨31, .data⟩, ⟨32, .data⟩, ⟨33, .data⟩, ⟨33, .chain⟩, ⟨29, .guard⟩], some (29, true)⟩,
 ⟨some 48, .unOp .not 4 (.tmp 47), 4, "law.go:37", #[⟨34, .data⟩, ⟨29, .guard⟩], some (29, true)⟩,
 ⟨some 49, .pick (.tmp 42) (.tmp 48) (.const (.bool false)), 4, "law.go:37", #[⟨29, .data⟩, ⟨35, .data⟩], none⟩,
 ⟨some 50, .move (.tmp 49), 4, "law.go:37", #[⟨36, .data⟩, ⟨34, .chain⟩], none⟩,
 ⟨some 51, .load 26 (.tmp 1), 26, "law.go:37", #[⟨37, .guard⟩], some (37, true)⟩,
 ⟨some 52, .load 32 (.tmp 2), 32, "law.go:37", #[⟨37, .guard⟩], some (37, true)⟩,
 ⟨some 53, .call { callee := .value (.func 32), args := #[.const (.int .i64 0)], argTypes := #[3] }, 36, "law.go:37", #[⟨37, .chain⟩, ⟨37, .guard⟩], some (37, true)⟩,
 ⟨some 54, .call { callee := .value (.func 32), args := #[.const (.int .i64 0)], argTypes := #[3] }, 36, "law.go:37", #[⟨40, .chain⟩, ⟨37, .guard⟩], some (37, true)⟩,
 ⟨some 55, .call { callee := .value (.func 22), args := #[.tmp 51, .tmp 52, .tmp 53, .tmp 54], argTypes := #[26, 32, 36, 36] }, 4, "law.go:37", #[⟨38, .data⟩, ⟨39, .data⟩, ⟨40, .data⟩, ⟨41, .data⟩, ⟨41, .chain⟩, ⟨37, .guard⟩], some (37, true)⟩,
 ⟨some 56, .unOp .not 4 (.tmp 55), 4, "law.go:37", #[⟨42, .data⟩, ⟨37, .guard⟩], some (37, true)⟩,
 ⟨some 57, .pick (.tmp 50) (.tmp 56) (.const (.bool false)), 4, "law.go:37", #[⟨37, .data⟩, ⟨43, .data⟩], none⟩,
 ⟨some 58, .move (.tmp 57), 4, "law.go:37", #[⟨44, .data⟩, ⟨42, .chain⟩], none⟩,
 ⟨some 59, .buildSlice 54 2 #[(0, .const (.int .i64 1)), (1, .const (.int .i64 2))], 54, "law.go:37", #[⟨45, .guard⟩], some (45, true)⟩,
 ⟨some 60, .buildSlice 54 1 #[(0, .const (.int .i64 2))], 54, "law.go:37", #[⟨45, .guard⟩], some (45, true)⟩,
 ⟨some 61, .call { callee := .value (.func 55), args := #[.tmp 59, .tmp 60], argTypes := #[54, 54] }, 4, "law.go:37", #[⟨46, .data⟩, ⟨47, .data⟩, ⟨45, .chain⟩, ⟨45, .guard⟩], some (45, true)⟩,
 ⟨some 62, .pick (.tmp 58) (.tmp 61) (.const (.bool false)), 4, "law.go:37", #[⟨45, .data⟩, ⟨48, .data⟩], none⟩,
 ⟨some 63, .move (.tmp 62), 4, "law.go:37", #[⟨49, .data⟩, ⟨48, .chain⟩], none⟩,
 ⟨some 64, .buildSlice 54 1 #[(0, .const (.int .i64 2))], 54, "law.go:37", #[⟨50, .guard⟩], some (50, true)⟩,
 ⟨some 65, .call { callee := .value (.func 55), args := #[.const (.slice none 0 0), .tmp 64], argTypes := #[54, 54] }, 4, "law.go:37", #[⟨51, .data⟩, ⟨50, .chain⟩, ⟨50, .guard⟩], some (50, true)⟩,
 ⟨some 66, .unOp .not 4 (.tmp 65), 4, "law.go:37", #[⟨52, .data⟩, ⟨50, .guard⟩], some (50, true)⟩,
 ⟨some 67, .pick (.tmp 63) (.tmp 66) (.const (.bool false)), 4, "law.go:37", #[⟨50, .data⟩, ⟨53, .data⟩], none⟩,
 ⟨some 68, .move (.tmp 67), 4, "law.go:37", #[⟨54, .data⟩, ⟨52, .chain⟩], none⟩,
 ⟨some 69, .load 26 (.tmp 1), 26, "law.go:37", #[⟨55, .guard⟩], some (55, true)⟩,
 ⟨some 70, .load 32 (.tmp 2), 32, "law.go:37", #[⟨55, .guard⟩], some (55, true)⟩,
 ⟨some 71, .call { callee := .value (.func 32), args := #[.const (.int .i64 5)], argTypes := #[3] }, 36, "law.go:37", #[⟨55, .chain⟩, ⟨55, .guard⟩], some (55, true)⟩,
 ⟨some 72, .call { callee := .value (.func 25), args := #[.tmp 69, .tmp 70, .tmp 71], argTypes := #[26, 32, 36] }, 54, "law.go:37", #[⟨56, .data⟩, ⟨57, .data⟩, ⟨58, .data⟩, ⟨58, .chain⟩, ⟨55, .guard⟩], some (55, true)⟩,
 ⟨some 73, .call { callee := .builtin .len, args := #[.tmp 72], argTypes := #[54] }, 3, "law.go:37", #[⟨59, .data⟩, ⟨55, .guard⟩], some (55, true)⟩,
 ⟨some 74, .binOp .eql 3 (.tmp 73) (.const (.int .i64 0)) 3, 4, "law.go:37", #[⟨60, .data⟩, ⟨55, .guard⟩], some (55, true)⟩,
 ⟨some 75, .pick (.tmp 68) (.tmp 74) (.const (.bool false)), 4, "law.go:37", #[⟨55, .data⟩, ⟨61, .data⟩], none⟩,
 ⟨some 0, .assign (.tmp 75), 4, "law.go:37", #[⟨62, .data⟩, ⟨59, .chain⟩, ⟨0, .phase⟩, ⟨1, .phase⟩, ⟨2, .phase⟩, ⟨3, .phase⟩, ⟨4, .phase⟩, ⟨5, .phase⟩, ⟨6, .phase⟩, ⟨7, .phase⟩, ⟨8, .phase⟩, ⟨9, .phase⟩, ⟨10, .phase⟩, ⟨11, .phase⟩, ⟨12, .phase⟩, ⟨13, .phase⟩, ⟨14, .phase⟩, ⟨15, .phase⟩, ⟨16, .phase⟩, ⟨17, .phase⟩, ⟨18, .phase⟩, ⟨19, .phase⟩, ⟨20, .phase⟩, ⟨21, .phase⟩, ⟨22, .phase⟩, ⟨23, .phase⟩, ⟨24, .phase⟩, ⟨25, .phase⟩, ⟨26, .phase⟩, ⟨27, .phase⟩, ⟨28, .phase⟩, ⟨29, .phase⟩, ⟨30, .phase⟩, ⟨31, .phase⟩, ⟨32, .phase⟩, ⟨33, .phase⟩, ⟨34, .phase⟩, ⟨35, .phase⟩, ⟨36, .phase⟩, ⟨37, .phase⟩, ⟨38, .phase⟩, ⟨39, .phase⟩, ⟨40, .phase⟩, ⟨41, .phase⟩, ⟨42, .phase⟩, ⟨43, .phase⟩, ⟨44, .phase⟩, ⟨45, .phase⟩, ⟨46, .phase⟩, ⟨47, .phase⟩, ⟨48, .phase⟩, ⟨49, .phase⟩, ⟨50, .phase⟩, ⟨51, .phase⟩, ⟨52, .phase⟩, ⟨53, .phase⟩, ⟨54, .phase⟩, ⟨55, .phase⟩, ⟨56, .phase⟩, ⟨57, .phase⟩, ⟨58, .phase⟩, ⟨59, .phase⟩, ⟨60, .phase⟩, ⟨61, .phase⟩, ⟨62, .phase⟩], none⟩]
theorem awG6 : awO[6]? = some ⟨some 19, .move (.tmp 18), 4, "law.go:37", #[⟨5, .data⟩, ⟨5, .chain⟩], none⟩ := by kernel_rfl
theorem awG14 : awO[14]? = some ⟨some 27, .move (.tmp 26), 4, "law.go:37", #[⟨13, .data⟩, ⟨12, .chain⟩], none⟩ := by kernel_rfl
theorem awG22 : awO[22]? = some ⟨some 35, .move (.tmp 34), 4, "law.go:37", #[⟨21, .data⟩, ⟨20, .chain⟩], none⟩ := by kernel_rfl
theorem awG29 : awO[29]? = some ⟨some 42, .move (.tmp 41), 4, "law.go:37", #[⟨28, .data⟩, ⟨27, .chain⟩], none⟩ := by kernel_rfl
theorem awG37 : awO[37]? = some ⟨some 50, .move (.tmp 49), 4, "law.go:37", #[⟨36, .data⟩, ⟨34, .chain⟩], none⟩ := by kernel_rfl
theorem awG45 : awO[45]? = some ⟨some 58, .move (.tmp 57), 4, "law.go:37", #[⟨44, .data⟩, ⟨42, .chain⟩], none⟩ := by kernel_rfl
theorem awG50 : awO[50]? = some ⟨some 63, .move (.tmp 62), 4, "law.go:37", #[⟨49, .data⟩, ⟨48, .chain⟩], none⟩ := by kernel_rfl
theorem awG55 : awO[55]? = some ⟨some 68, .move (.tmp 67), 4, "law.go:37", #[⟨54, .data⟩, ⟨52, .chain⟩], none⟩ := by kernel_rfl
attribute [local go_sem] awG6 awG14 awG22 awG29 awG37 awG45 awG50 awG55
def awL (k : Nat) : Array Bool := (Array.range 64).map fun i => decide (i < k)
/-- What the boxes of the program and the world hold. -/
def AwS (gp gw : Nat) (p1 p2 p3 x1 x2 : Value) (w' : World) : Prop := w'.cell? ⟨gp, 0, none⟩ = some p1 ∧ w'.cell? ⟨gp, 1, none⟩ = some p2 ∧ w'.cell? ⟨gp, 2, none⟩ = some p3 ∧ w'.cell? ⟨gp, 3, none⟩ = some (.int .i64 20) ∧
 w'.cell? ⟨gw, 0, none⟩ = some x1 ∧ w'.cell? ⟨gw, 1, none⟩ = some x2 ∧ w'.cell? ⟨gw, 2, none⟩ = some (.int .i64 0) ∧ w'.cell? ⟨gw, 3, none⟩ = some (.int .i64 0) ∧ w'.cell? ⟨gw, 4, none⟩ = some (.int .i64 0) ∧ w'.cell? ⟨gw, 5, none⟩ = some (.int .i64 0)
structure AW (W0 : World) (gp gw : Nat) (p1 p2 p3 x1 x2 : Value) : Prop where
 tab : Tab W0
 prg : PrgV W0 (.agg #[p1, p2, p3, .int .i64 20]) (netP aL)
 wld : WldV W0 (.agg #[x1, x2, .int .i64 0, .int .i64 0, .int .i64 0, .int .i64 0]) (netW aL)
 pb : W0.heap[gp]? = some (.cells #[p1, p2, p3, .int .i64 20] 26)
 wb : W0.heap[gw]? = some (.cells #[x1, x2, .int .i64 0, .int .i64 0, .int .i64 0, .int .i64 0] 32)
theorem AW.s {W0 w' : World} {gp gw : Nat} {p1 p2 p3 x1 x2 : Value} (h : AW W0 gp gw p1 p2 p3 x1 x2) (hb : Below W0.heap.size W0 w') : AwS gp gw p1 p2 p3 x1 x2 w' := by
 obtain ⟨a0, a1, a2, a3⟩ := blk4 (boxAt h.pb hb)
 obtain ⟨b0, b1, b2, b3, b4, b5⟩ := blk6 (boxAt h.wb hb)
 exact ⟨a0, a1, a2, a3, b0, b1, b2, b3, b4, b5⟩
section
variable {Q : Exit → Act → World → Prop} {W0 w00 : World} {gp gw : Nat} {p1 p2 p3 x1 x2 : Value}
set_option maxHeartbeats 4000000 in
set_option maxRecDepth 100000 in
theorem aw8 {u0 u3 u4 u5 u6 u7 u8 u9 u10 u11 u12 u13 u14 u15 u16 u17 u18 u19 u20 u21 u22 u23 u24 u25 u26 u27 u28 u29 u30 u31 u32 u33 u34 u35 u36 u37 u38 u39 u40 u41 u42 u43 u44 u45 u46 u47 u48 u49 u50 u51 u52 u53 u54 u55 u56 u57 u58 u59 u60 u61 u62 u63 u64 u65 u66 u67 u69 u70 u71 u72 u73 u74 u75 : Value} (HA : Hid (AW W0 gp gw p1 p2 p3 x1 x2)) (HQ : ∀ (t : List Value) (w : World), Below W0.heap.size W0 w → Q .normal { tmps := (.bool true :: t).toArray, defers := [] } w)
  (HQp : ∀ c a a' w, a'.defers = a.defers → Q (.panic c) a w → Q (.panic c) a' w) (hb00 : Below W0.heap.size W0 w00) (hHeld : AwS gp gw p1 p2 p3 x1 x2 w00) :
  wpAnyH Tryz.prog .any awO Q (AwS gp gw p1 p2 p3 x1 x2) 8 (awL 56) { tmps := #[u0, .pointer (some ⟨gp, 0, none⟩), .pointer (some ⟨gw, 0, none⟩), u3, u4, u5, u6, u7, u8, u9, u10, u11, u12, u13, u14, u15, u16, u17, u18, u19, u20, u21, u22, u23, u24, u25, u26, u27, u28, u29, u30, u31, u32, u33, u34, u35, u36, u37, u38, u39, u40, u41, u42, u43, u44, u45, u46, u47, u48, u49, u50, u51, u52, u53, u54, u55, u56, u57, u58, u59, u60, u61, u62, u63, u64, u65, u66, u67, .bool true, u69, u70, u71, u72, u73, u74, u75], defers := [] } w00 := by
 refine tKh (i := 56) (oi := ⟨some 69, .load 26 (.tmp 1), 26, "law.go:37", #[⟨55, .guard⟩], some (55, true)⟩) (v := ?_) (hy := .inl ⟨by rfl, ?_⟩) (h := ?_) (hQ := fun _ _ _ h => HQp _ _ _ _ (by exact rfl) h)
 rotate_left
 ·intro w hSw
  try dsimp only [AwS] at hSw
  go_simp
  try with_reducible rfl
 try simp only [Act.put, sqA, sqB, sqC]
 refine tKh (i := 57) (oi := ⟨some 70, .load 32 (.tmp 2), 32, "law.go:37", #[⟨55, .guard⟩], some (55, true)⟩) (v := ?_) (hy := .inl ⟨by rfl, ?_⟩) (h := ?_) (hQ := fun _ _ _ h => HQp _ _ _ _ (by exact rfl) h)
 rotate_left
 ·intro w hSw
  try dsimp only [AwS] at hSw
  go_simp
  try with_reducible rfl
 try simp only [Act.put, sqA, sqB, sqC]
 refine wpAnyH_ready (rs := [58]) (by kernel_rfl) (by simp) ?_
 refine AllReadyH.cons (o := ⟨some 71, .call { callee := .value (.func 32), args := #[.const (.int .i64 5)], argTypes := #[3] }, 36, "law.go:37", #[⟨55, .chain⟩, ⟨55, .guard⟩], some (55, true)⟩) rfl (fun K hK => ?_) AllReadyH.nil
 go_simp
 go_at_call 32
 refine (tmail_any _ _).mono ?_
 rintro r w58 ⟨rfl, hs58⟩
 have hb58 := bTrans hb00 hs58
 try (go_wp2_with fail)
 refine hK.out _ _ (HA.out.s hb58) (fun hHeld => ?_)
 clear hK K
 try simp only [Act.put, sqA, sqB, sqC]
 refine wpAnyH_ready (rs := [59]) (by kernel_rfl) (by simp) ?_
 refine AllReadyH.cons (o := ⟨some 72, .call { callee := .value (.func 25), args := #[.tmp 69, .tmp 70, .tmp 71], argTypes := #[26, 32, 36] }, 54, "law.go:37", #[⟨56, .data⟩, ⟨57, .data⟩, ⟨58, .data⟩, ⟨58, .chain⟩, ⟨55, .guard⟩], some (55, true)⟩) rfl (fun K hK => ?_) AllReadyH.nil
 go_simp
 go_at_call 25
 refine (who_is _ _ _ (netP aL) (netW aL) (mailE 5) [] tw_5 (HA.out.tab.below hb58) (HA.out.prg.below hb58) (HA.out.wld.below hb58) awSm awRg).mono ?_
 rintro r w59 ⟨v59, rfl, ho59, hs59⟩
 obtain ⟨P59, q59, rfl⟩ := ho59.form
 have HI59 : Hid (Ints anyB w59 _ []) := (OwnIV.ints ho59 (by decide)).any
 have hb59 := bTrans hb58 hs59
 try (go_wp2_with fail)
 refine hK.out _ _ (HA.out.s hb59) (fun hHeld => ?_)
 clear hK K
 try simp only [Act.put, sqA, sqB, sqC]
 refine tKh (i := 60) (oi := ⟨some 73, .call { callee := .builtin .len, args := #[.tmp 72], argTypes := #[54] }, 3, "law.go:37", #[⟨59, .data⟩, ⟨55, .guard⟩], some (55, true)⟩) (v := ?_) (hy := .inl ⟨by rfl, ?_⟩) (h := ?_) (hQ := fun _ _ _ h => HQp _ _ _ _ (by exact rfl) h)
 rotate_left
 ·intro w hSw
  try dsimp only [AwS] at hSw
  go_simp
  try with_reducible rfl
 try simp only [Act.put, sqA, sqB, sqC]
 refine tKh (i := 61) (oi := ⟨some 74, .binOp .eql 3 (.tmp 73) (.const (.int .i64 0)) 3, 4, "law.go:37", #[⟨60, .data⟩, ⟨55, .guard⟩], some (55, true)⟩) (v := ?_) (hy := .inl ⟨by rfl, ?_⟩) (h := ?_) (hQ := fun _ _ _ h => HQp _ _ _ _ (by exact rfl) h)
 rotate_left
 ·intro w hSw
  try dsimp only [AwS] at hSw
  go_simp
  try with_reducible rfl
 try simp only [Act.put, sqA, sqB, sqC]
 refine tKh (i := 62) (oi := ⟨some 75, .pick (.tmp 68) (.tmp 74) (.const (.bool false)), 4, "law.go:37", #[⟨55, .data⟩, ⟨61, .data⟩], none⟩) (v := ?_) (hy := .inl ⟨by rfl, ?_⟩) (h := ?_) (hQ := fun _ _ _ h => HQp _ _ _ _ (by exact rfl) h)
 rotate_left
 ·intro w hSw
  try dsimp only [AwS] at hSw
  go_simp
  try with_reducible rfl
 try simp only [Act.put, sqA, sqB, sqC]
 refine tKh (i := 63) (oi := ⟨some 0, .assign (.tmp 75), 4, "law.go:37", #[⟨62, .data⟩, ⟨59, .chain⟩, ⟨0, .phase⟩, ⟨1, .phase⟩, ⟨2, .phase⟩, ⟨3, .phase⟩, ⟨4, .phase⟩, ⟨5, .phase⟩, ⟨6, .phase⟩, ⟨7, .phase⟩, ⟨8, .phase⟩, ⟨9, .phase⟩, ⟨10, .phase⟩, ⟨11, .phase⟩, ⟨12, .phase⟩, ⟨13, .phase⟩, ⟨14, .phase⟩, ⟨15, .phase⟩, ⟨16, .phase⟩, ⟨17, .phase⟩, ⟨18, .phase⟩, ⟨19, .phase⟩, ⟨20, .phase⟩, ⟨21, .phase⟩, ⟨22, .phase⟩, ⟨23, .phase⟩, ⟨24, .phase⟩, ⟨25, .phase⟩, ⟨26, .phase⟩, ⟨27, .phase⟩, ⟨28, .phase⟩, ⟨29, .phase⟩, ⟨30, .phase⟩, ⟨31, .phase⟩, ⟨32, .phase⟩, ⟨33, .phase⟩, ⟨34, .phase⟩, ⟨35, .phase⟩, ⟨36, .phase⟩, ⟨37, .phase⟩, ⟨38, .phase⟩, ⟨39, .phase⟩, ⟨40, .phase⟩, ⟨41, .phase⟩, ⟨42, .phase⟩, ⟨43, .phase⟩, ⟨44, .phase⟩, ⟨45, .phase⟩, ⟨46, .phase⟩, ⟨47, .phase⟩, ⟨48, .phase⟩, ⟨49, .phase⟩, ⟨50, .phase⟩, ⟨51, .phase⟩, ⟨52, .phase⟩, ⟨53, .phase⟩, ⟨54, .phase⟩, ⟨55, .phase⟩, ⟨56, .phase⟩, ⟨57, .phase⟩, ⟨58, .phase⟩, ⟨59, .phase⟩, ⟨60, .phase⟩, ⟨61, .phase⟩, ⟨62, .phase⟩], none⟩) (v := ?_) (hy := .inl ⟨by rfl, ?_⟩) (h := ?_) (hQ := fun _ _ _ h => HQp _ _ _ _ (by exact rfl) h)
 rotate_left
 ·intro w hSw
  try dsimp only [AwS] at hSw
  go_simp
  try with_reducible rfl
 try simp only [Act.put, List.setIfInBounds_toArray, List.set_cons_zero]
 refine wpAnyH_done (by kernel_rfl) ?_ _
 exact HQ _ _ hb59
set_option maxHeartbeats 4000000 in
set_option maxRecDepth 100000 in
theorem aw7 {u0 u3 u4 u5 u6 u7 u8 u9 u10 u11 u12 u13 u14 u15 u16 u17 u18 u19 u20 u21 u22 u23 u24 u25 u26 u27 u28 u29 u30 u31 u32 u33 u34 u35 u36 u37 u38 u39 u40 u41 u42 u43 u44 u45 u46 u47 u48 u49 u50 u51 u52 u53 u54 u55 u56 u57 u58 u59 u60 u61 u62 u64 u65 u66 u67 u68 u69 u70 u71 u72 u73 u74 u75 : Value} (HA : Hid (AW W0 gp gw p1 p2 p3 x1 x2)) (HQ : ∀ (t : List Value) (w : World), Below W0.heap.size W0 w → Q .normal { tmps := (.bool true :: t).toArray, defers := [] } w)
  (HQp : ∀ c a a' w, a'.defers = a.defers → Q (.panic c) a w → Q (.panic c) a' w) (hb00 : Below W0.heap.size W0 w00) (hHeld : AwS gp gw p1 p2 p3 x1 x2 w00) :
  wpAnyH Tryz.prog .any awO Q (AwS gp gw p1 p2 p3 x1 x2) 13 (awL 51) { tmps := #[u0, .pointer (some ⟨gp, 0, none⟩), .pointer (some ⟨gw, 0, none⟩), u3, u4, u5, u6, u7, u8, u9, u10, u11, u12, u13, u14, u15, u16, u17, u18, u19, u20, u21, u22, u23, u24, u25, u26, u27, u28, u29, u30, u31, u32, u33, u34, u35, u36, u37, u38, u39, u40, u41, u42, u43, u44, u45, u46, u47, u48, u49, u50, u51, u52, u53, u54, u55, u56, u57, u58, u59, u60, u61, u62, .bool true, u64, u65, u66, u67, u68, u69, u70, u71, u72, u73, u74, u75], defers := [] } w00 := by
 have _ := hHeld
 refine wpAnyH_ready (rs := [51]) (by kernel_rfl) (by simp) ?_
 refine AllReadyH.cons (o := ⟨some 64, .buildSlice 54 1 #[(0, .const (.int .i64 2))], 54, "law.go:37", #[⟨50, .guard⟩], some (50, true)⟩) rfl (fun K hK => ?_) AllReadyH.nil
 go_simp
 have hs51 : Below w00.heap.size w00 (w00.alloc (.cells #[.int .i64 2] 3)) := bAlloc (bRefl _) _
 have HI51 : Hid (Ints anyB (w00.alloc (.cells #[.int .i64 2] 3)) (.slice (some ⟨w00.heap.size, 0, none⟩) 1 1) [2]) := ints_lit (heap_new _ _)
 generalize (w00.alloc (.cells #[.int .i64 2] 3)) = w51 at hs51 HI51 ⊢
 have hb51 := bTrans hb00 hs51
 try (go_wp2_with fail)
 refine hK.out _ _ (HA.out.s hb51) (fun hHeld => ?_)
 clear hK K
 try simp only [Act.put, sqA, sqB, sqC]
 refine wpAnyH_ready (rs := [52]) (by kernel_rfl) (by simp) ?_
 refine AllReadyH.cons (o := ⟨some 65, .call { callee := .value (.func 55), args := #[.const (.slice none 0 0), .tmp 64], argTypes := #[54, 54] }, 4, "law.go:37", #[⟨51, .data⟩, ⟨50, .chain⟩, ⟨50, .guard⟩], some (50, true)⟩) rfl (fun K hK => ?_) AllReadyH.nil
 go_simp
 go_at_call 55
 refine (meets_any anyB anyB _ _ _ [] [2] (ints_nil anyB _) HI51.out (by decide) (by decide)).mono ?_
 rw [show meetB [] [2] = false from rfl]
 rintro r w52 ⟨rfl, hs52⟩
 clear HI51
 have hb52 := bTrans hb51 hs52
 try (go_wp2_with fail)
 refine hK.out _ _ (HA.out.s hb52) (fun hHeld => ?_)
 clear hK K
 try simp only [Act.put, sqA, sqB, sqC]
 refine tKh (i := 53) (oi := ⟨some 66, .unOp .not 4 (.tmp 65), 4, "law.go:37", #[⟨52, .data⟩, ⟨50, .guard⟩], some (50, true)⟩) (v := ?_) (hy := .inl ⟨by rfl, ?_⟩) (h := ?_) (hQ := fun _ _ _ h => HQp _ _ _ _ (by exact rfl) h)
 rotate_left
 ·intro w hSw
  try dsimp only [AwS] at hSw
  go_simp
  try with_reducible rfl
 try simp only [Act.put, sqA, sqB, sqC]
 refine tKh (i := 54) (oi := ⟨some 67, .pick (.tmp 63) (.tmp 66) (.const (.bool false)), 4, "law.go:37", #[⟨50, .data⟩, ⟨53, .data⟩], none⟩) (v := ?_) (hy := .inl ⟨by rfl, ?_⟩) (h := ?_) (hQ := fun _ _ _ h => HQp _ _ _ _ (by exact rfl) h)
 rotate_left
 ·intro w hSw
  try dsimp only [AwS] at hSw
  go_simp
  try with_reducible rfl
 try simp only [Act.put, sqA, sqB, sqC]
 refine tKh (i := 55) (oi := ⟨some 68, .move (.tmp 67), 4, "law.go:37", #[⟨54, .data⟩, ⟨52, .chain⟩], none⟩) (v := ?_) (hy := .inl ⟨by rfl, ?_⟩) (h := ?_) (hQ := fun _ _ _ h => HQp _ _ _ _ (by exact rfl) h)
 rotate_left
 ·intro w hSw
  try dsimp only [AwS] at hSw
  go_simp
  try with_reducible rfl
 try simp only [Act.put, sqA, sqB, sqC]
 exact wpAnyH_to (aw8 HA HQ HQp hb52 hHeld) (by kernel_rfl)
set_option maxHeartbeats 4000000 in
set_option maxRecDepth 100000 in
theorem aw6 {u0 u3 u4 u5 u6 u7 u8 u9 u10 u11 u12 u13 u14 u15 u16 u17 u18 u19 u20 u21 u22 u23 u24 u25 u26 u27 u28 u29 u30 u31 u32 u33 u34 u35 u36 u37 u38 u39 u40 u41 u42 u43 u44 u45 u46 u47 u48 u49 u50 u51 u52 u53 u54 u55 u56 u57 u59 u60 u61 u62 u63 u64 u65 u66 u67 u68 u69 u70 u71 u72 u73 u74 u75 : Value} (HA : Hid (AW W0 gp gw p1 p2 p3 x1 x2)) (HQ : ∀ (t : List Value) (w : World), Below W0.heap.size W0 w → Q .normal { tmps := (.bool true :: t).toArray, defers := [] } w)
  (HQp : ∀ c a a' w, a'.defers = a.defers → Q (.panic c) a w → Q (.panic c) a' w) (hb00 : Below W0.heap.size W0 w00) (hHeld : AwS gp gw p1 p2 p3 x1 x2 w00) :
  wpAnyH Tryz.prog .any awO Q (AwS gp gw p1 p2 p3 x1 x2) 18 (awL 46) { tmps := #[u0, .pointer (some ⟨gp, 0, none⟩), .pointer (some ⟨gw, 0, none⟩), u3, u4, u5, u6, u7, u8, u9, u10, u11, u12, u13, u14, u15, u16, u17, u18, u19, u20, u21, u22, u23, u24, u25, u26, u27, u28, u29, u30, u31, u32, u33, u34, u35, u36, u37, u38, u39, u40, u41, u42, u43, u44, u45, u46, u47, u48, u49, u50, u51, u52, u53, u54, u55, u56, u57, .bool true, u59, u60, u61, u62, u63, u64, u65, u66, u67, u68, u69, u70, u71, u72, u73, u74, u75], defers := [] } w00 := by
 have _ := hHeld
 refine wpAnyH_ready (rs := [46, 47]) (by kernel_rfl) (by simp) ?_
 refine AllReadyH.cons (o := ⟨some 59, .buildSlice 54 2 #[(0, .const (.int .i64 1)), (1, .const (.int .i64 2))], 54, "law.go:37", #[⟨45, .guard⟩], some (45, true)⟩) rfl (fun K hK => ?_) (AllReadyH.cons (o := ⟨some 60, .buildSlice 54 1 #[(0, .const (.int .i64 2))], 54, "law.go:37", #[⟨45, .guard⟩], some (45, true)⟩) rfl (fun K hK => ?_) AllReadyH.nil)
 ·go_simp
  have hs46 : Below w00.heap.size w00 (w00.alloc (.cells #[.int .i64 1, .int .i64 2] 3)) := bAlloc (bRefl _) _
  have HI46 : Hid (Ints anyB (w00.alloc (.cells #[.int .i64 1, .int .i64 2] 3)) (.slice (some ⟨w00.heap.size, 0, none⟩) 2 2) [1, 2]) := ints_lit2 (heap_new _ _)
  generalize (w00.alloc (.cells #[.int .i64 1, .int .i64 2] 3)) = w46 at hs46 HI46 ⊢
  have hb46 := bTrans hb00 hs46
  try (go_wp2_with fail)
  refine hK.out _ _ (HA.out.s hb46) (fun hHeld => ?_)
  clear hK K
  try simp only [Act.put, sqA, sqB, sqC]
  refine wpAnyH_ready (rs := [47]) (by kernel_rfl) (by simp) ?_
  refine AllReadyH.cons (o := ⟨some 60, .buildSlice 54 1 #[(0, .const (.int .i64 2))], 54, "law.go:37", #[⟨45, .guard⟩], some (45, true)⟩) rfl (fun K hK => ?_) AllReadyH.nil
  go_simp
  have hs47 : Below w46.heap.size w46 (w46.alloc (.cells #[.int .i64 2] 3)) := bAlloc (bRefl _) _
  have HI47 : Hid (Ints anyB (w46.alloc (.cells #[.int .i64 2] 3)) (.slice (some ⟨w46.heap.size, 0, none⟩) 1 1) [2]) := ints_lit (heap_new _ _)
  generalize (w46.alloc (.cells #[.int .i64 2] 3)) = w47 at hs47 HI47 ⊢
  replace HI46 := hid_mk (Ints.below HI46.out hs47)
  have hb47 := bTrans hb46 hs47
  try (go_wp2_with fail)
  refine hK.out _ _ (HA.out.s hb47) (fun hHeld => ?_)
  clear hK K
  try simp only [Act.put, sqA, sqB, sqC]
  refine wpAnyH_ready (rs := [48]) (by kernel_rfl) (by simp) ?_
  refine AllReadyH.cons (o := ⟨some 61, .call { callee := .value (.func 55), args := #[.tmp 59, .tmp 60], argTypes := #[54, 54] }, 4, "law.go:37", #[⟨46, .data⟩, ⟨47, .data⟩, ⟨45, .chain⟩, ⟨45, .guard⟩], some (45, true)⟩) rfl (fun K hK => ?_) AllReadyH.nil
  go_simp
  go_at_call 55
  refine (meets_any anyB anyB _ _ _ [1, 2] [2] HI46.out HI47.out (by decide) (by decide)).mono ?_
  rw [show meetB [1, 2] [2] = true from rfl]
  rintro r w48 ⟨rfl, hs48⟩
  clear HI46 HI47
  have hb48 := bTrans hb47 hs48
  try (go_wp2_with fail)
  refine hK.out _ _ (HA.out.s hb48) (fun hHeld => ?_)
  clear hK K
  try simp only [Act.put, sqA, sqB, sqC]
  refine tKh (i := 49) (oi := ⟨some 62, .pick (.tmp 58) (.tmp 61) (.const (.bool false)), 4, "law.go:37", #[⟨45, .data⟩, ⟨48, .data⟩], none⟩) (v := ?_) (hy := .inl ⟨by rfl, ?_⟩) (h := ?_) (hQ := fun _ _ _ h => HQp _ _ _ _ (by exact rfl) h)
  rotate_left
  ·intro w hSw
   try dsimp only [AwS] at hSw
   go_simp
   try with_reducible rfl
  try simp only [Act.put, sqA, sqB, sqC]
  refine tKh (i := 50) (oi := ⟨some 63, .move (.tmp 62), 4, "law.go:37", #[⟨49, .data⟩, ⟨48, .chain⟩], none⟩) (v := ?_) (hy := .inl ⟨by rfl, ?_⟩) (h := ?_) (hQ := fun _ _ _ h => HQp _ _ _ _ (by exact rfl) h)
  rotate_left
  ·intro w hSw
   try dsimp only [AwS] at hSw
   go_simp
   try with_reducible rfl
  try simp only [Act.put, sqA, sqB, sqC]
  exact wpAnyH_to (aw7 HA HQ HQp hb48 hHeld) (by kernel_rfl)
 ·go_simp
  have hs47 : Below w00.heap.size w00 (w00.alloc (.cells #[.int .i64 2] 3)) := bAlloc (bRefl _) _
  have HI47 : Hid (Ints anyB (w00.alloc (.cells #[.int .i64 2] 3)) (.slice (some ⟨w00.heap.size, 0, none⟩) 1 1) [2]) := ints_lit (heap_new _ _)
  generalize (w00.alloc (.cells #[.int .i64 2] 3)) = w47 at hs47 HI47 ⊢
  have hb47 := bTrans hb00 hs47
  try (go_wp2_with fail)
  refine hK.out _ _ (HA.out.s hb47) (fun hHeld => ?_)
  clear hK K
  try simp only [Act.put, sqA, sqB, sqC]
  refine wpAnyH_ready (rs := [46]) (by kernel_rfl) (by simp) ?_
  refine AllReadyH.cons (o := ⟨some 59, .buildSlice 54 2 #[(0, .const (.int .i64 1)), (1, .const (.int .i64 2))], 54, "law.go:37", #[⟨45, .guard⟩], some (45, true)⟩) rfl (fun K hK => ?_) AllReadyH.nil
  go_simp
  have hs46 : Below w47.heap.size w47 (w47.alloc (.cells #[.int .i64 1, .int .i64 2] 3)) := bAlloc (bRefl _) _
  have HI46 : Hid (Ints anyB (w47.alloc (.cells #[.int .i64 1, .int .i64 2] 3)) (.slice (some ⟨w47.heap.size, 0, none⟩) 2 2) [1, 2]) := ints_lit2 (heap_new _ _)
  generalize (w47.alloc (.cells #[.int .i64 1, .int .i64 2] 3)) = w46 at hs46 HI46 ⊢
  replace HI47 := hid_mk (Ints.below HI47.out hs46)
  have hb46 := bTrans hb47 hs46
  try (go_wp2_with fail)
  refine hK.out _ _ (HA.out.s hb46) (fun hHeld => ?_)
  clear hK K
  try simp only [Act.put, sqA, sqB, sqC]
  refine wpAnyH_ready (rs := [48]) (by kernel_rfl) (by simp) ?_
  refine AllReadyH.cons (o := ⟨some 61, .call { callee := .value (.func 55), args := #[.tmp 59, .tmp 60], argTypes := #[54, 54] }, 4, "law.go:37", #[⟨46, .data⟩, ⟨47, .data⟩, ⟨45, .chain⟩, ⟨45, .guard⟩], some (45, true)⟩) rfl (fun K hK => ?_) AllReadyH.nil
  go_simp
  go_at_call 55
  refine (meets_any anyB anyB _ _ _ [1, 2] [2] HI46.out HI47.out (by decide) (by decide)).mono ?_
  rw [show meetB [1, 2] [2] = true from rfl]
  rintro r w48 ⟨rfl, hs48⟩
  clear HI46 HI47
  have hb48 := bTrans hb46 hs48
  try (go_wp2_with fail)
  refine hK.out _ _ (HA.out.s hb48) (fun hHeld => ?_)
  clear hK K
  try simp only [Act.put, sqA, sqB, sqC]
  refine tKh (i := 49) (oi := ⟨some 62, .pick (.tmp 58) (.tmp 61) (.const (.bool false)), 4, "law.go:37", #[⟨45, .data⟩, ⟨48, .data⟩], none⟩) (v := ?_) (hy := .inl ⟨by rfl, ?_⟩) (h := ?_) (hQ := fun _ _ _ h => HQp _ _ _ _ (by exact rfl) h)
  rotate_left
  ·intro w hSw
   try dsimp only [AwS] at hSw
   go_simp
   try with_reducible rfl
  try simp only [Act.put, sqA, sqB, sqC]
  refine tKh (i := 50) (oi := ⟨some 63, .move (.tmp 62), 4, "law.go:37", #[⟨49, .data⟩, ⟨48, .chain⟩], none⟩) (v := ?_) (hy := .inl ⟨by rfl, ?_⟩) (h := ?_) (hQ := fun _ _ _ h => HQp _ _ _ _ (by exact rfl) h)
  rotate_left
  ·intro w hSw
   try dsimp only [AwS] at hSw
   go_simp
   try with_reducible rfl
  try simp only [Act.put, sqA, sqB, sqC]
  exact wpAnyH_to (aw7 HA HQ HQp hb48 hHeld) (by kernel_rfl)
set_option maxHeartbeats 4000000 in
set_option maxRecDepth 100000 in
theorem aw5 {u0 u3 u4 u5 u6 u7 u8 u9 u10 u11 u12 u13 u14 u15 u16 u17 u18 u19 u20 u21 u22 u23 u24 u25 u26 u27 u28 u29 u30 u31 u32 u33 u34 u35 u36 u37 u38 u39 u40 u41 u42 u43 u44 u45 u46 u47 u48 u49 u51 u52 u53 u54 u55 u56 u57 u58 u59 u60 u61 u62 u63 u64 u65 u66 u67 u68 u69 u70 u71 u72 u73 u74 u75 : Value} (HA : Hid (AW W0 gp gw p1 p2 p3 x1 x2)) (HQ : ∀ (t : List Value) (w : World), Below W0.heap.size W0 w → Q .normal { tmps := (.bool true :: t).toArray, defers := [] } w)
  (HQp : ∀ c a a' w, a'.defers = a.defers → Q (.panic c) a w → Q (.panic c) a' w) (hb00 : Below W0.heap.size W0 w00) (hHeld : AwS gp gw p1 p2 p3 x1 x2 w00) :
  wpAnyH Tryz.prog .any awO Q (AwS gp gw p1 p2 p3 x1 x2) 26 (awL 38) { tmps := #[u0, .pointer (some ⟨gp, 0, none⟩), .pointer (some ⟨gw, 0, none⟩), u3, u4, u5, u6, u7, u8, u9, u10, u11, u12, u13, u14, u15, u16, u17, u18, u19, u20, u21, u22, u23, u24, u25, u26, u27, u28, u29, u30, u31, u32, u33, u34, u35, u36, u37, u38, u39, u40, u41, u42, u43, u44, u45, u46, u47, u48, u49, .bool true, u51, u52, u53, u54, u55, u56, u57, u58, u59, u60, u61, u62, u63, u64, u65, u66, u67, u68, u69, u70, u71, u72, u73, u74, u75], defers := [] } w00 := by
 refine tKh (i := 38) (oi := ⟨some 51, .load 26 (.tmp 1), 26, "law.go:37", #[⟨37, .guard⟩], some (37, true)⟩) (v := ?_) (hy := .inl ⟨by rfl, ?_⟩) (h := ?_) (hQ := fun _ _ _ h => HQp _ _ _ _ (by exact rfl) h)
 rotate_left
 ·intro w hSw
  try dsimp only [AwS] at hSw
  go_simp
  try with_reducible rfl
 try simp only [Act.put, sqA, sqB, sqC]
 refine tKh (i := 39) (oi := ⟨some 52, .load 32 (.tmp 2), 32, "law.go:37", #[⟨37, .guard⟩], some (37, true)⟩) (v := ?_) (hy := .inl ⟨by rfl, ?_⟩) (h := ?_) (hQ := fun _ _ _ h => HQp _ _ _ _ (by exact rfl) h)
 rotate_left
 ·intro w hSw
  try dsimp only [AwS] at hSw
  go_simp
  try with_reducible rfl
 try simp only [Act.put, sqA, sqB, sqC]
 refine wpAnyH_ready (rs := [40]) (by kernel_rfl) (by simp) ?_
 refine AllReadyH.cons (o := ⟨some 53, .call { callee := .value (.func 32), args := #[.const (.int .i64 0)], argTypes := #[3] }, 36, "law.go:37", #[⟨37, .chain⟩, ⟨37, .guard⟩], some (37, true)⟩) rfl (fun K hK => ?_) AllReadyH.nil
 go_simp
 go_at_call 32
 refine (tmail_any _ _).mono ?_
 rintro r w40 ⟨rfl, hs40⟩
 have hb40 := bTrans hb00 hs40
 try (go_wp2_with fail)
 refine hK.out _ _ (HA.out.s hb40) (fun hHeld => ?_)
 clear hK K
 try simp only [Act.put, sqA, sqB, sqC]
 refine wpAnyH_ready (rs := [41]) (by kernel_rfl) (by simp) ?_
 refine AllReadyH.cons (o := ⟨some 54, .call { callee := .value (.func 32), args := #[.const (.int .i64 0)], argTypes := #[3] }, 36, "law.go:37", #[⟨40, .chain⟩, ⟨37, .guard⟩], some (37, true)⟩) rfl (fun K hK => ?_) AllReadyH.nil
 go_simp
 go_at_call 32
 refine (tmail_any _ _).mono ?_
 rintro r w41 ⟨rfl, hs41⟩
 have hb41 := bTrans hb40 hs41
 try (go_wp2_with fail)
 refine hK.out _ _ (HA.out.s hb41) (fun hHeld => ?_)
 clear hK K
 try simp only [Act.put, sqA, sqB, sqC]
 refine wpAnyH_ready (rs := [42]) (by kernel_rfl) (by simp) ?_
 refine AllReadyH.cons (o := ⟨some 55, .call { callee := .value (.func 22), args := #[.tmp 51, .tmp 52, .tmp 53, .tmp 54], argTypes := #[26, 32, 36, 36] }, 4, "law.go:37", #[⟨38, .data⟩, ⟨39, .data⟩, ⟨40, .data⟩, ⟨41, .data⟩, ⟨41, .chain⟩, ⟨37, .guard⟩], some (37, true)⟩) rfl (fun K hK => ?_) AllReadyH.nil
 go_simp
 go_at_call 22
 refine (free_any _ _ _ (netP aL) (netW aL) (mailE 0) (mailE 0) (HA.out.tab.below hb41) (HA.out.prg.below hb41) (HA.out.wld.below hb41) awSm awRg).mono ?_
 rw [tw_f00]
 rintro r w42 ⟨rfl, hs42⟩
 have hb42 := bTrans hb41 hs42
 try (go_wp2_with fail)
 refine hK.out _ _ (HA.out.s hb42) (fun hHeld => ?_)
 clear hK K
 try simp only [Act.put, sqA, sqB, sqC]
 refine tKh (i := 43) (oi := ⟨some 56, .unOp .not 4 (.tmp 55), 4, "law.go:37", #[⟨42, .data⟩, ⟨37, .guard⟩], some (37, true)⟩) (v := ?_) (hy := .inl ⟨by rfl, ?_⟩) (h := ?_) (hQ := fun _ _ _ h => HQp _ _ _ _ (by exact rfl) h)
 rotate_left
 ·intro w hSw
  try dsimp only [AwS] at hSw
  go_simp
  try with_reducible rfl
 try simp only [Act.put, sqA, sqB, sqC]
 refine tKh (i := 44) (oi := ⟨some 57, .pick (.tmp 50) (.tmp 56) (.const (.bool false)), 4, "law.go:37", #[⟨37, .data⟩, ⟨43, .data⟩], none⟩) (v := ?_) (hy := .inl ⟨by rfl, ?_⟩) (h := ?_) (hQ := fun _ _ _ h => HQp _ _ _ _ (by exact rfl) h)
 rotate_left
 ·intro w hSw
  try dsimp only [AwS] at hSw
  go_simp
  try with_reducible rfl
 try simp only [Act.put, sqA, sqB, sqC]
 refine tKh (i := 45) (oi := ⟨some 58, .move (.tmp 57), 4, "law.go:37", #[⟨44, .data⟩, ⟨42, .chain⟩], none⟩) (v := ?_) (hy := .inl ⟨by rfl, ?_⟩) (h := ?_) (hQ := fun _ _ _ h => HQp _ _ _ _ (by exact rfl) h)
 rotate_left
 ·intro w hSw
  try dsimp only [AwS] at hSw
  go_simp
  try with_reducible rfl
 try simp only [Act.put, sqA, sqB, sqC]
 exact wpAnyH_to (aw6 HA HQ HQp hb42 hHeld) (by kernel_rfl)
set_option maxHeartbeats 4000000 in
set_option maxRecDepth 100000 in
theorem aw4 {u0 u3 u4 u5 u6 u7 u8 u9 u10 u11 u12 u13 u14 u15 u16 u17 u18 u19 u20 u21 u22 u23 u24 u25 u26 u27 u28 u29 u30 u31 u32 u33 u34 u35 u36 u37 u38 u39 u40 u41 u43 u44 u45 u46 u47 u48 u49 u50 u51 u52 u53 u54 u55 u56 u57 u58 u59 u60 u61 u62 u63 u64 u65 u66 u67 u68 u69 u70 u71 u72 u73 u74 u75 : Value} (HA : Hid (AW W0 gp gw p1 p2 p3 x1 x2)) (HQ : ∀ (t : List Value) (w : World), Below W0.heap.size W0 w → Q .normal { tmps := (.bool true :: t).toArray, defers := [] } w)
  (HQp : ∀ c a a' w, a'.defers = a.defers → Q (.panic c) a w → Q (.panic c) a' w) (hb00 : Below W0.heap.size W0 w00) (hHeld : AwS gp gw p1 p2 p3 x1 x2 w00) :
  wpAnyH Tryz.prog .any awO Q (AwS gp gw p1 p2 p3 x1 x2) 34 (awL 30) { tmps := #[u0, .pointer (some ⟨gp, 0, none⟩), .pointer (some ⟨gw, 0, none⟩), u3, u4, u5, u6, u7, u8, u9, u10, u11, u12, u13, u14, u15, u16, u17, u18, u19, u20, u21, u22, u23, u24, u25, u26, u27, u28, u29, u30, u31, u32, u33, u34, u35, u36, u37, u38, u39, u40, u41, .bool true, u43, u44, u45, u46, u47, u48, u49, u50, u51, u52, u53, u54, u55, u56, u57, u58, u59, u60, u61, u62, u63, u64, u65, u66, u67, u68, u69, u70, u71, u72, u73, u74, u75], defers := [] } w00 := by
 refine tKh (i := 30) (oi := ⟨some 43, .load 26 (.tmp 1), 26, "law.go:37", #[⟨29, .guard⟩], some (29, true)⟩) (v := ?_) (hy := .inl ⟨by rfl, ?_⟩) (h := ?_) (hQ := fun _ _ _ h => HQp _ _ _ _ (by exact rfl) h)
 rotate_left
 ·intro w hSw
  try dsimp only [AwS] at hSw
  go_simp
  try with_reducible rfl
 try simp only [Act.put, sqA, sqB, sqC]
 refine tKh (i := 31) (oi := ⟨some 44, .load 32 (.tmp 2), 32, "law.go:37", #[⟨29, .guard⟩], some (29, true)⟩) (v := ?_) (hy := .inl ⟨by rfl, ?_⟩) (h := ?_) (hQ := fun _ _ _ h => HQp _ _ _ _ (by exact rfl) h)
 rotate_left
 ·intro w hSw
  try dsimp only [AwS] at hSw
  go_simp
  try with_reducible rfl
 try simp only [Act.put, sqA, sqB, sqC]
 refine wpAnyH_ready (rs := [32]) (by kernel_rfl) (by simp) ?_
 refine AllReadyH.cons (o := ⟨some 45, .call { callee := .value (.func 32), args := #[.const (.int .i64 1)], argTypes := #[3] }, 36, "law.go:37", #[⟨29, .chain⟩, ⟨29, .guard⟩], some (29, true)⟩) rfl (fun K hK => ?_) AllReadyH.nil
 go_simp
 go_at_call 32
 refine (tmail_any _ _).mono ?_
 rintro r w32 ⟨rfl, hs32⟩
 have hb32 := bTrans hb00 hs32
 try (go_wp2_with fail)
 refine hK.out _ _ (HA.out.s hb32) (fun hHeld => ?_)
 clear hK K
 try simp only [Act.put, sqA, sqB, sqC]
 refine wpAnyH_ready (rs := [33]) (by kernel_rfl) (by simp) ?_
 refine AllReadyH.cons (o := ⟨some 46, .call { callee := .value (.func 32), args := #[.const (.int .i64 2)], argTypes := #[3] }, 36, "law.go:37", #[⟨32, .chain⟩, ⟨29, .guard⟩], some (29, true)⟩) rfl (fun K hK => ?_) AllReadyH.nil
 go_simp
 go_at_call 32
 refine (tmail_any _ _).mono ?_
 rintro r w33 ⟨rfl, hs33⟩
 have hb33 := bTrans hb32 hs33
 try (go_wp2_with fail)
 refine hK.out _ _ (HA.out.s hb33) (fun hHeld => ?_)
 clear hK K
 try simp only [Act.put, sqA, sqB, sqC]
 refine wpAnyH_ready (rs := [34]) (by kernel_rfl) (by simp) ?_
 refine AllReadyH.cons (o := ⟨some 47, .call { callee := .value (.func 22), args := #[.tmp 43, .tmp 44, .tmp 45, .tmp 46], argTypes := #[26, 32, 36, 36] }, 4, "law.go:37", #[⟨30, .data⟩, ⟨31, .data⟩, ⟨32, .data⟩, ⟨33, .data⟩, ⟨33, .chain⟩, ⟨29, .guard⟩], some (29, true)⟩) rfl (fun K hK => ?_) AllReadyH.nil
 go_simp
 go_at_call 22
 refine (free_any _ _ _ (netP aL) (netW aL) (mailE 1) (mailE 2) (HA.out.tab.below hb33) (HA.out.prg.below hb33) (HA.out.wld.below hb33) awSm awRg).mono ?_
 rw [tw_f12]
 rintro r w34 ⟨rfl, hs34⟩
 have hb34 := bTrans hb33 hs34
 try (go_wp2_with fail)
 refine hK.out _ _ (HA.out.s hb34) (fun hHeld => ?_)
 clear hK K
 try simp only [Act.put, sqA, sqB, sqC]
 refine tKh (i := 35) (oi := ⟨some 48, .unOp .not 4 (.tmp 47), 4, "law.go:37", #[⟨34, .data⟩, ⟨29, .guard⟩], some (29, true)⟩) (v := ?_) (hy := .inl ⟨by rfl, ?_⟩) (h := ?_) (hQ := fun _ _ _ h => HQp _ _ _ _ (by exact rfl) h)
 rotate_left
 ·intro w hSw
  try dsimp only [AwS] at hSw
  go_simp
  try with_reducible rfl
 try simp only [Act.put, sqA, sqB, sqC]
 refine tKh (i := 36) (oi := ⟨some 49, .pick (.tmp 42) (.tmp 48) (.const (.bool false)), 4, "law.go:37", #[⟨29, .data⟩, ⟨35, .data⟩], none⟩) (v := ?_) (hy := .inl ⟨by rfl, ?_⟩) (h := ?_) (hQ := fun _ _ _ h => HQp _ _ _ _ (by exact rfl) h)
 rotate_left
 ·intro w hSw
  try dsimp only [AwS] at hSw
  go_simp
  try with_reducible rfl
 try simp only [Act.put, sqA, sqB, sqC]
 refine tKh (i := 37) (oi := ⟨some 50, .move (.tmp 49), 4, "law.go:37", #[⟨36, .data⟩, ⟨34, .chain⟩], none⟩) (v := ?_) (hy := .inl ⟨by rfl, ?_⟩) (h := ?_) (hQ := fun _ _ _ h => HQp _ _ _ _ (by exact rfl) h)
 rotate_left
 ·intro w hSw
  try dsimp only [AwS] at hSw
  go_simp
  try with_reducible rfl
 try simp only [Act.put, sqA, sqB, sqC]
 exact wpAnyH_to (aw5 HA HQ HQp hb34 hHeld) (by kernel_rfl)
set_option maxHeartbeats 4000000 in
set_option maxRecDepth 100000 in
theorem aw3 {u0 u3 u4 u5 u6 u7 u8 u9 u10 u11 u12 u13 u14 u15 u16 u17 u18 u19 u20 u21 u22 u23 u24 u25 u26 u27 u28 u29 u30 u31 u32 u33 u34 u36 u37 u38 u39 u40 u41 u42 u43 u44 u45 u46 u47 u48 u49 u50 u51 u52 u53 u54 u55 u56 u57 u58 u59 u60 u61 u62 u63 u64 u65 u66 u67 u68 u69 u70 u71 u72 u73 u74 u75 : Value} (HA : Hid (AW W0 gp gw p1 p2 p3 x1 x2)) (HQ : ∀ (t : List Value) (w : World), Below W0.heap.size W0 w → Q .normal { tmps := (.bool true :: t).toArray, defers := [] } w)
  (HQp : ∀ c a a' w, a'.defers = a.defers → Q (.panic c) a w → Q (.panic c) a' w) (hb00 : Below W0.heap.size W0 w00) (hHeld : AwS gp gw p1 p2 p3 x1 x2 w00) :
  wpAnyH Tryz.prog .any awO Q (AwS gp gw p1 p2 p3 x1 x2) 41 (awL 23) { tmps := #[u0, .pointer (some ⟨gp, 0, none⟩), .pointer (some ⟨gw, 0, none⟩), u3, u4, u5, u6, u7, u8, u9, u10, u11, u12, u13, u14, u15, u16, u17, u18, u19, u20, u21, u22, u23, u24, u25, u26, u27, u28, u29, u30, u31, u32, u33, u34, .bool true, u36, u37, u38, u39, u40, u41, u42, u43, u44, u45, u46, u47, u48, u49, u50, u51, u52, u53, u54, u55, u56, u57, u58, u59, u60, u61, u62, u63, u64, u65, u66, u67, u68, u69, u70, u71, u72, u73, u74, u75], defers := [] } w00 := by
 refine tKh (i := 23) (oi := ⟨some 36, .load 26 (.tmp 1), 26, "law.go:37", #[⟨22, .guard⟩], some (22, true)⟩) (v := ?_) (hy := .inl ⟨by rfl, ?_⟩) (h := ?_) (hQ := fun _ _ _ h => HQp _ _ _ _ (by exact rfl) h)
 rotate_left
 ·intro w hSw
  try dsimp only [AwS] at hSw
  go_simp
  try with_reducible rfl
 try simp only [Act.put, sqA, sqB, sqC]
 refine tKh (i := 24) (oi := ⟨some 37, .load 32 (.tmp 2), 32, "law.go:37", #[⟨22, .guard⟩], some (22, true)⟩) (v := ?_) (hy := .inl ⟨by rfl, ?_⟩) (h := ?_) (hQ := fun _ _ _ h => HQp _ _ _ _ (by exact rfl) h)
 rotate_left
 ·intro w hSw
  try dsimp only [AwS] at hSw
  go_simp
  try with_reducible rfl
 try simp only [Act.put, sqA, sqB, sqC]
 refine wpAnyH_ready (rs := [25]) (by kernel_rfl) (by simp) ?_
 refine AllReadyH.cons (o := ⟨some 38, .call { callee := .value (.func 32), args := #[.const (.int .i64 0)], argTypes := #[3] }, 36, "law.go:37", #[⟨22, .chain⟩, ⟨22, .guard⟩], some (22, true)⟩) rfl (fun K hK => ?_) AllReadyH.nil
 go_simp
 go_at_call 32
 refine (tmail_any _ _).mono ?_
 rintro r w25 ⟨rfl, hs25⟩
 have hb25 := bTrans hb00 hs25
 try (go_wp2_with fail)
 refine hK.out _ _ (HA.out.s hb25) (fun hHeld => ?_)
 clear hK K
 try simp only [Act.put, sqA, sqB, sqC]
 refine wpAnyH_ready (rs := [26]) (by kernel_rfl) (by simp) ?_
 refine AllReadyH.cons (o := ⟨some 39, .call { callee := .value (.func 32), args := #[.const (.int .i64 1)], argTypes := #[3] }, 36, "law.go:37", #[⟨25, .chain⟩, ⟨22, .guard⟩], some (22, true)⟩) rfl (fun K hK => ?_) AllReadyH.nil
 go_simp
 go_at_call 32
 refine (tmail_any _ _).mono ?_
 rintro r w26 ⟨rfl, hs26⟩
 have hb26 := bTrans hb25 hs26
 try (go_wp2_with fail)
 refine hK.out _ _ (HA.out.s hb26) (fun hHeld => ?_)
 clear hK K
 try simp only [Act.put, sqA, sqB, sqC]
 refine wpAnyH_ready (rs := [27]) (by kernel_rfl) (by simp) ?_
 refine AllReadyH.cons (o := ⟨some 40, .call { callee := .value (.func 22), args := #[.tmp 36, .tmp 37, .tmp 38, .tmp 39], argTypes := #[26, 32, 36, 36] }, 4, "law.go:37", #[⟨23, .data⟩, ⟨24, .data⟩, ⟨25, .data⟩, ⟨26, .data⟩, ⟨26, .chain⟩, ⟨22, .guard⟩], some (22, true)⟩) rfl (fun K hK => ?_) AllReadyH.nil
 go_simp
 go_at_call 22
 refine (free_any _ _ _ (netP aL) (netW aL) (mailE 0) (mailE 1) (HA.out.tab.below hb26) (HA.out.prg.below hb26) (HA.out.wld.below hb26) awSm awRg).mono ?_
 rw [tw_f01]
 rintro r w27 ⟨rfl, hs27⟩
 have hb27 := bTrans hb26 hs27
 try (go_wp2_with fail)
 refine hK.out _ _ (HA.out.s hb27) (fun hHeld => ?_)
 clear hK K
 try simp only [Act.put, sqA, sqB, sqC]
 refine tKh (i := 28) (oi := ⟨some 41, .pick (.tmp 35) (.tmp 40) (.const (.bool false)), 4, "law.go:37", #[⟨22, .data⟩, ⟨27, .data⟩], none⟩) (v := ?_) (hy := .inl ⟨by rfl, ?_⟩) (h := ?_) (hQ := fun _ _ _ h => HQp _ _ _ _ (by exact rfl) h)
 rotate_left
 ·intro w hSw
  try dsimp only [AwS] at hSw
  go_simp
  try with_reducible rfl
 try simp only [Act.put, sqA, sqB, sqC]
 refine tKh (i := 29) (oi := ⟨some 42, .move (.tmp 41), 4, "law.go:37", #[⟨28, .data⟩, ⟨27, .chain⟩], none⟩) (v := ?_) (hy := .inl ⟨by rfl, ?_⟩) (h := ?_) (hQ := fun _ _ _ h => HQp _ _ _ _ (by exact rfl) h)
 rotate_left
 ·intro w hSw
  try dsimp only [AwS] at hSw
  go_simp
  try with_reducible rfl
 try simp only [Act.put, sqA, sqB, sqC]
 exact wpAnyH_to (aw4 HA HQ HQp hb27 hHeld) (by kernel_rfl)
set_option maxHeartbeats 4000000 in
set_option maxRecDepth 100000 in
theorem aw2 {u0 u3 u4 u5 u6 u7 u8 u9 u10 u11 u12 u13 u14 u15 u16 u17 u18 u19 u20 u21 u22 u23 u24 u25 u26 u28 u29 u30 u31 u32 u33 u34 u35 u36 u37 u38 u39 u40 u41 u42 u43 u44 u45 u46 u47 u48 u49 u50 u51 u52 u53 u54 u55 u56 u57 u58 u59 u60 u61 u62 u63 u64 u65 u66 u67 u68 u69 u70 u71 u72 u73 u74 u75 : Value} (HA : Hid (AW W0 gp gw p1 p2 p3 x1 x2)) (HQ : ∀ (t : List Value) (w : World), Below W0.heap.size W0 w → Q .normal { tmps := (.bool true :: t).toArray, defers := [] } w)
  (HQp : ∀ c a a' w, a'.defers = a.defers → Q (.panic c) a w → Q (.panic c) a' w) (hb00 : Below W0.heap.size W0 w00) (hHeld : AwS gp gw p1 p2 p3 x1 x2 w00) :
  wpAnyH Tryz.prog .any awO Q (AwS gp gw p1 p2 p3 x1 x2) 49 (awL 15) { tmps := #[u0, .pointer (some ⟨gp, 0, none⟩), .pointer (some ⟨gw, 0, none⟩), u3, u4, u5, u6, u7, u8, u9, u10, u11, u12, u13, u14, u15, u16, u17, u18, u19, u20, u21, u22, u23, u24, u25, u26, .bool true, u28, u29, u30, u31, u32, u33, u34, u35, u36, u37, u38, u39, u40, u41, u42, u43, u44, u45, u46, u47, u48, u49, u50, u51, u52, u53, u54, u55, u56, u57, u58, u59, u60, u61, u62, u63, u64, u65, u66, u67, u68, u69, u70, u71, u72, u73, u74, u75], defers := [] } w00 := by
 refine tKh (i := 15) (oi := ⟨some 28, .load 26 (.tmp 1), 26, "law.go:37", #[⟨14, .guard⟩], some (14, true)⟩) (v := ?_) (hy := .inl ⟨by rfl, ?_⟩) (h := ?_) (hQ := fun _ _ _ h => HQp _ _ _ _ (by exact rfl) h)
 rotate_left
 ·intro w hSw
  try dsimp only [AwS] at hSw
  go_simp
  try with_reducible rfl
 try simp only [Act.put, sqA, sqB, sqC]
 refine tKh (i := 16) (oi := ⟨some 29, .load 32 (.tmp 2), 32, "law.go:37", #[⟨14, .guard⟩], some (14, true)⟩) (v := ?_) (hy := .inl ⟨by rfl, ?_⟩) (h := ?_) (hQ := fun _ _ _ h => HQp _ _ _ _ (by exact rfl) h)
 rotate_left
 ·intro w hSw
  try dsimp only [AwS] at hSw
  go_simp
  try with_reducible rfl
 try simp only [Act.put, sqA, sqB, sqC]
 refine wpAnyH_ready (rs := [17, 19]) (by kernel_rfl) (by simp) ?_
 refine AllReadyH.cons (o := ⟨some 30, .call { callee := .value (.func 32), args := #[.const (.int .i64 2)], argTypes := #[3] }, 36, "law.go:37", #[⟨14, .chain⟩, ⟨14, .guard⟩], some (14, true)⟩) rfl (fun K hK => ?_) (AllReadyH.cons (o := ⟨some 32, .buildSlice 54 2 #[(0, .const (.int .i64 1)), (1, .const (.int .i64 2))], 54, "law.go:37", #[⟨14, .guard⟩], some (14, true)⟩) rfl (fun K hK => ?_) AllReadyH.nil)
 ·go_simp
  go_at_call 32
  refine (tmail_any _ _).mono ?_
  rintro r w17 ⟨rfl, hs17⟩
  have hb17 := bTrans hb00 hs17
  try (go_wp2_with fail)
  refine hK.out _ _ (HA.out.s hb17) (fun hHeld => ?_)
  clear hK K
  try simp only [Act.put, sqA, sqB, sqC]
  refine wpAnyH_ready (rs := [18, 19]) (by kernel_rfl) (by simp) ?_
  refine AllReadyH.cons (o := ⟨some 31, .call { callee := .value (.func 25), args := #[.tmp 28, .tmp 29, .tmp 30], argTypes := #[26, 32, 36] }, 54, "law.go:37", #[⟨15, .data⟩, ⟨16, .data⟩, ⟨17, .data⟩, ⟨17, .chain⟩, ⟨14, .guard⟩], some (14, true)⟩) rfl (fun K hK => ?_) (AllReadyH.cons (o := ⟨some 32, .buildSlice 54 2 #[(0, .const (.int .i64 1)), (1, .const (.int .i64 2))], 54, "law.go:37", #[⟨14, .guard⟩], some (14, true)⟩) rfl (fun K hK => ?_) AllReadyH.nil)
  ·go_simp
   go_at_call 25
   refine (who_is _ _ _ (netP aL) (netW aL) (mailE 2) [1, 2] tw_2 (HA.out.tab.below hb17) (HA.out.prg.below hb17) (HA.out.wld.below hb17) awSm awRg).mono ?_
   rintro r w18 ⟨v18, rfl, ho18, hs18⟩
   obtain ⟨P18, q18, rfl⟩ := ho18.form
   have HI18 : Hid (Ints anyB w18 _ [1, 2]) := (OwnIV.ints ho18 (by decide)).any
   have hb18 := bTrans hb17 hs18
   try (go_wp2_with fail)
   refine hK.out _ _ (HA.out.s hb18) (fun hHeld => ?_)
   clear hK K
   try simp only [Act.put, sqA, sqB, sqC]
   refine wpAnyH_ready (rs := [19]) (by kernel_rfl) (by simp) ?_
   refine AllReadyH.cons (o := ⟨some 32, .buildSlice 54 2 #[(0, .const (.int .i64 1)), (1, .const (.int .i64 2))], 54, "law.go:37", #[⟨14, .guard⟩], some (14, true)⟩) rfl (fun K hK => ?_) AllReadyH.nil
   go_simp
   have hs19 : Below w18.heap.size w18 (w18.alloc (.cells #[.int .i64 1, .int .i64 2] 3)) := bAlloc (bRefl _) _
   have HI19 : Hid (Ints anyB (w18.alloc (.cells #[.int .i64 1, .int .i64 2] 3)) (.slice (some ⟨w18.heap.size, 0, none⟩) 2 2) [1, 2]) := ints_lit2 (heap_new _ _)
   generalize (w18.alloc (.cells #[.int .i64 1, .int .i64 2] 3)) = w19 at hs19 HI19 ⊢
   replace HI18 := hid_mk (Ints.below HI18.out hs19)
   have hb19 := bTrans hb18 hs19
   try (go_wp2_with fail)
   refine hK.out _ _ (HA.out.s hb19) (fun hHeld => ?_)
   clear hK K
   try simp only [Act.put, sqA, sqB, sqC]
   refine wpAnyH_ready (rs := [20]) (by kernel_rfl) (by simp) ?_
   refine AllReadyH.cons (o := ⟨some 33, .call { callee := .value (.func 24), args := #[.tmp 31, .tmp 32], argTypes := #[54, 54] }, 4, "law.go:37", #[⟨18, .data⟩, ⟨19, .data⟩, ⟨18, .chain⟩, ⟨14, .guard⟩], some (14, true)⟩) rfl (fun K hK => ?_) AllReadyH.nil
   go_simp
   go_at_call 24
   refine (aw_eq _ _ _ [1, 2] [1, 2] HI18.out HI19.out rfl).mono ?_
   rintro r w20 ⟨rfl, hs20⟩
   clear HI18 HI19
   have hb20 := bTrans hb19 hs20
   try (go_wp2_with fail)
   refine hK.out _ _ (HA.out.s hb20) (fun hHeld => ?_)
   clear hK K
   try simp only [Act.put, sqA, sqB, sqC]
   refine tKh (i := 21) (oi := ⟨some 34, .pick (.tmp 27) (.tmp 33) (.const (.bool false)), 4, "law.go:37", #[⟨14, .data⟩, ⟨20, .data⟩], none⟩) (v := ?_) (hy := .inl ⟨by rfl, ?_⟩) (h := ?_) (hQ := fun _ _ _ h => HQp _ _ _ _ (by exact rfl) h)
   rotate_left
   ·intro w hSw
    try dsimp only [AwS] at hSw
    go_simp
    try with_reducible rfl
   try simp only [Act.put, sqA, sqB, sqC]
   refine tKh (i := 22) (oi := ⟨some 35, .move (.tmp 34), 4, "law.go:37", #[⟨21, .data⟩, ⟨20, .chain⟩], none⟩) (v := ?_) (hy := .inl ⟨by rfl, ?_⟩) (h := ?_) (hQ := fun _ _ _ h => HQp _ _ _ _ (by exact rfl) h)
   rotate_left
   ·intro w hSw
    try dsimp only [AwS] at hSw
    go_simp
    try with_reducible rfl
   try simp only [Act.put, sqA, sqB, sqC]
   exact wpAnyH_to (aw3 HA HQ HQp hb20 hHeld) (by kernel_rfl)
  ·go_simp
   have hs19 : Below w17.heap.size w17 (w17.alloc (.cells #[.int .i64 1, .int .i64 2] 3)) := bAlloc (bRefl _) _
   have HI19 : Hid (Ints anyB (w17.alloc (.cells #[.int .i64 1, .int .i64 2] 3)) (.slice (some ⟨w17.heap.size, 0, none⟩) 2 2) [1, 2]) := ints_lit2 (heap_new _ _)
   generalize (w17.alloc (.cells #[.int .i64 1, .int .i64 2] 3)) = w19 at hs19 HI19 ⊢
   have hb19 := bTrans hb17 hs19
   try (go_wp2_with fail)
   refine hK.out _ _ (HA.out.s hb19) (fun hHeld => ?_)
   clear hK K
   try simp only [Act.put, sqA, sqB, sqC]
   refine wpAnyH_ready (rs := [18]) (by kernel_rfl) (by simp) ?_
   refine AllReadyH.cons (o := ⟨some 31, .call { callee := .value (.func 25), args := #[.tmp 28, .tmp 29, .tmp 30], argTypes := #[26, 32, 36] }, 54, "law.go:37", #[⟨15, .data⟩, ⟨16, .data⟩, ⟨17, .data⟩, ⟨17, .chain⟩, ⟨14, .guard⟩], some (14, true)⟩) rfl (fun K hK => ?_) AllReadyH.nil
   go_simp
   go_at_call 25
   refine (who_is _ _ _ (netP aL) (netW aL) (mailE 2) [1, 2] tw_2 (HA.out.tab.below hb19) (HA.out.prg.below hb19) (HA.out.wld.below hb19) awSm awRg).mono ?_
   rintro r w18 ⟨v18, rfl, ho18, hs18⟩
   obtain ⟨P18, q18, rfl⟩ := ho18.form
   replace HI19 := hid_mk (Ints.below HI19.out hs18)
   have HI18 : Hid (Ints anyB w18 _ [1, 2]) := (OwnIV.ints ho18 (by decide)).any
   have hb18 := bTrans hb19 hs18
   try (go_wp2_with fail)
   refine hK.out _ _ (HA.out.s hb18) (fun hHeld => ?_)
   clear hK K
   try simp only [Act.put, sqA, sqB, sqC]
   refine wpAnyH_ready (rs := [20]) (by kernel_rfl) (by simp) ?_
   refine AllReadyH.cons (o := ⟨some 33, .call { callee := .value (.func 24), args := #[.tmp 31, .tmp 32], argTypes := #[54, 54] }, 4, "law.go:37", #[⟨18, .data⟩, ⟨19, .data⟩, ⟨18, .chain⟩, ⟨14, .guard⟩], some (14, true)⟩) rfl (fun K hK => ?_) AllReadyH.nil
   go_simp
   go_at_call 24
   refine (aw_eq _ _ _ [1, 2] [1, 2] HI18.out HI19.out rfl).mono ?_
   rintro r w20 ⟨rfl, hs20⟩
   clear HI18 HI19
   have hb20 := bTrans hb18 hs20
   try (go_wp2_with fail)
   refine hK.out _ _ (HA.out.s hb20) (fun hHeld => ?_)
   clear hK K
   try simp only [Act.put, sqA, sqB, sqC]
   refine tKh (i := 21) (oi := ⟨some 34, .pick (.tmp 27) (.tmp 33) (.const (.bool false)), 4, "law.go:37", #[⟨14, .data⟩, ⟨20, .data⟩], none⟩) (v := ?_) (hy := .inl ⟨by rfl, ?_⟩) (h := ?_) (hQ := fun _ _ _ h => HQp _ _ _ _ (by exact rfl) h)
   rotate_left
   ·intro w hSw
    try dsimp only [AwS] at hSw
    go_simp
    try with_reducible rfl
   try simp only [Act.put, sqA, sqB, sqC]
   refine tKh (i := 22) (oi := ⟨some 35, .move (.tmp 34), 4, "law.go:37", #[⟨21, .data⟩, ⟨20, .chain⟩], none⟩) (v := ?_) (hy := .inl ⟨by rfl, ?_⟩) (h := ?_) (hQ := fun _ _ _ h => HQp _ _ _ _ (by exact rfl) h)
   rotate_left
   ·intro w hSw
    try dsimp only [AwS] at hSw
    go_simp
    try with_reducible rfl
   try simp only [Act.put, sqA, sqB, sqC]
   exact wpAnyH_to (aw3 HA HQ HQp hb20 hHeld) (by kernel_rfl)
 ·go_simp
  have hs19 : Below w00.heap.size w00 (w00.alloc (.cells #[.int .i64 1, .int .i64 2] 3)) := bAlloc (bRefl _) _
  have HI19 : Hid (Ints anyB (w00.alloc (.cells #[.int .i64 1, .int .i64 2] 3)) (.slice (some ⟨w00.heap.size, 0, none⟩) 2 2) [1, 2]) := ints_lit2 (heap_new _ _)
  generalize (w00.alloc (.cells #[.int .i64 1, .int .i64 2] 3)) = w19 at hs19 HI19 ⊢
  have hb19 := bTrans hb00 hs19
  try (go_wp2_with fail)
  refine hK.out _ _ (HA.out.s hb19) (fun hHeld => ?_)
  clear hK K
  try simp only [Act.put, sqA, sqB, sqC]
  refine wpAnyH_ready (rs := [17]) (by kernel_rfl) (by simp) ?_
  refine AllReadyH.cons (o := ⟨some 30, .call { callee := .value (.func 32), args := #[.const (.int .i64 2)], argTypes := #[3] }, 36, "law.go:37", #[⟨14, .chain⟩, ⟨14, .guard⟩], some (14, true)⟩) rfl (fun K hK => ?_) AllReadyH.nil
  go_simp
  go_at_call 32
  refine (tmail_any _ _).mono ?_
  rintro r w17 ⟨rfl, hs17⟩
  replace HI19 := hid_mk (Ints.below HI19.out hs17)
  have hb17 := bTrans hb19 hs17
  try (go_wp2_with fail)
  refine hK.out _ _ (HA.out.s hb17) (fun hHeld => ?_)
  clear hK K
  try simp only [Act.put, sqA, sqB, sqC]
  refine wpAnyH_ready (rs := [18]) (by kernel_rfl) (by simp) ?_
  refine AllReadyH.cons (o := ⟨some 31, .call { callee := .value (.func 25), args := #[.tmp 28, .tmp 29, .tmp 30], argTypes := #[26, 32, 36] }, 54, "law.go:37", #[⟨15, .data⟩, ⟨16, .data⟩, ⟨17, .data⟩, ⟨17, .chain⟩, ⟨14, .guard⟩], some (14, true)⟩) rfl (fun K hK => ?_) AllReadyH.nil
  go_simp
  go_at_call 25
  refine (who_is _ _ _ (netP aL) (netW aL) (mailE 2) [1, 2] tw_2 (HA.out.tab.below hb17) (HA.out.prg.below hb17) (HA.out.wld.below hb17) awSm awRg).mono ?_
  rintro r w18 ⟨v18, rfl, ho18, hs18⟩
  obtain ⟨P18, q18, rfl⟩ := ho18.form
  replace HI19 := hid_mk (Ints.below HI19.out hs18)
  have HI18 : Hid (Ints anyB w18 _ [1, 2]) := (OwnIV.ints ho18 (by decide)).any
  have hb18 := bTrans hb17 hs18
  try (go_wp2_with fail)
  refine hK.out _ _ (HA.out.s hb18) (fun hHeld => ?_)
  clear hK K
  try simp only [Act.put, sqA, sqB, sqC]
  refine wpAnyH_ready (rs := [20]) (by kernel_rfl) (by simp) ?_
  refine AllReadyH.cons (o := ⟨some 33, .call { callee := .value (.func 24), args := #[.tmp 31, .tmp 32], argTypes := #[54, 54] }, 4, "law.go:37", #[⟨18, .data⟩, ⟨19, .data⟩, ⟨18, .chain⟩, ⟨14, .guard⟩], some (14, true)⟩) rfl (fun K hK => ?_) AllReadyH.nil
  go_simp
  go_at_call 24
  refine (aw_eq _ _ _ [1, 2] [1, 2] HI18.out HI19.out rfl).mono ?_
  rintro r w20 ⟨rfl, hs20⟩
  clear HI18 HI19
  have hb20 := bTrans hb18 hs20
  try (go_wp2_with fail)
  refine hK.out _ _ (HA.out.s hb20) (fun hHeld => ?_)
  clear hK K
  try simp only [Act.put, sqA, sqB, sqC]
  refine tKh (i := 21) (oi := ⟨some 34, .pick (.tmp 27) (.tmp 33) (.const (.bool false)), 4, "law.go:37", #[⟨14, .data⟩, ⟨20, .data⟩], none⟩) (v := ?_) (hy := .inl ⟨by rfl, ?_⟩) (h := ?_) (hQ := fun _ _ _ h => HQp _ _ _ _ (by exact rfl) h)
  rotate_left
  ·intro w hSw
   try dsimp only [AwS] at hSw
   go_simp
   try with_reducible rfl
  try simp only [Act.put, sqA, sqB, sqC]
  refine tKh (i := 22) (oi := ⟨some 35, .move (.tmp 34), 4, "law.go:37", #[⟨21, .data⟩, ⟨20, .chain⟩], none⟩) (v := ?_) (hy := .inl ⟨by rfl, ?_⟩) (h := ?_) (hQ := fun _ _ _ h => HQp _ _ _ _ (by exact rfl) h)
  rotate_left
  ·intro w hSw
   try dsimp only [AwS] at hSw
   go_simp
   try with_reducible rfl
  try simp only [Act.put, sqA, sqB, sqC]
  exact wpAnyH_to (aw3 HA HQ HQp hb20 hHeld) (by kernel_rfl)
set_option maxHeartbeats 4000000 in
set_option maxRecDepth 100000 in
theorem aw1 {u0 u3 u4 u5 u6 u7 u8 u9 u10 u11 u12 u13 u14 u15 u16 u17 u18 u20 u21 u22 u23 u24 u25 u26 u27 u28 u29 u30 u31 u32 u33 u34 u35 u36 u37 u38 u39 u40 u41 u42 u43 u44 u45 u46 u47 u48 u49 u50 u51 u52 u53 u54 u55 u56 u57 u58 u59 u60 u61 u62 u63 u64 u65 u66 u67 u68 u69 u70 u71 u72 u73 u74 u75 : Value} (HA : Hid (AW W0 gp gw p1 p2 p3 x1 x2)) (HQ : ∀ (t : List Value) (w : World), Below W0.heap.size W0 w → Q .normal { tmps := (.bool true :: t).toArray, defers := [] } w)
  (HQp : ∀ c a a' w, a'.defers = a.defers → Q (.panic c) a w → Q (.panic c) a' w) (hb00 : Below W0.heap.size W0 w00) (hHeld : AwS gp gw p1 p2 p3 x1 x2 w00) :
  wpAnyH Tryz.prog .any awO Q (AwS gp gw p1 p2 p3 x1 x2) 57 (awL 7) { tmps := #[u0, .pointer (some ⟨gp, 0, none⟩), .pointer (some ⟨gw, 0, none⟩), u3, u4, u5, u6, u7, u8, u9, u10, u11, u12, u13, u14, u15, u16, u17, u18, .bool true, u20, u21, u22, u23, u24, u25, u26, u27, u28, u29, u30, u31, u32, u33, u34, u35, u36, u37, u38, u39, u40, u41, u42, u43, u44, u45, u46, u47, u48, u49, u50, u51, u52, u53, u54, u55, u56, u57, u58, u59, u60, u61, u62, u63, u64, u65, u66, u67, u68, u69, u70, u71, u72, u73, u74, u75], defers := [] } w00 := by
 refine tKh (i := 7) (oi := ⟨some 20, .load 26 (.tmp 1), 26, "law.go:37", #[⟨6, .guard⟩], some (6, true)⟩) (v := ?_) (hy := .inl ⟨by rfl, ?_⟩) (h := ?_) (hQ := fun _ _ _ h => HQp _ _ _ _ (by exact rfl) h)
 rotate_left
 ·intro w hSw
  try dsimp only [AwS] at hSw
  go_simp
  try with_reducible rfl
 try simp only [Act.put, sqA, sqB, sqC]
 refine tKh (i := 8) (oi := ⟨some 21, .load 32 (.tmp 2), 32, "law.go:37", #[⟨6, .guard⟩], some (6, true)⟩) (v := ?_) (hy := .inl ⟨by rfl, ?_⟩) (h := ?_) (hQ := fun _ _ _ h => HQp _ _ _ _ (by exact rfl) h)
 rotate_left
 ·intro w hSw
  try dsimp only [AwS] at hSw
  go_simp
  try with_reducible rfl
 try simp only [Act.put, sqA, sqB, sqC]
 refine wpAnyH_ready (rs := [9, 11]) (by kernel_rfl) (by simp) ?_
 refine AllReadyH.cons (o := ⟨some 22, .call { callee := .value (.func 32), args := #[.const (.int .i64 1)], argTypes := #[3] }, 36, "law.go:37", #[⟨6, .chain⟩, ⟨6, .guard⟩], some (6, true)⟩) rfl (fun K hK => ?_) (AllReadyH.cons (o := ⟨some 24, .buildSlice 54 2 #[(0, .const (.int .i64 1)), (1, .const (.int .i64 2))], 54, "law.go:37", #[⟨6, .guard⟩], some (6, true)⟩) rfl (fun K hK => ?_) AllReadyH.nil)
 ·go_simp
  go_at_call 32
  refine (tmail_any _ _).mono ?_
  rintro r w9 ⟨rfl, hs9⟩
  have hb9 := bTrans hb00 hs9
  try (go_wp2_with fail)
  refine hK.out _ _ (HA.out.s hb9) (fun hHeld => ?_)
  clear hK K
  try simp only [Act.put, sqA, sqB, sqC]
  refine wpAnyH_ready (rs := [10, 11]) (by kernel_rfl) (by simp) ?_
  refine AllReadyH.cons (o := ⟨some 23, .call { callee := .value (.func 25), args := #[.tmp 20, .tmp 21, .tmp 22], argTypes := #[26, 32, 36] }, 54, "law.go:37", #[⟨7, .data⟩, ⟨8, .data⟩, ⟨9, .data⟩, ⟨9, .chain⟩, ⟨6, .guard⟩], some (6, true)⟩) rfl (fun K hK => ?_) (AllReadyH.cons (o := ⟨some 24, .buildSlice 54 2 #[(0, .const (.int .i64 1)), (1, .const (.int .i64 2))], 54, "law.go:37", #[⟨6, .guard⟩], some (6, true)⟩) rfl (fun K hK => ?_) AllReadyH.nil)
  ·go_simp
   go_at_call 25
   refine (who_is _ _ _ (netP aL) (netW aL) (mailE 1) [1, 2] tw_1 (HA.out.tab.below hb9) (HA.out.prg.below hb9) (HA.out.wld.below hb9) awSm awRg).mono ?_
   rintro r w10 ⟨v10, rfl, ho10, hs10⟩
   obtain ⟨P10, q10, rfl⟩ := ho10.form
   have HI10 : Hid (Ints anyB w10 _ [1, 2]) := (OwnIV.ints ho10 (by decide)).any
   have hb10 := bTrans hb9 hs10
   try (go_wp2_with fail)
   refine hK.out _ _ (HA.out.s hb10) (fun hHeld => ?_)
   clear hK K
   try simp only [Act.put, sqA, sqB, sqC]
   refine wpAnyH_ready (rs := [11]) (by kernel_rfl) (by simp) ?_
   refine AllReadyH.cons (o := ⟨some 24, .buildSlice 54 2 #[(0, .const (.int .i64 1)), (1, .const (.int .i64 2))], 54, "law.go:37", #[⟨6, .guard⟩], some (6, true)⟩) rfl (fun K hK => ?_) AllReadyH.nil
   go_simp
   have hs11 : Below w10.heap.size w10 (w10.alloc (.cells #[.int .i64 1, .int .i64 2] 3)) := bAlloc (bRefl _) _
   have HI11 : Hid (Ints anyB (w10.alloc (.cells #[.int .i64 1, .int .i64 2] 3)) (.slice (some ⟨w10.heap.size, 0, none⟩) 2 2) [1, 2]) := ints_lit2 (heap_new _ _)
   generalize (w10.alloc (.cells #[.int .i64 1, .int .i64 2] 3)) = w11 at hs11 HI11 ⊢
   replace HI10 := hid_mk (Ints.below HI10.out hs11)
   have hb11 := bTrans hb10 hs11
   try (go_wp2_with fail)
   refine hK.out _ _ (HA.out.s hb11) (fun hHeld => ?_)
   clear hK K
   try simp only [Act.put, sqA, sqB, sqC]
   refine wpAnyH_ready (rs := [12]) (by kernel_rfl) (by simp) ?_
   refine AllReadyH.cons (o := ⟨some 25, .call { callee := .value (.func 24), args := #[.tmp 23, .tmp 24], argTypes := #[54, 54] }, 4, "law.go:37", #[⟨10, .data⟩, ⟨11, .data⟩, ⟨10, .chain⟩, ⟨6, .guard⟩], some (6, true)⟩) rfl (fun K hK => ?_) AllReadyH.nil
   go_simp
   go_at_call 24
   refine (aw_eq _ _ _ [1, 2] [1, 2] HI10.out HI11.out rfl).mono ?_
   rintro r w12 ⟨rfl, hs12⟩
   clear HI10 HI11
   have hb12 := bTrans hb11 hs12
   try (go_wp2_with fail)
   refine hK.out _ _ (HA.out.s hb12) (fun hHeld => ?_)
   clear hK K
   try simp only [Act.put, sqA, sqB, sqC]
   refine tKh (i := 13) (oi := ⟨some 26, .pick (.tmp 19) (.tmp 25) (.const (.bool false)), 4, "law.go:37", #[⟨6, .data⟩, ⟨12, .data⟩], none⟩) (v := ?_) (hy := .inl ⟨by rfl, ?_⟩) (h := ?_) (hQ := fun _ _ _ h => HQp _ _ _ _ (by exact rfl) h)
   rotate_left
   ·intro w hSw
    try dsimp only [AwS] at hSw
    go_simp
    try with_reducible rfl
   try simp only [Act.put, sqA, sqB, sqC]
   refine tKh (i := 14) (oi := ⟨some 27, .move (.tmp 26), 4, "law.go:37", #[⟨13, .data⟩, ⟨12, .chain⟩], none⟩) (v := ?_) (hy := .inl ⟨by rfl, ?_⟩) (h := ?_) (hQ := fun _ _ _ h => HQp _ _ _ _ (by exact rfl) h)
   rotate_left
   ·intro w hSw
    try dsimp only [AwS] at hSw
    go_simp
    try with_reducible rfl
   try simp only [Act.put, sqA, sqB, sqC]
   exact wpAnyH_to (aw2 HA HQ HQp hb12 hHeld) (by kernel_rfl)
  ·go_simp
   have hs11 : Below w9.heap.size w9 (w9.alloc (.cells #[.int .i64 1, .int .i64 2] 3)) := bAlloc (bRefl _) _
   have HI11 : Hid (Ints anyB (w9.alloc (.cells #[.int .i64 1, .int .i64 2] 3)) (.slice (some ⟨w9.heap.size, 0, none⟩) 2 2) [1, 2]) := ints_lit2 (heap_new _ _)
   generalize (w9.alloc (.cells #[.int .i64 1, .int .i64 2] 3)) = w11 at hs11 HI11 ⊢
   have hb11 := bTrans hb9 hs11
   try (go_wp2_with fail)
   refine hK.out _ _ (HA.out.s hb11) (fun hHeld => ?_)
   clear hK K
   try simp only [Act.put, sqA, sqB, sqC]
   refine wpAnyH_ready (rs := [10]) (by kernel_rfl) (by simp) ?_
   refine AllReadyH.cons (o := ⟨some 23, .call { callee := .value (.func 25), args := #[.tmp 20, .tmp 21, .tmp 22], argTypes := #[26, 32, 36] }, 54, "law.go:37", #[⟨7, .data⟩, ⟨8, .data⟩, ⟨9, .data⟩, ⟨9, .chain⟩, ⟨6, .guard⟩], some (6, true)⟩) rfl (fun K hK => ?_) AllReadyH.nil
   go_simp
   go_at_call 25
   refine (who_is _ _ _ (netP aL) (netW aL) (mailE 1) [1, 2] tw_1 (HA.out.tab.below hb11) (HA.out.prg.below hb11) (HA.out.wld.below hb11) awSm awRg).mono ?_
   rintro r w10 ⟨v10, rfl, ho10, hs10⟩
   obtain ⟨P10, q10, rfl⟩ := ho10.form
   replace HI11 := hid_mk (Ints.below HI11.out hs10)
   have HI10 : Hid (Ints anyB w10 _ [1, 2]) := (OwnIV.ints ho10 (by decide)).any
   have hb10 := bTrans hb11 hs10
   try (go_wp2_with fail)
   refine hK.out _ _ (HA.out.s hb10) (fun hHeld => ?_)
   clear hK K
   try simp only [Act.put, sqA, sqB, sqC]
   refine wpAnyH_ready (rs := [12]) (by kernel_rfl) (by simp) ?_
   refine AllReadyH.cons (o := ⟨some 25, .call { callee := .value (.func 24), args := #[.tmp 23, .tmp 24], argTypes := #[54, 54] }, 4, "law.go:37", #[⟨10, .data⟩, ⟨11, .data⟩, ⟨10, .chain⟩, ⟨6, .guard⟩], some (6, true)⟩) rfl (fun K hK => ?_) AllReadyH.nil
   go_simp
   go_at_call 24
   refine (aw_eq _ _ _ [1, 2] [1, 2] HI10.out HI11.out rfl).mono ?_
   rintro r w12 ⟨rfl, hs12⟩
   clear HI10 HI11
   have hb12 := bTrans hb10 hs12
   try (go_wp2_with fail)
   refine hK.out _ _ (HA.out.s hb12) (fun hHeld => ?_)
   clear hK K
   try simp only [Act.put, sqA, sqB, sqC]
   refine tKh (i := 13) (oi := ⟨some 26, .pick (.tmp 19) (.tmp 25) (.const (.bool false)), 4, "law.go:37", #[⟨6, .data⟩, ⟨12, .data⟩], none⟩) (v := ?_) (hy := .inl ⟨by rfl, ?_⟩) (h := ?_) (hQ := fun _ _ _ h => HQp _ _ _ _ (by exact rfl) h)
   rotate_left
   ·intro w hSw
    try dsimp only [AwS] at hSw
    go_simp
    try with_reducible rfl
   try simp only [Act.put, sqA, sqB, sqC]
   refine tKh (i := 14) (oi := ⟨some 27, .move (.tmp 26), 4, "law.go:37", #[⟨13, .data⟩, ⟨12, .chain⟩], none⟩) (v := ?_) (hy := .inl ⟨by rfl, ?_⟩) (h := ?_) (hQ := fun _ _ _ h => HQp _ _ _ _ (by exact rfl) h)
   rotate_left
   ·intro w hSw
    try dsimp only [AwS] at hSw
    go_simp
    try with_reducible rfl
   try simp only [Act.put, sqA, sqB, sqC]
   exact wpAnyH_to (aw2 HA HQ HQp hb12 hHeld) (by kernel_rfl)
 ·go_simp
  have hs11 : Below w00.heap.size w00 (w00.alloc (.cells #[.int .i64 1, .int .i64 2] 3)) := bAlloc (bRefl _) _
  have HI11 : Hid (Ints anyB (w00.alloc (.cells #[.int .i64 1, .int .i64 2] 3)) (.slice (some ⟨w00.heap.size, 0, none⟩) 2 2) [1, 2]) := ints_lit2 (heap_new _ _)
  generalize (w00.alloc (.cells #[.int .i64 1, .int .i64 2] 3)) = w11 at hs11 HI11 ⊢
  have hb11 := bTrans hb00 hs11
  try (go_wp2_with fail)
  refine hK.out _ _ (HA.out.s hb11) (fun hHeld => ?_)
  clear hK K
  try simp only [Act.put, sqA, sqB, sqC]
  refine wpAnyH_ready (rs := [9]) (by kernel_rfl) (by simp) ?_
  refine AllReadyH.cons (o := ⟨some 22, .call { callee := .value (.func 32), args := #[.const (.int .i64 1)], argTypes := #[3] }, 36, "law.go:37", #[⟨6, .chain⟩, ⟨6, .guard⟩], some (6, true)⟩) rfl (fun K hK => ?_) AllReadyH.nil
  go_simp
  go_at_call 32
  refine (tmail_any _ _).mono ?_
  rintro r w9 ⟨rfl, hs9⟩
  replace HI11 := hid_mk (Ints.below HI11.out hs9)
  have hb9 := bTrans hb11 hs9
  try (go_wp2_with fail)
  refine hK.out _ _ (HA.out.s hb9) (fun hHeld => ?_)
  clear hK K
  try simp only [Act.put, sqA, sqB, sqC]
  refine wpAnyH_ready (rs := [10]) (by kernel_rfl) (by simp) ?_
  refine AllReadyH.cons (o := ⟨some 23, .call { callee := .value (.func 25), args := #[.tmp 20, .tmp 21, .tmp 22], argTypes := #[26, 32, 36] }, 54, "law.go:37", #[⟨7, .data⟩, ⟨8, .data⟩, ⟨9, .data⟩, ⟨9, .chain⟩, ⟨6, .guard⟩], some (6, true)⟩) rfl (fun K hK => ?_) AllReadyH.nil
  go_simp
  go_at_call 25
  refine (who_is _ _ _ (netP aL) (netW aL) (mailE 1) [1, 2] tw_1 (HA.out.tab.below hb9) (HA.out.prg.below hb9) (HA.out.wld.below hb9) awSm awRg).mono ?_
  rintro r w10 ⟨v10, rfl, ho10, hs10⟩
  obtain ⟨P10, q10, rfl⟩ := ho10.form
  replace HI11 := hid_mk (Ints.below HI11.out hs10)
  have HI10 : Hid (Ints anyB w10 _ [1, 2]) := (OwnIV.ints ho10 (by decide)).any
  have hb10 := bTrans hb9 hs10
  try (go_wp2_with fail)
  refine hK.out _ _ (HA.out.s hb10) (fun hHeld => ?_)
  clear hK K
  try simp only [Act.put, sqA, sqB, sqC]
  refine wpAnyH_ready (rs := [12]) (by kernel_rfl) (by simp) ?_
  refine AllReadyH.cons (o := ⟨some 25, .call { callee := .value (.func 24), args := #[.tmp 23, .tmp 24], argTypes := #[54, 54] }, 4, "law.go:37", #[⟨10, .data⟩, ⟨11, .data⟩, ⟨10, .chain⟩, ⟨6, .guard⟩], some (6, true)⟩) rfl (fun K hK => ?_) AllReadyH.nil
  go_simp
  go_at_call 24
  refine (aw_eq _ _ _ [1, 2] [1, 2] HI10.out HI11.out rfl).mono ?_
  rintro r w12 ⟨rfl, hs12⟩
  clear HI10 HI11
  have hb12 := bTrans hb10 hs12
  try (go_wp2_with fail)
  refine hK.out _ _ (HA.out.s hb12) (fun hHeld => ?_)
  clear hK K
  try simp only [Act.put, sqA, sqB, sqC]
  refine tKh (i := 13) (oi := ⟨some 26, .pick (.tmp 19) (.tmp 25) (.const (.bool false)), 4, "law.go:37", #[⟨6, .data⟩, ⟨12, .data⟩], none⟩) (v := ?_) (hy := .inl ⟨by rfl, ?_⟩) (h := ?_) (hQ := fun _ _ _ h => HQp _ _ _ _ (by exact rfl) h)
  rotate_left
  ·intro w hSw
   try dsimp only [AwS] at hSw
   go_simp
   try with_reducible rfl
  try simp only [Act.put, sqA, sqB, sqC]
  refine tKh (i := 14) (oi := ⟨some 27, .move (.tmp 26), 4, "law.go:37", #[⟨13, .data⟩, ⟨12, .chain⟩], none⟩) (v := ?_) (hy := .inl ⟨by rfl, ?_⟩) (h := ?_) (hQ := fun _ _ _ h => HQp _ _ _ _ (by exact rfl) h)
  rotate_left
  ·intro w hSw
   try dsimp only [AwS] at hSw
   go_simp
   try with_reducible rfl
  try simp only [Act.put, sqA, sqB, sqC]
  exact wpAnyH_to (aw2 HA HQ HQp hb12 hHeld) (by kernel_rfl)
set_option maxHeartbeats 4000000 in
set_option maxRecDepth 100000 in
theorem aw0 {u0 u3 u4 u5 u6 u7 u8 u9 u10 u11 u12 u13 u14 u15 u16 u17 u18 u19 u20 u21 u22 u23 u24 u25 u26 u27 u28 u29 u30 u31 u32 u33 u34 u35 u36 u37 u38 u39 u40 u41 u42 u43 u44 u45 u46 u47 u48 u49 u50 u51 u52 u53 u54 u55 u56 u57 u58 u59 u60 u61 u62 u63 u64 u65 u66 u67 u68 u69 u70 u71 u72 u73 u74 u75 : Value} (HA : Hid (AW W0 gp gw p1 p2 p3 x1 x2)) (HQ : ∀ (t : List Value) (w : World), Below W0.heap.size W0 w → Q .normal { tmps := (.bool true :: t).toArray, defers := [] } w)
  (HQp : ∀ c a a' w, a'.defers = a.defers → Q (.panic c) a w → Q (.panic c) a' w) (hb00 : Below W0.heap.size W0 w00) (hHeld : AwS gp gw p1 p2 p3 x1 x2 w00) :
  wpAnyH Tryz.prog .any awO Q (AwS gp gw p1 p2 p3 x1 x2) 64 (awL 0) { tmps := #[u0, .pointer (some ⟨gp, 0, none⟩), .pointer (some ⟨gw, 0, none⟩), u3, u4, u5, u6, u7, u8, u9, u10, u11, u12, u13, u14, u15, u16, u17, u18, u19, u20, u21, u22, u23, u24, u25, u26, u27, u28, u29, u30, u31, u32, u33, u34, u35, u36, u37, u38, u39, u40, u41, u42, u43, u44, u45, u46, u47, u48, u49, u50, u51, u52, u53, u54, u55, u56, u57, u58, u59, u60, u61, u62, u63, u64, u65, u66, u67, u68, u69, u70, u71, u72, u73, u74, u75], defers := [] } w00 := by
 refine tKh (i := 0) (oi := ⟨some 13, .load 26 (.tmp 1), 26, "law.go:37", #[], none⟩) (v := ?_) (hy := .inl ⟨by rfl, ?_⟩) (h := ?_) (hQ := fun _ _ _ h => HQp _ _ _ _ (by exact rfl) h)
 rotate_left
 ·intro w hSw
  try dsimp only [AwS] at hSw
  go_simp
  try with_reducible rfl
 try simp only [Act.put, sqA, sqB, sqC]
 refine tKh (i := 1) (oi := ⟨some 14, .load 32 (.tmp 2), 32, "law.go:37", #[], none⟩) (v := ?_) (hy := .inl ⟨by rfl, ?_⟩) (h := ?_) (hQ := fun _ _ _ h => HQp _ _ _ _ (by exact rfl) h)
 rotate_left
 ·intro w hSw
  try dsimp only [AwS] at hSw
  go_simp
  try with_reducible rfl
 try simp only [Act.put, sqA, sqB, sqC]
 refine wpAnyH_ready (rs := [2, 4]) (by kernel_rfl) (by simp) ?_
 refine AllReadyH.cons (o := ⟨some 15, .call { callee := .value (.func 32), args := #[.const (.int .i64 0)], argTypes := #[3] }, 36, "law.go:37", #[], none⟩) rfl (fun K hK => ?_) (AllReadyH.cons (o := ⟨some 17, .buildSlice 54 1 #[(0, .const (.int .i64 0))], 54, "law.go:37", #[], none⟩) rfl (fun K hK => ?_) AllReadyH.nil)
 ·go_simp
  go_at_call 32
  refine (tmail_any _ _).mono ?_
  rintro r w2 ⟨rfl, hs2⟩
  have hb2 := bTrans hb00 hs2
  try (go_wp2_with fail)
  refine hK.out _ _ (HA.out.s hb2) (fun hHeld => ?_)
  clear hK K
  try simp only [Act.put, sqA, sqB, sqC]
  refine wpAnyH_ready (rs := [3, 4]) (by kernel_rfl) (by simp) ?_
  refine AllReadyH.cons (o := ⟨some 16, .call { callee := .value (.func 25), args := #[.tmp 13, .tmp 14, .tmp 15], argTypes := #[26, 32, 36] }, 54, "law.go:37", #[⟨0, .data⟩, ⟨1, .data⟩, ⟨2, .data⟩, ⟨2, .chain⟩], none⟩) rfl (fun K hK => ?_) (AllReadyH.cons (o := ⟨some 17, .buildSlice 54 1 #[(0, .const (.int .i64 0))], 54, "law.go:37", #[], none⟩) rfl (fun K hK => ?_) AllReadyH.nil)
  ·go_simp
   go_at_call 25
   refine (who_is _ _ _ (netP aL) (netW aL) (mailE 0) [0] tw_0 (HA.out.tab.below hb2) (HA.out.prg.below hb2) (HA.out.wld.below hb2) awSm awRg).mono ?_
   rintro r w3 ⟨v3, rfl, ho3, hs3⟩
   obtain ⟨P3, q3, rfl⟩ := ho3.form
   have HI3 : Hid (Ints anyB w3 _ [0]) := (OwnIV.ints ho3 (by decide)).any
   have hb3 := bTrans hb2 hs3
   try (go_wp2_with fail)
   refine hK.out _ _ (HA.out.s hb3) (fun hHeld => ?_)
   clear hK K
   try simp only [Act.put, sqA, sqB, sqC]
   refine wpAnyH_ready (rs := [4]) (by kernel_rfl) (by simp) ?_
   refine AllReadyH.cons (o := ⟨some 17, .buildSlice 54 1 #[(0, .const (.int .i64 0))], 54, "law.go:37", #[], none⟩) rfl (fun K hK => ?_) AllReadyH.nil
   go_simp
   have hs4 : Below w3.heap.size w3 (w3.alloc (.cells #[.int .i64 0] 3)) := bAlloc (bRefl _) _
   have HI4 : Hid (Ints anyB (w3.alloc (.cells #[.int .i64 0] 3)) (.slice (some ⟨w3.heap.size, 0, none⟩) 1 1) [0]) := ints_lit (heap_new _ _)
   generalize (w3.alloc (.cells #[.int .i64 0] 3)) = w4 at hs4 HI4 ⊢
   replace HI3 := hid_mk (Ints.below HI3.out hs4)
   have hb4 := bTrans hb3 hs4
   try (go_wp2_with fail)
   refine hK.out _ _ (HA.out.s hb4) (fun hHeld => ?_)
   clear hK K
   try simp only [Act.put, sqA, sqB, sqC]
   refine wpAnyH_ready (rs := [5]) (by kernel_rfl) (by simp) ?_
   refine AllReadyH.cons (o := ⟨some 18, .call { callee := .value (.func 24), args := #[.tmp 16, .tmp 17], argTypes := #[54, 54] }, 4, "law.go:37", #[⟨3, .data⟩, ⟨4, .data⟩, ⟨3, .chain⟩], none⟩) rfl (fun K hK => ?_) AllReadyH.nil
   go_simp
   go_at_call 24
   refine (aw_eq _ _ _ [0] [0] HI3.out HI4.out rfl).mono ?_
   rintro r w5 ⟨rfl, hs5⟩
   clear HI3 HI4
   have hb5 := bTrans hb4 hs5
   try (go_wp2_with fail)
   refine hK.out _ _ (HA.out.s hb5) (fun hHeld => ?_)
   clear hK K
   try simp only [Act.put, sqA, sqB, sqC]
   refine tKh (i := 6) (oi := ⟨some 19, .move (.tmp 18), 4, "law.go:37", #[⟨5, .data⟩, ⟨5, .chain⟩], none⟩) (v := ?_) (hy := .inl ⟨by rfl, ?_⟩) (h := ?_) (hQ := fun _ _ _ h => HQp _ _ _ _ (by exact rfl) h)
   rotate_left
   ·intro w hSw
    try dsimp only [AwS] at hSw
    go_simp
    try with_reducible rfl
   try simp only [Act.put, sqA, sqB, sqC]
   exact wpAnyH_to (aw1 HA HQ HQp hb5 hHeld) (by kernel_rfl)
  ·go_simp
   have hs4 : Below w2.heap.size w2 (w2.alloc (.cells #[.int .i64 0] 3)) := bAlloc (bRefl _) _
   have HI4 : Hid (Ints anyB (w2.alloc (.cells #[.int .i64 0] 3)) (.slice (some ⟨w2.heap.size, 0, none⟩) 1 1) [0]) := ints_lit (heap_new _ _)
   generalize (w2.alloc (.cells #[.int .i64 0] 3)) = w4 at hs4 HI4 ⊢
   have hb4 := bTrans hb2 hs4
   try (go_wp2_with fail)
   refine hK.out _ _ (HA.out.s hb4) (fun hHeld => ?_)
   clear hK K
   try simp only [Act.put, sqA, sqB, sqC]
   refine wpAnyH_ready (rs := [3]) (by kernel_rfl) (by simp) ?_
   refine AllReadyH.cons (o := ⟨some 16, .call { callee := .value (.func 25), args := #[.tmp 13, .tmp 14, .tmp 15], argTypes := #[26, 32, 36] }, 54, "law.go:37", #[⟨0, .data⟩, ⟨1, .data⟩, ⟨2, .data⟩, ⟨2, .chain⟩], none⟩) rfl (fun K hK => ?_) AllReadyH.nil
   go_simp
   go_at_call 25
   refine (who_is _ _ _ (netP aL) (netW aL) (mailE 0) [0] tw_0 (HA.out.tab.below hb4) (HA.out.prg.below hb4) (HA.out.wld.below hb4) awSm awRg).mono ?_
   rintro r w3 ⟨v3, rfl, ho3, hs3⟩
   obtain ⟨P3, q3, rfl⟩ := ho3.form
   replace HI4 := hid_mk (Ints.below HI4.out hs3)
   have HI3 : Hid (Ints anyB w3 _ [0]) := (OwnIV.ints ho3 (by decide)).any
   have hb3 := bTrans hb4 hs3
   try (go_wp2_with fail)
   refine hK.out _ _ (HA.out.s hb3) (fun hHeld => ?_)
   clear hK K
   try simp only [Act.put, sqA, sqB, sqC]
   refine wpAnyH_ready (rs := [5]) (by kernel_rfl) (by simp) ?_
   refine AllReadyH.cons (o := ⟨some 18, .call { callee := .value (.func 24), args := #[.tmp 16, .tmp 17], argTypes := #[54, 54] }, 4, "law.go:37", #[⟨3, .data⟩, ⟨4, .data⟩, ⟨3, .chain⟩], none⟩) rfl (fun K hK => ?_) AllReadyH.nil
   go_simp
   go_at_call 24
   refine (aw_eq _ _ _ [0] [0] HI3.out HI4.out rfl).mono ?_
   rintro r w5 ⟨rfl, hs5⟩
   clear HI3 HI4
   have hb5 := bTrans hb3 hs5
   try (go_wp2_with fail)
   refine hK.out _ _ (HA.out.s hb5) (fun hHeld => ?_)
   clear hK K
   try simp only [Act.put, sqA, sqB, sqC]
   refine tKh (i := 6) (oi := ⟨some 19, .move (.tmp 18), 4, "law.go:37", #[⟨5, .data⟩, ⟨5, .chain⟩], none⟩) (v := ?_) (hy := .inl ⟨by rfl, ?_⟩) (h := ?_) (hQ := fun _ _ _ h => HQp _ _ _ _ (by exact rfl) h)
   rotate_left
   ·intro w hSw
    try dsimp only [AwS] at hSw
    go_simp
    try with_reducible rfl
   try simp only [Act.put, sqA, sqB, sqC]
   exact wpAnyH_to (aw1 HA HQ HQp hb5 hHeld) (by kernel_rfl)
 ·go_simp
  have hs4 : Below w00.heap.size w00 (w00.alloc (.cells #[.int .i64 0] 3)) := bAlloc (bRefl _) _
  have HI4 : Hid (Ints anyB (w00.alloc (.cells #[.int .i64 0] 3)) (.slice (some ⟨w00.heap.size, 0, none⟩) 1 1) [0]) := ints_lit (heap_new _ _)
  generalize (w00.alloc (.cells #[.int .i64 0] 3)) = w4 at hs4 HI4 ⊢
  have hb4 := bTrans hb00 hs4
  try (go_wp2_with fail)
  refine hK.out _ _ (HA.out.s hb4) (fun hHeld => ?_)
  clear hK K
  try simp only [Act.put, sqA, sqB, sqC]
  refine wpAnyH_ready (rs := [2]) (by kernel_rfl) (by simp) ?_
  refine AllReadyH.cons (o := ⟨some 15, .call { callee := .value (.func 32), args := #[.const (.int .i64 0)], argTypes := #[3] }, 36, "law.go:37", #[], none⟩) rfl (fun K hK => ?_) AllReadyH.nil
  go_simp
  go_at_call 32
  refine (tmail_any _ _).mono ?_
  rintro r w2 ⟨rfl, hs2⟩
  replace HI4 := hid_mk (Ints.below HI4.out hs2)
  have hb2 := bTrans hb4 hs2
  try (go_wp2_with fail)
  refine hK.out _ _ (HA.out.s hb2) (fun hHeld => ?_)
  clear hK K
  try simp only [Act.put, sqA, sqB, sqC]
  refine wpAnyH_ready (rs := [3]) (by kernel_rfl) (by simp) ?_
  refine AllReadyH.cons (o := ⟨some 16, .call { callee := .value (.func 25), args := #[.tmp 13, .tmp 14, .tmp 15], argTypes := #[26, 32, 36] }, 54, "law.go:37", #[⟨0, .data⟩, ⟨1, .data⟩, ⟨2, .data⟩, ⟨2, .chain⟩], none⟩) rfl (fun K hK => ?_) AllReadyH.nil
  go_simp
  go_at_call 25
  refine (who_is _ _ _ (netP aL) (netW aL) (mailE 0) [0] tw_0 (HA.out.tab.below hb2) (HA.out.prg.below hb2) (HA.out.wld.below hb2) awSm awRg).mono ?_
  rintro r w3 ⟨v3, rfl, ho3, hs3⟩
  obtain ⟨P3, q3, rfl⟩ := ho3.form
  replace HI4 := hid_mk (Ints.below HI4.out hs3)
  have HI3 : Hid (Ints anyB w3 _ [0]) := (OwnIV.ints ho3 (by decide)).any
  have hb3 := bTrans hb2 hs3
  try (go_wp2_with fail)
  refine hK.out _ _ (HA.out.s hb3) (fun hHeld => ?_)
  clear hK K
  try simp only [Act.put, sqA, sqB, sqC]
  refine wpAnyH_ready (rs := [5]) (by kernel_rfl) (by simp) ?_
  refine AllReadyH.cons (o := ⟨some 18, .call { callee := .value (.func 24), args := #[.tmp 16, .tmp 17], argTypes := #[54, 54] }, 4, "law.go:37", #[⟨3, .data⟩, ⟨4, .data⟩, ⟨3, .chain⟩], none⟩) rfl (fun K hK => ?_) AllReadyH.nil
  go_simp
  go_at_call 24
  refine (aw_eq _ _ _ [0] [0] HI3.out HI4.out rfl).mono ?_
  rintro r w5 ⟨rfl, hs5⟩
  clear HI3 HI4
  have hb5 := bTrans hb3 hs5
  try (go_wp2_with fail)
  refine hK.out _ _ (HA.out.s hb5) (fun hHeld => ?_)
  clear hK K
  try simp only [Act.put, sqA, sqB, sqC]
  refine tKh (i := 6) (oi := ⟨some 19, .move (.tmp 18), 4, "law.go:37", #[⟨5, .data⟩, ⟨5, .chain⟩], none⟩) (v := ?_) (hy := .inl ⟨by rfl, ?_⟩) (h := ?_) (hQ := fun _ _ _ h => HQp _ _ _ _ (by exact rfl) h)
  rotate_left
  ·intro w hSw
   try dsimp only [AwS] at hSw
   go_simp
   try with_reducible rfl
  try simp only [Act.put, sqA, sqB, sqC]
  exact wpAnyH_to (aw1 HA HQ HQp hb5 hHeld) (by kernel_rfl)
end
end Go.Proofs.YtfbeiedhdmndnaaGreatDoor
