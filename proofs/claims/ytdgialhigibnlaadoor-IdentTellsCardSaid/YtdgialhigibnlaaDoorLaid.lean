/-
  From the row's condition (the six listed variables read as they are laid) and the world's shape to the variables' cells; and a wrap that keeps both. No conditions.
-/
import Derived.Test.YtdgialhigibnlaaDoorI3
import Derived.Test.YtdgialhigibnlaaDoorOpen
import Derived.ProofKit
import Derived.LaidMore
import Derived.OpenShut
import Derived.Stop.Joined
import Derived.Stop.LaidErr
import Derived.HandedShaped
import Derived.Handed
import Derived.Shelf.Vars
import Derived.Lib.SmallJoins
import Derived.Lib.LaidTab
namespace Go.Proofs.YtdgialhigibnlaaDoor
open Go.ChangeShapes Go.WideShapes Go.ChangeAt Go.RowKit

theorem own : ownKnob Tryd.prog.godebug = none := by kernel_rfl
def nmAt (k : Nat) : String := (Rows.identTellsRow.laid.map (·.1)).getD k ""
theorem gWds : Tryd.prog.globalNamed (nmAt 5) = some 0 := by kernel_rfl
theorem tWds : (Tryd.prog.globals[0]?).map (·.type) = some 59 := by kernel_rfl
theorem gPow : Tryd.prog.globalNamed powName = some 4 := by kernel_rfl
theorem tPow : (Tryd.prog.globals[4]?).map (·.type) = some 93 := by kernel_rfl
theorem gRng : Tryd.prog.globalNamed (nmAt 3) = some 3 := by kernel_rfl
theorem tRng : (Tryd.prog.globals[3]?).map (·.type) = some 61 := by kernel_rfl
theorem gSyn : Tryd.prog.globalNamed (nmAt 4) = some 2 := by kernel_rfl
theorem tSyn : (Tryd.prog.globals[2]?).map (·.type) = some 61 := by kernel_rfl
theorem cellsPow : Tryd.prog.cellsOf 93 = 20 := by kernel_rfl
theorem cellsU : Tryd.prog.cellsOf 64 = 1 := by kernel_rfl
theorem cells9 : Tryd.prog.cellsOf 9 = 1 := by kernel_rfl
theorem cellsES : Tryd.prog.cellsOf 101 = 1 := by kernel_rfl
theorem star : "*" ++ "errors.errorString" = "*errors.errorString" := by decide
theorem rowES (u : TypeId) (h : Tryd.prog.typeName? 3 u = some "*errors.errorString") : u = 99 :=
  typeName_ptr_named (nm := "errors.errorString") (by rw [star]; kernel_rfl) (by kernel_rfl) (by decide) u (by rw [star]; exact h)

def laid1 : List (String × DataW Unit) := [(nmAt 0, Rows.laid_math_bits_deBruijn32tab), (nmAt 1, Rows.laid_math_bits_deBruijn64tab), (powName, Rows.laid_internal_strconv_uint64pow10), (nmAt 3, Rows.laid_strconv_ErrRange), (nmAt 4, Rows.laid_strconv_ErrSyntax), (nmAt 5, Rows.laid_gavotte_ident_words)]
theorem pow_rows : (Rows.laid_internal_strconv_uint64pow10 : DataW Unit) = Lib.tabData .u64 Lib.pow10Tab := by kernel_rfl
/-- The datum, word by word. -/
def wdD (i : Nat) : DataW Unit := .lit (.string (wdK i))
theorem word_rows : (Rows.laid_gavotte_ident_words : DataW Unit) = .agg ((List.range 6).map wdD) := by kernel_rfl
theorem one_of {α : Type} {l : List α} {k : Nat} {a : α} (h : (l.drop k).take 1 = [a]) : l[k]? = some a := by
  have := congrArg (·[0]?) h
  simpa [List.getElem?_take, List.getElem?_drop] using this
theorem str_of {s : ByteArray} {l : List UInt8} (h : l = s.data.toList) : s = ⟨l.toArray⟩ := by
  subst h
  rfl
theorem wds_of {W : World} (h : laidMet Tryd.prog [(nmAt 5, Rows.laid_gavotte_ident_words)] W) : ∀ k : Nat, k < 6 → W.cell? ⟨0, k, none⟩ = some (.string (bs (wdK k))) := by
  obtain ⟨ps, ⟨g0, t0, cs0, f0, p0, q0, hg0, ht0, hv0, hd0, _, _⟩, _, _⟩ := h
  obtain rfl := Option.some.inj (gWds.symm.trans hg0)
  obtain rfl := Option.some.inj (tWds.symm.trans ht0)
  obtain ⟨xs, m, rfl, hx, hlen, hn, hel⟩ := DataW.trod_array Tryd.underlying59 hd0
  rw [word_rows] at hx
  simp only [Prod.mk.injEq, DataW.agg.injEq] at hx
  intro i hi
  have he := hel i hi
  have hxi : (xs.map (·.1))[i]? = some (wdD i) := by rw [← hx.1]; simp [hi]
  rw [List.getElem?_map] at hxi
  obtain ⟨x, hx1, hx2⟩ := Option.map_eq_some_iff.1 hxi
  rw [hx1, cells9] at he
  obtain ⟨s, c0, rfl, _⟩ := DataW.trod_string Tryd.underlying9 he
  simp only [wdD, DataW.lit.injEq, Lit.string.injEq] at hx2
  have hs : s = bs (wdK i) := str_of hx2.symm
  subst hs
  have d0 := one_of c0
  rw [Nat.mul_one, Array.getElem?_toList] at d0
  exact (World.var?_cell hg0 hv0 i).trans d0

theorem of_laid {W : World} (h : laidMetH Tryd.prog laid1 W) (hs : W.ShapedOpen Tryd.prog) : Env W := by
  rw [MakeChecks.laidMetH_plain _ _ _ (by kernel_rfl)] at h
  have t2 := h.tail.tail
  have t3 := t2.tail
  have t4 := t3.tail
  have t5 := t4.tail
  obtain ⟨a4, s4, v4, _, _, _⟩ := laid_sentinel t3 gRng tRng Tryd.underlying61 rowES Tryd.underlying99 Tryd.underlying101 rfl rfl Tryd.underlying9 cellsES cells9
  obtain ⟨a5, s5, v5, _, _, _⟩ := laid_sentinel t4 gSyn tSyn Tryd.underlying61 rowES Tryd.underlying99 Tryd.underlying101 rfl rfl Tryd.underlying9 cellsES cells9
  have hp : Lib.TabIs Tryd.prog W powName .u64 Lib.pow10Tab := Lib.tabIs_of_head gPow tPow Tryd.underlying93 Tryd.underlying64 cellsU cellsPow (by rw [← pow_rows]; exact t2)
  have c2 : W.cell? ⟨2, 0, none⟩ = some (.iface 99 (.pointer (some a5))) := by have h0 := World.var?_cell gSyn v5 0; simpa using h0
  have c3 : W.cell? ⟨3, 0, none⟩ = some (.iface 99 (.pointer (some a4))) := by have h0 := World.var?_cell gRng v4 0; simpa using h0
  refine ⟨wds_of t5, hp, cell_of_shapedOpen_int (g := 1) (t := 3) (zero := #[.int .i64 0]) hs (of_decide_eq_true (by kernel_rfl)) (by kernel_rfl) rfl (by kernel_rfl) (by kernel_rfl) Tryd.underlying3, ⟨_, _, c2⟩, ⟨_, _, c3⟩, ?_⟩
  obtain ⟨cs, hh, _⟩ := hs.1 6 (Array.replicate 64 (.int .u8 0)) 104 (of_decide_eq_true (by kernel_rfl)) (by kernel_rfl)
  exact (Array.getElem?_eq_some_iff.1 hh).1

/-- The wrap of a row that lists variables, the world's shape kept. -/
theorem handed_both {H : Type} {enc : TypeId × Value → H} {a : Assume} {C : Checked} {os : Os} {f : FuncId} {fn : Func} {s : ChangeSpec} {conds : List PathCond} {apart fresh handsOn again : Bool} {X : World → Array Value → Prop}
    (hX : ∀ (w w' : World) (args : Array Value), w.heap = w'.heap → X w args → X w' args)
    (own : ownKnob C.prog.godebug = none) (started : os.Started) (noInit : C.prog.inits.idxOf? f = none) (hfn : C.prog.funcs[f]? = some fn)
    (witness : ∃ (w : World) (tape : Tape) (i : Input), w.os = os ∧ (w.forCall tape i).Shaped C.prog ∧ i.vars = [] ∧ Input.okWide C.prog (w.forCall tape i) .any w.heap.size f i ∧
      ((s.pre enc C.prog fn conds apart (w.forCall tape i).memory i.args ∧ X (w.forCall tape i).memory i.args) ∧ sizedMet enc C.prog fn (OpenSpec.ofChange s) apart (w.forCall tape i).memory i.args) ∧ a.holds C.prog (lone (Frame.enter C.prog f i.args .normal) [] (w.forCall tape i)))
    (contract : ∀ (W : World) (base : Nat) (args : Array Value) (ds gs : List (DataW H)) (before : List MemPlace),
      (∀ (j : Nat) t v, fn.params[j]? = some t → args[j]? = some v → Value.okWide C.prog W .any base t v) →
      DataW.Whole enc C.prog fn.params.toList s.vars apart W args.toList ds gs before → X W args → W.ShapedOpen C.prog →
      Calls C.prog f args W fun e W' => ∃ v, e = .returned v ∧ s.post enc C.prog fn apart fresh handsOn again W args v W') :
    ReturnsInHanded a C os f .any (fun w args => (s.pre enc C.prog fn conds apart w args ∧ X w args) ∧ sizedMet enc C.prog fn (OpenSpec.ofChange s) apart w args) (s.post enc C.prog fn apart fresh handsOn again) := by
  refine returnsInHanded_of_calls own started noInit witness fun w tape i _ hsh _ hok hpre _ => ?_
  obtain ⟨_, _, _, fn', hfn', _, _, _, _, hval⟩ := hok
  cases Option.some.inj (hfn'.symm.trans hfn)
  obtain ⟨⟨⟨ds, gs, before, hw, _⟩, hx⟩, _⟩ := hpre
  refine (contract (w.forCall tape i) w.heap.size i.args ds gs before hval (DataW.Whole.of_heap (w' := w.forCall tape i) (by rfl) hw) (hX _ _ _ (by rfl) hx) hsh).mono fun e W' ⟨v, he, hp⟩ => ?_
  subst he
  exact ChangeSpec.post_blind hp

/-- The heap that the initialisers leave meets the condition. -/
theorem door_met (os : Os) (args : Array Value) : laidMetH Tryd.prog laid1 ((World.doorLaid Tryd.prog 400 os).forCall (fun _ _ => 0) ⟨#[], args, []⟩).memory :=
  laidMetH_of_parts3 (fuel := 8) (laidMet_of_run' 8 (by kernel_rfl) (by kernel_rfl)) (by kernel_rfl) (by kernel_rfl)
end Go.Proofs.YtdgialhigibnlaaDoor
