/-
  What the law's own look answers: whether a program is looked at. No further conditions.
-/
import Derived.Test.YtflpkdhmkgidiaaDoorChk3
namespace Go.Proofs.YtflpkdhmkgidiaaDoor
open Go.RowKit

theorem all_next {α : Type} {l : List α} {k : Nat} {x : α} {P : α → Prop} (h : ∀ y ∈ l.take k, P y) (hx : l[k]? = some x) (hp : P x) : ∀ y ∈ l.take (k + 1), P y := by
  rw [List.take_add_one, hx]
  intro y hy
  simp only [Option.toList_some, List.mem_append, List.mem_singleton] at hy
  rcases hy with hy | rfl
  · exact h y hy
  · exact hp

set_option maxHeartbeats 4000000 in
theorem small_any (w : World) (v : Value) (p : PPrg) (h : PrgV w v p) :
    Calls Tryd.prog 20 #[v] w fun e w' => e = .returned (.bool (small p)) ∧ Below w.heap.size w w' := by
  obtain ⟨va, vb, vc, rfl, h1, h2, h3⟩ := h
  obtain ⟨A1, c1, rfl, hl1⟩ := h1.form
  obtain ⟨A2, c2, rfl, hl2⟩ := h2.form
  obtain ⟨A3, c3, rfl, hl3⟩ := h3.form
  have HB : ∀ (x : Obj), Below w.heap.size w (w.alloc x) := fun x => bAlloc (bRefl w) x
  by_cases s1 : p.hs.length ≤ 18
  · by_cases s2 : p.acs.length ≤ 10
    · by_cases s3 : p.bs.length ≤ 18
      · go_enter Tryd.func20, Tryd.ntmps20
        go_wp2
        go_loopg [3] p.hs.length (fun g i3 wr => ∃ k : Nat, g = p.hs.length - k ∧ k ≤ p.hs.length ∧ i3 = .int .i64 k ∧ Hid (∀ y ∈ p.hs.take k, y.code.length ≤ 70) ∧ Below (w.heap.size + 1) (w.alloc (.cells #[.slice A1 p.hs.length c1, .slice A2 p.acs.length c2, .slice A3 p.bs.length c3, .int .i64 p.fuel] 27)) wr)
        case atStart => exact ⟨0, rfl, by omega, rfl, fun y hy => by simp at hy, Below.refl _ _⟩
        case round =>
          skip
          obtain ⟨k, rfl, hk, rfl, hal, hb⟩ := hrel
          obtain ⟨hb', hcb, hz⟩ := boxed hb
          by_cases hlt : k < p.hs.length
          · obtain ⟨b1, o1, x, v1, rfl, hx, hz1, q1, q2, hv1⟩ := h1.cell hb' hlt
            obtain ⟨V1, n1, rfl, hvl⟩ := hv1.form
            have HX : Hid (p.hs[k]? = some x) := hx
            clear hx hv1
            by_cases q : x.code.length ≤ 70
            · go_wp2
              go_roundg (p.hs.length - (k + 1))
              case measure => omega
              case rel => exact ⟨k + 1, rfl, by omega, by go_num, all_next hal.out HX.out q, hb⟩
            · have HR : Hid (small p = false) := decide_eq_false (fun h => q (h.2.2.2.1 x (List.mem_of_getElem? HX.out)))
              go_wp2
              go_ret
              exact ⟨ret_b HR.out.symm, hb'⟩
          · have HA0 : Hid (∀ y ∈ p.hs, y.code.length ≤ 70) := by
              have := hal.out
              rwa [List.take_of_length_le (by omega)] at this
            clear hal
            go_wp2
            go_loopg [4] p.acs.length (fun g i4 wr => ∃ k : Nat, g = p.acs.length - k ∧ k ≤ p.acs.length ∧ i4 = .int .i64 k ∧ Hid (∀ y ∈ p.acs.take k, y.regs.length ≤ 10) ∧ Below (w.heap.size + 1) (w.alloc (.cells #[.slice A1 p.hs.length c1, .slice A2 p.acs.length c2, .slice A3 p.bs.length c3, .int .i64 p.fuel] 27)) wr)
            case atStart => exact ⟨0, rfl, by omega, rfl, fun y hy => by simp at hy, hb⟩
            case round =>
              clear hb hb' hcb hz
              obtain ⟨k, rfl, hk, rfl, hal, hb⟩ := hrel
              obtain ⟨hb', hcb, hz⟩ := boxed hb
              by_cases hlt : k < p.acs.length
              · obtain ⟨b1, o1, x, v1, rfl, hx, hz1, q1, q2, q3, q4, hv1⟩ := h2.cell hb' hlt
                obtain ⟨V1, n1, rfl, hvl⟩ := hv1.form
                have HX : Hid (p.acs[k]? = some x) := hx
                clear hx hv1
                by_cases q : x.regs.length ≤ 10
                · go_wp2
                  go_roundg (p.acs.length - (k + 1))
                  case measure => omega
                  case rel => exact ⟨k + 1, rfl, by omega, by go_num, all_next hal.out HX.out q, hb⟩
                · have HR : Hid (small p = false) := decide_eq_false (fun h => q (h.2.2.2.2.1 x (List.mem_of_getElem? HX.out)))
                  go_wp2
                  go_ret
                  exact ⟨ret_b HR.out.symm, hb'⟩
              · have HA1 : Hid (∀ y ∈ p.acs, y.regs.length ≤ 10) := by
                  have := hal.out
                  rwa [List.take_of_length_le (by omega)] at this
                clear hal
                go_wp2
                go_loopg [5] p.bs.length (fun g i5 wr => ∃ k : Nat, g = p.bs.length - k ∧ k ≤ p.bs.length ∧ i5 = .int .i64 k ∧ Hid (∀ y ∈ p.bs.take k, y.args.length ≤ 6) ∧ Below (w.heap.size + 1) (w.alloc (.cells #[.slice A1 p.hs.length c1, .slice A2 p.acs.length c2, .slice A3 p.bs.length c3, .int .i64 p.fuel] 27)) wr)
                case atStart => exact ⟨0, rfl, by omega, rfl, fun y hy => by simp at hy, hb⟩
                case round =>
                  clear hb hb' hcb hz
                  obtain ⟨k, rfl, hk, rfl, hal, hb⟩ := hrel
                  obtain ⟨hb', hcb, hz⟩ := boxed hb
                  by_cases hlt : k < p.bs.length
                  · obtain ⟨b1, o1, x, v1, rfl, hx, hz1, q1, q2, q3, hv1⟩ := h3.cell hb' hlt
                    obtain ⟨V1, n1, rfl, hvl⟩ := hv1.form
                    have HX : Hid (p.bs[k]? = some x) := hx
                    clear hx hv1
                    by_cases q : x.args.length ≤ 6
                    · go_wp2
                      go_roundg (p.bs.length - (k + 1))
                      case measure => omega
                      case rel => exact ⟨k + 1, rfl, by omega, by go_num, all_next hal.out HX.out q, hb⟩
                    · have HR : Hid (small p = false) := decide_eq_false (fun h => q (h.2.2.2.2.2 x (List.mem_of_getElem? HX.out)))
                      go_wp2
                      go_ret
                      exact ⟨ret_b HR.out.symm, hb'⟩
                  · have HA2 : Hid (∀ y ∈ p.bs, y.args.length ≤ 6) := by
                      have := hal.out
                      rwa [List.take_of_length_le (by omega)] at this
                    clear hal
                    go_wp2
                    go_ret
                    exact ⟨ret_b (decide_eq_true ⟨s1, s2, s3, HA0.out, HA1.out, HA2.out⟩).symm, hb'⟩
      · have HR : Hid (small p = false) := decide_eq_false (fun h => s3 h.2.2.1)
        go_enter Tryd.func20, Tryd.ntmps20
        go_wp2
        go_ret
        exact ⟨ret_b HR.out.symm, HB _⟩
    · have HR : Hid (small p = false) := decide_eq_false (fun h => s2 h.2.1)
      go_enter Tryd.func20, Tryd.ntmps20
      go_wp2
      go_ret
      exact ⟨ret_b HR.out.symm, HB _⟩
  · have HR : Hid (small p = false) := decide_eq_false (fun h => s1 h.1)
    go_enter Tryd.func20, Tryd.ntmps20
    go_wp2
    go_ret
    exact ⟨ret_b HR.out.symm, HB _⟩
end Go.Proofs.YtflpkdhmkgidiaaDoor
