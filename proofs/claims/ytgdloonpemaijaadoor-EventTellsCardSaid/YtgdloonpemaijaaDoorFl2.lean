/-
  What slices.Max, Most and Check answer. Conditions: the table of the instructions is in the world; of Max: the list is not empty, and nothing in it is below -1.
-/
import Derived.Test.YtgdloonpemaijaaDoorFl
namespace Go.Proofs.YtgdloonpemaijaaDoor
open Go.RowKit
attribute [local go_sem ↓] Go.wp_at_zero Go.wp_at_succ

theorem mx2_assoc (a b c : Int) : mx2 (mx2 a b) c = mx2 a (mx2 b c) := by
  have h1 := mx2_ge a b
  have h2 := mx2_ge (mx2 a b) c
  have h3 := mx2_ge b c
  have h4 := mx2_ge a (mx2 b c)
  omega
theorem mx2_comm (a b : Int) : mx2 a b = mx2 b a := by
  have h1 := mx2_ge a b
  have h2 := mx2_ge b a
  omega
theorem mxl_snoc (l : List Int) (x : Int) : mxl (l ++ [x]) = mx2 (mxl l) x := by
  induction l with
  | nil => show mx2 x (-1) = mx2 (-1) x; exact mx2_comm _ _
  | cons y r ih => show mx2 y (mxl (r ++ [x])) = mx2 (mx2 y (mxl r)) x; rw [ih, mx2_assoc]
theorem mxl_take {l : List Int} {k : Nat} {x : Int} (h : l[k]? = some x) : mxl (l.take (k + 1)) = mx2 (mxl (l.take k)) x := by
  rw [List.take_add_one, h]; exact mxl_snoc _ _

theorem dp_some {hs : List PHnd} {code : List PIns} (h : de hs code = 0) : Good hs code (dl hs code) := by
  unfold de at h
  cases e : dp hs code with
  | none => rw [e] at h; simp at h
  | some l => unfold dl; rw [e]; exact dp_good e
theorem Good.ge {hs : List PHnd} {code : List PIns} {l : List Int} (g : Good hs code l) : ∀ x ∈ l, -1 ≤ x := by
  intro x hx
  obtain ⟨k, hk⟩ := List.getElem?_of_mem hx
  rcases g.sound k x hk with h | h
  · omega
  · have := h.nonneg; omega
theorem Good.pos {hs : List PHnd} {code : List PIns} {l : List Int} (g : Good hs code l) : 0 < l.length := by rw [g.len]; omega
theorem fe_good {p : PPrg} {h : Int} (e : fe p h = 0) : Good p.hs (fcode p h) (fl p h) := by
  by_cases e0 : chk p = 0
  · by_cases g0 : 0 ≤ h ∧ h < p.hs.length
    · unfold fe at e
      unfold fl
      rw [if_pos e0, if_pos g0] at *
      exact dp_some e
    · unfold fe at e; rw [if_pos e0, if_neg g0] at e; cases e
  · unfold fe at e; rw [if_neg e0] at e; exact absurd e e0

set_option maxHeartbeats 4000000 in
theorem fcheck_any (w : World) (v : Value) (p : PPrg) (ht : Tab w) (hp : PrgV w v p) :
    Calls Tryd.prog 46 #[v] w fun e w' => e = .returned (.int .i64 (fc p)) ∧ Below w.heap.size w w' := by
  have HP : Hid (PrgV w v p) := hp
  obtain ⟨va, vb, vc, rfl, h1, h2, h3⟩ := hp
  obtain ⟨A1, c1, rfl, hl1⟩ := h1.form
  obtain ⟨A2, c2, rfl, hl2⟩ := h2.form
  obtain ⟨A3, c3, rfl, hl3⟩ := h3.form
  have HT : Hid (Tab w) := ht
  have HB : ∀ (x : Obj), Below w.heap.size w (w.alloc x) := fun x => bAlloc (bRefl w) x
  clear ht h2 h3
  by_cases e0 : chk p = 0
  · have e0' := ne0_no e0
    have HO : Hid (OkH p.hs ∧ ∀ x ∈ p.hs, x.code.length ≤ 64 ∧ ∀ i ∈ x.code, OkI p.hs x.code.length i) := chk_ok e0
    have HC : Hid (fc p = scan (fun h => de p.hs h.code) p.hs) := by unfold fc; rw [if_pos e0]; rfl
    clear e0
    go_enter Tryd.func46, Tryd.ntmps46
    go_wp2_with (go_at_call 86; refine (check_any _ _ p (HT.out.below (by exact HB _)) (HP.out.below (by exact HB _))).mono ?_; rintro e w0 ⟨rfl, hb0⟩; have hc0 := bcell hb0)
    go_loopg [5, 6, 7, 16] p.hs.length (fun g i5 i6 i7 i16 wr => ∃ k : Nat, g = p.hs.length - k ∧ k ≤ p.hs.length ∧ i16 = .int .i64 k ∧ Hid (scan (fun h => de p.hs h.code) (p.hs.drop k) = fc p) ∧ Below (w.heap.size + 1) (w.alloc (.cells #[.slice A1 p.hs.length c1, .slice A2 p.acs.length c2, .slice A3 p.bs.length c3, .int .i64 p.fuel] 26)) wr)
    case atStart => exact ⟨0, rfl, by omega, rfl, HC.out.symm, by simpa using hb0⟩
    case round =>
      obtain ⟨k, rfl, hk, rfl, hsc, hb⟩ := hrel
      obtain ⟨hb', hcb, hz⟩ := boxed hb
      by_cases hlt : k < p.hs.length
      · obtain ⟨b1, o1, x, v1, rfl, hx, hz1, q1, q2, hv1⟩ := h1.cell hb' hlt
        obtain ⟨V1, n1, rfl, _⟩ := hv1.form
        have HS : Hid (scan (fun h => de p.hs h.code) (p.hs.drop k) = if de p.hs x.code = 0 then scan (fun h => de p.hs h.code) (p.hs.drop (k + 1)) else de p.hs x.code) := scan_step hx
        have HX : Hid (x ∈ p.hs) := List.mem_of_getElem? hx
        clear hx
        by_cases he : de p.hs x.code = 0
        · have he' := ne0_no he
          have HE : Hid (de p.hs x.code = 0) := he
          clear he
          go_wp2_with (go_at_call 87; refine (walk_any _ _ _ x.code p.hs (HT.out.below (by exact bAlloc hb' _)) ((hv1.below (by exact bAlloc (bRefl _) _)).any) (h1.below (by exact bAlloc hb' _)) HO.out.1 (HO.out.2 x HX.out).2 (HO.out.2 x HX.out).1).mono ?_; rintro e w2 ⟨u, rfl, hu, hb2⟩; obtain ⟨Au, cu, rfl, hul⟩ := hu.form)
          go_roundg (p.hs.length - (k + 1))
          case measure => omega
          case rel => exact ⟨k + 1, rfl, by omega, by go_num, by rw [← hsc.out, HS.out, if_pos HE.out]; rfl, boxed_next hb hb2⟩
        · have he' := ne0_yes he
          have HE : Hid (de p.hs x.code = fc p) := by rw [← hsc.out, HS.out, if_neg he]; rfl
          clear he
          go_wp2_with (go_at_call 87; refine (walk_any _ _ _ x.code p.hs (HT.out.below (by exact bAlloc hb' _)) ((hv1.below (by exact bAlloc (bRefl _) _)).any) (h1.below (by exact bAlloc hb' _)) HO.out.1 (HO.out.2 x HX.out).2 (HO.out.2 x HX.out).1).mono ?_; rintro e w2 ⟨u, rfl, hu, hb2⟩; obtain ⟨Au, cu, rfl, hul⟩ := hu.form)
          go_ret
          exact ⟨ret_int HE.out, bTrans (bAlloc hb' _) hb2⟩
      · go_wp2
        go_ret
        exact ⟨ret_int (by rw [← hsc.out, scan_end hlt]), hb'⟩
  · have e0' := ne0_yes e0
    have HC : Hid (chk p = fc p) := by unfold fc; rw [if_neg e0]; rfl
    clear e0
    go_enter Tryd.func46, Tryd.ntmps46
    go_wp2_with (go_at_call 86; refine (check_any _ _ p (HT.out.below (by exact HB _)) (HP.out.below (by exact HB _))).mono ?_; rintro e w0 ⟨rfl, hb0⟩; have hc0 := bcell hb0)
    go_ret
    exact ⟨ret_int HC.out, bTrans (HB _) hb0⟩
end Go.Proofs.YtgdloonpemaijaaDoor
