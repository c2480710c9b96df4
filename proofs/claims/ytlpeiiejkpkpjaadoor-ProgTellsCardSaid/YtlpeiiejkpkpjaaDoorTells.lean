/-
  What ProgTells answers of any two programs: true; and nothing old has turned. Condition: the table of the instructions is in the world.
-/
import Derived.Test.YtlpeiiejkpkpjaaDoorRSame
import Derived.Test.YtlpeiiejkpkpjaaDoorRef2
import Derived.Test.YtlpeiiejkpkpjaaDoorSmall
import Derived.Test.YtlpeiiejkpkpjaaDoorAwake
namespace Go.Proofs.YtlpeiiejkpkpjaaDoor
open Go.RowKit
attribute [local go_sem ↓] Go.wp_at_zero Go.wp_at_succ

theorem of_decide_eq_true_small {p : PPrg} (h : small p = true) : Small p := of_decide_eq_true h

/-- What the last statement knows of the two programs. -/
structure TG (w0 w : World) (bp bq : Nat) (P Q : Array Value) (p q : PPrg) : Prop where
  low : Below w0.heap.size w0 w
  tab : Tab w
  x1 : Bx w bp P
  x2 : Bx w bq Q
  pp : PrgV w (.agg P) p
  pq : PrgV w (.agg Q) q
theorem TG.below {w0 w w' : World} {bp bq : Nat} {P Q : Array Value} {p q : PPrg} (h : TG w0 w bp bq P Q p q) (hb : Below w.heap.size w w') : TG w0 w' bp bq P Q p q :=
  ⟨bTrans h.low hb, h.tab.below hb, h.x1.below hb, h.x2.below hb, h.pp.below hb, h.pq.below hb⟩
theorem TG.drew {w0 w : World} {bp bq : Nat} {P Q : Array Value} {p q : PPrg} (h : TG w0 w bp bq P Q p q) : TG w0 w.drew bp bq P Q p q := h.below (bRefl w).drew
theorem bx2 {w : World} {x : Obj} {cs : Array Value} {T : TypeId} : Bx ((w.alloc x).alloc (.cells cs T)) (w.heap.size + 1) cs := by
  have h := Bx.new (w.alloc x) cs T
  simpa using h

set_option maxHeartbeats 8000000 in
set_option maxRecDepth 100000 in
theorem tells_all (w : World) (ht : Tab w) (v1 v2 : Value) (n m : PPrg) (h1 : PrgV w v1 n) (h2 : PrgV w v2 m) :
    Calls Tryd.prog 3 #[v1, v2] w fun e w' => e = .returned (.bool true) ∧ Below w.heap.size w w' := by
  obtain ⟨A1, A2, A3, c1, c2, c3, rfl⟩ := h1.open
  obtain ⟨D1, D2, D3, g1, g2, g3, rfl⟩ := h2.open
  have HT : Hid (Tab w) := ht
  have H1 : Hid (PrgV w (.agg #[.slice A1 n.hs.length c1, .slice A2 n.acs.length c2, .slice A3 n.bs.length c3, .int .i64 n.fuel]) n) := h1
  have H2 : Hid (PrgV w (.agg #[.slice D1 m.hs.length g1, .slice D2 m.acs.length g2, .slice D3 m.bs.length g3, .int .i64 m.fuel]) m) := h2
  have tg : TG w ((w.alloc (.cells #[.slice A1 n.hs.length c1, .slice A2 n.acs.length c2, .slice A3 n.bs.length c3, .int .i64 n.fuel] 26)).alloc (.cells #[.slice D1 m.hs.length g1, .slice D2 m.acs.length g2, .slice D3 m.bs.length g3, .int .i64 m.fuel] 26)) w.heap.size (w.heap.size + 1) #[.slice A1 n.hs.length c1, .slice A2 n.acs.length c2, .slice A3 n.bs.length c3, .int .i64 n.fuel] #[.slice D1 m.hs.length g1, .slice D2 m.acs.length g2, .slice D3 m.bs.length g3, .int .i64 m.fuel] n m :=
    ⟨bAlloc (bAlloc (bRefl w) _) _, ht.below (bAlloc (bAlloc (bRefl w) _) _), (Bx.new w _ 26).below (bAlloc (bRefl _) _), bx2, h1.below (bAlloc (bAlloc (bRefl w) _) _), h2.below (bAlloc (bAlloc (bRefl w) _) _)⟩
  clear ht h1 h2
  cases s1 : small n with
  | false =>
    go_enter Tryd.func3, Tryd.ntmps3
    go_wp2_with fail
    refine (small_any _ _ n tg.pp).mono ?_
    rintro e w1 ⟨rfl, hb1⟩
    have t1 := tg.below hb1
    go_wp2_with fail
    refine (awake_any _ t1.tab).mono ?_
    rintro e w2 ⟨rfl, hb2⟩
    go_wp2_with fail
    go_ret
    exact ⟨rfl, bTrans t1.low hb2⟩
  | true =>
    have HSm : Hid (Small n) := of_decide_eq_true_small s1
    cases s2 : small m with
    | false =>
      go_enter Tryd.func3, Tryd.ntmps3
      go_wp2_with fail
      refine (small_any _ _ n tg.pp).mono ?_
      rintro e w1 ⟨rfl, hb1⟩
      have t1 := tg.below hb1
      have k1 := t1.x1.cell
      have k2 := t1.x2.cell
      go_wp2_with fail
      refine (small_any _ _ m t1.pq).mono ?_
      rintro e w2 ⟨rfl, hb2⟩
      have t2 := t1.below hb2
      go_wp2_with fail
      refine (awake_any _ t2.tab).mono ?_
      rintro e w3 ⟨rfl, hb3⟩
      go_wp2_with fail
      go_ret
      exact ⟨rfl, bTrans t2.low hb3⟩
    | true =>
      have g0 := eqB_self n
      go_enter Tryd.func3, Tryd.ntmps3
      go_wp2_with fail
      refine (small_any _ _ n tg.pp).mono ?_
      rintro e w1 ⟨rfl, hb1⟩
      have t1 := tg.below hb1
      have k1 := t1.x1.cell
      have k2 := t1.x2.cell
      go_wp2_with fail
      refine (small_any _ _ m t1.pq).mono ?_
      rintro e w2 ⟨rfl, hb2⟩
      have t2 := t1.below hb2
      clear hb1 hb2 t1 k1 k2 tg
      go_wp2_with fail
      go_loopg [5, 6] n.hs.length (fun g i5 i6 wr => ∃ k : Nat, g = n.hs.length - k ∧ k ≤ n.hs.length ∧ i6 = .int .i64 k ∧ i5 = .int .i64 (sizes (n.hs.take k)) ∧ TG w wr w.heap.size (w.heap.size + 1) #[.slice A1 n.hs.length c1, .slice A2 n.acs.length c2, .slice A3 n.bs.length c3, .int .i64 n.fuel] #[.slice D1 m.hs.length g1, .slice D2 m.acs.length g2, .slice D3 m.bs.length g3, .int .i64 m.fuel] n m)
      case atStart => exact ⟨0, rfl, by omega, rfl, rfl, t2⟩
      case round =>
        clear t2
        obtain ⟨k, rfl, hk, rfl, rfl, tf⟩ := hrel
        have c1' := tf.x1.cell
        have c2' := tf.x2.cell
        by_cases hlt : k < n.hs.length
        · obtain ⟨va, vb, vc, hve, hh, _, _⟩ := tf.pp
          simp only [Value.agg.injEq, Array.mk.injEq, List.cons.injEq] at hve
          obtain ⟨hva, _⟩ := hve
          subst hva
          obtain ⟨b1, o1, x, v1, rfl, hx, hz1, q1, q2, hv1⟩ := hh.cell (bRefl wr) hlt
          obtain ⟨V1, n1, rfl, hvl⟩ := hv1.form
          have HX : Hid (n.hs[k]? = some x) := hx
          have hbig : n.hs.length ≤ 18 := HSm.out.1
          have b0 := sizes_nonneg (n.hs.take k)
          have b2 : sizes (n.hs.take k) ≤ 70 * 18 := by
            have := sizes_le (l := n.hs.take k) (fun y hy => HSm.out.2.2.2.1 y (List.mem_of_mem_take hy))
            have h2 : (n.hs.take k).length ≤ 18 := by rw [List.length_take]; have := HSm.out.1; omega
            omega
          have b3 : x.code.length ≤ 70 := HSm.out.2.2.2.1 x (List.mem_of_getElem? hx)
          clear hx hh hv1
          have HTF : Hid (TG w wr w.heap.size (w.heap.size + 1) #[.slice (some ⟨b1, o1, none⟩) n.hs.length c1, .slice A2 n.acs.length c2, .slice A3 n.bs.length c3, .int .i64 n.fuel] #[.slice D1 m.hs.length g1, .slice D2 m.acs.length g2, .slice D3 m.bs.length g3, .int .i64 m.fuel] n m) := tf
          clear tf
          go_wp2
          go_roundg (n.hs.length - (k + 1))
          case measure => omega
          case rel => exact ⟨k + 1, rfl, by omega, by go_num, by rw [sizes_take HX.out], HTF.out⟩
        · obtain rfl : k = n.hs.length := by omega
          have td := tf.drew
          rw [List.take_of_length_le (Nat.le_refl _)]
          clear H1 H2
          go_wp2
          go_region_held3 (fun w' => w'.cell? ⟨w.heap.size, 0, none⟩ = some (.slice A1 n.hs.length c1) ∧ w'.cell? ⟨w.heap.size, 1, none⟩ = some (.slice A2 n.acs.length c2) ∧ w'.cell? ⟨w.heap.size, 2, none⟩ = some (.slice A3 n.bs.length c3) ∧ w'.cell? ⟨w.heap.size, 3, none⟩ = some (.int .i64 n.fuel) ∧ w'.cell? ⟨w.heap.size + 1, 0, none⟩ = some (.slice D1 m.hs.length g1) ∧ w'.cell? ⟨w.heap.size + 1, 1, none⟩ = some (.slice D2 m.acs.length g2) ∧ w'.cell? ⟨w.heap.size + 1, 2, none⟩ = some (.slice D3 m.bs.length g3) ∧ w'.cell? ⟨w.heap.size + 1, 3, none⟩ = some (.int .i64 m.fuel)) (go_keep)
            (first
      | (go_at_call 11; refine (check_any _ _ n (by first | exact td.tab | exact tf.tab) (by first | exact td.pp | exact tf.pp)).mono ?_; rintro e w' ⟨rfl, hb⟩; replace tf := (by first | exact td.below hb | exact tf.below hb); have c1' := tf.x1.cell; have c2' := tf.x2.cell)
      | (go_at_call 12; refine (rcheck_any _ _ n (by first | exact td.pp | exact tf.pp)).mono ?_; rintro e w' ⟨rfl, hb⟩; replace tf := (by first | exact td.below hb | exact tf.below hb); have c1' := tf.x1.cell; have c2' := tf.x2.cell)
      | (go_at_call 13; refine (same_any _ _ _ _ _ (by first | exact td.pp | exact tf.pp) (by first | exact td.pq | exact tf.pq | exact td.pp | exact tf.pp)).mono ?_; rintro e w' ⟨rfl, hb⟩; replace tf := (by first | exact td.below hb | exact tf.below hb); have c1' := tf.x1.cell; have c2' := tf.x2.cell)
      | (go_at_call 14; refine (rsame_any _ _ _ _ _ (by first | exact td.pp | exact tf.pp) (by first | exact td.pq | exact tf.pq | exact td.pp | exact tf.pp)).mono ?_; rintro e w' ⟨rfl, hb⟩; replace tf := (by first | exact td.below hb | exact tf.below hb); have c1' := tf.x1.cell; have c2' := tf.x2.cell)
      | (go_at_call 15; refine (size_any _ _ n (by first | exact td.pp | exact tf.pp) HSm.out.2.2.2.1 HSm.out.1).mono ?_; rintro e w' ⟨rfl, hb⟩; replace tf := (by first | exact td.below hb | exact tf.below hb); have c1' := tf.x1.cell; have c2' := tf.x2.cell)
      | (go_at_call 10; refine (awake_any _ (by first | exact td.tab | exact tf.tab)).mono ?_; rintro e w' ⟨rfl, hb⟩; replace tf := (by first | exact td.below hb | exact tf.below hb); have c1' := tf.x1.cell; have c2' := tf.x2.cell))
          all_goals (go_wp2_with fail; go_ret; exact ⟨rfl, tf.low⟩)
end Go.Proofs.YtlpeiiejkpkpjaaDoor
