/-
  MailSorted: put in one by one, in whatever order, they stand in order; taken all, they are gone. No conditions.
-/
import Derived.Test.YtjdkbgeehjihfaaMp
namespace Go.Proofs.Ytjdkbgeehjihfaa
open Go.RowKit
attribute [local go_sem ↓] Go.wp_at_zero Go.wp_at_succ fieldM
theorem infoB : (Try.prog.info? 4).map (fun i => (i.zero, i.size, i.bytes)) = some (some (.bool false), 1, 1) := by kernel_rfl
/-- The law's memory: the row of marks, and the list. -/
structure Mk (w : World) (D : Nat) (s : Nat → Bool) (l : List PMsg) (v : Value) (wr : World) : Prop where
  low : Below w.heap.size w wr
  row : wr.rowIs D 4 30 (fun j => .bool (s j))
  base : w.heap.size ≤ D
  rd : Msgs (fun b => b ≠ D) (fun b => b ≠ D) wr v l
section
variable {w wr w1 : World} {D : Nat} {s : Nat → Bool} {l : List PMsg} {v : Value}
theorem Mk.lt (h : Mk w D s l v wr) : D < wr.heap.size := h.row.lt
theorem Mk.below (h : Mk w D s l v wr) (hb : Below wr.heap.size wr w1) : Mk w D s l v w1 :=
  ⟨bTrans h.low hb, h.row.of_block (hb.block D h.lt), h.base, h.rd.below hb⟩
theorem Mk.cell (h : Mk w D s l v wr) {k : Nat} (hk : k < 30) : wr.cell? ⟨D, k, none⟩ = some (.bool (s k)) := h.row.cell hk
theorem Mk.new (h : Mk w D s l v wr) (hb : Below wr.heap.size wr w1) {l' : List PMsg} {v' : Value} (hm : Msgs (fun b => wr.heap.size ≤ b) (fun b => wr.heap.size ≤ b) w1 v' l') : Mk w D s l' v' w1 :=
  ⟨bTrans h.low hb, h.row.of_block (hb.block D h.lt), h.base, hm.weak (fun b hb e => by have := h.lt; omega) fun b hb e => by have := h.lt; omega⟩
theorem Mk.set (h : Mk w D s l v wr) (k : Nat) : Mk w D (put1 s k) l v (wr.setCell ⟨D, k, none⟩ (.bool true)) :=
  ⟨h.low.setCell h.base _, (h.row.set k (.bool true)).congr fun i hi => by unfold put1; split <;> simp_all, h.base, h.rd.set1 (fun _ h => h) fun _ h => h⟩
end
theorem mk0 (w : World) : Mk w w.heap.size (fun _ => false) [] (.slice none 0 0) (w.alloc (.cells (madeCells #[.bool false] 30) 4)) :=
  ⟨bAlloc (bRefl w) _, World.rowIs_made w (.bool false) 30 4, Nat.le_refl _, ⟨none, 0, rfl, by simp, by simp, Or.inl rfl⟩⟩
set_option maxHeartbeats 8000000 in
set_option maxRecDepth 100000 in
theorem sorts_any (w : World) (v : Value) (o : List Int) (h : Ints anyB w v o) :
    Calls Try.prog 5 #[v] w fun e w' => e = .returned (.bool true) ∧ Below w.heap.size w w' := by
  obtain ⟨A, c, rfl, hl⟩ := h.form
  by_cases h30 : 30 < o.length
  · have h3 : (30 : Int) < o.length := by omega
    go_enter Try.func5, Try.ntmps5
    go_wp2_with (go_at_call 7; refine (awake_any _).mono ?_; rintro e w1 ⟨rfl, hb1⟩)
    go_ret
    exact ⟨rfl, hb1⟩
  · have h3 : ¬ (30 : Int) < o.length := by omega
    have hmk : ∀ w : World, (Instr.makeSlice 50 (.int .i64 30) (.int .i64 30)).run Try.prog w = .ok (.slice (some ⟨w.heap.size, 0, none⟩) 30 30) (w.alloc (.cells (madeCells #[.bool false] 30) 4)) := fun w => run_make_row' (P := Try.prog) 50 4 (.bool false) 1 Try.underlying50 infoB rfl .i64 .i64 30 (by omega) (by omega) w
    go_enter Try.func5, Try.ntmps5
    go_wp2
    go_loopg [3, 5, 6] o.length (fun n i3 i5 i6 wr => ∃ (i : Nat) (L : List PMsg) (s : Nat → Bool) (A3 : Option Addr) (c3 : Nat), n = o.length - i ∧ i ≤ o.length ∧ i6 = .int .i64 i ∧ i5 = .int .i64 L.length ∧ i3 = .slice A3 L.length c3 ∧ Hid (In s 30 L ∧ L.length ≤ i ∧ Mk w w.heap.size s L (.slice A3 L.length c3) wr))
    case atStart => exact ⟨0, [], fun _ => false, none, 0, rfl, by omega, rfl, rfl, rfl, ⟨In.nil 30, by simp, mk0 w⟩⟩
    case round =>
      obtain ⟨i, L, s, A3, c3, rfl, hi, rfl, rfl, rfl, HH⟩ := hrel
      by_cases hlt : i < o.length
      · obtain ⟨b1, o1, x, rfl, hx, q1⟩ := h.cell HH.out.2.2.low hlt
        clear hx
        have hL : (L.length : Int) ≤ 30 := by have := HH.out.2.1; omega
        go_wp2_with fail
        refine (round_any _ x).mono ?_
        rintro e w' ⟨k, hk, rfl, hw⟩
        subst hw
        have hk0 : (0 : Int) ≤ k := by omega
        have hk1 : (k : Int) < 30 := by omega
        have hki : ¬ ((30 : Int) ≤ k) := by omega
        have hcell := HH.out.2.2.cell hk
        have hzD := HH.out.2.2.lt
        have hfz := fun j => HH.out.2.2.row.frozen j
        go_wp2_with fail
        refine (message_any _ k (by omega) (by omega)).mono ?_
        rintro e w1 ⟨a1, rfl, hI1, hb1⟩
        cases hs : s k with
        | false =>
          rw [hs] at hcell
          go_wp2_with fail
          refine (put_new _ _ _ L (msgN k) ((HH.out.2.2.rd.below hb1).any2) ⟨a1, rfl, hI1.any⟩ (HH.out.1.no hs) (HH.out.1.few (by omega)) (by show [(k : Int)].length ≤ 1000; simp)).mono ?_
          rintro e w2 ⟨u, rfl, hm, hb2⟩
          obtain ⟨A5, c5, rfl, _⟩ := hm.form
          have hb12 := bTrans hb1 hb2
          have d0 := (hb12.cell (p := ⟨w.heap.size, k, none⟩) hzD).trans hcell
          have d1 : ∀ j, w2.frozen? ⟨w.heap.size, j, none⟩ = false := fun j => by rw [World.frozen?_of_block (hb12.block _ hzD)]; exact hfz j
          have d2 := Nat.lt_of_lt_of_le hzD hb12.size
          have el : (putP L (msgN k)).length = L.length + 1 := put_len _ _
          have HN : Hid (In (put1 s k) 30 (putP L (msgN k)) ∧ L.length + 1 ≤ i + 1 ∧ Mk w w.heap.size (put1 s k) (putP L (msgN k)) (.slice A5 (L.length + 1) c5) (w2.setCell ⟨w.heap.size, k, none⟩ (.bool true))) := ⟨HH.out.1.put hk hs, by have := HH.out.2.1; omega, by
            have := ((HH.out.2.2.below hb1).new hb2 hm).set k
            rwa [el] at this⟩
          rw [el]
          clear hm hb2 hb1 hb12 hcell hfz hI1 el
          go_wp2
          go_roundg (o.length - (i + 1))
          case measure => omega
          case rel => exact ⟨i + 1, putP L (msgN k), put1 s k, A5, c5, rfl, by omega, by go_num, by rw [put_len]; go_num, by rw [put_len], by rw [put_len]; exact HN.out⟩
        | true =>
          rw [hs] at hcell
          obtain ⟨j, hj, -⟩ := HH.out.1.yes hk hs
          go_wp2_with fail
          refine (put_there _ _ _ L (msgN k) ((HH.out.2.2.rd.below hb1).any2) ⟨a1, rfl, hI1.any⟩ j hj).mono ?_
          rintro e w2 ⟨rfl, hb2⟩
          have hb12 := bTrans hb1 hb2
          have d0 := (hb12.cell (p := ⟨w.heap.size, k, none⟩) hzD).trans hcell
          have HN : Hid (In s 30 L ∧ L.length ≤ i + 1 ∧ Mk w w.heap.size s L (.slice A3 L.length c3) w2) := ⟨HH.out.1, by have := HH.out.2.1; omega, HH.out.2.2.below hb12⟩
          clear hb2 hb1 hb12 hcell hfz hI1
          go_wp2
          go_roundg (o.length - (i + 1))
          case measure => omega
          case rel => exact ⟨i + 1, L, s, A3, c3, rfl, by omega, by go_num, rfl, rfl, HN.out⟩
      · have hL : (L.length : Int) ≤ 30 := by have := HH.out.2.1; omega
        have HL : Hid (L.length ≤ 30) := by have := HH.out.2.1; show _ ≤ _; omega
        have e1 : srt L = true := HH.out.1.ord
        have e2 : wrap64 ((toN L 0 : Int) + toN L 1) = L.length := by have := HH.out.1.to01; unfold wrap64; omega
        have e2' : IntKind.i64.wrap ((toN L 0 : Int) + toN L 1) = L.length := by have := HH.out.1.to01; rw [IntKind.wrap_i64]; omega
        have hlt' : ¬ ((i : Int) < o.length) := by omega
        go_wp2_with fail
        refine (sorted_any _ _ L HH.out.2.2.rd.any2).mono ?_
        rintro e w1 ⟨rfl, hb1⟩
        have HM1 := HH.out.2.2.below hb1
        go_wp2_with fail
        refine (to_any _ _ L 0 HM1.rd.any2).mono ?_
        rintro e w2 ⟨rfl, hb2⟩
        have HM2 := HM1.below hb2
        go_wp2_with fail
        refine (to_any _ _ L 1 HM2.rd.any2).mono ?_
        rintro e w3 ⟨rfl, hb3⟩
        have HM3 := HM2.below hb3
        have HIN : Hid (In s 30 L) := HH.out.1
        clear HM1 HM2 hb1 hb2 hb3
        go_wp2
        go_loopg [3, 10] 30 (fun n i3 i10 wr => ∃ (K : Nat) (L : List PMsg) (A3 : Option Addr) (c3 : Nat), K = n ∧ K ≤ 30 ∧ i10 = .int .i64 ((K : Int) - 1) ∧ i3 = .slice A3 L.length c3 ∧ Hid (In s K L ∧ L.length ≤ 30 ∧ Mk w w.heap.size s L (.slice A3 L.length c3) wr))
        case atStart => exact ⟨30, L, A3, c3, rfl, by omega, rfl, rfl, ⟨HIN.out, HL.out, HM3⟩⟩
        case round =>
          clear HM3 HIN HL HH hL e1 e2 e2'
          obtain ⟨K, L, A3, c3, rfl, hK, rfl, rfl, HH⟩ := hrel
          cases K with
          | zero =>
            have e0 := HH.out.1.zero
            subst e0
            have HB := HH.out.2.2.low
            go_wp2_with (go_at_call 7; refine (awake_any _).mono ?_; rintro e w1 ⟨rfl, hb1⟩)
            go_ret
            exact ⟨rfl, bTrans HB hb1⟩
          | succ K =>
            have ek : ((K + 1 : Nat) : Int) - 1 = K := by omega
            rw [ek]
            have hk0 : (0 : Int) ≤ K := by omega
            have hk1 : (K : Int) < 30 := by omega
            have hcell := HH.out.2.2.cell (k := K) (by omega)
            have hzD := HH.out.2.2.lt
            have HL : Hid (L.length ≤ 30) := HH.out.2.1
            go_wp2_with fail
            refine (message_any _ K (by omega) (by omega)).mono ?_
            rintro e w1 ⟨a1, rfl, hI1, hb1⟩
            obtain ⟨A1, c1, rfl, _⟩ := hI1.form
            have HM1 := HH.out.2.2.below hb1
            cases hs : s K with
            | false =>
              rw [hs] at hcell
              go_wp2_with fail
              refine (take_none _ _ L (msgN K).id HM1.rd.any2 (HH.out.1.no hs)).mono ?_
              rintro e w2 ⟨rfl, hb2⟩
              have d0 := ((bTrans hb1 hb2).cell (p := ⟨w.heap.size, K, none⟩) hzD).trans hcell
              have d2 := Nat.lt_of_lt_of_le hzD (bTrans hb1 hb2).size
              have HN := fun (x : Obj) => (⟨HH.out.1.less hs, HL.out, (HM1.below hb2).below (bAlloc (bRefl w2) x)⟩ : In s K L ∧ L.length ≤ 30 ∧ Mk w w.heap.size s L (.slice A3 L.length c3) (w2.alloc x))
              clear hb1 hb2 HM1 hcell
              go_wp2
              go_roundg K
              case measure => omega
              case rel => exact ⟨K, L, A3, c3, rfl, by omega, by go_num, rfl, HN _⟩
            | true =>
              rw [hs] at hcell
              obtain ⟨j, hj, hjx⟩ := HH.out.1.yes (by omega) hs
              go_wp2_with fail
              refine (take_there _ _ L (msgN K).id HM1.rd.any2 j (msgN K) hj hjx (HH.out.1.few (by have := HL.out; omega))).mono ?_
              rintro e wt ⟨u, a8, rfl, hm, hI8, hb2⟩
              obtain ⟨A5, c5, rfl, _⟩ := hm.form
              obtain ⟨A8, c8, rfl, _⟩ := hI8.form
              have d0 := ((bTrans hb1 hb2).cell (p := ⟨w.heap.size, K, none⟩) hzD).trans hcell
              have d2 := Nat.lt_of_lt_of_le hzD (bTrans hb1 hb2).size
              have el : (cutP L j).length + 1 = L.length := cut_len hjx
              obtain ⟨q, hq⟩ : ∃ q, q = (cutP L j).length := ⟨_, rfl⟩
              have hq1 : (L.length : Int) = q + 1 := by omega
              have HQ : Hid (q = (cutP L j).length) := hq
              have HN : Hid (In s K (cutP L j) ∧ (cutP L j).length ≤ 30 ∧ Mk w w.heap.size s (cutP L j) (.slice A5 (cutP L j).length c5) wt) := ⟨HH.out.1.cut hjx, by have := HL.out; omega, HM1.new hb2 hm⟩
              rw [← hq]
              obtain ⟨p0, p1, p2, p3, p4, p5⟩ := blk6 (heap_new wt (.cells #[.int .i64 (msgN K).id.f, .int .i64 (msgN K).id.n, .int .i64 (msgN K).id.c, .int .i64 (msgN K).nt.to, .int .i64 (msgN K).nt.hd, .slice A8 (msgN K).nt.args.length c8] 29))
              have hI9 := hI8.below (bAlloc (bRefl wt) (.cells #[.int .i64 (msgN K).id.f, .int .i64 (msgN K).id.n, .int .i64 (msgN K).id.c, .int .i64 (msgN K).nt.to, .int .i64 (msgN K).nt.hd, .slice A8 (msgN K).nt.args.length c8] 29))
              have HN9 : Hid (Mk w w.heap.size s (cutP L j) (.slice A5 (cutP L j).length c5) (wt.alloc (.cells #[.int .i64 (msgN K).id.f, .int .i64 (msgN K).id.n, .int .i64 (msgN K).id.c, .int .i64 (msgN K).nt.to, .int .i64 (msgN K).nt.hd, .slice A8 (msgN K).nt.args.length c8] 29))) := HN.out.2.2.below (bAlloc (bRefl wt) _)
              clear hb1 hb2 hcell hm hI8 hI1 el hq HM1
              have d3 := ((bAlloc (bRefl wt) (.cells #[.int .i64 (msgN K).id.f, .int .i64 (msgN K).id.n, .int .i64 (msgN K).id.c, .int .i64 (msgN K).nt.to, .int .i64 (msgN K).nt.hd, .slice A8 (msgN K).nt.args.length c8] 29)).cell (p := ⟨w.heap.size, K, none⟩) d2).trans d0
              have hzB : wt.heap.size < (wt.alloc (.cells #[.int .i64 (msgN K).id.f, .int .i64 (msgN K).id.n, .int .i64 (msgN K).id.c, .int .i64 (msgN K).nt.to, .int .i64 (msgN K).nt.hd, .slice A8 (msgN K).nt.args.length c8] 29)).heap.size := by simp
              go_wp2_with fail
              generalize wt.alloc (.cells #[.int .i64 (msgN K).id.f, .int .i64 (msgN K).id.n, .int .i64 (msgN K).id.c, .int .i64 (msgN K).nt.to, .int .i64 (msgN K).nt.hd, .slice A8 (msgN K).nt.args.length c8] 29) = wB at p0 p1 p2 p3 p4 p5 hI9 HN9 d3 hzB ⊢
              have x2 : eqB [msgN K] [msgN K] = true := eqB_self _
              have hwq : IntKind.i64.wrap ((q : Int) + 1 - 1) = q := by rw [IntKind.wrap_i64]; have := HL.out; omega
              have hwq2 : IntKind.i64.wrap (q : Int) = q := by rw [IntKind.wrap_i64]; have := HL.out; omega
              have hbb : Below wB.heap.size wB wB := bRefl wB
              clear d0 d3 d2
              go_region_held3 (fun w' => w'.cell? ⟨wt.heap.size, 0, none⟩ = some (.int .i64 (msgN K).id.f) ∧ w'.cell? ⟨wt.heap.size, 1, none⟩ = some (.int .i64 (msgN K).id.n) ∧ w'.cell? ⟨wt.heap.size, 2, none⟩ = some (.int .i64 (msgN K).id.c) ∧ w'.cell? ⟨wt.heap.size, 3, none⟩ = some (.int .i64 (msgN K).nt.to) ∧ w'.cell? ⟨wt.heap.size, 4, none⟩ = some (.int .i64 (msgN K).nt.hd) ∧ w'.cell? ⟨wt.heap.size, 5, none⟩ = some (.slice A8 (msgN K).nt.args.length c8)) (go_keep)
                (first
                  | (go_at_call 22; refine (message_any _ K (by omega) (by omega)).mono ?_; rintro e w5 ⟨a5, rfl, hI5, hb5⟩; obtain ⟨A6, c6, rfl, _⟩ := hI5.form; have hbw := midB hb5 (by first | exact hbb | exact hbb.drew | exact bAlloc hbb _ | exact (bAlloc hbb _).drew | exact bAlloc (bAlloc hbb _) _ | exact (bAlloc (bAlloc hbb _) _).drew | exact bAlloc (bAlloc hbb _).drew _ | exact bAlloc hbb.drew _ | exact bAlloc (bAlloc hbb.drew _) _); replace hbb := bTrans hbw hb5; clear hbw; have y0 := (hbb.cell (p := ⟨wt.heap.size, 0, none⟩) hzB).trans p0; have y1 := (hbb.cell (p := ⟨wt.heap.size, 1, none⟩) hzB).trans p1; have y2 := (hbb.cell (p := ⟨wt.heap.size, 2, none⟩) hzB).trans p2; have y3 := (hbb.cell (p := ⟨wt.heap.size, 3, none⟩) hzB).trans p3; have y4 := (hbb.cell (p := ⟨wt.heap.size, 4, none⟩) hzB).trans p4; have y5 := (hbb.cell (p := ⟨wt.heap.size, 5, none⟩) hzB).trans p5)
                  | (go_at_call 19; refine (same_any _ _ _ [msgN K] [msgN K] ((one_msgs (by first | exact heap_new2 (by simp) | exact ((bAlloc (bRefl _) _).block _ (by first | (simp; done) | (simp; omega))).trans (heap_new2 (by simp)) | exact ((bAlloc (bRefl _) _).block _ (Nat.lt_of_lt_of_le (by simp) hb5.size)).trans ((hb5.block _ (by simp)).trans (heap_new2 (by simp)))) (hI9.below (by first | exact hbb | exact hbb.drew | exact bAlloc hbb _ | exact (bAlloc hbb _).drew | exact bAlloc (bAlloc hbb _) _ | exact (bAlloc (bAlloc hbb _) _).drew | exact bAlloc (bAlloc hbb _).drew _ | exact bAlloc hbb.drew _ | exact bAlloc (bAlloc hbb.drew _) _))).any2) ((one_msgs (by first | exact heap_new2 (by simp) | exact ((bAlloc (bRefl _) _).block _ (by first | (simp; done) | (simp; omega))).trans (heap_new2 (by simp)) | exact ((bAlloc (bRefl _) _).block _ (Nat.lt_of_lt_of_le (by simp) hb5.size)).trans ((hb5.block _ (by simp)).trans (heap_new2 (by simp)))) (hI5.below (by first | exact bAlloc (bRefl _) _ | exact bAlloc (bAlloc (bRefl _) _) _ | exact (bAlloc (bRefl _) _).drew | exact (bAlloc (bAlloc (bRefl _) _) _).drew))).any2)).mono ?_; rintro e w6 ⟨rfl, hb6⟩; have hbw := midB hb6 (by first | exact hbb | exact hbb.drew | exact bAlloc hbb _ | exact (bAlloc hbb _).drew | exact bAlloc (bAlloc hbb _) _ | exact (bAlloc (bAlloc hbb _) _).drew | exact bAlloc (bAlloc hbb _).drew _ | exact bAlloc hbb.drew _ | exact bAlloc (bAlloc hbb.drew _) _); replace hbb := bTrans hbw hb6; clear hbw; have y0 := (hbb.cell (p := ⟨wt.heap.size, 0, none⟩) hzB).trans p0; have y1 := (hbb.cell (p := ⟨wt.heap.size, 1, none⟩) hzB).trans p1; have y2 := (hbb.cell (p := ⟨wt.heap.size, 2, none⟩) hzB).trans p2; have y3 := (hbb.cell (p := ⟨wt.heap.size, 3, none⟩) hzB).trans p3; have y4 := (hbb.cell (p := ⟨wt.heap.size, 4, none⟩) hzB).trans p4; have y5 := (hbb.cell (p := ⟨wt.heap.size, 5, none⟩) hzB).trans p5))
              all_goals
                have HE : Hid (Mk w w.heap.size s (cutP L j) (.slice A5 q c5) w6) := by rw [HQ.out]; exact HN9.out.below hbb
                go_wp2
                go_roundg K
                case measure => omega
                case rel => exact ⟨K, cutP L j, A5, c5, rfl, by omega, by go_num, by rw [HQ.out], ⟨HN.out.1, HN.out.2.1, by have := HE.out; rwa [HQ.out] at this⟩⟩
end Go.Proofs.Ytjdkbgeehjihfaa
