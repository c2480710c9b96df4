/-
  The fourth law of chapter 6. Condition: the table of the instructions is in the world.
-/
import Derived.Test.YtpcffhhednplaaaDoorVz
import Derived.Test.YtpcffhhednplaaaDoorVi
import Derived.Test.YtpcffhhednplaaaDoorRn
namespace Go.Proofs.YtpcffhhednplaaaDoor
open Go.RowKit
attribute [local go_sem ↓] Go.wp_at_zero Go.wp_at_succ
theorem run_append_own0 {P : Program} {w : World} {base e size k : Nat} {v : Value} {xs : List Value} (t ty : TypeId) (i : TypeInfo) (ht : P.underlying t = some (.slice e)) (hi : P.info? e = some i) (h : w.ownsRow base e size v k xs) (A : Option Addr) (c : Nat) :
    (Builtin.append_ #[t, t] ty #[v, .slice A 0 c]).run P w = .ok v w := by
  obtain ⟨h1, h2⟩ := h
  rcases h2 with ⟨rfl, _⟩ | ⟨g, cap, cur, rfl, hb, hh, h3, h4, h5, h6⟩
  · exact run_append_empty t ty e i ht hi A c
  · cases A with
    | none =>
      have hst : ∀ a : Addr, (storeCells a []).run P w = .ok () w := fun a => by rw [storeCells]; rfl
      simp [Builtin.append_, run_underlying ht, sizeOf, typeInfo, hi, Builtin.lenOf, Builtin.firstCells, h3, hst, Result.andThen]
    | some a =>
      have := run_append_room_cells (P := P) w t ty e i ht hi g 0 k cap a 0 c [] (by simp) (by simp) (by simp) (by omega) (by simp) (by simp)
      rw [this]
      rfl
theorem Ints.news {w : World} {b o : Nat} {cs : List Int} (h : ∀ k x, cs[k]? = some x → rInt w b (o + k * 1) x) : ∀ j u, (iv cs)[j]? = some u → w.cell? ((⟨b, o, none⟩ : Addr).add j) = some u := by
  intro j u hu
  have ea : (⟨b, o, none⟩ : Addr).add j = ⟨b, o + j, none⟩ := by
    unfold Addr.add
    by_cases h0 : j = 0
    · subst h0; rfl
    · rw [if_neg h0]
  rw [ea]
  rw [iv, List.getElem?_map] at hu
  cases hx : cs[j]? with
  | none => rw [hx] at hu; cases hu
  | some x =>
    rw [hx] at hu
    have := h j x hx
    rw [Nat.mul_one] at this
    rw [← Option.some.inj hu]
    exact this
section
variable {w W : World} {v vx vb : Value} {la lb : List Int} {ok : Nat → Prop} {ops : Array Oper} {rest : List Oper} {o : Oper} {a : Act} {Q : Exit → Act → World → Prop}
/-- Numbers are appended that lie wherever. -/
theorem appX (hgd : o.guard = none) (s x : Operand) (ho : o.op = .call { callee := .builtin .append, args := #[s, x], argTypes := #[27, 27] }) (cs : List Int)
    (h : NW w v la vb lb W) (hs : a.eval s = v) (hx : a.eval x = vx) (hc : Ints ok W vx cs) (hl : la.length + cs.length ≤ 1000)
    (hK : ∀ A cap w', NW w (.slice A (la.length + cs.length) cap) (la ++ cs) vb lb w' → wpList Tryd.prog ops Q rest (a.put o.dst (.slice A (la.length + cs.length) cap)) w') : wpList Tryd.prog ops Q (o :: rest) a W := by
  obtain ⟨i0, hi0, hz0, hz1, hz2⟩ := info_parts infoInt
  obtain ⟨A, c, rfl, _, hr⟩ := hc
  by_cases h0 : cs = []
  · subst h0
    obtain ⟨A2, c2, rfl⟩ := h.formN la.length rfl
    refine wpList_append_run hgd s x 27 ho _ _ _ _ hs hx (fun ty => run_append_own0 27 ty i0 Tryd.underlying27 hi0 h.oa A c) ?_
    have := hK A2 c2 W (by simpa using h)
    simpa using this
  · rcases hr with hr | ⟨b, o', rfl, _, hlt, hcell⟩
    · exact absurd hr h0
    · refine wpList_append_lies W hgd s x 27 ho w.heap.size 3 i0 _ 1 8 Tryd.underlying27 hi0 hz0 hz1 hz2 rfl (by decide) v la.length (iv la) hs h.oa ⟨b, o', none⟩ cs.length c (iv cs) hx (by rw [iv_len, Nat.mul_one]) (Ints.news hcell) (iv_one cs) (List.length_pos_iff.2 h0) (by unfold maxLen; omega) (by omega) h.low.size W.heap.size rfl ?_
      intro g cap w' hown hgr hat _
      exact hK _ cap w' (h.push hown hgr hat)
end
theorem NW.lit0 {w : World} {B : Nat} (hB : w.heap.size = B) : NW w (.slice (some ⟨B, 0, none⟩) 0 0) [] (.slice none 0 0) [] (w.alloc (.cells #[] 3)) := by
  subst hB
  exact ⟨bAlloc (bRefl w) _, ⟨rfl, Or.inr ⟨w.heap.size, 0, #[], rfl, Nat.le_refl _, heap_new _ _, by simp, by unfold maxLen; omega, rfl, rfl⟩⟩, ⟨rfl, Or.inl ⟨rfl, rfl⟩⟩, fun g _ hg => by cases hg⟩
/-- Run with arguments, with what comes of it known. -/
theorem run_ia (ok oka : Nat → Prop) (w : World) (v vl va : Value) (p : PPrg) (who : Int) (l : PLoc) (args : List Int) (r : PRes) (e : runP p who l 0 args = r) (ht : Tab w) (hp : PrgV w v p) (hl : LocV ok w vl l) (ha : Ints oka w va args) :
    Calls Tryd.prog 16 #[v, .int .i64 who, vl, .int .i64 0, va] w fun e w' => ∃ A c An cn, e = .returned (.agg #[.slice A r.loc.regs.length c, .bool r.loc.armed, .int .i64 r.loc.down, .int .i64 r.loc.sent, .int .i64 r.loc.over, .slice An r.notes.length cn, .int .i64 r.steps]) ∧ Ints (fun b => w.heap.size ≤ b) w' (.slice A r.loc.regs.length c) r.loc.regs ∧ Ntes (fun b => w.heap.size ≤ b) (fun b => w.heap.size ≤ b) w' (.slice An r.notes.length cn) r.notes ∧ Below w.heap.size w w' := by
  subst e
  refine (run_any ok oka w v vl va p who l 0 args ht hp hl ha).mono ?_
  rintro e w' ⟨u, rfl, hr, hb⟩
  obtain ⟨A, c, An, cn, rfl, h1, h2⟩ := hr.form
  exact ⟨A, c, An, cn, rfl, h1, h2, hb⟩
theorem tp_v (w2 : World) (g cap : Nat) (args : List Int) (gt : Int) (hc0 : Code anyB w2 (.slice (some ⟨g, 0, none⟩) (args.length + 2) cap) (tC args.length gt)) : PrgV (((w2.alloc (.cells #[.int .i64 (args.length : Int), .slice (some ⟨g, 0, none⟩) (args.length + 2) cap] 50)).alloc (.cells #[.slice none 0 0, .int .i64 0, .int .i64 (-1), .bool false, .slice none 0 0, .int .i64 0, .int .i64 (-1), .bool false] 52)).alloc (.cells #[.slice (some ⟨w2.heap.size, 0, none⟩) 1 1, .slice (some ⟨w2.heap.size + 1, 0, none⟩) 2 2, .slice none 0 0, .int .i64 50] 26)) (.agg #[.slice (some ⟨w2.heap.size, 0, none⟩) 1 1, .slice (some ⟨w2.heap.size + 1, 0, none⟩) 2 2, .slice none 0 0, .int .i64 50]) (tP args.length gt) := by
  have hc : Code anyB (((w2.alloc (.cells #[.int .i64 (args.length : Int), .slice (some ⟨g, 0, none⟩) (args.length + 2) cap] 50)).alloc (.cells #[.slice none 0 0, .int .i64 0, .int .i64 (-1), .bool false, .slice none 0 0, .int .i64 0, .int .i64 (-1), .bool false] 52)).alloc (.cells #[.slice (some ⟨w2.heap.size, 0, none⟩) 1 1, .slice (some ⟨w2.heap.size + 1, 0, none⟩) 2 2, .slice none 0 0, .int .i64 50] 26)) (.slice (some ⟨g, 0, none⟩) (args.length + 2) cap) (tC args.length gt) := hc0.below (bAlloc (bAlloc (bAlloc (bRefl _) _) _) _)
  refine ⟨_, _, _, rfl, ?_, ?_, sl0⟩
  · exact sl1 trivial (by simp; omega) ⟨(by simp [go_sem]; try rfl), .slice (some ⟨g, 0, none⟩) (args.length + 2) cap, (by simp [go_sem]; try rfl), hc⟩
  · exact sl2 trivial (by simp) ⟨⟨.slice none 0 0, (by simp [go_sem]; try rfl), sl0⟩, (by simp [go_sem]; try rfl), (by simp [go_sem]; try rfl), (by simp [go_sem]; try rfl)⟩ ⟨⟨.slice none 0 0, (by simp [go_sem]; try rfl), sl0⟩, (by simp [go_sem]; try rfl), (by simp [go_sem]; try rfl), (by simp [go_sem]; try rfl)⟩
/-- The list 'given' while it is raised: all else stands. -/
structure GV (w6 : World) (A : Option Addr) (args : List Int) (j : Nat) (wr : World) : Prop where
  os : wr.os = w6.os
  tape : wr.tape = w6.tape
  output : wr.output = w6.output
  size : wr.heap.size = w6.heap.size
  oth : ∀ b, (∀ a, A = some a → args ≠ [] → b ≠ a.block) → wr.heap[b]? = w6.heap[b]?
  row : args = [] ∨ ∃ (g : Nat) (cur : Array Value), A = some ⟨g, 0, none⟩ ∧ g < w6.heap.size ∧ wr.heap[g]? = some (.cells cur 3) ∧ ∀ (m : Nat) (x : Int), j ≤ m → args[m]? = some x → cur[m]? = some (Value.int .i64 x)
theorem GV.cell {w6 wr : World} {A : Option Addr} {args : List Int} {j : Nat} {x : Int} (h : GV w6 A args j wr) (hx : args[j]? = some x) : ∃ g, A = some ⟨g, 0, none⟩ ∧ g < w6.heap.size ∧ wr.cell? ⟨g, j, none⟩ = some (.int .i64 x) ∧ wr.frozen? ⟨g, j, none⟩ = false ∧ ∀ y, GV w6 A args (j + 1) (wr.setCell ⟨g, j, none⟩ (.int .i64 y)) := by
  rcases h.row with rfl | ⟨g, cur, rfl, hlt, hh, hc⟩
  · simp at hx
  · have hne : args ≠ [] := by rintro rfl; simp at hx
    refine ⟨g, rfl, hlt, by simp [World.cell?, hh, hc j x (Nat.le_refl _) hx], by simp [World.frozen?, hh], fun y => ⟨h.os, h.tape, h.output, by simp [h.size], fun b hb => ?_, Or.inr ⟨g, cur.setIfInBounds j (.int .i64 y), rfl, hlt, setCell_heap hh, fun m z hm hz => ?_⟩⟩⟩
    · have hbg : b ≠ g := hb _ rfl hne
      exact (Below.heap_setCell _ _ _ _ (fun e => hbg (by have e' : b = g := e; exact e'))).trans (h.oth b hb)
    · rw [Array.getElem?_setIfInBounds_ne (by omega)]
      exact hc m z (by omega) hz
theorem GV.drewN {w6 wr : World} {A : Option Addr} {args : List Int} {j : Nat} (h : GV w6 A args j wr) (n : Nat) : GV w6 A args j (wr.drewN n) := ⟨h.os, h.tape, h.output, h.size, h.oth, h.row⟩
theorem GV.low {w w6 wr : World} {A : Option Addr} {args : List Int} {j : Nat} (h : GV w6 A args j wr) (hb : Below w.heap.size w w6) (hA : ∀ a, A = some a → args ≠ [] → w.heap.size ≤ a.block) : Below w.heap.size w wr :=
  ⟨h.os.trans hb.os, h.tape.trans hb.tape, h.output.trans hb.output, by rw [h.size]; exact hb.size, fun b hlt => (h.oth b (fun a ha hne e => by have := hA a ha hne; omega)).trans (hb.block b hlt)⟩
theorem GV.start {w0 w11 w6 : World} {A : Option Addr} {c : Nat} {args : List Int} {vb : Value} {lb : List Int} (h : NW w0 (.slice A args.length c) args vb lb w11) (hb : Below w11.heap.size w11 w6) : GV w6 A args 0 w6 ∧ ∀ a, A = some a → args ≠ [] → w0.heap.size ≤ a.block ∧ a.block < w11.heap.size := by
  obtain ⟨h1, h2⟩ := h.oa
  by_cases hne : args = []
  · exact ⟨⟨rfl, rfl, rfl, rfl, fun _ _ => rfl, Or.inl hne⟩, fun a _ h => absurd hne h⟩
  · rcases h2 with ⟨e, h2⟩ | ⟨g, cap, cur, e, hb0, hh, h3, h4, h5, h6⟩
    · exact absurd (List.length_eq_zero_iff.1 h2) hne
    · cases e
      have hlt := (Array.getElem?_eq_some_iff.1 hh).1
      refine ⟨⟨rfl, rfl, rfl, rfl, fun _ _ => rfl, Or.inr ⟨g, cur, rfl, Nat.lt_of_lt_of_le hlt hb.size, (hb.block g hlt).trans hh, fun m x _ hx => ?_⟩⟩, fun a ha _ => by cases ha; exact ⟨hb0, hlt⟩⟩
      have hm := (List.getElem?_eq_some_iff.1 hx).1
      have e : cur[m]? = (iv args)[m]? := by rw [← h6, List.getElem?_take, if_pos (by omega)]; simp
      rw [e, iv, List.getElem?_map, hx]; rfl
theorem args_out (w : World) (v : Value) (gt : Int) (args : List Int) (ht : Tab w) (hv : Ints anyB w v args) (hl : 4 < args.length) :
    Calls Tryd.prog 6 #[v, .int .i64 gt] w fun e w' => e = .returned (.bool true) ∧ Below w.heap.size w w' := by
  obtain ⟨Au, cu, rfl, hul⟩ := hv.form
  have HT : Hid (Tab w) := ht
  clear ht hv
  have hl' : (4 : Int) < args.length := by omega
  go_enter Tryd.func6, Tryd.ntmps6
  go_wp2_with (go_at_call 12; refine (awake_any _ HT.out).mono ?_; rintro e w1 ⟨rfl, hb1⟩)
  go_ret
  exact ⟨rfl, hb1⟩
set_option maxHeartbeats 4000000 in
set_option maxRecDepth 100000 in
theorem args_lost (w : World) (v : Value) (gt : Int) (args : List Int) (ht : Tab w) (hv : Ints anyB w v args) (hl : args.length < 5) (hg0 : gt ≠ 0) (hg1 : gt ≠ 1) :
    Calls Tryd.prog 6 #[v, .int .i64 gt] w fun e w' => e = .returned (.bool true) ∧ Below w.heap.size w w' := by
  obtain ⟨Au, cu, rfl, hul⟩ := hv.form
  have HT : Hid (Tab w) := ht
  have HU : Hid (Ints anyB w (.slice Au args.length cu) args) := hv
  have hl' : ¬ (4 : Int) < args.length := by omega
  have HR0 : Hid (runP (tP args.length gt) 1 loc0 0 args = (⟨⟨[], false, 4, 0, 0⟩, [], (args.length : Int) + 2⟩ : PRes)) := etL hl (by omega)
  clear ht hv
  go_enter Tryd.func6, Tryd.ntmps6
  go_wp2_with fail
  go_loopg [5, 6] args.length (fun g i5 i6 wr => ∃ j : Nat, g = args.length - j ∧ j ≤ args.length ∧ i6 = .int .i64 j ∧ Hid (CO w i5 (tB j) wr))
  case atStart => exact ⟨0, rfl, by omega, rfl, CO.nil w⟩
  case round =>
    obtain ⟨j, rfl, hj, rfl, hd⟩ := hrel
    obtain ⟨A, c, rfl⟩ := hd.out.formN j (tB_len j)
    by_cases hg : j < args.length
    · go_wp2_with (at_builtin; refine appC rfl _ _ rfl [⟨7, (j : Int)⟩] wr.heap.size (j + 1) 1 (hd.out.below (bAlloc (bRefl _) _)) rfl rfl rfl (by rw [tB_len]) (by decide) (heap_new2 rfl) (by rw [tB_len]; omega) ?_)
      intro g cap w2 hcw hgr
      have HN : Hid (CO w (.slice (some ⟨g, 0, none⟩) (j + 1) cap) (tB (j + 1)) w2) := hcw
      clear hcw hgr hd
      go_wp2_with fail
      go_roundg (args.length - (j + 1))
      case measure => omega
      case rel => exact ⟨j + 1, rfl, by omega, by go_num, HN⟩
    · have ej : j = args.length := by omega
      have HD : Hid (CO w (.slice A args.length c) (tB args.length) wr) := by rw [← ej]; exact hd
      subst ej
      clear hd hg hj
      go_wp2_with (at_builtin; refine appC rfl _ _ rfl [⟨1, gt⟩, ⟨22, 0⟩] wr.heap.size (args.length + 2) 2 (HD.out.below (bAlloc (bRefl _) _)) rfl rfl rfl (by rw [tB_len]) (by decide) (heap_new2 rfl) (by rw [tB_len]; omega) ?_)
      intro g cap w2 hcw hgr
      have HN : Hid (CO w (.slice (some ⟨g, 0, none⟩) (args.length + 2) cap) (tC args.length gt) w2) := hcw
      clear hcw hgr HD
      have HPV : Hid (PrgV (((w2.alloc (.cells #[.int .i64 (args.length : Int), .slice (some ⟨g, 0, none⟩) (args.length + 2) cap] 50)).alloc (.cells #[.slice none 0 0, .int .i64 0, .int .i64 (-1), .bool false, .slice none 0 0, .int .i64 0, .int .i64 (-1), .bool false] 52)).alloc (.cells #[.slice (some ⟨w2.heap.size, 0, none⟩) 1 1, .slice (some ⟨w2.heap.size + 1, 0, none⟩) 2 2, .slice none 0 0, .int .i64 50] 26)) (.agg #[.slice (some ⟨w2.heap.size, 0, none⟩) 1 1, .slice (some ⟨w2.heap.size + 1, 0, none⟩) 2 2, .slice none 0 0, .int .i64 50]) (tP args.length gt)) := tp_v w2 g cap args gt (HN.out.cd (by rw [tC_len]; omega))
      have HBO : Hid (Below w2.heap.size w2 (((w2.alloc (.cells #[.int .i64 (args.length : Int), .slice (some ⟨g, 0, none⟩) (args.length + 2) cap] 50)).alloc (.cells #[.slice none 0 0, .int .i64 0, .int .i64 (-1), .bool false, .slice none 0 0, .int .i64 0, .int .i64 (-1), .bool false] 52)).alloc (.cells #[.slice (some ⟨w2.heap.size, 0, none⟩) 1 1, .slice (some ⟨w2.heap.size + 1, 0, none⟩) 2 2, .slice none 0 0, .int .i64 50] 26))) := bAlloc (bAlloc (bAlloc (bRefl _) _) _) _
      obtain ⟨p0, p1, p2, p3, _⟩ := blk4 (heap_new2 (w := ((w2.alloc (.cells #[.int .i64 (args.length : Int), .slice (some ⟨g, 0, none⟩) (args.length + 2) cap] 50)).alloc (.cells #[.slice none 0 0, .int .i64 0, .int .i64 (-1), .bool false, .slice none 0 0, .int .i64 0, .int .i64 (-1), .bool false] 52))) (o := .cells #[.slice (some ⟨w2.heap.size, 0, none⟩) 1 1, .slice (some ⟨w2.heap.size + 1, 0, none⟩) 2 2, .slice none 0 0, .int .i64 50] 26) (n := w2.heap.size + 1 + 1) (by simp))
      have HP : Hid (_ ∧ _ ∧ _ ∧ _) := ⟨p0, p1, p2, p3⟩
      clear p0 p1 p2 p3
      go_wp2_with (at_builtin; refine appX (w := (((w2.alloc (.cells #[.int .i64 (args.length : Int), .slice (some ⟨g, 0, none⟩) (args.length + 2) cap] 50)).alloc (.cells #[.slice none 0 0, .int .i64 0, .int .i64 (-1), .bool false, .slice none 0 0, .int .i64 0, .int .i64 (-1), .bool false] 52)).alloc (.cells #[.slice (some ⟨w2.heap.size, 0, none⟩) 1 1, .slice (some ⟨w2.heap.size + 1, 0, none⟩) 2 2, .slice none 0 0, .int .i64 50] 26))) rfl _ _ rfl args (NW.lit0 (by simp)) rfl rfl (HU.out.below (by exact bAlloc (bTrans HN.out.low HBO.out) _)) (by show 0 + _ ≤ 1000; omega) ?_)
      intro A4 cap4 w4 hnw
      have HN4 : Hid (NW (((w2.alloc (.cells #[.int .i64 (args.length : Int), .slice (some ⟨g, 0, none⟩) (args.length + 2) cap] 50)).alloc (.cells #[.slice none 0 0, .int .i64 0, .int .i64 (-1), .bool false, .slice none 0 0, .int .i64 0, .int .i64 (-1), .bool false] 52)).alloc (.cells #[.slice (some ⟨w2.heap.size, 0, none⟩) 1 1, .slice (some ⟨w2.heap.size + 1, 0, none⟩) 2 2, .slice none 0 0, .int .i64 50] 26)) (.slice A4 args.length cap4) args (.slice none 0 0) [] w4) := by first | exact hnw | simpa using hnw
      clear hnw
      obtain ⟨p0, p1, p2, p3⟩ := HP.out
      have hlt4 : w2.heap.size + 1 + 1 < (((w2.alloc (.cells #[.int .i64 (args.length : Int), .slice (some ⟨g, 0, none⟩) (args.length + 2) cap] 50)).alloc (.cells #[.slice none 0 0, .int .i64 0, .int .i64 (-1), .bool false, .slice none 0 0, .int .i64 0, .int .i64 (-1), .bool false] 52)).alloc (.cells #[.slice (some ⟨w2.heap.size, 0, none⟩) 1 1, .slice (some ⟨w2.heap.size + 1, 0, none⟩) 2 2, .slice none 0 0, .int .i64 50] 26)).heap.size := by simp
      have P0 := (HN4.out.low.cell (p := ⟨w2.heap.size + 1 + 1, 0, none⟩) hlt4).trans p0
      have P1 := (HN4.out.low.cell (p := ⟨w2.heap.size + 1 + 1, 1, none⟩) hlt4).trans p1
      have P2 := (HN4.out.low.cell (p := ⟨w2.heap.size + 1 + 1, 2, none⟩) hlt4).trans p2
      have P3 := (HN4.out.low.cell (p := ⟨w2.heap.size + 1 + 1, 3, none⟩) hlt4).trans p3
      have HL4 : Hid (Below w.heap.size w w4) := bTrans (bTrans HN.out.low HBO.out) HN4.out.low
      clear p0 p1 p2 p3 hlt4 HP
      try simp only [List.length_nil, Nat.zero_add]
      go_wp2_with fail
      refine (run_ia anyB anyB w4 _ _ _ (tP args.length gt) 1 loc0 args (⟨⟨[], false, 4, 0, 0⟩, [], (args.length : Int) + 2⟩ : PRes) HR0.out (HT.out.below HL4.out) (HPV.out.below HN4.out.low) ⟨.slice none 0 0, rfl, sl0⟩ (HN4.out.ints (by omega))).mono ?_
      rintro e w5 ⟨A3, d3, B3, g3, rfl, i1, i2, hb5⟩
      have HW6 : Hid (Below w4.heap.size w4 (w5.alloc (.cells #[.slice A3 0 d3, .bool false, .int .i64 4, .int .i64 0, .int .i64 0, .slice B3 0 g3, .int .i64 ((args.length : Int) + 2)] 35))) := bAlloc hb5 _
      obtain ⟨hgv, hA4⟩ := GV.start HN4.out HW6.out
      have HGV : Hid (GV (w5.alloc (.cells #[.slice A3 0 d3, .bool false, .int .i64 4, .int .i64 0, .int .i64 0, .slice B3 0 g3, .int .i64 ((args.length : Int) + 2)] 35)) A4 args 0 (w5.alloc (.cells #[.slice A3 0 d3, .bool false, .int .i64 4, .int .i64 0, .int .i64 0, .slice B3 0 g3, .int .i64 ((args.length : Int) + 2)] 35))) := hgv
      have HA4 : Hid (∀ a, A4 = some a → args ≠ [] → (((w2.alloc (.cells #[.int .i64 (args.length : Int), .slice (some ⟨g, 0, none⟩) (args.length + 2) cap] 50)).alloc (.cells #[.slice none 0 0, .int .i64 0, .int .i64 (-1), .bool false, .slice none 0 0, .int .i64 0, .int .i64 (-1), .bool false] 52)).alloc (.cells #[.slice (some ⟨w2.heap.size, 0, none⟩) 1 1, .slice (some ⟨w2.heap.size + 1, 0, none⟩) 2 2, .slice none 0 0, .int .i64 50] 26)).heap.size ≤ a.block ∧ a.block < w4.heap.size) := hA4
      have HL6 : Hid (Below w.heap.size w (w5.alloc (.cells #[.slice A3 0 d3, .bool false, .int .i64 4, .int .i64 0, .int .i64 0, .slice B3 0 g3, .int .i64 ((args.length : Int) + 2)] 35))) := bTrans HL4.out HW6.out
      have HA5 : Hid (∀ a, A4 = some a → args ≠ [] → w.heap.size ≤ a.block) := fun a ha hne => by
        have h1 := (hA4 a ha hne).1
        have h2 := (bTrans HN.out.low HBO.out).size
        omega
      have HI2 : Hid (Ntes (fun b => w4.heap.size ≤ b) (fun b => w4.heap.size ≤ b) w5 (.slice B3 0 g3) (⟨⟨[], false, 4, 0, 0⟩, [], (args.length : Int) + 2⟩ : PRes).notes) := i2
      have hz5 : w4.heap.size ≤ w5.heap.size := hb5.size
      clear hgv hA4 i1 i2 hb5 P0 P1 P2 P3 HPV HBO
      go_wp2_with fail
      go_loopg [10] args.length (fun g i10 wq => ∃ j : Nat, g = args.length - j ∧ j ≤ args.length ∧ i10 = .int .i64 j ∧ Hid (GV (w5.alloc (.cells #[.slice A3 0 d3, .bool false, .int .i64 4, .int .i64 0, .int .i64 0, .slice B3 0 g3, .int .i64 ((args.length : Int) + 2)] 35)) A4 args j wq))
      case atStart => exact ⟨0, rfl, by omega, rfl, HGV⟩
      case round =>
        rename_i wr0
        obtain ⟨j, rfl, hj, rfl, hq⟩ := hrel
        by_cases hg : j < args.length
        · obtain ⟨bu, ou, x, rfl, hx, q1⟩ := HU.out.cell (hq.out.low HL6.out HA5.out) hg
          obtain ⟨ga, rfl, hgl, q2, q3, _⟩ := hq.out.cell hx
          have HGS : Hid (∀ n y, GV (w5.alloc (.cells #[.slice A3 0 d3, .bool false, .int .i64 4, .int .i64 0, .int .i64 0, .slice B3 0 g3, .int .i64 ((args.length : Int) + 2)] 35)) (some ⟨ga, 0, none⟩) args (j + 1) ((wr.drewN n).setCell ⟨ga, j, none⟩ (.int .i64 y))) := fun n y => by
            obtain ⟨ga', e, _, _, _, h⟩ := (hq.out.drewN n).cell hx
            cases e
            exact h y
          have e2 : (x != x) = false := by simp
          clear hx hq
          go_wp2_with fail
          go_quiet (fail)
          go_wp2_with fail
          go_roundg (args.length - (j + 1))
          case measure => omega
          case rel => exact ⟨j + 1, rfl, by omega, by go_num, HGS.out _ _⟩
        · have HLq : Hid (Below w.heap.size w wr) := hq.out.low HL6.out HA5.out
          have hoth : ∀ b, w4.heap.size ≤ b → wr.heap[b]? = (w5.alloc (.cells #[.slice A3 0 d3, .bool false, .int .i64 4, .int .i64 0, .int .i64 0, .slice B3 0 g3, .int .i64 ((args.length : Int) + 2)] 35)).heap[b]? := fun b hb => hq.out.oth b (fun a ha hne e => by have := (HA4.out a ha hne).2; omega)
          have hbx : wr.heap[w5.heap.size]? = some (.cells #[.slice A3 0 d3, .bool false, .int .i64 4, .int .i64 0, .int .i64 0, .slice B3 0 g3, .int .i64 ((args.length : Int) + 2)] 35) := (hoth _ hz5).trans (heap_new _ _)
          have hsz : wr.heap.size = w5.heap.size + 1 := by rw [hq.out.size]; simp
          obtain ⟨F0, F1, F2, F3, F4, F5, F6, _⟩ := blk7 hbx
          have hSm : Same (fun b => w4.heap.size ≤ b) w5 wr := ⟨by omega, fun b hb hlt => (hoth b hb).trans ((bAlloc (bRefl w5) _).block b hlt)⟩
          have HI3 : Hid (Ntes (fun b => w4.heap.size ≤ b) (fun b => w4.heap.size ≤ b) wr (.slice B3 0 g3) (⟨⟨[], false, 4, 0, 0⟩, [], (args.length : Int) + 2⟩ : PRes).notes) := HI2.out.same hSm hSm
          have T2 : Hid (Tab wr) := HT.out.below HLq.out
          clear hoth hbx hSm hq HI2 HGV F0 F1 F3 F4
          have hn0 := ne_yes hg0
          have hn1 := ne_yes hg1
          go_wp2_with (go_at_call 12; refine (awake_any _ T2.out).mono ?_; rintro e w9 ⟨rfl, hb9⟩)
          go_ret
          exact ⟨rfl, bTrans HLq.out hb9⟩
set_option maxHeartbeats 4000000 in
set_option maxRecDepth 100000 in
theorem args_sent0 (w : World) (v : Value) (gt : Int) (args : List Int) (ht : Tab w) (hv : Ints anyB w v args) (hl : args.length < 5) (hg0 : gt = 0) :
    Calls Tryd.prog 6 #[v, .int .i64 gt] w fun e w' => e = .returned (.bool true) ∧ Below w.heap.size w w' := by
  subst hg0
  obtain ⟨Au, cu, rfl, hul⟩ := hv.form
  have HT : Hid (Tab w) := ht
  have HU : Hid (Ints anyB w (.slice Au args.length cu) args) := hv
  have hl' : ¬ (4 : Int) < args.length := by omega
  have HR0 : Hid (runP (tP args.length 0) 1 loc0 0 args = (⟨⟨[], false, 0, 1, 0⟩, [⟨0, 0, args⟩], (args.length : Int) + 2⟩ : PRes)) := by exact etE hl (by decide)
  clear ht hv
  go_enter Tryd.func6, Tryd.ntmps6
  go_wp2_with fail
  go_loopg [5, 6] args.length (fun g i5 i6 wr => ∃ j : Nat, g = args.length - j ∧ j ≤ args.length ∧ i6 = .int .i64 j ∧ Hid (CO w i5 (tB j) wr))
  case atStart => exact ⟨0, rfl, by omega, rfl, CO.nil w⟩
  case round =>
    obtain ⟨j, rfl, hj, rfl, hd⟩ := hrel
    obtain ⟨A, c, rfl⟩ := hd.out.formN j (tB_len j)
    by_cases hg : j < args.length
    · go_wp2_with (at_builtin; refine appC rfl _ _ rfl [⟨7, (j : Int)⟩] wr.heap.size (j + 1) 1 (hd.out.below (bAlloc (bRefl _) _)) rfl rfl rfl (by rw [tB_len]) (by decide) (heap_new2 rfl) (by rw [tB_len]; omega) ?_)
      intro g cap w2 hcw hgr
      have HN : Hid (CO w (.slice (some ⟨g, 0, none⟩) (j + 1) cap) (tB (j + 1)) w2) := hcw
      clear hcw hgr hd
      go_wp2_with fail
      go_roundg (args.length - (j + 1))
      case measure => omega
      case rel => exact ⟨j + 1, rfl, by omega, by go_num, HN⟩
    · have ej : j = args.length := by omega
      have HD : Hid (CO w (.slice A args.length c) (tB args.length) wr) := by rw [← ej]; exact hd
      subst ej
      clear hd hg hj
      go_wp2_with (at_builtin; refine appC rfl _ _ rfl [⟨1, 0⟩, ⟨22, 0⟩] wr.heap.size (args.length + 2) 2 (HD.out.below (bAlloc (bRefl _) _)) rfl rfl rfl (by rw [tB_len]) (by decide) (heap_new2 rfl) (by rw [tB_len]; omega) ?_)
      intro g cap w2 hcw hgr
      have HN : Hid (CO w (.slice (some ⟨g, 0, none⟩) (args.length + 2) cap) (tC args.length 0) w2) := hcw
      clear hcw hgr HD
      have HPV : Hid (PrgV (((w2.alloc (.cells #[.int .i64 (args.length : Int), .slice (some ⟨g, 0, none⟩) (args.length + 2) cap] 50)).alloc (.cells #[.slice none 0 0, .int .i64 0, .int .i64 (-1), .bool false, .slice none 0 0, .int .i64 0, .int .i64 (-1), .bool false] 52)).alloc (.cells #[.slice (some ⟨w2.heap.size, 0, none⟩) 1 1, .slice (some ⟨w2.heap.size + 1, 0, none⟩) 2 2, .slice none 0 0, .int .i64 50] 26)) (.agg #[.slice (some ⟨w2.heap.size, 0, none⟩) 1 1, .slice (some ⟨w2.heap.size + 1, 0, none⟩) 2 2, .slice none 0 0, .int .i64 50]) (tP args.length 0)) := tp_v w2 g cap args 0 (HN.out.cd (by rw [tC_len]; omega))
      have HBO : Hid (Below w2.heap.size w2 (((w2.alloc (.cells #[.int .i64 (args.length : Int), .slice (some ⟨g, 0, none⟩) (args.length + 2) cap] 50)).alloc (.cells #[.slice none 0 0, .int .i64 0, .int .i64 (-1), .bool false, .slice none 0 0, .int .i64 0, .int .i64 (-1), .bool false] 52)).alloc (.cells #[.slice (some ⟨w2.heap.size, 0, none⟩) 1 1, .slice (some ⟨w2.heap.size + 1, 0, none⟩) 2 2, .slice none 0 0, .int .i64 50] 26))) := bAlloc (bAlloc (bAlloc (bRefl _) _) _) _
      obtain ⟨p0, p1, p2, p3, _⟩ := blk4 (heap_new2 (w := ((w2.alloc (.cells #[.int .i64 (args.length : Int), .slice (some ⟨g, 0, none⟩) (args.length + 2) cap] 50)).alloc (.cells #[.slice none 0 0, .int .i64 0, .int .i64 (-1), .bool false, .slice none 0 0, .int .i64 0, .int .i64 (-1), .bool false] 52))) (o := .cells #[.slice (some ⟨w2.heap.size, 0, none⟩) 1 1, .slice (some ⟨w2.heap.size + 1, 0, none⟩) 2 2, .slice none 0 0, .int .i64 50] 26) (n := w2.heap.size + 1 + 1) (by simp))
      have HP : Hid (_ ∧ _ ∧ _ ∧ _) := ⟨p0, p1, p2, p3⟩
      clear p0 p1 p2 p3
      go_wp2_with (at_builtin; refine appX (w := (((w2.alloc (.cells #[.int .i64 (args.length : Int), .slice (some ⟨g, 0, none⟩) (args.length + 2) cap] 50)).alloc (.cells #[.slice none 0 0, .int .i64 0, .int .i64 (-1), .bool false, .slice none 0 0, .int .i64 0, .int .i64 (-1), .bool false] 52)).alloc (.cells #[.slice (some ⟨w2.heap.size, 0, none⟩) 1 1, .slice (some ⟨w2.heap.size + 1, 0, none⟩) 2 2, .slice none 0 0, .int .i64 50] 26))) rfl _ _ rfl args (NW.lit0 (by simp)) rfl rfl (HU.out.below (by exact bAlloc (bTrans HN.out.low HBO.out) _)) (by show 0 + _ ≤ 1000; omega) ?_)
      intro A4 cap4 w4 hnw
      have HN4 : Hid (NW (((w2.alloc (.cells #[.int .i64 (args.length : Int), .slice (some ⟨g, 0, none⟩) (args.length + 2) cap] 50)).alloc (.cells #[.slice none 0 0, .int .i64 0, .int .i64 (-1), .bool false, .slice none 0 0, .int .i64 0, .int .i64 (-1), .bool false] 52)).alloc (.cells #[.slice (some ⟨w2.heap.size, 0, none⟩) 1 1, .slice (some ⟨w2.heap.size + 1, 0, none⟩) 2 2, .slice none 0 0, .int .i64 50] 26)) (.slice A4 args.length cap4) args (.slice none 0 0) [] w4) := by first | exact hnw | simpa using hnw
      clear hnw
      obtain ⟨p0, p1, p2, p3⟩ := HP.out
      have hlt4 : w2.heap.size + 1 + 1 < (((w2.alloc (.cells #[.int .i64 (args.length : Int), .slice (some ⟨g, 0, none⟩) (args.length + 2) cap] 50)).alloc (.cells #[.slice none 0 0, .int .i64 0, .int .i64 (-1), .bool false, .slice none 0 0, .int .i64 0, .int .i64 (-1), .bool false] 52)).alloc (.cells #[.slice (some ⟨w2.heap.size, 0, none⟩) 1 1, .slice (some ⟨w2.heap.size + 1, 0, none⟩) 2 2, .slice none 0 0, .int .i64 50] 26)).heap.size := by simp
      have P0 := (HN4.out.low.cell (p := ⟨w2.heap.size + 1 + 1, 0, none⟩) hlt4).trans p0
      have P1 := (HN4.out.low.cell (p := ⟨w2.heap.size + 1 + 1, 1, none⟩) hlt4).trans p1
      have P2 := (HN4.out.low.cell (p := ⟨w2.heap.size + 1 + 1, 2, none⟩) hlt4).trans p2
      have P3 := (HN4.out.low.cell (p := ⟨w2.heap.size + 1 + 1, 3, none⟩) hlt4).trans p3
      have HL4 : Hid (Below w.heap.size w w4) := bTrans (bTrans HN.out.low HBO.out) HN4.out.low
      clear p0 p1 p2 p3 hlt4 HP
      try simp only [List.length_nil, Nat.zero_add]
      go_wp2_with fail
      refine (run_ia anyB anyB w4 _ _ _ (tP args.length 0) 1 loc0 args (⟨⟨[], false, 0, 1, 0⟩, [⟨0, 0, args⟩], (args.length : Int) + 2⟩ : PRes) HR0.out (HT.out.below HL4.out) (HPV.out.below HN4.out.low) ⟨.slice none 0 0, rfl, sl0⟩ (HN4.out.ints (by omega))).mono ?_
      rintro e w5 ⟨A3, d3, B3, g3, rfl, i1, i2, hb5⟩
      have HW6 : Hid (Below w4.heap.size w4 (w5.alloc (.cells #[.slice A3 0 d3, .bool false, .int .i64 0, .int .i64 1, .int .i64 0, .slice B3 1 g3, .int .i64 ((args.length : Int) + 2)] 35))) := bAlloc hb5 _
      obtain ⟨hgv, hA4⟩ := GV.start HN4.out HW6.out
      have HGV : Hid (GV (w5.alloc (.cells #[.slice A3 0 d3, .bool false, .int .i64 0, .int .i64 1, .int .i64 0, .slice B3 1 g3, .int .i64 ((args.length : Int) + 2)] 35)) A4 args 0 (w5.alloc (.cells #[.slice A3 0 d3, .bool false, .int .i64 0, .int .i64 1, .int .i64 0, .slice B3 1 g3, .int .i64 ((args.length : Int) + 2)] 35))) := hgv
      have HA4 : Hid (∀ a, A4 = some a → args ≠ [] → (((w2.alloc (.cells #[.int .i64 (args.length : Int), .slice (some ⟨g, 0, none⟩) (args.length + 2) cap] 50)).alloc (.cells #[.slice none 0 0, .int .i64 0, .int .i64 (-1), .bool false, .slice none 0 0, .int .i64 0, .int .i64 (-1), .bool false] 52)).alloc (.cells #[.slice (some ⟨w2.heap.size, 0, none⟩) 1 1, .slice (some ⟨w2.heap.size + 1, 0, none⟩) 2 2, .slice none 0 0, .int .i64 50] 26)).heap.size ≤ a.block ∧ a.block < w4.heap.size) := hA4
      have HL6 : Hid (Below w.heap.size w (w5.alloc (.cells #[.slice A3 0 d3, .bool false, .int .i64 0, .int .i64 1, .int .i64 0, .slice B3 1 g3, .int .i64 ((args.length : Int) + 2)] 35))) := bTrans HL4.out HW6.out
      have HA5 : Hid (∀ a, A4 = some a → args ≠ [] → w.heap.size ≤ a.block) := fun a ha hne => by
        have h1 := (hA4 a ha hne).1
        have h2 := (bTrans HN.out.low HBO.out).size
        omega
      have HI2 : Hid (Ntes (fun b => w4.heap.size ≤ b) (fun b => w4.heap.size ≤ b) w5 (.slice B3 1 g3) (⟨⟨[], false, 0, 1, 0⟩, [⟨0, 0, args⟩], (args.length : Int) + 2⟩ : PRes).notes) := i2
      have hz5 : w4.heap.size ≤ w5.heap.size := hb5.size
      clear hgv hA4 i1 i2 hb5 P0 P1 P2 P3 HPV HBO
      go_wp2_with fail
      go_loopg [10] args.length (fun g i10 wq => ∃ j : Nat, g = args.length - j ∧ j ≤ args.length ∧ i10 = .int .i64 j ∧ Hid (GV (w5.alloc (.cells #[.slice A3 0 d3, .bool false, .int .i64 0, .int .i64 1, .int .i64 0, .slice B3 1 g3, .int .i64 ((args.length : Int) + 2)] 35)) A4 args j wq))
      case atStart => exact ⟨0, rfl, by omega, rfl, HGV⟩
      case round =>
        rename_i wr0
        obtain ⟨j, rfl, hj, rfl, hq⟩ := hrel
        by_cases hg : j < args.length
        · obtain ⟨bu, ou, x, rfl, hx, q1⟩ := HU.out.cell (hq.out.low HL6.out HA5.out) hg
          obtain ⟨ga, rfl, hgl, q2, q3, _⟩ := hq.out.cell hx
          have HGS : Hid (∀ n y, GV (w5.alloc (.cells #[.slice A3 0 d3, .bool false, .int .i64 0, .int .i64 1, .int .i64 0, .slice B3 1 g3, .int .i64 ((args.length : Int) + 2)] 35)) (some ⟨ga, 0, none⟩) args (j + 1) ((wr.drewN n).setCell ⟨ga, j, none⟩ (.int .i64 y))) := fun n y => by
            obtain ⟨ga', e, _, _, _, h⟩ := (hq.out.drewN n).cell hx
            cases e
            exact h y
          have e2 : (x != x) = false := by simp
          clear hx hq
          go_wp2_with fail
          go_quiet (fail)
          go_wp2_with fail
          go_roundg (args.length - (j + 1))
          case measure => omega
          case rel => exact ⟨j + 1, rfl, by omega, by go_num, HGS.out _ _⟩
        · have HLq : Hid (Below w.heap.size w wr) := hq.out.low HL6.out HA5.out
          have hoth : ∀ b, w4.heap.size ≤ b → wr.heap[b]? = (w5.alloc (.cells #[.slice A3 0 d3, .bool false, .int .i64 0, .int .i64 1, .int .i64 0, .slice B3 1 g3, .int .i64 ((args.length : Int) + 2)] 35)).heap[b]? := fun b hb => hq.out.oth b (fun a ha hne e => by have := (HA4.out a ha hne).2; omega)
          have hbx : wr.heap[w5.heap.size]? = some (.cells #[.slice A3 0 d3, .bool false, .int .i64 0, .int .i64 1, .int .i64 0, .slice B3 1 g3, .int .i64 ((args.length : Int) + 2)] 35) := (hoth _ hz5).trans (heap_new _ _)
          have hsz : wr.heap.size = w5.heap.size + 1 := by rw [hq.out.size]; simp
          obtain ⟨F0, F1, F2, F3, F4, F5, F6, _⟩ := blk7 hbx
          have hSm : Same (fun b => w4.heap.size ≤ b) w5 wr := ⟨by omega, fun b hb hlt => (hoth b hb).trans ((bAlloc (bRefl w5) _).block b hlt)⟩
          have HI3 : Hid (Ntes (fun b => w4.heap.size ≤ b) (fun b => w4.heap.size ≤ b) wr (.slice B3 1 g3) (⟨⟨[], false, 0, 1, 0⟩, [⟨0, 0, args⟩], (args.length : Int) + 2⟩ : PRes).notes) := HI2.out.same hSm hSm
          have T2 : Hid (Tab wr) := HT.out.below HLq.out
          clear hoth hbx hSm hq HI2 HGV F0 F1 F3 F4
          obtain ⟨bn, on, xn, vn, rfl, hx, hzn, q1, q2, q3, hvn⟩ := HI3.out.cell (bRefl wr) (k := 0) (by show 0 < 1; decide)
          obtain rfl : ⟨0, 0, args⟩ = xn := Option.some.inj hx
          obtain ⟨Vn, cn, rfl, _⟩ := hvn.form
          have Q1 : wr.cell? ⟨bn, on, none⟩ = some (.int .i64 0) := by simpa using q1
          have Q2 : wr.cell? ⟨bn, on + 1, none⟩ = some (.int .i64 0) := by simpa using q2
          have Q3 : wr.cell? ⟨bn, on + 2, none⟩ = some (.slice Vn args.length cn) := by simpa using q3
          have HV1 : Hid (NteV wr (.agg #[.int .i64 0, .int .i64 0, .slice Vn args.length cn]) ⟨0, 0, args⟩) := ⟨_, rfl, hvn.any⟩
          have HV2 : Hid (NteV wr (.agg #[.int .i64 0, .int .i64 0, .slice Au args.length cu]) ⟨0, 0, args⟩) := ⟨_, rfl, HU.out.below HLq.out⟩
          clear hx q1 q2 q3 hvn F2 F6
          go_wp2_with fail
          refine (rSameNote wr _ _ ⟨0, 0, args⟩ ⟨0, 0, args⟩ HV1.out HV2.out).mono ?_
          rw [eqB_self]
          rintro e w8 ⟨rfl, hb8⟩
          go_wp2_with (go_at_call 12; refine (awake_any _ (T2.out.below hb8)).mono ?_; rintro e w9 ⟨rfl, hb9⟩)
          go_ret
          exact ⟨rfl, bTrans (bTrans HLq.out hb8) hb9⟩
set_option maxHeartbeats 4000000 in
set_option maxRecDepth 100000 in
theorem args_sent1 (w : World) (v : Value) (gt : Int) (args : List Int) (ht : Tab w) (hv : Ints anyB w v args) (hl : args.length < 5) (hg0 : gt = 1) :
    Calls Tryd.prog 6 #[v, .int .i64 gt] w fun e w' => e = .returned (.bool true) ∧ Below w.heap.size w w' := by
  subst hg0
  obtain ⟨Au, cu, rfl, hul⟩ := hv.form
  have HT : Hid (Tab w) := ht
  have HU : Hid (Ints anyB w (.slice Au args.length cu) args) := hv
  have hl' : ¬ (4 : Int) < args.length := by omega
  have HR0 : Hid (runP (tP args.length 1) 1 loc0 0 args = (⟨⟨[], false, 0, 1, 0⟩, [⟨1, 0, args⟩], (args.length : Int) + 2⟩ : PRes)) := by exact etE hl (by decide)
  clear ht hv
  go_enter Tryd.func6, Tryd.ntmps6
  go_wp2_with fail
  go_loopg [5, 6] args.length (fun g i5 i6 wr => ∃ j : Nat, g = args.length - j ∧ j ≤ args.length ∧ i6 = .int .i64 j ∧ Hid (CO w i5 (tB j) wr))
  case atStart => exact ⟨0, rfl, by omega, rfl, CO.nil w⟩
  case round =>
    obtain ⟨j, rfl, hj, rfl, hd⟩ := hrel
    obtain ⟨A, c, rfl⟩ := hd.out.formN j (tB_len j)
    by_cases hg : j < args.length
    · go_wp2_with (at_builtin; refine appC rfl _ _ rfl [⟨7, (j : Int)⟩] wr.heap.size (j + 1) 1 (hd.out.below (bAlloc (bRefl _) _)) rfl rfl rfl (by rw [tB_len]) (by decide) (heap_new2 rfl) (by rw [tB_len]; omega) ?_)
      intro g cap w2 hcw hgr
      have HN : Hid (CO w (.slice (some ⟨g, 0, none⟩) (j + 1) cap) (tB (j + 1)) w2) := hcw
      clear hcw hgr hd
      go_wp2_with fail
      go_roundg (args.length - (j + 1))
      case measure => omega
      case rel => exact ⟨j + 1, rfl, by omega, by go_num, HN⟩
    · have ej : j = args.length := by omega
      have HD : Hid (CO w (.slice A args.length c) (tB args.length) wr) := by rw [← ej]; exact hd
      subst ej
      clear hd hg hj
      go_wp2_with (at_builtin; refine appC rfl _ _ rfl [⟨1, 1⟩, ⟨22, 0⟩] wr.heap.size (args.length + 2) 2 (HD.out.below (bAlloc (bRefl _) _)) rfl rfl rfl (by rw [tB_len]) (by decide) (heap_new2 rfl) (by rw [tB_len]; omega) ?_)
      intro g cap w2 hcw hgr
      have HN : Hid (CO w (.slice (some ⟨g, 0, none⟩) (args.length + 2) cap) (tC args.length 1) w2) := hcw
      clear hcw hgr HD
      have HPV : Hid (PrgV (((w2.alloc (.cells #[.int .i64 (args.length : Int), .slice (some ⟨g, 0, none⟩) (args.length + 2) cap] 50)).alloc (.cells #[.slice none 0 0, .int .i64 0, .int .i64 (-1), .bool false, .slice none 0 0, .int .i64 0, .int .i64 (-1), .bool false] 52)).alloc (.cells #[.slice (some ⟨w2.heap.size, 0, none⟩) 1 1, .slice (some ⟨w2.heap.size + 1, 0, none⟩) 2 2, .slice none 0 0, .int .i64 50] 26)) (.agg #[.slice (some ⟨w2.heap.size, 0, none⟩) 1 1, .slice (some ⟨w2.heap.size + 1, 0, none⟩) 2 2, .slice none 0 0, .int .i64 50]) (tP args.length 1)) := tp_v w2 g cap args 1 (HN.out.cd (by rw [tC_len]; omega))
      have HBO : Hid (Below w2.heap.size w2 (((w2.alloc (.cells #[.int .i64 (args.length : Int), .slice (some ⟨g, 0, none⟩) (args.length + 2) cap] 50)).alloc (.cells #[.slice none 0 0, .int .i64 0, .int .i64 (-1), .bool false, .slice none 0 0, .int .i64 0, .int .i64 (-1), .bool false] 52)).alloc (.cells #[.slice (some ⟨w2.heap.size, 0, none⟩) 1 1, .slice (some ⟨w2.heap.size + 1, 0, none⟩) 2 2, .slice none 0 0, .int .i64 50] 26))) := bAlloc (bAlloc (bAlloc (bRefl _) _) _) _
      obtain ⟨p0, p1, p2, p3, _⟩ := blk4 (heap_new2 (w := ((w2.alloc (.cells #[.int .i64 (args.length : Int), .slice (some ⟨g, 0, none⟩) (args.length + 2) cap] 50)).alloc (.cells #[.slice none 0 0, .int .i64 0, .int .i64 (-1), .bool false, .slice none 0 0, .int .i64 0, .int .i64 (-1), .bool false] 52))) (o := .cells #[.slice (some ⟨w2.heap.size, 0, none⟩) 1 1, .slice (some ⟨w2.heap.size + 1, 0, none⟩) 2 2, .slice none 0 0, .int .i64 50] 26) (n := w2.heap.size + 1 + 1) (by simp))
      have HP : Hid (_ ∧ _ ∧ _ ∧ _) := ⟨p0, p1, p2, p3⟩
      clear p0 p1 p2 p3
      go_wp2_with (at_builtin; refine appX (w := (((w2.alloc (.cells #[.int .i64 (args.length : Int), .slice (some ⟨g, 0, none⟩) (args.length + 2) cap] 50)).alloc (.cells #[.slice none 0 0, .int .i64 0, .int .i64 (-1), .bool false, .slice none 0 0, .int .i64 0, .int .i64 (-1), .bool false] 52)).alloc (.cells #[.slice (some ⟨w2.heap.size, 0, none⟩) 1 1, .slice (some ⟨w2.heap.size + 1, 0, none⟩) 2 2, .slice none 0 0, .int .i64 50] 26))) rfl _ _ rfl args (NW.lit0 (by simp)) rfl rfl (HU.out.below (by exact bAlloc (bTrans HN.out.low HBO.out) _)) (by show 0 + _ ≤ 1000; omega) ?_)
      intro A4 cap4 w4 hnw
      have HN4 : Hid (NW (((w2.alloc (.cells #[.int .i64 (args.length : Int), .slice (some ⟨g, 0, none⟩) (args.length + 2) cap] 50)).alloc (.cells #[.slice none 0 0, .int .i64 0, .int .i64 (-1), .bool false, .slice none 0 0, .int .i64 0, .int .i64 (-1), .bool false] 52)).alloc (.cells #[.slice (some ⟨w2.heap.size, 0, none⟩) 1 1, .slice (some ⟨w2.heap.size + 1, 0, none⟩) 2 2, .slice none 0 0, .int .i64 50] 26)) (.slice A4 args.length cap4) args (.slice none 0 0) [] w4) := by first | exact hnw | simpa using hnw
      clear hnw
      obtain ⟨p0, p1, p2, p3⟩ := HP.out
      have hlt4 : w2.heap.size + 1 + 1 < (((w2.alloc (.cells #[.int .i64 (args.length : Int), .slice (some ⟨g, 0, none⟩) (args.length + 2) cap] 50)).alloc (.cells #[.slice none 0 0, .int .i64 0, .int .i64 (-1), .bool false, .slice none 0 0, .int .i64 0, .int .i64 (-1), .bool false] 52)).alloc (.cells #[.slice (some ⟨w2.heap.size, 0, none⟩) 1 1, .slice (some ⟨w2.heap.size + 1, 0, none⟩) 2 2, .slice none 0 0, .int .i64 50] 26)).heap.size := by simp
      have P0 := (HN4.out.low.cell (p := ⟨w2.heap.size + 1 + 1, 0, none⟩) hlt4).trans p0
      have P1 := (HN4.out.low.cell (p := ⟨w2.heap.size + 1 + 1, 1, none⟩) hlt4).trans p1
      have P2 := (HN4.out.low.cell (p := ⟨w2.heap.size + 1 + 1, 2, none⟩) hlt4).trans p2
      have P3 := (HN4.out.low.cell (p := ⟨w2.heap.size + 1 + 1, 3, none⟩) hlt4).trans p3
      have HL4 : Hid (Below w.heap.size w w4) := bTrans (bTrans HN.out.low HBO.out) HN4.out.low
      clear p0 p1 p2 p3 hlt4 HP
      try simp only [List.length_nil, Nat.zero_add]
      go_wp2_with fail
      refine (run_ia anyB anyB w4 _ _ _ (tP args.length 1) 1 loc0 args (⟨⟨[], false, 0, 1, 0⟩, [⟨1, 0, args⟩], (args.length : Int) + 2⟩ : PRes) HR0.out (HT.out.below HL4.out) (HPV.out.below HN4.out.low) ⟨.slice none 0 0, rfl, sl0⟩ (HN4.out.ints (by omega))).mono ?_
      rintro e w5 ⟨A3, d3, B3, g3, rfl, i1, i2, hb5⟩
      have HW6 : Hid (Below w4.heap.size w4 (w5.alloc (.cells #[.slice A3 0 d3, .bool false, .int .i64 0, .int .i64 1, .int .i64 0, .slice B3 1 g3, .int .i64 ((args.length : Int) + 2)] 35))) := bAlloc hb5 _
      obtain ⟨hgv, hA4⟩ := GV.start HN4.out HW6.out
      have HGV : Hid (GV (w5.alloc (.cells #[.slice A3 0 d3, .bool false, .int .i64 0, .int .i64 1, .int .i64 0, .slice B3 1 g3, .int .i64 ((args.length : Int) + 2)] 35)) A4 args 0 (w5.alloc (.cells #[.slice A3 0 d3, .bool false, .int .i64 0, .int .i64 1, .int .i64 0, .slice B3 1 g3, .int .i64 ((args.length : Int) + 2)] 35))) := hgv
      have HA4 : Hid (∀ a, A4 = some a → args ≠ [] → (((w2.alloc (.cells #[.int .i64 (args.length : Int), .slice (some ⟨g, 0, none⟩) (args.length + 2) cap] 50)).alloc (.cells #[.slice none 0 0, .int .i64 0, .int .i64 (-1), .bool false, .slice none 0 0, .int .i64 0, .int .i64 (-1), .bool false] 52)).alloc (.cells #[.slice (some ⟨w2.heap.size, 0, none⟩) 1 1, .slice (some ⟨w2.heap.size + 1, 0, none⟩) 2 2, .slice none 0 0, .int .i64 50] 26)).heap.size ≤ a.block ∧ a.block < w4.heap.size) := hA4
      have HL6 : Hid (Below w.heap.size w (w5.alloc (.cells #[.slice A3 0 d3, .bool false, .int .i64 0, .int .i64 1, .int .i64 0, .slice B3 1 g3, .int .i64 ((args.length : Int) + 2)] 35))) := bTrans HL4.out HW6.out
      have HA5 : Hid (∀ a, A4 = some a → args ≠ [] → w.heap.size ≤ a.block) := fun a ha hne => by
        have h1 := (hA4 a ha hne).1
        have h2 := (bTrans HN.out.low HBO.out).size
        omega
      have HI2 : Hid (Ntes (fun b => w4.heap.size ≤ b) (fun b => w4.heap.size ≤ b) w5 (.slice B3 1 g3) (⟨⟨[], false, 0, 1, 0⟩, [⟨1, 0, args⟩], (args.length : Int) + 2⟩ : PRes).notes) := i2
      have hz5 : w4.heap.size ≤ w5.heap.size := hb5.size
      clear hgv hA4 i1 i2 hb5 P0 P1 P2 P3 HPV HBO
      go_wp2_with fail
      go_loopg [10] args.length (fun g i10 wq => ∃ j : Nat, g = args.length - j ∧ j ≤ args.length ∧ i10 = .int .i64 j ∧ Hid (GV (w5.alloc (.cells #[.slice A3 0 d3, .bool false, .int .i64 0, .int .i64 1, .int .i64 0, .slice B3 1 g3, .int .i64 ((args.length : Int) + 2)] 35)) A4 args j wq))
      case atStart => exact ⟨0, rfl, by omega, rfl, HGV⟩
      case round =>
        rename_i wr0
        obtain ⟨j, rfl, hj, rfl, hq⟩ := hrel
        by_cases hg : j < args.length
        · obtain ⟨bu, ou, x, rfl, hx, q1⟩ := HU.out.cell (hq.out.low HL6.out HA5.out) hg
          obtain ⟨ga, rfl, hgl, q2, q3, _⟩ := hq.out.cell hx
          have HGS : Hid (∀ n y, GV (w5.alloc (.cells #[.slice A3 0 d3, .bool false, .int .i64 0, .int .i64 1, .int .i64 0, .slice B3 1 g3, .int .i64 ((args.length : Int) + 2)] 35)) (some ⟨ga, 0, none⟩) args (j + 1) ((wr.drewN n).setCell ⟨ga, j, none⟩ (.int .i64 y))) := fun n y => by
            obtain ⟨ga', e, _, _, _, h⟩ := (hq.out.drewN n).cell hx
            cases e
            exact h y
          have e2 : (x != x) = false := by simp
          clear hx hq
          go_wp2_with fail
          go_quiet (fail)
          go_wp2_with fail
          go_roundg (args.length - (j + 1))
          case measure => omega
          case rel => exact ⟨j + 1, rfl, by omega, by go_num, HGS.out _ _⟩
        · have HLq : Hid (Below w.heap.size w wr) := hq.out.low HL6.out HA5.out
          have hoth : ∀ b, w4.heap.size ≤ b → wr.heap[b]? = (w5.alloc (.cells #[.slice A3 0 d3, .bool false, .int .i64 0, .int .i64 1, .int .i64 0, .slice B3 1 g3, .int .i64 ((args.length : Int) + 2)] 35)).heap[b]? := fun b hb => hq.out.oth b (fun a ha hne e => by have := (HA4.out a ha hne).2; omega)
          have hbx : wr.heap[w5.heap.size]? = some (.cells #[.slice A3 0 d3, .bool false, .int .i64 0, .int .i64 1, .int .i64 0, .slice B3 1 g3, .int .i64 ((args.length : Int) + 2)] 35) := (hoth _ hz5).trans (heap_new _ _)
          have hsz : wr.heap.size = w5.heap.size + 1 := by rw [hq.out.size]; simp
          obtain ⟨F0, F1, F2, F3, F4, F5, F6, _⟩ := blk7 hbx
          have hSm : Same (fun b => w4.heap.size ≤ b) w5 wr := ⟨by omega, fun b hb hlt => (hoth b hb).trans ((bAlloc (bRefl w5) _).block b hlt)⟩
          have HI3 : Hid (Ntes (fun b => w4.heap.size ≤ b) (fun b => w4.heap.size ≤ b) wr (.slice B3 1 g3) (⟨⟨[], false, 0, 1, 0⟩, [⟨1, 0, args⟩], (args.length : Int) + 2⟩ : PRes).notes) := HI2.out.same hSm hSm
          have T2 : Hid (Tab wr) := HT.out.below HLq.out
          clear hoth hbx hSm hq HI2 HGV F0 F1 F3 F4
          obtain ⟨bn, on, xn, vn, rfl, hx, hzn, q1, q2, q3, hvn⟩ := HI3.out.cell (bRefl wr) (k := 0) (by show 0 < 1; decide)
          obtain rfl : ⟨1, 0, args⟩ = xn := Option.some.inj hx
          obtain ⟨Vn, cn, rfl, _⟩ := hvn.form
          have Q1 : wr.cell? ⟨bn, on, none⟩ = some (.int .i64 1) := by simpa using q1
          have Q2 : wr.cell? ⟨bn, on + 1, none⟩ = some (.int .i64 0) := by simpa using q2
          have Q3 : wr.cell? ⟨bn, on + 2, none⟩ = some (.slice Vn args.length cn) := by simpa using q3
          have HV1 : Hid (NteV wr (.agg #[.int .i64 1, .int .i64 0, .slice Vn args.length cn]) ⟨1, 0, args⟩) := ⟨_, rfl, hvn.any⟩
          have HV2 : Hid (NteV wr (.agg #[.int .i64 1, .int .i64 0, .slice Au args.length cu]) ⟨1, 0, args⟩) := ⟨_, rfl, HU.out.below HLq.out⟩
          clear hx q1 q2 q3 hvn F2 F6
          go_wp2_with fail
          refine (rSameNote wr _ _ ⟨1, 0, args⟩ ⟨1, 0, args⟩ HV1.out HV2.out).mono ?_
          rw [eqB_self]
          rintro e w8 ⟨rfl, hb8⟩
          go_wp2_with (go_at_call 12; refine (awake_any _ (T2.out.below hb8)).mono ?_; rintro e w9 ⟨rfl, hb9⟩)
          go_ret
          exact ⟨rfl, bTrans (bTrans HLq.out hb8) hb9⟩
theorem args_any (w : World) (v : Value) (gt : Int) (args : List Int) (ht : Tab w) (hv : Ints anyB w v args) :
    Calls Tryd.prog 6 #[v, .int .i64 gt] w fun e w' => e = .returned (.bool true) ∧ Below w.heap.size w w' := by
  by_cases hl : 4 < args.length
  · exact args_out w v gt args ht hv hl
  · by_cases h0 : gt = 0
    · exact args_sent0 w v gt args ht hv (by omega) h0
    · by_cases h1 : gt = 1
      · exact args_sent1 w v gt args ht hv (by omega) h1
      · exact args_lost w v gt args ht hv (by omega) h0 h1
end Go.Proofs.YtpcffhhednplaaaDoor
