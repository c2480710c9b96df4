/-
  MailTells: of any messages all is as the document says. No conditions.
-/
import Derived.Test.YtjdkbgeehjihfaaMp
namespace Go.Proofs.Ytjdkbgeehjihfaa
open Go.RowKit
attribute [local go_sem ↓] Go.wp_at_zero Go.wp_at_succ fieldM
/-- What the law's last statement knows: both lists, and the message in its box. -/
structure TK (w0 : World) (B : Nat) (v0 v1 : Value) (l o : List PMsg) (m : PMsg) (c : Value) (w : World) : Prop where
  low : Below w0.heap.size w0 w
  rl : Msgs anyB anyB w v0 l
  ro : Msgs anyB anyB w v1 o
  box : w.heap[B]? = some (.cells #[.int .i64 m.id.f, .int .i64 m.id.n, .int .i64 m.id.c, .int .i64 m.nt.to, .int .i64 m.nt.hd, c] 29)
  arg : Ints anyB w c m.nt.args
section
variable {w0 w w' : World} {B : Nat} {v0 v1 c : Value} {l o : List PMsg} {m : PMsg}
theorem TK.lt (h : TK w0 B v0 v1 l o m c w) : B < w.heap.size := (Array.getElem?_eq_some_iff.1 h.box).1
theorem TK.below (h : TK w0 B v0 v1 l o m c w) (hb : Below w.heap.size w w') : TK w0 B v0 v1 l o m c w' :=
  ⟨bTrans h.low hb, h.rl.below hb, h.ro.below hb, (hb.block B h.lt).trans h.box, h.arg.below hb⟩
theorem TK.drew (h : TK w0 B v0 v1 l o m c w) : TK w0 B v0 v1 l o m c w.drew := h.below (bRefl w).drew
theorem TK.cells (h : TK w0 B v0 v1 l o m c w) : w.cell? ⟨B, 0, none⟩ = some (.int .i64 m.id.f) ∧ w.cell? ⟨B, 1, none⟩ = some (.int .i64 m.id.n) ∧ w.cell? ⟨B, 2, none⟩ = some (.int .i64 m.id.c) ∧ w.cell? ⟨B, 3, none⟩ = some (.int .i64 m.nt.to) ∧ w.cell? ⟨B, 4, none⟩ = some (.int .i64 m.nt.hd) ∧ w.cell? ⟨B, 5, none⟩ = some c := blk6 h.box
end
/-- A message in a box. -/
def Bx (B : Nat) (x : PMsg) (c : Value) (w : World) : Prop := w.heap[B]? = some (.cells #[.int .i64 x.id.f, .int .i64 x.id.n, .int .i64 x.id.c, .int .i64 x.nt.to, .int .i64 x.nt.hd, c] 29) ∧ Ints anyB w c x.nt.args
theorem Bx.lt {B : Nat} {x : PMsg} {c : Value} {w : World} (h : Bx B x c w) : B < w.heap.size := (Array.getElem?_eq_some_iff.1 h.1).1
theorem Bx.below {B : Nat} {x : PMsg} {c : Value} {w w' : World} (h : Bx B x c w) (hb : Below w.heap.size w w') : Bx B x c w' := ⟨(hb.block B h.lt).trans h.1, h.2.below hb⟩
theorem midT {w0 W w2 : World} {B : Nat} {v0 v1 c : Value} {l o : List PMsg} {m : PMsg} (_ : Below W.heap.size W w2) (h : TK w0 B v0 v1 l o m c W) : TK w0 B v0 v1 l o m c W := h
theorem short_few {l : List PMsg} (h : shortB l = true) : Few l := ⟨by have := (shortB_of h).1; omega, fun x hx => by have := (shortB_of h).2 x hx; omega⟩
/-- The last statement's first four comparisons, and what follows, in whatever order. -/
theorem beqB (a : Bool) : (a == a) = true := by cases a <;> rfl
theorem beqI (a : Int) : (a == a) = true := by simp
set_option maxHeartbeats 16000000 in
set_option maxRecDepth 100000 in
theorem tells_any (w : World) (v0 v1 vm : Value) (l o : List PMsg) (m : PMsg) (who : Int) (hl : Msgs anyB anyB w v0 l) (ho : Msgs anyB anyB w v1 o) (hm : MsgV anyB w vm m) :
    Calls Try.prog 3 #[v0, v1, vm, .int .i64 who] w fun e w' => e = .returned (.bool true) ∧ Below w.heap.size w w' := by
  obtain ⟨A0, c0, rfl, _⟩ := hl.form
  obtain ⟨A1, c1, rfl, _⟩ := ho.form
  obtain ⟨cm, rfl, hI⟩ := hm
  obtain ⟨A2, d2, rfl, _⟩ := hI.form
  have tk : TK w w.heap.size (.slice A0 l.length c0) (.slice A1 o.length c1) l o m (.slice A2 m.nt.args.length d2) (w.alloc (.cells #[.int .i64 m.id.f, .int .i64 m.id.n, .int .i64 m.id.c, .int .i64 m.nt.to, .int .i64 m.nt.hd, .slice A2 m.nt.args.length d2] 29)) :=
    ⟨bAlloc (bRefl w) _, hl.below (bAlloc (bRefl w) _), ho.below (bAlloc (bRefl w) _), heap_new _ _, hI.below (bAlloc (bRefl w) _)⟩
  clear hl ho hI
  by_cases hs : shortB l = true ∧ shortB o = true ∧ m.nt.args.length ≤ 6
  · obtain ⟨s1, s2, s3⟩ := hs
    have HFL : Hid (Few l) := short_few s1
    have HM6 : Hid (m.nt.args.length ≤ 1000) := by show _ ≤ _; omega
    have s4 : ¬ ((6 : Int) < m.nt.args.length) := by omega
    go_enter Try.func3, Try.ntmps3
    go_wp2_with fail
    refine (mail_any _ _ l tk.rl).mono ?_
    rintro e w1 ⟨rfl, hb⟩
    replace tk := tk.below hb
    clear hb
    go_wp2_with fail
    refine (mail_any _ _ o tk.ro).mono ?_
    rintro e w2 ⟨rfl, hb⟩
    replace tk := tk.below hb
    clear hb
    obtain ⟨x0, x1, x2, x3, x4, x5⟩ := tk.cells
    have hzB := tk.lt
    go_wp2_with fail
    rcases fnd_cases l m.id with ⟨hf, -⟩ | ⟨k, x, hf, hx, -, -⟩
    · refine (put_new _ _ _ l m tk.rl ⟨_, rfl, tk.arg⟩ hf HFL.out HM6.out).mono ?_
      rintro e w3 ⟨u1, rfl, hu1, hb⟩
      replace hu1 := hu1.any2
      replace tk := tk.below hb
      clear hb
      obtain ⟨x0, x1, x2, x3, x4, x5⟩ := tk.cells
      have hzB := tk.lt
      go_wp2_with fail
      refine (rput_new _ _ _ l m tk.rl ⟨_, rfl, tk.arg⟩ hf HFL.out).mono ?_
      rintro e w4 ⟨u2, rfl, hu2, hb⟩
      replace hu1 := hu1.below hb
      replace tk := tk.below hb
      clear hb
      obtain ⟨x0, x1, x2, x3, x4, x5⟩ := tk.cells
      have hzB := tk.lt
      go_wp2_with fail
      refine (take_none _ _ l m.id tk.rl hf).mono ?_
      rintro e w5 ⟨rfl, hb⟩
      replace hu1 := hu1.below hb
      replace hu2 := hu2.below hb
      replace tk := tk.below hb
      clear hb
      have hb := bAlloc (bRefl w5) (.cells #[.int .i64 msg0.id.f, .int .i64 msg0.id.n, .int .i64 msg0.id.c, .int .i64 msg0.nt.to, .int .i64 msg0.nt.hd, .slice none 0 0] 29)
      replace hu1 := hu1.below hb
      replace hu2 := hu2.below hb
      replace tk := tk.below hb
      have bx : Bx w5.heap.size msg0 (.slice none 0 0) (w5.alloc (.cells #[.int .i64 msg0.id.f, .int .i64 msg0.id.n, .int .i64 msg0.id.c, .int .i64 msg0.nt.to, .int .i64 msg0.nt.hd, .slice none 0 0] 29)) := ⟨heap_new _ _, ⟨none, 0, rfl, by decide, by decide, Or.inl rfl⟩⟩
      clear hb
      obtain ⟨x0, x1, x2, x3, x4, x5⟩ := tk.cells
      have hzB := tk.lt
      go_wp2_with fail
      refine (rtake_none _ _ l m.id tk.rl hf).mono ?_
      rintro e w6 ⟨rfl, hb⟩
      replace hu1 := hu1.below hb
      replace hu2 := hu2.below hb
      replace tk := tk.below hb
      replace bx := bx.below hb
      clear hb
      have hb := bAlloc (bRefl w6) (.cells #[.int .i64 msg0.id.f, .int .i64 msg0.id.n, .int .i64 msg0.id.c, .int .i64 msg0.nt.to, .int .i64 msg0.nt.hd, .slice none 0 0] 29)
      replace hu1 := hu1.below hb
      replace hu2 := hu2.below hb
      replace tk := tk.below hb
      replace bx := bx.below hb
      have by' : Bx w6.heap.size msg0 (.slice none 0 0) (w6.alloc (.cells #[.int .i64 msg0.id.f, .int .i64 msg0.id.n, .int .i64 msg0.id.c, .int .i64 msg0.nt.to, .int .i64 msg0.nt.hd, .slice none 0 0] 29)) := ⟨heap_new _ _, ⟨none, 0, rfl, by decide, by decide, Or.inl rfl⟩⟩
      clear hb
      have z1 := eqB_self (putP l m)
      have z2 := eqB_self ([] : List PMsg)
      have z3 := eqB_self [msg0]
      go_wp2_with fail
      refine (rsame_any _ _ _ (putP l m) (putP l m) hu1 hu2).mono ?_
      rintro e w7 ⟨rfl, hb⟩
      replace tk := tk.below hb
      replace bx := bx.below hb
      replace by' := by'.below hb
      clear hb hu1 hu2
      go_wp2_with fail
      refine (rsame_any _ _ _ [] [] (msgs0 _) (msgs0 _)).mono ?_
      rintro e w8 ⟨rfl, hb⟩
      replace tk := tk.below hb
      replace bx := bx.below hb
      replace by' := by'.below hb
      clear hb
      obtain ⟨q0, q1, q2, q3, q4, q5⟩ := blk6 bx.1
      obtain ⟨r0, r1, r2, r3, r4, r5⟩ := blk6 by'.1
      have hzx := bx.lt
      have hzy := by'.lt
      go_wp2_with fail
      refine (rsame_any _ _ _ [msg0] [msg0] ((one_msgs (((bAlloc (bRefl _) _).block _ (by simp)).trans (heap_new _ _)) (bx.2.below (bAlloc (bAlloc (bRefl _) _) _))).any2) ((one_msgs (heap_new2 (by simp)) (by'.2.below (bAlloc (bAlloc (bRefl _) _) _))).any2)).mono ?_
      rintro e w9 ⟨rfl, hb⟩
      replace tk := tk.below (bTrans (bAlloc (bAlloc (bRefl _) _) _) hb)
      clear hb bx by' q0 q1 q2 q3 q4 q5 r0 r1 r2 r3 r4 r5 hzx hzy
      obtain ⟨x0, x1, x2, x3, x4, x5⟩ := tk.cells
      have hzB := tk.lt
      go_wp2_with fail
      clear z1 z2 z3
      have y1 := beqB (srt l)
      have y2 := beqI (fnd l m.id)
      have y3 := beqI (toN l who)
      have y4 := beqB (eqB l o)
      have y5 := eqB_self l
      have HL9 : Hid (l.length ≤ 1000) := by have := HFL.out.1; show _ ≤ _; omega
      have HX9 : Hid (∀ x ∈ l, x.nt.args.length ≤ 1000) := HFL.out.2
      clear x3 x4 x5
      go_region_held3 (fun w' => w'.cell? ⟨w.heap.size, 0, none⟩ = some (.int .i64 m.id.f) ∧ w'.cell? ⟨w.heap.size, 1, none⟩ = some (.int .i64 m.id.n) ∧ w'.cell? ⟨w.heap.size, 2, none⟩ = some (.int .i64 m.id.c)) (go_keep)
        (first
          | (go_at_call 13; refine (sorted_any _ _ l (TK.rl (by first | exact tk | exact tk.drew))).mono ?_; rintro e wn ⟨rfl, hb⟩; replace tk := (midT hb (by first | exact tk | exact tk.drew)).below hb; clear hb; obtain ⟨x0, x1, x2, -, -, -⟩ := tk.cells; have hzB := tk.lt)
          | (go_at_call 14; refine (rsorted_any _ _ l (TK.rl (by first | exact tk | exact tk.drew))).mono ?_; rintro e wn ⟨rfl, hb⟩; replace tk := (midT hb (by first | exact tk | exact tk.drew)).below hb; clear hb; obtain ⟨x0, x1, x2, -, -, -⟩ := tk.cells; have hzB := tk.lt)
          | (go_at_call 15; refine (find_any _ _ l m.id (TK.rl (by first | exact tk | exact tk.drew))).mono ?_; rintro e wn ⟨rfl, hb⟩; replace tk := (midT hb (by first | exact tk | exact tk.drew)).below hb; clear hb; obtain ⟨x0, x1, x2, -, -, -⟩ := tk.cells; have hzB := tk.lt)
          | (go_at_call 16; refine (rfind_any _ _ l m.id (TK.rl (by first | exact tk | exact tk.drew))).mono ?_; rintro e wn ⟨rfl, hb⟩; replace tk := (midT hb (by first | exact tk | exact tk.drew)).below hb; clear hb; obtain ⟨x0, x1, x2, -, -, -⟩ := tk.cells; have hzB := tk.lt)
          | (go_at_call 17; refine (to_any _ _ l who (TK.rl (by first | exact tk | exact tk.drew))).mono ?_; rintro e wn ⟨rfl, hb⟩; replace tk := (midT hb (by first | exact tk | exact tk.drew)).below hb; clear hb; obtain ⟨x0, x1, x2, -, -, -⟩ := tk.cells; have hzB := tk.lt)
          | (go_at_call 18; refine (rto_any _ _ l who (TK.rl (by first | exact tk | exact tk.drew))).mono ?_; rintro e wn ⟨rfl, hb⟩; replace tk := (midT hb (by first | exact tk | exact tk.drew)).below hb; clear hb; obtain ⟨x0, x1, x2, -, -, -⟩ := tk.cells; have hzB := tk.lt)
          | (go_at_call 12; refine (rsame_any _ _ _ l o (TK.rl (by first | exact tk | exact tk.drew)) (TK.ro (by first | exact tk | exact tk.drew))).mono ?_; rintro e wn ⟨rfl, hb⟩; replace tk := (midT hb (by first | exact tk | exact tk.drew)).below hb; clear hb; obtain ⟨x0, x1, x2, -, -, -⟩ := tk.cells; have hzB := tk.lt)
          | (go_at_call 20; refine (copy_any _ _ l (TK.rl (by first | exact tk | exact tk.drew)) HL9.out HX9.out).mono ?_; rintro e wn ⟨u9, rfl, hu9, hb⟩; replace tk := (midT hb (by first | exact tk | exact tk.drew)).below hb; clear hb; replace hu9 := hu9.any2; obtain ⟨A9, c9, rfl, _⟩ := hu9.form; obtain ⟨x0, x1, x2, -, -, -⟩ := tk.cells; have hzB := tk.lt)
          | (go_at_call 19; first | (refine (same_any _ _ _ l o (TK.rl (by first | exact tk | exact tk.drew)) (TK.ro (by first | exact tk | exact tk.drew))).mono ?_; rintro e wn ⟨rfl, hb⟩; replace tk := (midT hb (by first | exact tk | exact tk.drew)).below hb; clear hb; obtain ⟨x0, x1, x2, -, -, -⟩ := tk.cells; have hzB := tk.lt) | (refine (same_any _ _ _ l l (by first | exact hu9 | exact hu9.below (bRefl _).drew) (TK.rl (by first | exact tk | exact tk.drew))).mono ?_; rintro e wn ⟨rfl, hb⟩; replace tk := (midT hb (by first | exact tk | exact tk.drew)).below hb; clear hb; obtain ⟨x0, x1, x2, -, -, -⟩ := tk.cells; have hzB := tk.lt))
          | (go_at_call 7; refine (awake_any _).mono ?_; rintro e wn ⟨rfl, hb⟩; replace tk := (midT hb (by first | exact tk | exact tk.drew)).below hb; clear hb; obtain ⟨x0, x1, x2, -, -, -⟩ := tk.cells; have hzB := tk.lt))
      all_goals
        have HL := tk.low
        go_wp2
        go_ret
        exact ⟨rfl, HL⟩
    · refine (put_there _ _ _ l m tk.rl ⟨_, rfl, tk.arg⟩ k hf).mono ?_
      rintro e w3 ⟨rfl, hb⟩
      replace tk := tk.below hb
      clear hb
      obtain ⟨x0, x1, x2, x3, x4, x5⟩ := tk.cells
      have hzB := tk.lt
      go_wp2_with fail
      refine (rput_there _ _ _ l m tk.rl ⟨_, rfl, tk.arg⟩ k hf).mono ?_
      rintro e w4 ⟨rfl, hb⟩
      replace tk := tk.below hb
      clear hb
      obtain ⟨x0, x1, x2, x3, x4, x5⟩ := tk.cells
      have hzB := tk.lt
      go_wp2_with fail
      refine (take_there _ _ l m.id tk.rl k x hf hx HFL.out).mono ?_
      rintro e w5 ⟨u1, ax, rfl, hu1, hax, hb⟩
      replace hu1 := hu1.any2
      obtain ⟨Ax, cx, rfl, _⟩ := hax.form
      replace tk := tk.below hb
      clear hb
      have hb := bAlloc (bRefl w5) (.cells #[.int .i64 x.id.f, .int .i64 x.id.n, .int .i64 x.id.c, .int .i64 x.nt.to, .int .i64 x.nt.hd, .slice Ax x.nt.args.length cx] 29)
      replace hu1 := hu1.below hb
      replace tk := tk.below hb
      have bx : Bx w5.heap.size x (.slice Ax x.nt.args.length cx) (w5.alloc (.cells #[.int .i64 x.id.f, .int .i64 x.id.n, .int .i64 x.id.c, .int .i64 x.nt.to, .int .i64 x.nt.hd, .slice Ax x.nt.args.length cx] 29)) := ⟨heap_new _ _, Ints.below hax.any hb⟩
      clear hb hax
      obtain ⟨x0, x1, x2, x3, x4, x5⟩ := tk.cells
      have hzB := tk.lt
      go_wp2_with fail
      refine (rtake_there _ _ l m.id tk.rl k x hf hx HFL.out).mono ?_
      rintro e w6 ⟨u2, ay, rfl, hu2, hay, hb⟩
      obtain ⟨Ay, cy, rfl, _⟩ := hay.form
      replace hu1 := hu1.below hb
      replace tk := tk.below hb
      replace bx := bx.below hb
      clear hb
      have hb := bAlloc (bRefl w6) (.cells #[.int .i64 x.id.f, .int .i64 x.id.n, .int .i64 x.id.c, .int .i64 x.nt.to, .int .i64 x.nt.hd, .slice Ay x.nt.args.length cy] 29)
      replace hu1 := hu1.below hb
      replace hu2 := hu2.below hb
      replace tk := tk.below hb
      replace bx := bx.below hb
      have by' : Bx w6.heap.size x (.slice Ay x.nt.args.length cy) (w6.alloc (.cells #[.int .i64 x.id.f, .int .i64 x.id.n, .int .i64 x.id.c, .int .i64 x.nt.to, .int .i64 x.nt.hd, .slice Ay x.nt.args.length cy] 29)) := ⟨heap_new _ _, Ints.below hay hb⟩
      clear hb hay
      have z1 := eqB_self (cutP l k)
      have z2 := eqB_self ([] : List PMsg)
      have z3 := eqB_self [x]
      go_wp2_with fail
      refine (rsame_any _ _ _ [] [] (msgs0 _) (msgs0 _)).mono ?_
      rintro e w7 ⟨rfl, hb⟩
      replace hu1 := hu1.below hb
      replace hu2 := hu2.below hb
      replace tk := tk.below hb
      replace bx := bx.below hb
      replace by' := by'.below hb
      clear hb
      go_wp2_with fail
      refine (rsame_any _ _ _ (cutP l k) (cutP l k) hu1 hu2).mono ?_
      rintro e w8 ⟨rfl, hb⟩
      replace tk := tk.below hb
      replace bx := bx.below hb
      replace by' := by'.below hb
      clear hb
      obtain ⟨q0, q1, q2, q3, q4, q5⟩ := blk6 bx.1
      obtain ⟨r0, r1, r2, r3, r4, r5⟩ := blk6 by'.1
      have hzx := bx.lt
      have hzy := by'.lt
      go_wp2_with fail
      refine (rsame_any _ _ _ [x] [x] ((one_msgs (((bAlloc (bRefl _) _).block _ (by simp)).trans (heap_new _ _)) (bx.2.below (bAlloc (bAlloc (bRefl _) _) _))).any2) ((one_msgs (heap_new2 (by simp)) (by'.2.below (bAlloc (bAlloc (bRefl _) _) _))).any2)).mono ?_
      rintro e w9 ⟨rfl, hb⟩
      replace tk := tk.below (bTrans (bAlloc (bAlloc (bRefl _) _) _) hb)
      clear hb bx by' q0 q1 q2 q3 q4 q5 r0 r1 r2 r3 r4 r5 hzx hzy
      obtain ⟨x0, x1, x2, x3, x4, x5⟩ := tk.cells
      have hzB := tk.lt
      go_wp2_with fail
      clear z1 z2 z3
      have y1 := beqB (srt l)
      have y2 := beqI (fnd l m.id)
      have y3 := beqI (toN l who)
      have y4 := beqB (eqB l o)
      have y5 := eqB_self l
      have HL9 : Hid (l.length ≤ 1000) := by have := HFL.out.1; show _ ≤ _; omega
      have HX9 : Hid (∀ x ∈ l, x.nt.args.length ≤ 1000) := HFL.out.2
      clear x3 x4 x5
      go_region_held3 (fun w' => w'.cell? ⟨w.heap.size, 0, none⟩ = some (.int .i64 m.id.f) ∧ w'.cell? ⟨w.heap.size, 1, none⟩ = some (.int .i64 m.id.n) ∧ w'.cell? ⟨w.heap.size, 2, none⟩ = some (.int .i64 m.id.c)) (go_keep)
        (first
          | (go_at_call 13; refine (sorted_any _ _ l (TK.rl (by first | exact tk | exact tk.drew))).mono ?_; rintro e wn ⟨rfl, hb⟩; replace tk := (midT hb (by first | exact tk | exact tk.drew)).below hb; clear hb; obtain ⟨x0, x1, x2, -, -, -⟩ := tk.cells; have hzB := tk.lt)
          | (go_at_call 14; refine (rsorted_any _ _ l (TK.rl (by first | exact tk | exact tk.drew))).mono ?_; rintro e wn ⟨rfl, hb⟩; replace tk := (midT hb (by first | exact tk | exact tk.drew)).below hb; clear hb; obtain ⟨x0, x1, x2, -, -, -⟩ := tk.cells; have hzB := tk.lt)
          | (go_at_call 15; refine (find_any _ _ l m.id (TK.rl (by first | exact tk | exact tk.drew))).mono ?_; rintro e wn ⟨rfl, hb⟩; replace tk := (midT hb (by first | exact tk | exact tk.drew)).below hb; clear hb; obtain ⟨x0, x1, x2, -, -, -⟩ := tk.cells; have hzB := tk.lt)
          | (go_at_call 16; refine (rfind_any _ _ l m.id (TK.rl (by first | exact tk | exact tk.drew))).mono ?_; rintro e wn ⟨rfl, hb⟩; replace tk := (midT hb (by first | exact tk | exact tk.drew)).below hb; clear hb; obtain ⟨x0, x1, x2, -, -, -⟩ := tk.cells; have hzB := tk.lt)
          | (go_at_call 17; refine (to_any _ _ l who (TK.rl (by first | exact tk | exact tk.drew))).mono ?_; rintro e wn ⟨rfl, hb⟩; replace tk := (midT hb (by first | exact tk | exact tk.drew)).below hb; clear hb; obtain ⟨x0, x1, x2, -, -, -⟩ := tk.cells; have hzB := tk.lt)
          | (go_at_call 18; refine (rto_any _ _ l who (TK.rl (by first | exact tk | exact tk.drew))).mono ?_; rintro e wn ⟨rfl, hb⟩; replace tk := (midT hb (by first | exact tk | exact tk.drew)).below hb; clear hb; obtain ⟨x0, x1, x2, -, -, -⟩ := tk.cells; have hzB := tk.lt)
          | (go_at_call 12; refine (rsame_any _ _ _ l o (TK.rl (by first | exact tk | exact tk.drew)) (TK.ro (by first | exact tk | exact tk.drew))).mono ?_; rintro e wn ⟨rfl, hb⟩; replace tk := (midT hb (by first | exact tk | exact tk.drew)).below hb; clear hb; obtain ⟨x0, x1, x2, -, -, -⟩ := tk.cells; have hzB := tk.lt)
          | (go_at_call 20; refine (copy_any _ _ l (TK.rl (by first | exact tk | exact tk.drew)) HL9.out HX9.out).mono ?_; rintro e wn ⟨u9, rfl, hu9, hb⟩; replace tk := (midT hb (by first | exact tk | exact tk.drew)).below hb; clear hb; replace hu9 := hu9.any2; obtain ⟨A9, c9, rfl, _⟩ := hu9.form; obtain ⟨x0, x1, x2, -, -, -⟩ := tk.cells; have hzB := tk.lt)
          | (go_at_call 19; first | (refine (same_any _ _ _ l o (TK.rl (by first | exact tk | exact tk.drew)) (TK.ro (by first | exact tk | exact tk.drew))).mono ?_; rintro e wn ⟨rfl, hb⟩; replace tk := (midT hb (by first | exact tk | exact tk.drew)).below hb; clear hb; obtain ⟨x0, x1, x2, -, -, -⟩ := tk.cells; have hzB := tk.lt) | (refine (same_any _ _ _ l l (by first | exact hu9 | exact hu9.below (bRefl _).drew) (TK.rl (by first | exact tk | exact tk.drew))).mono ?_; rintro e wn ⟨rfl, hb⟩; replace tk := (midT hb (by first | exact tk | exact tk.drew)).below hb; clear hb; obtain ⟨x0, x1, x2, -, -, -⟩ := tk.cells; have hzB := tk.lt))
          | (go_at_call 7; refine (awake_any _).mono ?_; rintro e wn ⟨rfl, hb⟩; replace tk := (midT hb (by first | exact tk | exact tk.drew)).below hb; clear hb; obtain ⟨x0, x1, x2, -, -, -⟩ := tk.cells; have hzB := tk.lt))
      all_goals
        have HL := tk.low
        go_wp2
        go_ret
        exact ⟨rfl, HL⟩
  · cases s1 : shortB l with
    | false =>
      go_enter Try.func3, Try.ntmps3
      go_wp2_with (first | (go_at_call 6; refine (mail_any _ _ l tk.rl).mono ?_; rintro e w1 ⟨rfl, hb⟩; replace tk := tk.below hb; clear hb) | (go_at_call 7; refine (awake_any _).mono ?_; rintro e w2 ⟨rfl, hb⟩))
      go_ret
      exact ⟨rfl, bTrans tk.low hb⟩
    | true =>
      cases s2 : shortB o with
      | false =>
        go_enter Try.func3, Try.ntmps3
        go_wp2_with fail
        refine (mail_any _ _ l tk.rl).mono ?_
        rintro e w1 ⟨rfl, hb⟩
        replace tk := tk.below hb
        clear hb
        go_wp2_with (first | (go_at_call 6; refine (mail_any _ _ o tk.ro).mono ?_; rintro e w1 ⟨rfl, hb⟩; replace tk := tk.below hb; clear hb) | (go_at_call 7; refine (awake_any _).mono ?_; rintro e w2 ⟨rfl, hb⟩))
        go_ret
        exact ⟨rfl, bTrans tk.low hb⟩
      | true =>
        have s3 : (6 : Int) < m.nt.args.length := by
          have : ¬ m.nt.args.length ≤ 6 := fun h => hs ⟨s1, s2, h⟩
          omega
        go_enter Try.func3, Try.ntmps3
        go_wp2_with fail
        refine (mail_any _ _ l tk.rl).mono ?_
        rintro e w1 ⟨rfl, hb⟩
        replace tk := tk.below hb
        clear hb
        go_wp2_with fail
        refine (mail_any _ _ o tk.ro).mono ?_
        rintro e w2 ⟨rfl, hb⟩
        replace tk := tk.below hb
        clear hb
        obtain ⟨x0, x1, x2, x3, x4, x5⟩ := tk.cells
        go_wp2_with (go_at_call 7; refine (awake_any _).mono ?_; rintro e w2 ⟨rfl, hb⟩)
        go_ret
        exact ⟨rfl, bTrans tk.low hb⟩
end Go.Proofs.Ytjdkbgeehjihfaa
