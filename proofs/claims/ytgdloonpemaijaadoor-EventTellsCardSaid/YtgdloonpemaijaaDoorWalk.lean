/-
  What walk answers: the depths, or that there are none. Conditions: the table of the instructions is in the world; the instructions, and the handlers' Args, are such as Check takes.
-/
import Derived.Test.YtgdloonpemaijaaDoorDw
namespace Go.Proofs.YtgdloonpemaijaaDoor
open Go.RowKit
attribute [local go_sem ↓] Go.wp_at_zero Go.wp_at_succ

theorem info3 : (Tryd.prog.info? 3).map (fun i => (i.zero, i.size, i.bytes)) = some (some (.int .i64 0), 1, 8) := by kernel_rfl

/-- The error, and the depths. -/
noncomputable def de (hs : List PHnd) (code : List PIns) : Int := if (dp hs code).isSome then 0 else 5
noncomputable def dl (hs : List PHnd) (code : List PIns) : List Int := (dp hs code).getD []
theorem Good.de {hs : List PHnd} {code : List PIns} {l : List Int} (g : Good hs code l) : de hs code = 0 := by unfold YtgdloonpemaijaaDoor.de; rw [g.dp]; rfl
theorem Good.dl {hs : List PHnd} {code : List PIns} {l : List Int} (g : Good hs code l) : dl hs code = l := by unfold YtgdloonpemaijaaDoor.dl; rw [g.dp]; rfl
theorem Bad.de {hs : List PHnd} {code : List PIns} (g : Bad hs code) : de hs code = 5 := by unfold YtgdloonpemaijaaDoor.de; rw [g.dp]; rfl
theorem Bad.dl {hs : List PHnd} {code : List PIns} (g : Bad hs code) : dl hs code = [] := by unfold YtgdloonpemaijaaDoor.dl; rw [g.dp]; rfl

/-- The depths on the way in: the first k are -1, the rest 0. -/
def ini (n k : Nat) : List Int := List.replicate k (-1) ++ List.replicate (n - k) 0
theorem ini_len {n k : Nat} (h : k ≤ n) : (ini n k).length = n := by simp [ini]; omega
theorem ini_set {n k : Nat} (h : k < n) : (ini n k).set k (-1) = ini n (k + 1) := by
  unfold ini
  obtain ⟨m, hm⟩ : ∃ m, n - k = m + 1 := ⟨n - k - 1, by omega⟩
  rw [hm, List.set_append, if_neg (by simp), show n - (k + 1) = m by omega, List.replicate_succ, List.replicate_succ']
  simp
theorem ini_all (n : Nat) : ini n n = List.replicate n (-1) := by simp [ini]

theorem DW.start (w : World) (n : Nat) : DW w w.heap.size (ini n 0) (.slice none 0 0) [] (w.alloc (.cells (madeCells #[.int .i64 0] n) 3)) := by
  refine ⟨bAlloc (bRefl w) _, ?_, Nat.le_refl _, ⟨rfl, Or.inl ⟨rfl, rfl⟩⟩, by simp [Value.ownBlock]⟩
  rw [ini_len (Nat.zero_le _)]
  refine (World.rowIs_made w (.int .i64 0) n 3).congr fun i hi => ?_
  simp [ini, List.getD_eq_getElem?_getD, hi]
theorem DW.first {w wr : World} {D B : Nat} {l : List Int} (h : DW w D l (.slice none 0 0) [] wr) (hB : wr.heap.size = B) : DW w D l (.slice (some ⟨B, 0, none⟩) 1 1) [0] (wr.alloc (.cells #[.int .i64 0] 3)) := by
  subst hB
  have h1 := h.below (bAlloc (bRefl wr) (.cells #[.int .i64 0] 3))
  refine ⟨h1.low, h1.row, h1.base, ⟨rfl, Or.inr ⟨wr.heap.size, 1, #[.int .i64 0], rfl, h.low.size, heap_new _ _, by simp, by simp [maxLen], rfl, rfl⟩⟩, ?_⟩
  have := h.lt
  simp [Value.ownBlock]; omega

theorem DW.len {w wr : World} {D : Nat} {l : List Int} {v : Value} {t : List Nat} (h : DW w D l v t wr) : ∃ A c, v = .slice A t.length c ∧ c ≤ maxLen := by
  obtain ⟨h1, h2⟩ := h.own
  rcases h2 with ⟨rfl, h2⟩ | ⟨g, cap, cur, rfl, hb, hh, h3, h4, _⟩
  · exact ⟨none, 0, by rw [h2], Nat.zero_le _⟩
  · exact ⟨_, cap, rfl, h4⟩
theorem DW.ints {w wr : World} {D c : Nat} {l : List Int} {v : Value} {t : List Nat} (h : DW w D l v t wr) (hl : l.length ≤ 1000) (hc : l.length ≤ c := by first | exact Nat.le_refl _ | (simp; done) | omega) : Ints anyB wr (.slice (some ⟨D, 0, none⟩) l.length c) l :=
  ⟨_, c, rfl, by omega, hc, Or.inr ⟨D, 0, rfl, trivial, h.lt, fun k x hx => by
    have := h.cell hx
    rw [Nat.mul_one, Nat.zero_add]; exact this⟩⟩
theorem DW.intsN {w wr : World} {D c : Nat} {l : List Int} {v : Value} {t : List Nat} (h : DW w D l v t wr) (hl : l.length ≤ 1000) (hc : l.length ≤ c := by first | exact Nat.le_refl _ | (simp; done) | omega) : Ints (fun b => w.heap.size ≤ b) wr (.slice (some ⟨D, 0, none⟩) l.length c) l :=
  ⟨_, c, rfl, by omega, hc, Or.inr ⟨D, 0, rfl, h.base, h.lt, fun k x hx => by
    have := h.cell hx
    rw [Nat.mul_one, Nat.zero_add]; exact this⟩⟩
theorem Ints.up {ok ok' : Nat → Prop} {w : World} {v : Value} {l : List Int} (h : Ints ok w v l) (hk : ∀ b, ok b → ok' b) : Ints ok' w v l := h.imp hk (Nat.le_refl _) fun _ _ _ _ _ h => h
theorem sl0 {α : Type} {sz : Nat} {R : World → Nat → Nat → α → Prop} {ok : Nat → Prop} {w : World} {A : Option Addr} {c : Nat} : Sl sz R ok w (.slice A 0 c) [] :=
  ⟨_, c, rfl, by simp, by simp, Or.inl rfl⟩
theorem new_cell {W : World} {B : Nat} {x : Value} {T : TypeId} (h : W.heap.size = B) : (W.alloc (.cells #[x] T)).cell? ((⟨B, 0, none⟩ : Addr).add 0) = some x := by
  subst h
  simp [Addr.add]
theorem ini_cnt {n : Nat} (h : n ≤ 64) : 2 * ((List.replicate (n + 1) (-1 : Int)).set 0 0).count (-1) + [0].length ≤ 131 := by
  have := List.count_le_length (a := (-1 : Int)) (l := (List.replicate (n + 1) (-1 : Int)).set 0 0)
  simp at this
  simp
  omega
theorem int_ne {a b : Int} (h : a ≠ b) : (a == b) = false := by simp [h]
theorem int_eq {a b : Int} (h : a = b) : (a == b) = true := by simp [h]
theorem snoc_of {t : List Nat} (h : 0 < t.length) : ∃ s k, t = s ++ [k] := by
  rcases List.eq_nil_or_concat t with rfl | ⟨s, k, rfl⟩
  · simp at h
  · exact ⟨s, k, by simp⟩
theorem Wk.lt {hs : List PHnd} {code : List PIns} {l : List Int} {t : List Nat} {k : Nat} (h : Wk hs code l (t ++ [k])) : k ≤ code.length := by
  obtain ⟨d, hd, _⟩ := h.here
  have := (List.getElem?_eq_some_iff.1 hd).1
  have := h.len
  omega
theorem nxt_le {hs : List PHnd} {code : List PIns} {i : PIns} {k m j : Nat} (hi : OkI hs code.length i) (hk : k < code.length) (h : (nxt i k)[m]? = some j) : j ≤ code.length := by
  have hm := List.mem_of_getElem? h
  unfold nxt at hm
  split at hm
  · cases hm
  · split at hm
    · rename_i h2
      have := (hi.tgt (Or.inl h2)).2
      rw [List.mem_singleton] at hm; omega
    · split at hm
      · rename_i h3
        have := (hi.tgt (Or.inr h3)).2
        simp only [List.mem_cons, List.not_mem_nil, or_false] at hm
        rcases hm with hm | hm <;> omega
      · rw [List.mem_singleton] at hm; omega

set_option maxHeartbeats 8000000 in
set_option maxRecDepth 100000 in
theorem walk_any (w : World) (vc vh : Value) (code : List PIns) (hs : List PHnd) (ht : Tab w) (hc : Code anyB w vc code) (hh : Hnds anyB anyB w vh hs) (ha : OkH hs) (hi : ∀ i ∈ code, OkI hs code.length i) (hlen : code.length ≤ 64) :
    Calls Tryd.prog 87 #[vc, vh] w fun e w' => ∃ v, e = .returned (.tuple #[v, .int .i64 (de hs code)]) ∧ Ints (fun b => w.heap.size ≤ b) w' v (dl hs code) ∧ Below w.heap.size w w' := by
  obtain ⟨A, c, rfl, hl⟩ := hc.form
  obtain ⟨A2, c2, rfl, hl2⟩ := hh.form
  have HT : Hid (Tab w) := ht
  clear ht
  obtain ⟨i0, hi0, hz0, hz1, hz2⟩ := info_parts info3
  have hmk := run_make_row' (P := Tryd.prog) 27 3 (.int .i64 0) 8 Tryd.underlying27 info3 rfl .i64 .i64 (code.length + 1) (by omega) (by omega)
  have ec : ((code.length + 1 : Nat) : Int) = (code.length : Int) + 1 := by omega
  rw [ec] at hmk
  clear ec
  go_enter Tryd.func87, Tryd.ntmps87
  go_wp2
  go_loopg [7, 20] (code.length + 1) (fun g i7 i20 wr => ∃ k : Nat, g = code.length + 1 - k ∧ k ≤ code.length + 1 ∧ i20 = .int .i64 k ∧ Hid (DW w w.heap.size (ini (code.length + 1) k) (.slice none 0 0) [] wr))
  case atStart => exact ⟨0, rfl, by omega, rfl, DW.start w _⟩
  case round =>
    obtain ⟨k, rfl, hk, rfl, hd⟩ := hrel
    have hz := hd.out.lt
    have hf := fun j => hd.out.row.frozen j
    by_cases hlt : k < code.length + 1
    · obtain ⟨x, hx⟩ := at_lt (l := ini (code.length + 1) k) (k := k) (by rw [ini_len hk]; exact hlt)
      have hcell := hd.out.cell hx
      clear hx
      have HN : Hid (DW w w.heap.size (ini (code.length + 1) (k + 1)) (.slice none 0 0) [] (wr.setCell ⟨w.heap.size, k, none⟩ (.int .i64 (-1)))) := by
        have := hd.out.set k (-1)
        rw [ini_set hlt] at this
        exact this
      go_wp2
      go_roundg (code.length + 1 - (k + 1))
      case measure => omega
      case rel => exact ⟨k + 1, rfl, by omega, by go_num, HN⟩
    · obtain rfl : k = code.length + 1 := by omega
      have h0 := hd.out.cell (j := 0) (x := -1) (by rw [ini_all]; simp)
      have HN : Hid (DW w w.heap.size ((List.replicate (code.length + 1) (-1)).set 0 0) (.slice none 0 0) [] (wr.setCell ⟨w.heap.size, 0, none⟩ (.int .i64 0))) := by
        have := hd.out.set 0 0
        rw [ini_all] at this
        exact this
      clear hd
      go_wp2
      go_loopg [8, 9, 10, 11, 13] (2 * ((List.replicate (code.length + 1) (-1 : Int)).set 0 0).count (-1) + 1) (fun g i8 i9 i10 i11 i13 wr => ∃ l t, g = 2 * l.count (-1) + t.length ∧ 2 * l.count (-1) + t.length ≤ 131 ∧ Hid (Wk hs code l t) ∧ Hid (DW w w.heap.size l i8 t wr))
      case atStart => exact ⟨_, [0], rfl, ini_cnt hlen, Wk.begin, HN.out.first (by simp)⟩
      case round =>
        clear HN hf hz h0
        obtain ⟨l, t, rfl, hbd, hw, hd⟩ := hrel
        obtain ⟨wo, hwo⟩ : ∃ wo, wo = wr := ⟨wr, rfl⟩
        subst hwo
        have hln := hw.out.len
        by_cases h0 : 0 < t.length
        · obtain ⟨s, k, rfl⟩ := snoc_of h0
          clear h0
          rw [List.length_append, List.length_singleton] at hbd
          obtain ⟨g, cap, rfl, hcap, hg, hcm, hlast, hd1⟩ := hd.out.form
          have hk := hw.out.lt
          have HD : Hid (DW w w.heap.size l (.slice (some ⟨g, 0, none⟩) s.length cap) s wo) := hd1
          clear hd1
          unfold maxLen at hcm
          by_cases hkn : k = code.length
          · subst hkn
            have hkk := int_eq (rfl : (code.length : Int) = code.length)
            go_wp2
            go_roundg (2 * l.count (-1) + s.length)
            case measure => simp
            case rel => exact ⟨l, s, rfl, by omega, hw.out.pop (by simp), HD⟩
          · have hkk : ((k : Int) == (code.length : Int)) = false := int_ne (by omega)
            have hk2 : k < code.length := by omega
            have hk3 : (k : Int) < (code.length : Int) + 1 := by omega
            have hk4 : k < code.length + 1 := by omega
            obtain ⟨b1, o1, x, rfl, hx, q1, q2⟩ := hc.cell hd.out.low hk2
            have hzb : b1 < wo.heap.size := World.block_lt_of_cell? _ _ q1
            obtain ⟨d, hd0, hdn⟩ := hw.out.here
            have q3 := hd.out.cell hd0
            have hd8 := (hw.out.toSnd.rch hd0 hdn).le
            have HX : Hid (code[k]? = some x) := hx
            have HO : Hid (OkI hs code.length x) := hi x (List.mem_of_getElem? hx)
            have HD0 : Hid (l[k]? = some d) := hd0
            have hzD := hd.out.lt
            have hlow : Hid (Below w.heap.size w wo) := hd.out.low
            clear hkn hx hd0 hd
            by_cases hok : okI hs x d
            · have HK : Hid (okI hs x d) := hok
              go_wp2
              go_region_held3 (fun w' => w'.cell? ⟨b1, o1 + k * 2, none⟩ = some (.int .i64 x.op) ∧ w'.cell? ⟨b1, o1 + k * 2 + 1, none⟩ = some (.int .i64 x.a) ∧ w'.cell? ⟨w.heap.size, k, none⟩ = some (.int .i64 d)) (go_keep)
                (first | (go_at_call 120; refine (leaves_yes _ x d _ hs (HT.out.below (by first | exact hlow.out | exact hlow.out.drew)) (hh.below (by first | exact hlow.out | exact hlow.out.drew)) ha _ HO.out hdn hd8 HK.out).mono ?_; rintro e w1 ⟨rfl, hb1⟩; have hc1 := bcell (undrew hb1)))
              go_wp2_with (go_at_call 121; refine (follow_any _ x k hs _ HO.out (by omega)).mono ?_; rintro e w2 ⟨u, rfl, hfo, hb2⟩; have fw := FW.start (HD.out.below (undrew hb1)) hfo; obtain ⟨Au, cu, rfl, hul⟩ := fw.form)
              have HD2 : Hid (DW w w.heap.size l (.slice (some ⟨g, 0, none⟩) s.length cap) s w2) := (HD.out.below (undrew hb1)).below hb2
              have HF2 : Hid (FW w.heap.size (.slice (some ⟨g, 0, none⟩) s.length cap) (.slice Au (nxt x k).length cu) (nxt x k) w2) := fw
              have HM : Hid (Wm hs code l s k d x 0) := hw.out.into HD0.out
              clear hfo fw HD hc1 hb1 hb2 q1 q2 q3 hlast hlow hzD hzb hg hw
              go_loopg [8, 13, 70] (nxt x k).length (fun g i8 i13 i70 wr => ∃ m l' t', g = (nxt x k).length - m ∧ m ≤ (nxt x k).length ∧ i70 = .int .i64 (m : Nat) ∧ 2 * l'.count (-1) + t'.length ≤ 2 * l.count (-1) + s.length ∧ Hid (Wm hs code l' t' k d x m) ∧ Hid (DW w w.heap.size l' i8 t' wr) ∧ Hid (FW w.heap.size i8 (.slice Au (nxt x k).length cu) (nxt x k) wr))
              case atStart => exact ⟨0, l, s, rfl, by omega, rfl, Nat.le_refl _, HM, HD2, HF2⟩
              case round =>
                clear HM HD2 HF2
                obtain ⟨m, l', t', rfl, hm, rfl, hms, hwm, hd', hfw⟩ := hrel
                obtain ⟨A3, c3, rfl, hcm'⟩ := hd'.out.len
                have hln' := hwm.out.len
                by_cases hlt : m < (nxt x k).length
                · obtain ⟨j, hj⟩ := at_lt hlt
                  obtain ⟨b3, c4, hu, hbD, hb3, q4⟩ := hfw.out.cell hj
                  simp only [Value.slice.injEq] at hu
                  obtain ⟨rfl, _, rfl⟩ := hu
                  have hjn := nxt_le HO.out hk2 hj
                  obtain ⟨y, hy⟩ := at_lt (l := l') (k := j) (by omega)
                  have q5 := hd'.out.cell hy
                  have hjI : (j : Int) < (code.length : Int) + 1 := by omega
                  have hzD := hd'.out.lt
                  have hfz := fun j => hd'.out.row.frozen j
                  have HJ : Hid ((nxt x k)[m]? = some j) := hj
                  have HY : Hid (l'[j]? = some y) := hy
                  clear hj hy
                  by_cases hy1 : y = -1
                  · have HY1 : Hid (l'[j]? = some (-1)) := by rw [← hy1]; exact HY
                    subst hy1
                    have HS : Hid (DW w w.heap.size (l'.set j (lft hs x d)) (.slice A3 t'.length c3) t' (wr.setCell ⟨w.heap.size, j, none⟩ (.int .i64 (lft hs x d)))) := hd'.out.set j _
                    have HFS : Hid (FW w.heap.size (.slice A3 t'.length c3) (.slice (some ⟨b3, 0, none⟩) (nxt x k).length cu) (nxt x k) (wr.setCell ⟨w.heap.size, j, none⟩ (.int .i64 (lft hs x d)))) := hfw.out.set j _
                    go_wp2_with (at_builtin; refine wpList_append_lies _ rfl _ _ 27 rfl w.heap.size 3 i0 _ 1 8 Tryd.underlying27 hi0 hz0 hz1 hz2 rfl (by decide) _ t'.length _ rfl (HS.out.below (bAlloc (bRefl _) _)).own ⟨wr.heap.size, 0, none⟩ 1 1 [.int .i64 (j : Int)] rfl rfl ?c1 ?c2 (by decide) ?c3 ?c4 ?c5 (wr.heap.size + 1) ?c6 ?_)
                    case c1 =>
                      intro j' u' hj'
                      match j', hj' with
                      | 0, hj' => simp at hj'; subst hj'; exact new_cell (by simp)
                    case c2 => intro u' hu'; simp at hu'; subst hu'; rfl
                    case c3 => unfold maxLen; omega
                    case c4 => omega
                    case c5 => have := HS.out.low.size; simp at this; simp; omega
                    case c6 => simp
                    intro gn cn w4 hown hgr hat hgl2
                    have hat' : (Value.slice A3 t'.length c3).ownBlock = some gn ∨ gn = ((wr.setCell ⟨w.heap.size, j, none⟩ (.int .i64 (lft hs x d))).alloc (.cells #[.int .i64 (j : Int)] 3)).heap.size := by simpa using hat
                    have HN : Hid (DW w w.heap.size (l'.set j (lft hs x d)) (.slice (some ⟨gn, 0, none⟩) (t'.length + 1) cn) (t' ++ [j]) w4) := HS.out.push (bAlloc (bRefl _) _) hown hgr hat'
                    have HFN : Hid (FW w.heap.size (.slice (some ⟨gn, 0, none⟩) (t'.length + 1) cn) (.slice (some ⟨b3, 0, none⟩) (nxt x k).length cu) (nxt x k) w4) := HFS.out.push (bAlloc (bRefl _) _) hgr hat'
                    have HWN : Hid (Wm hs code (l'.set j (lft hs x d)) (t' ++ [j]) k d x (m + 1)) := hwm.out.new hdn HX.out HK.out HJ.out HY1.out
                    have HC : Hid ((l'.set j (lft hs x d)).count (-1) + 1 = l'.count (-1)) := count_set_less HY1.out (lft_nonneg HK.out)
                    have q6 : w4.cell? ⟨w.heap.size, j, none⟩ = some (.int .i64 (lft hs x d)) := HN.out.cell (List.getElem?_set_self (by omega))
                    have hz4 := HN.out.lt
                    clear hown hgr hat hat' HS HFS
                    go_wp2
                    go_roundg ((nxt x k).length - (m + 1))
                    case measure => omega
                    case rel => exact ⟨m + 1, _, _, rfl, by omega, by go_num, by have := HC.out; simp; omega, HWN, HN, HFN⟩
                  · have e1 := int_ne hy1
                    by_cases hy2 : y = lft hs x d
                    · have e2 := ne_no hy2
                      have HWN : Hid (Wm hs code l' t' k d x (m + 1)) := hwm.out.old HJ.out (by rw [← hy2]; exact HY)
                      clear hy1 hy2
                      go_wp2
                      go_roundg ((nxt x k).length - (m + 1))
                      case measure => omega
                      case rel => exact ⟨m + 1, l', t', rfl, by omega, by go_num, hms, HWN, hd', hfw⟩
                    · have e2 := ne_yes hy2
                      have HB : Hid (Bad hs code) := hwm.out.two hdn HX.out HK.out HJ.out HY.out hy1 hy2
                      clear hy1 hy2
                      go_wp2
                      go_ret2
                      exact ⟨_, by rw [HB.out.de]; rfl, by rw [HB.out.dl]; exact sl0, hd'.out.low⟩
                · go_wp2
                  go_roundg (2 * l'.count (-1) + t'.length)
                  case measure => simp; omega
                  case rel => exact ⟨l', t', rfl, by omega, hwm.out.out HX.out HK.out (by omega), hd'⟩
            · have HB : Hid (Bad hs code) := (hw.out.into (i := x) HD0.out).bad hdn HX.out hok
              have HK : Hid (¬ okI hs x d) := hok
              clear hok
              go_wp2
              go_region_held3 (fun w' => w'.cell? ⟨b1, o1 + k * 2, none⟩ = some (.int .i64 x.op) ∧ w'.cell? ⟨b1, o1 + k * 2 + 1, none⟩ = some (.int .i64 x.a) ∧ w'.cell? ⟨w.heap.size, k, none⟩ = some (.int .i64 d)) (go_keep)
                (first | (go_at_call 120; refine (leaves_no _ x d _ hs (HT.out.below (by first | exact hlow.out | exact hlow.out.drew)) (hh.below (by first | exact hlow.out | exact hlow.out.drew)) ha _ HO.out hdn hd8 HK.out).mono ?_; rintro e w1 ⟨rfl, hb1⟩; have hc1 := bcell (undrew hb1)))
              go_wp2
              go_ret2
              exact ⟨_, by rw [HB.out.de]; rfl, by rw [HB.out.dl]; exact sl0, bTrans hlow.out (undrew hb1)⟩
        · obtain rfl : t = [] := by cases t with | nil => rfl | cons _ _ => simp at h0
          obtain ⟨A3, c3, rfl, hcm⟩ := hd.out.len
          have HG : Hid (Good hs code l) := hw.out.good
          go_wp2
          go_ret2
          exact ⟨_, by rw [HG.out.de]; rfl, by rw [HG.out.dl]; have := hd.out.intsN (c := code.length + 1) (by omega); rw [hln] at this; exact this, hd.out.low⟩
end Go.Proofs.YtgdloonpemaijaaDoor
