/-
 What net of chapter 12's laws answers. Condition: at most eight notes.
-/
import Derived.Test.YtfbeiedhdmndnaaGreatDoorUc
namespace Go.Proofs.YtfbeiedhdmndnaaGreatDoor
open Go.RowKit
attribute [local go_sem ↓] Go.wp_at_zero Go.wp_at_succ
set_option maxHeartbeats 4000000 in
theorem net_any (ok : Nat → Prop) (W : World) (v : Value) (l : List Int) (h : Ints ok W v l) (hl : l.length ≤ 8) :
  Calls Tryz.prog 30 #[v] W fun e w' => ∃ v', e = .returned v' ∧ PrgV w' v' (netP l) ∧ Below W.heap.size W w' := by
 have HI := hid_mk h
 obtain ⟨A, c, rfl, _⟩ := h.form
 obtain ⟨i0, hi0, hz0, hz1, hz2⟩ := info_parts infoAc
 obtain ⟨j0, hj0, hy0, hy1, hy2⟩ := info_parts infoNo
 clear h
 have HNP0 := hid_mk (NP.start W)
 go_enter Tryz.func30, Tryz.ntmps30
 go_wp2_with fail
 generalize ((((W.alloc (.cells #[.slice none 0 0, .slice none 0 0, .slice none 0 0, .int .i64 0] 26)).alloc (.cells #[.int .i64 7, .int .i64 0, .int .i64 1, .int .i64 0, .int .i64 16, .int .i64 0, .int .i64 21, .int .i64 5, .int .i64 25, .int .i64 0, .int .i64 1, .int .i64 (-1), .int .i64 7, .int .i64 0, .int .i64 22, .int .i64 0] 70)).alloc (.cells #[.int .i64 1, .slice (some ⟨W.heap.size + 1, 0, none⟩) 8 8] 73)).alloc (.cells #[.slice (some ⟨W.heap.size + 1 + 1, 0, none⟩) 1 1, .slice none 0 0, .slice none 0 0, .int .i64 20] 26)) = w0 at HNP0 ⊢
 go_loopg [5] 4 (fun g i5 wr => ∃ k : Nat, g = 4 - k ∧ k ≤ 4 ∧ i5 = .int .i64 (k : Int) ∧ ∃ vA, NP W k [] vA (.slice none 0 0) [] wr)
 case atStart => exact ⟨0, rfl, by omega, rfl, _, HNP0.out⟩
 case round =>
  obtain ⟨k, rfl, hk, rfl, vA, np⟩ := hrel
  obtain ⟨A9, c9, rfl⟩ := np.formA
  by_cases hlt : k < 4
  ·have hltI : (k : Int) < 4 := by omega
   obtain ⟨p0, p1, p2, p3⟩ := blk4 np.box
   have ht := np.top
   have hnb : ∀ b, (Value.slice A9 k c9).ownBlock = some b → W.heap.size + 1 + 1 + 1 + 1 ≤ b := fun b e => (own_lt np.ac e).1
   have HNP := hid_mk np
   have HNEWS : Hid (∀ j u, arow[j]? = some u → (wr.alloc (.cells #[.slice none 0 0, .int .i64 4, .int .i64 (-1), .bool false] 75)).cell? ((⟨wr.heap.size, 0, none⟩ : Addr).add j) = some u) := World.news_of_block (heap_new _ _)
   have HONE : Hid (∀ u ∈ arow, u.oneCell' = true) := fun u hu => by
    simp [arow] at hu; rcases hu with rfl | rfl | rfl | rfl <;> rfl
   have HM1 : Hid (k + 1 ≤ maxLen) := by show _ ≤ _; unfold maxLen; omega
   have HM2 : Hid ((k + 1) * 48 ≤ 140737488355328) := by show _ ≤ _; omega
   have HB9 : ∀ X : Obj, Below wr.heap.size wr (wr.alloc X) := fun X => bAlloc (bRefl _) _
   clear np
   go_wp2_with (first
    | (at_builtin; refine wpList_append_lies _ rfl _ _ 23 rfl (W.heap.size + 1 + 1 + 1 + 1) 75 i0 _ 4 48 Tryz.underlying23 hi0 hz0 hz1 hz2 rfl (by decide) (.slice A9 k c9) k _ rfl (own_block HNP.out.ac fun g hg hl => (HB9 _).block g hl) ⟨wr.heap.size, 0, none⟩ 1 1 arow rfl rfl HNEWS.out HONE.out (by decide) HM1.out HM2.out (by simp; omega) (wr.heap.size + 1) (by simp) ?_; intro gn cn w6 ho6 hg6 hat6 hgl6; have hk6 := (hg6.block (W.heap.size + 1 + 1 + 1) (by simp; omega) (fun e => by have := hnb (W.heap.size + 1 + 1 + 1) e.symm; omega)).trans (boxAt HNP.out.box (HB9 _)); obtain ⟨f0, f1, f2, f3⟩ := blk4 hk6; have ff : ∀ o, w6.frozen? ⟨W.heap.size + 1 + 1 + 1, o, none⟩ = false := (fun o => heap_frozen hk6); have HO6 := hid_mk ho6; have HG6 := hid_mk hg6; clear ho6 hg6 hat6 hgl6 hk6))
   go_roundg (4 - (k + 1))
   case measure => omega
   case rel => exact ⟨k + 1, rfl, by omega, by go_num, _, HNP.out.act HO6.out HG6.out⟩
  ·obtain rfl : k = 4 := by omega
   have HNPA := hid_mk np
   clear np
   go_wp2_with fail
   go_loopg [6] l.length (fun g i6 wr => ∃ k : Nat, g = l.length - k ∧ k ≤ l.length ∧ i6 = .int .i64 (k : Int) ∧ ∃ vB us, NP W 4 (nNts l k) (.slice A9 4 c9) vB us wr)
   case atStart => exact ⟨0, rfl, by omega, rfl, _, _, HNPA.out⟩
   case round =>
    obtain ⟨k, rfl, hk, rfl, vB, us, np⟩ := hrel
    obtain ⟨B9, d9, rfl⟩ := np.nt.form
    rw [nNts_len] at np
    by_cases hlt : k < l.length
    ·have HBS := hid_mk (nNts_succ l k)
     have hln := nNts_len l k
     obtain ⟨b0, o0, y, rfl, hyk, hcl⟩ := Ints.cell HI.out np.low hlt
     have hyd : nNte l k = ⟨((k % 4 : Nat) : Int), 0, [y]⟩ := by unfold nNte; rw [List.getD_eq_getElem?_getD, hyk]; rfl
     rw [hyd] at HBS
     generalize nNts l k = bs at HBS np hln
     obtain ⟨p0, p1, p2, p3⟩ := blk4 np.box
     have ht := np.top
     have hnb : ∀ b, (Value.slice B9 k d9).ownBlock = some b → W.heap.size + 1 + 1 + 1 + 1 ≤ b := fun b e => (own_lt np.nt.own e).1
     have hmd := rem4 k
     have hltI : (k : Int) < l.length := by omega
     have HNP := hid_mk np
     have HU := hid_mk np.nt
     have HLn : Hid (bs.length = k) := hln
     have HNEWS : Hid (∀ j u, (ntrow ⟨((k % 4 : Nat) : Int), 0, [y]⟩ (.slice (some ⟨wr.heap.size, 0, none⟩) 1 1))[j]? = some u → ((wr.alloc (.cells #[.int .i64 y] 3)).alloc (.cells #[.int .i64 ((k % 4 : Nat) : Int), .int .i64 0, .slice (some ⟨wr.heap.size, 0, none⟩) 1 1] 79)).cell? ((⟨wr.heap.size + 1, 0, none⟩ : Addr).add j) = some u) := World.news_of_block (heap_new2 (by simp))
     have HONE : Hid (∀ u ∈ ntrow ⟨((k % 4 : Nat) : Int), 0, [y]⟩ (.slice (some ⟨wr.heap.size, 0, none⟩) 1 1), u.oneCell' = true) := fun u hu => by
      simp [ntrow] at hu; rcases hu with rfl | rfl | rfl <;> rfl
     have HM1 : Hid (bs.length + 1 ≤ maxLen) := by show _ ≤ _; unfold maxLen; omega
     have HM2 : Hid ((bs.length + 1) * 40 ≤ 140737488355328) := by show _ ≤ _; omega
     have HB9 : ∀ X Y : Obj, Below wr.heap.size wr ((wr.alloc X).alloc Y) := fun X Y => bAlloc (bAlloc (bRefl _) _) _
     clear np hln hyd hyk
     have HOWN : Hid (((wr.alloc (.cells #[.int .i64 y] 3)).alloc (.cells #[.int .i64 ((k : Int) % 4), .int .i64 0, .slice (some ⟨wr.heap.size, 0, none⟩) 1 1] 79)).ownsRow (W.heap.size + 1 + 1 + 1 + 1) 79 3 (.slice B9 k d9) k ((List.zipWith ntrow bs us).flatten)) := by
      have h := own_block HU.out.own fun g hg hl => (HB9 (.cells #[.int .i64 y] 3) (.cells #[.int .i64 ((k : Int) % 4), .int .i64 0, .slice (some ⟨wr.heap.size, 0, none⟩) 1 1] 79)).block g hl
      rw [HLn.out] at h; exact h
     have HM1' : Hid (k + 1 ≤ maxLen) := by show _ ≤ _; unfold maxLen; omega
     have HM2' : Hid ((k + 1) * 40 ≤ 140737488355328) := by show _ ≤ _; omega
     have HM3 : Hid (W.heap.size + 1 + 1 + 1 + 1 ≤ ((wr.alloc (.cells #[.int .i64 y] 3)).alloc (.cells #[.int .i64 ((k : Int) % 4), .int .i64 0, .slice (some ⟨wr.heap.size, 0, none⟩) 1 1] 79)).heap.size) := by show _ ≤ _; simp; omega
     have HM4 : Hid (((wr.alloc (.cells #[.int .i64 y] 3)).alloc (.cells #[.int .i64 ((k : Int) % 4), .int .i64 0, .slice (some ⟨wr.heap.size, 0, none⟩) 1 1] 79)).heap.size = wr.heap.size + 1 + 1) := by show _ = _; simp
     have HFACTS : Hid (∀ w6, ((wr.alloc (.cells #[.int .i64 y] 3)).alloc (.cells #[.int .i64 ((k : Int) % 4), .int .i64 0, .slice (some ⟨wr.heap.size, 0, none⟩) 1 1] 79)).drew.grownBy w6 (Value.slice B9 k d9).ownBlock → w6.cell? ⟨W.heap.size + 1 + 1 + 1, 2, none⟩ = some (.slice B9 k d9) ∧ ∀ o, w6.frozen? ⟨W.heap.size + 1 + 1 + 1, o, none⟩ = false) := fun w6 hg6 => by
      have hg6 := ungrow hg6; have hk6 := (hg6.block (W.heap.size + 1 + 1 + 1) (by simp; omega) (fun e => by have := hnb (W.heap.size + 1 + 1 + 1) e.symm; omega)).trans (boxAt HNP.out.box (HB9 _ _))
      exact ⟨(blk4 hk6).2.2.1, fun o => heap_frozen hk6⟩
     clear HM1 HM2
     have q1 : ∀ X, (wr.alloc X).cell? ⟨W.heap.size + 1 + 1 + 1, 2, none⟩ = some (.slice B9 k d9) := fun X => ((bAlloc (bRefl wr) X).cell (p := ⟨W.heap.size + 1 + 1 + 1, 2, none⟩) ht).trans p2
     have q2 : ∀ X Y, ((wr.alloc X).alloc Y).cell? ⟨W.heap.size + 1 + 1 + 1, 2, none⟩ = some (.slice B9 k d9) := fun X Y => ((HB9 X Y).cell (p := ⟨W.heap.size + 1 + 1 + 1, 2, none⟩) ht).trans p2
     go_wp2_with fail
     go_region_law ((first
      | (refine step_append_lies _ (by rfl) _ _ 24 (by rfl) (W.heap.size + 1 + 1 + 1 + 1) 79 j0 _ 3 40 Tryz.underlying24 hj0 hy0 hy1 hy2 rfl (by decide) (.slice B9 k d9) k _ (by rfl) HOWN.out ⟨wr.heap.size + 1, 0, none⟩ 1 1 (ntrow ⟨((k % 4 : Nat) : Int), 0, [y]⟩ (.slice (some ⟨wr.heap.size, 0, none⟩) 1 1)) (by rfl) rfl HNEWS.out HONE.out (by decide) HM1'.out HM2'.out HM3.out (wr.heap.size + 1 + 1) HM4.out ?_; intro gn cn w6 hown hgr hat hgl2; obtain ⟨f0, f1⟩ := HFACTS.out w6 hgr; have HO6 := hid_mk hown; have HG6 := hid_mk (ungrow hgr); have HAT6 := hid_mk hat; clear hown hgr hat hgl2)))
     all_goals
      go_wp2
      go_roundg (l.length - (k + 1))
      case measure => omega
      case rel =>
       have key := HNP.out.note (x := ⟨((k % 4 : Nat) : Int), 0, [y]⟩) (y := y) rfl (by rw [HLn.out]; exact HO6.out) HG6.out HAT6.out
       rw [← HBS.out, HLn.out] at key
       exact ⟨k + 1, rfl, by omega, by go_num, _, _, key⟩
    ·obtain rfl : k = l.length := by omega
     obtain ⟨p0, p1, p2, p3⟩ := blk4 np.box
     obtain ⟨r0, r1, r2, r3⟩ := blk4 np.res
     have ff : ∀ o, wr.frozen? ⟨W.heap.size, o, none⟩ = false := fun o => heap_frozen np.res
     have HNP := hid_mk np
     have HPR := hid_mk (np.prg (by rw [nNts_len]; exact hl) (put4_same (b := W.heap.size) (a0 := .slice (some ⟨W.heap.size + 1 + 1, 0, none⟩) 1 1) (a1 := .slice A9 4 c9) (a2 := .slice B9 l.length d9) (a3 := .int .i64 20)))
     have ht := np.top
     clear np
     go_wp2
     exact bodyPost_ret (v := .agg #[.slice (some ⟨W.heap.size + 1 + 1, 0, none⟩) 1 1, .slice A9 4 c9, .slice B9 l.length d9, .int .i64 20]) (by simp [results, Tryz.results30, go_sem, r0, r1, r2, r3]) rfl ⟨_, rfl, HPR.out, put4_below HNP.out.low (Nat.le_refl _)⟩
end Go.Proofs.YtfbeiedhdmndnaaGreatDoor
