/-
 The programs of chapter 12's laws, plainly: four actors, a note to each in turn; their start, and whom their events touch (P12.1). Condition: so many notes.
-/
import Derived.Test.YtfbeiedhdmndnaaGreatDoorTa
namespace Go.Proofs.YtfbeiedhdmndnaaGreatDoor
open Go.RowKit
def ncode : List PIns := [⟨7, 0⟩, ⟨1, 0⟩, ⟨16, 0⟩, ⟨21, 5⟩, ⟨25, 0⟩, ⟨1, -1⟩, ⟨7, 0⟩, ⟨22, 0⟩]
def nact : PAct := ⟨[], 4, -1, false⟩
def nNte (l : List Int) (i : Nat) : PNte := ⟨((i % 4 : Nat) : Int), 0, [l.getD i 0]⟩
def nNts (l : List Int) (k : Nat) : List PNte := (List.range k).map (nNte l)
def netP (l : List Int) : PPrg := ⟨[⟨1, ncode⟩], [nact, nact, nact, nact], nNts l l.length, 20⟩
def nloc : PLoc := ⟨[], false, 0, 0, 0⟩
def nMsg (l : List Int) (i : Nat) : PMsg := ⟨⟨-1, (i : Int), 0⟩, nNte l i⟩
def nMsgs (l : List Int) (k : Nat) : List PMsg := (List.range k).map (nMsg l)
def netW (l : List Int) : PWld := ⟨[nloc, nloc, nloc, nloc], nMsgs l l.length, ⟨0, 0, 0, 0⟩⟩
def mailE (i : Int) : PEv := ⟨1, ⟨-1, i, 0⟩, 0⟩
theorem net_chk0 : chk (netP []) = 0 := by kernel_rfl
theorem net_chk1 (a : Int) : chk (netP [a]) = 0 := by kernel_rfl
theorem net_chk2 (a b : Int) : chk (netP [a, b]) = 0 := by kernel_rfl
theorem net_chk3 (a b c : Int) : chk (netP [a, b, c]) = 0 := by kernel_rfl
theorem net_chk4 (a b c d : Int) : chk (netP [a, b, c, d]) = 0 := by kernel_rfl
theorem net_chk5 (a b c d e : Int) : chk (netP [a, b, c, d, e]) = 0 := by kernel_rfl
theorem net_chk6 (a b c d e f : Int) : chk (netP [a, b, c, d, e, f]) = 0 := by kernel_rfl
theorem net_chk7 (a b c d e f g : Int) : chk (netP [a, b, c, d, e, f, g]) = 0 := by kernel_rfl
theorem net_chk8 (a b c d e f g i : Int) : chk (netP [a, b, c, d, e, f, g, i]) = 0 := by kernel_rfl
theorem net_chk {l : List Int} (h : l.length ≤ 8) : chk (netP l) = 0 := by
 match l, h with
 | [], _ => exact net_chk0
 | [a], _ => exact net_chk1 a
 | [a, b], _ => exact net_chk2 a b
 | [a, b, c], _ => exact net_chk3 a b c
 | [a, b, c, d], _ => exact net_chk4 a b c d
 | [a, b, c, d, e], _ => exact net_chk5 a b c d e
 | [a, b, c, d, e, f], _ => exact net_chk6 a b c d e f
 | [a, b, c, d, e, f, g], _ => exact net_chk7 a b c d e f g
 | [a, b, c, d, e, f, g, i], _ => exact net_chk8 a b c d e f g i
theorem net_fc {l : List Int} (h : l.length ≤ 8) : fc (netP l) = 0 := fc_mk (net_chk h) fun x hx => by
 have hx' : x ∈ [(⟨1, ncode⟩ : PHnd)] := hx
 rw [List.mem_singleton] at hx'
 subst hx'
 exact (goodB_good (hs := [⟨1, ncode⟩]) (code := ncode) (l := [0, 1, 2, 1, 0, 0, 1, 2, 0]) (pr := fun k => if k = 5 then 3 else k - 1) (by decide +kernel)).de
theorem net_small {l : List Int} (h : l.length ≤ 8) : Small (netP l) := by
 refine ⟨show 1 ≤ 18 by decide, show 4 ≤ 10 by decide, ?_, ?_, ?_, ?_⟩
 ·show ((List.range l.length).map (nNte l)).length ≤ 18
  rw [List.length_map, List.length_range]; omega
 ·intro y hy
  have hy' : y ∈ [(⟨1, ncode⟩ : PHnd)] := hy
  rw [List.mem_singleton] at hy'
  subst hy'; decide
 ·intro a ha
  have ha' : a ∈ [nact, nact, nact, nact] := ha
  simp only [List.mem_cons, List.not_mem_nil, or_false, or_self] at ha'
  subst ha'; decide
 ·intro m hm
  have hm' : m ∈ (List.range l.length).map (nNte l) := hm
  rw [List.mem_map] at hm'
  obtain ⟨i, _, rfl⟩ := hm'
  show 1 ≤ 6
  decide
theorem net_start0 : startP (netP []) = netW [] := by kernel_rfl
theorem net_start1 (a : Int) : startP (netP [a]) = netW [a] := by kernel_rfl
theorem net_start2 (a b : Int) : startP (netP [a, b]) = netW [a, b] := by kernel_rfl
theorem net_start3 (a b c : Int) : startP (netP [a, b, c]) = netW [a, b, c] := by kernel_rfl
theorem net_start4 (a b c d : Int) : startP (netP [a, b, c, d]) = netW [a, b, c, d] := by kernel_rfl
theorem net_start5 (a b c d e : Int) : startP (netP [a, b, c, d, e]) = netW [a, b, c, d, e] := by kernel_rfl
theorem net_start6 (a b c d e f : Int) : startP (netP [a, b, c, d, e, f]) = netW [a, b, c, d, e, f] := by kernel_rfl
theorem net_start7 (a b c d e f g : Int) : startP (netP [a, b, c, d, e, f, g]) = netW [a, b, c, d, e, f, g] := by kernel_rfl
theorem net_start8 (a b c d e f g i : Int) : startP (netP [a, b, c, d, e, f, g, i]) = netW [a, b, c, d, e, f, g, i] := by kernel_rfl
theorem net_start {l : List Int} (h : l.length ≤ 8) : startP (netP l) = netW l := by
 match l, h with
 | [], _ => exact net_start0
 | [a], _ => exact net_start1 a
 | [a, b], _ => exact net_start2 a b
 | [a, b, c], _ => exact net_start3 a b c
 | [a, b, c, d], _ => exact net_start4 a b c d
 | [a, b, c, d, e], _ => exact net_start5 a b c d e
 | [a, b, c, d, e, f], _ => exact net_start6 a b c d e f
 | [a, b, c, d, e, f, g], _ => exact net_start7 a b c d e f g
 | [a, b, c, d, e, f, g, i], _ => exact net_start8 a b c d e f g i
theorem net_wk {l : List Int} (h : l.length ≤ 8) : WK (netP l) 16 (netW l) := by rw [← net_start h]; exact start_wk (net_fc h)
end Go.Proofs.YtfbeiedhdmndnaaGreatDoor
