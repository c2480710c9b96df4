/-
  A handler, run, as plain data: what each instruction does, and what comes of all of them. No conditions.
-/
import Derived.Test.YtpcffhhednplaaaDoorFPlain
import Derived.Test.YtpcffhhednplaaaDoorFl2
import Derived.Test.YtpcffhhednplaaaDoorNum
namespace Go.Proofs.YtpcffhhednplaaaDoor
open Go.RowKit

/-- An actor's state. -/
structure PLoc where
  regs : List Int
  armed : Bool
  down : Int
  sent : Int
  over : Int
  deriving DecidableEq, Inhabited
/-- What comes of a handler. -/
structure PRes where
  loc : PLoc
  notes : List PNte
  steps : Int
  deriving DecidableEq, Inhabited
/-- A handler on its way: the stack's upper number first. -/
structure MS where
  regs : List Int
  armed : Bool
  notes : List PNte
  st : List Int
  pc : Nat
  steps : Nat
  deriving DecidableEq, Inhabited

/-- The upper number, and the one below. -/
def hd0 : List Int → Int
  | [] => 0
  | x :: _ => x
/-- The timer of an actor. -/
def tmr (p : PPrg) (who : Int) : Int := ((p.acs[who.toNat]?).map (·.timer)).getD (-1)
/-- P6.1: one instruction; why the actor goes down, 0 if it does not. -/
def stp (p : PPrg) (who : Int) (args : List Int) (len : Nat) (i : PIns) (s : MS) : Int × MS :=
  match i.op.toNat with
  | 1 => (0, { s with st := i.a :: s.st })
  | 2 => (0, { s with st := s.st.tail })
  | 3 => (0, { s with st := hd0 s.st :: s.st })
  | 4 => (0, { s with st := hd0 s.st.tail :: hd0 s.st :: s.st.tail.tail })
  | 5 => (0, { s with st := s.regs.getD i.a.toNat 0 :: s.st })
  | 6 => (0, { s with st := s.st.tail, regs := s.regs.set i.a.toNat (hd0 s.st) })
  | 7 => (0, { s with st := args.getD i.a.toNat 0 :: s.st })
  | 8 => (0, { s with st := who :: s.st })
  | 14 => (0, { s with st := on 14 (hd0 s.st) :: s.st.tail })
  | 19 => (0, { s with st := on 19 (hd0 s.st) :: s.st.tail })
  | 20 => (0, { s with pc := i.a.toNat })
  | 21 => (0, { s with st := s.st.tail, pc := if hd0 s.st = 0 then i.a.toNat else s.pc })
  | 22 => if 0 ≤ hd0 s.st ∧ hd0 s.st < p.acs.length
      then (0, { s with st := s.st.tail.drop (argsOf p.hs i.a).toNat, notes := s.notes ++ [⟨hd0 s.st, i.a, (s.st.tail.take (argsOf p.hs i.a).toNat).reverse⟩] })
      else (4, { s with st := s.st.tail })
  | 23 => (0, { s with armed := s.armed || tmr p who != -1 })
  | 24 => (0, { s with armed := false })
  | 25 => (0, { s with pc := len })
  | _ => (dn i.op (hd0 s.st), { s with st := tw i.op (hd0 s.st.tail) (hd0 s.st) :: s.st.tail.tail })

/-- All of them, with so much fuel left. -/
def rn (p : PPrg) (who : Int) (args : List Int) (code : List PIns) : Nat → MS → Int × MS
  | 0, s => if s.pc < code.length then (2, s) else (0, s)
  | f + 1, s =>
    if s.pc < code.length then
      (let r := stp p who args code.length (code.getD s.pc default) { s with pc := s.pc + 1, steps := s.steps + 1 }
       if r.1 = 0 then rn p who args code f r.2 else r)
    else (0, s)

/-- P6.1: whether it may be run. -/
noncomputable def mayP (p : PPrg) (who : Int) (l : PLoc) (h : Int) (args : List Int) : Prop :=
  fc p = 0 ∧ (0 ≤ who ∧ who < p.acs.length) ∧ (0 ≤ h ∧ h < p.hs.length) ∧ (args.length : Int) = argsOf p.hs h ∧ l.regs.length ≤ 8 ∧ l.down = 0
/-- The state ahead of the first instruction. -/
def ms0 (l : PLoc) : MS := ⟨l.regs, l.armed, [], [], 0, 0⟩
/-- P6.2. -/
def fin (l : PLoc) (r : Int × MS) : PRes :=
  if r.1 = 0 then ⟨⟨r.2.regs, r.2.armed, l.down, wrap64 (l.sent + r.2.notes.length), l.over⟩, r.2.notes, r.2.steps⟩ else ⟨{ l with down := r.1 }, [], r.2.steps⟩
def rnR (p : PPrg) (who : Int) (l : PLoc) (h : Int) (args : List Int) : Int × MS := rn p who args (fcode p h) p.fuel.toNat (ms0 l)
open Classical in
noncomputable def runP (p : PPrg) (who : Int) (l : PLoc) (h : Int) (args : List Int) : PRes :=
  if mayP p who l h args then fin l (rnR p who l h args) else ⟨⟨[], false, 0, 0, 0⟩, [], 0⟩

/-- What is known of an instruction that is reached, of a checked handler. -/
structure OkS (p : PPrg) (args : List Int) (code : List PIns) (s : MS) (i : PIns) : Prop where
  ok : okI p.hs i s.st.length
  vl : vl i.op = true
  reg : i.op = 5 ∨ i.op = 6 → 0 ≤ i.a ∧ i.a ≤ 7
  arg : i.op = 7 → 0 ≤ i.a ∧ i.a < args.length
  tgt : i.op = 20 ∨ i.op = 21 → 0 ≤ i.a ∧ i.a ≤ code.length
  snd : i.op = 22 → (0 ≤ i.a ∧ i.a < p.hs.length) ∧ 0 ≤ argsOf p.hs i.a ∧ argsOf p.hs i.a ≤ 4
end Go.Proofs.YtpcffhhednplaaaDoor
