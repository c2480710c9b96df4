/-
  Programs as plain data, and the document's answers on them as plain functions. No conditions.
-/
namespace Go.Proofs.YtgdloonpemaijaaDoor

structure PIns where
  op : Int
  a : Int
  deriving DecidableEq, Inhabited
structure PHnd where
  args : Int
  code : List PIns
  deriving DecidableEq, Inhabited
structure PAct where
  regs : List Int
  cap : Int
  timer : Int
  armed : Bool
  deriving DecidableEq, Inhabited
structure PNte where
  to : Int
  hd : Int
  args : List Int
  deriving DecidableEq, Inhabited
structure PPrg where
  hs : List PHnd
  acs : List PAct
  bs : List PNte
  fuel : Int
  deriving DecidableEq, Inhabited

/-- Are two things one? (A name of its own, that does not unfold by itself.) -/
def eqB {α : Type} [DecidableEq α] (a b : α) : Bool := decide (a = b)
theorem eqB_yes {α : Type} [DecidableEq α] {a b : α} (h : a = b) : eqB a b = true := decide_eq_true h
theorem eqB_no {α : Type} [DecidableEq α] {a b : α} (h : a ≠ b) : eqB a b = false := decide_eq_false h
theorem eqB_self {α : Type} [DecidableEq α] (a : α) : eqB a a = true := eqB_yes rfl

/-- The first of the answers that is not 0; else 0. -/
def scan {α : Type} (f : α → Int) : List α → Int
  | [] => 0
  | x :: r => if f x = 0 then scan f r else f x

/-- Are the lists one, from place k on, if those ahead are one? -/
theorem drop_cons {α : Type} {l : List α} {k : Nat} {x : α} (h : l[k]? = some x) : l.drop k = x :: l.drop (k + 1) := by
  obtain ⟨hk, rfl⟩ := List.getElem?_eq_some_iff.1 h
  exact List.drop_eq_getElem_cons hk

theorem at_lt {α : Type} {l : List α} {k : Nat} (h : k < l.length) : ∃ x, l[k]? = some x := ⟨l[k], List.getElem?_eq_getElem h⟩

theorem take_eq {α : Type} {a b : List α} {k : Nat} {x y : α} (h : a.take k = b.take k) (hx : a[k]? = some x) (hy : b[k]? = some y) (e : x = y) : a.take (k + 1) = b.take (k + 1) := by
  rw [List.take_add_one, List.take_add_one, h, hx, hy, e]
theorem take_ne {α : Type} {a b : List α} {k : Nat} {x y : α} (hx : a[k]? = some x) (hy : b[k]? = some y) (e : x ≠ y) : a ≠ b := by
  rintro rfl
  exact e (Option.some.inj (hx.symm.trans hy))
theorem take_all {α : Type} {a b : List α} {k : Nat} (hl : a.length = b.length) (hk : ¬ k < a.length) (h : a.take k = b.take k) : a = b := by
  rwa [List.take_of_length_le (by omega), List.take_of_length_le (by omega)] at h
theorem len_ne {α : Type} {a b : List α} (h : a.length ≠ b.length) : a ≠ b := fun e => h (by rw [e])

theorem scan_step {α : Type} {f : α → Int} {l : List α} {k : Nat} {x : α} (h : l[k]? = some x) : scan f (l.drop k) = if f x = 0 then scan f (l.drop (k + 1)) else f x := by rw [drop_cons h]; rfl
theorem scan_end {α : Type} {f : α → Int} {l : List α} {k : Nat} (h : ¬ k < l.length) : scan f (l.drop k) = 0 := by rw [List.drop_eq_nil_of_le (by omega)]; rfl

/-- What the operand of an instruction is (chapter 1): 0 none, 1 number, 2 register, 3 parameter, 4 target, 5 kind. -/
def odL : List Int := [0, 1, 0, 0, 0, 2, 2, 3, 0, 0, 0, 0, 0, 0, 0, 0, 0, 0, 0, 0, 4, 4, 5, 0, 0, 0]
def od (i : Nat) : Int := odL.getD i 0
/-- The row of a number: row 0 of what is no instruction. -/
def at_ (op : Int) : Nat := if 1 ≤ op ∧ op ≤ 25 then op.toNat else 0
def vl (op : Int) : Bool := decide (1 ≤ op ∧ op ≤ 25)
theorem vl_yes {op : Int} (h1 : 1 ≤ op) (h2 : op ≤ 25) : vl op = true := decide_eq_true ⟨h1, h2⟩
theorem vl_no {op : Int} (h : op < 1 ∨ 25 < op) : vl op = false := decide_eq_false (by omega)
theorem vl_iff {op : Int} : vl op = true ↔ 1 ≤ op ∧ op ≤ 25 := by unfold vl; exact decide_eq_true_iff
theorem at_yes {op : Int} (h1 : 1 ≤ op) (h2 : op ≤ 25) : at_ op = op.toNat := by unfold at_; rw [if_pos ⟨h1, h2⟩]
theorem at_no {op : Int} (h : op < 1 ∨ 25 < op) : at_ op = 0 := by unfold at_; rw [if_neg (by omega)]
def opd (op : Int) : Int := od (at_ op)

/-- P3.1, of one of n instructions of a handler of so many args, among so many handlers. -/
def chkI (n args hs : Int) (i : PIns) : Int :=
  if vl i.op = false then 1
  else if opd i.op = 0 then (if i.a = 0 then 0 else 1)
  else if opd i.op = 4 then (if 0 ≤ i.a ∧ i.a ≤ n then 0 else 4)
  else if opd i.op = 2 then (if 0 ≤ i.a ∧ i.a ≤ 7 then 0 else 6)
  else if opd i.op = 3 then (if 0 ≤ i.a ∧ i.a < args then 0 else 6)
  else if opd i.op = 5 then (if 0 ≤ i.a ∧ i.a < hs then 0 else 7)
  else 0
/-- .. of a handler, among so many. -/
def chkH (hs : Int) (h : PHnd) : Int :=
  if 0 ≤ h.args ∧ h.args ≤ 4 then (if h.code.length ≤ 64 then scan (chkI h.code.length h.args hs) h.code else 3) else 1
/-- How many arguments the handler of a number has; -1 where there is none. -/
def argsOf (hs : List PHnd) (k : Int) : Int := if 0 ≤ k then ((hs[k.toNat]?).map (·.args)).getD (-1) else -1
/-- .. of an actor. -/
def chkA (hs : List PHnd) (a : PAct) : Int :=
  if a.regs.length ≤ 8 then
    (if 0 ≤ a.cap ∧ a.cap ≤ 16 then
      (if a.timer = -1 then (if a.armed = true then 1 else 0) else (if (0 ≤ a.timer ∧ a.timer < hs.length) ∧ argsOf hs a.timer = 0 then 0 else 7))
    else 1)
  else 3
/-- .. of a note. -/
def chkN (na : Int) (hs : List PHnd) (n : PNte) : Int :=
  if (0 ≤ n.to ∧ n.to < na) ∧ (0 ≤ n.hd ∧ n.hd < hs.length) then (if (n.args.length : Int) = argsOf hs n.hd then 0 else 1) else 7
/-- .. of the counts. -/
def chkC (p : PPrg) : Int :=
  if p.hs.length ≤ 16 ∧ p.acs.length ≤ 8 ∧ p.bs.length ≤ 16 then (if p.acs.length ≠ 0 ∧ (1 ≤ p.fuel ∧ p.fuel ≤ 256) then 0 else 1) else 3
/-- P3.1. -/
def chk (p : PPrg) : Int :=
  if chkC p = 0 then
    (if scan (chkH p.hs.length) p.hs = 0 then
      (if scan (chkA p.hs) p.acs = 0 then scan (chkN p.acs.length p.hs) p.bs else scan (chkA p.hs) p.acs)
    else scan (chkH p.hs.length) p.hs)
  else chkC p
/-- P3.2: how many instructions. -/
def sizes : List PHnd → Int
  | [] => 0
  | h :: r => h.code.length + sizes r
theorem sizes_snoc (l : List PHnd) (h : PHnd) : sizes (l ++ [h]) = sizes l + h.code.length := by
  induction l with
  | nil => simp [sizes]
  | cons x r ih => simp only [List.cons_append, sizes, ih]; omega
theorem sizes_take {l : List PHnd} {k : Nat} {h : PHnd} (hk : l[k]? = some h) : sizes (l.take (k + 1)) = sizes (l.take k) + h.code.length := by
  rw [List.take_add_one, hk]; exact sizes_snoc _ _
theorem sizes_nonneg (l : List PHnd) : 0 ≤ sizes l := by
  induction l with
  | nil => simp [sizes]
  | cons x r ih => simp only [sizes]; omega
/-- Is a program looked at? -/
def Small (p : PPrg) : Prop := p.hs.length ≤ 18 ∧ p.acs.length ≤ 10 ∧ p.bs.length ≤ 18 ∧ (∀ h ∈ p.hs, h.code.length ≤ 70) ∧ (∀ a ∈ p.acs, a.regs.length ≤ 10) ∧ (∀ n ∈ p.bs, n.args.length ≤ 6)
instance (p : PPrg) : Decidable (Small p) := by unfold Small; infer_instance
def small (p : PPrg) : Bool := decide (Small p)
theorem sizes_le {l : List PHnd} (h : ∀ x ∈ l, x.code.length ≤ 70) : sizes l ≤ 70 * l.length := by
  induction l with
  | nil => simp [sizes]
  | cons x r ih =>
    have h1 := h x (List.mem_cons_self ..)
    have h2 := ih (fun y hy => h y (List.mem_cons_of_mem _ hy))
    simp only [sizes, List.length_cons]
    omega
end Go.Proofs.YtgdloonpemaijaaDoor
