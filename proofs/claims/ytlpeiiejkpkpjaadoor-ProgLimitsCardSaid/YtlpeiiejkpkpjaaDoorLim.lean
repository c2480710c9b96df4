/-
  The program of one, with n more of one thing: what Check's plain function answers of it. No conditions but that n is at most 70.
-/
import Derived.Test.YtlpeiiejkpkpjaaDoorPlain
namespace Go.Proofs.YtlpeiiejkpkpjaaDoor

def lim0 (n : Nat) : PPrg := ⟨⟨1, [⟨7, 0⟩, ⟨6, 0⟩]⟩ :: List.replicate n ⟨0, []⟩, [⟨[3], 2, -1, false⟩], [⟨0, 0, [5]⟩], 10⟩
def lim1 (n : Nat) : PPrg := ⟨[⟨1, [⟨7, 0⟩, ⟨6, 0⟩]⟩], ⟨[3], 2, -1, false⟩ :: List.replicate n ⟨[], 0, -1, false⟩, [⟨0, 0, [5]⟩], 10⟩
def lim2 (n : Nat) : PPrg := ⟨[⟨1, [⟨7, 0⟩, ⟨6, 0⟩]⟩], [⟨[3], 2, -1, false⟩], ⟨0, 0, [5]⟩ :: (List.range n).map fun (i : Nat) => ⟨0, 0, [Int.ofNat i]⟩, 10⟩
def lim3 (n : Nat) : PPrg := ⟨[⟨1, ⟨7, 0⟩ :: ⟨6, 0⟩ :: List.replicate n ⟨25, 0⟩⟩], [⟨[3], 2, -1, false⟩], [⟨0, 0, [5]⟩], 10⟩
def lim4 (n : Nat) : PPrg := ⟨[⟨1, [⟨7, 0⟩, ⟨6, 0⟩]⟩], [⟨3 :: (List.range n).map fun (i : Nat) => Int.ofNat i, 2, -1, false⟩], [⟨0, 0, [5]⟩], 10⟩

set_option maxRecDepth 100000 in
theorem lim0_chk : ∀ n : Nat, n < 71 → chk (lim0 n) = if n ≤ 15 then 0 else 3 := by decide +kernel
set_option maxRecDepth 100000 in
theorem lim1_chk : ∀ n : Nat, n < 71 → chk (lim1 n) = if n ≤ 7 then 0 else 3 := by decide +kernel
set_option maxRecDepth 100000 in
theorem lim2_chk : ∀ n : Nat, n < 71 → chk (lim2 n) = if n ≤ 15 then 0 else 3 := by decide +kernel
set_option maxRecDepth 100000 in
theorem lim3_chk : ∀ n : Nat, n < 71 → chk (lim3 n) = if n ≤ 62 then 0 else 3 := by decide +kernel
set_option maxRecDepth 100000 in
theorem lim4_chk : ∀ n : Nat, n < 71 → chk (lim4 n) = if n ≤ 7 then 0 else 3 := by decide +kernel
end Go.Proofs.YtlpeiiejkpkpjaaDoor
