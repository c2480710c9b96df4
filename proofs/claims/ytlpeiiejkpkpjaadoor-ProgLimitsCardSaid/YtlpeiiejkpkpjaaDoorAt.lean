/-
  The contracts again, with what is kept of an earlier world. No further conditions.
-/
import Derived.Test.YtlpeiiejkpkpjaaDoorAwake
namespace Go.Proofs.YtlpeiiejkpkpjaaDoor
open Go.RowKit
section
variable {w0 W : World} {v v' : Value} {p q : PPrg}
theorem check_at (ht : Tab w0) (hb : Below w0.heap.size w0 W) (hp : PrgV W v p) : Calls Tryd.prog 11 #[v] W fun e w' => e = .returned (.int .i64 (chk p)) ∧ Below w0.heap.size w0 w' :=
  (check_any W v p (ht.below hb) hp).mono fun _ _ ⟨h1, h2⟩ => ⟨h1, bTrans hb h2⟩
theorem one_at (hb : Below w0.heap.size w0 W) : Calls Tryd.prog 17 #[] W fun e w' => ∃ v, e = .returned v ∧ PrgV w' v oneP ∧ Below w0.heap.size w0 w' :=
  (one_any W).mono fun _ _ ⟨v, h1, h2, h3⟩ => ⟨v, h1, h2, bTrans hb h3⟩
theorem awake_at (ht : Tab w0) (hb : Below w0.heap.size w0 W) : Calls Tryd.prog 10 #[] W fun e w' => e = .returned (.bool true) ∧ Below w0.heap.size w0 w' :=
  (awake_any W (ht.below hb)).mono fun _ _ ⟨h1, h2⟩ => ⟨h1, bTrans hb h2⟩
theorem same_at (hb : Below w0.heap.size w0 W) (hp : PrgV W v p) (hq : PrgV W v' q) : Calls Tryd.prog 13 #[v, v'] W fun e w' => e = .returned (.bool (eqB p q)) ∧ Below w0.heap.size w0 w' :=
  (same_any W v v' p q hp hq).mono fun _ _ ⟨h1, h2⟩ => ⟨h1, bTrans hb h2⟩
end
end Go.Proofs.YtlpeiiejkpkpjaaDoor
