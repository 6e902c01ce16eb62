/- Texts of mine in one: Bb4. -/
import Derived.Test.YtelbjnanpmdnnaaQ21
namespace Go.Proofs.Ytelbjnanpmdnnaa
section
open Go.RowKit
set_option linter.unusedVariables false
set_option linter.unusedSimpArgs false
theorem trimF_empty (ts : List Tk) (E j : Nat) (h : E ≤ j) : trimF ts E j = (j, j) := by
  unfold trimF
  have : overF ts (isK 13) E j = j := by rw [overF_step, if_neg (by omega)]
  rw [this, if_neg (by omega)]
def NoEnd (ts : List Tk) (j E : Nat) : Prop := ∀ i m, j ≤ i → i ≤ m → m ≤ E → endF ts m i = m
theorem noEnd_of (ts : List Tk) (e a j m : Nat) (h : a ≤ j) (hm : m ≤ endF ts e a) : NoEnd ts j m := fun i q h1 h2 h3 => endF_sub ts e a i q (by omega) h2 (by omega)
theorem trimF_end {ts : List Tk} {j E a b : Nat} (h : NoEnd ts j E) (hja : j ≤ a) (hab : a ≤ b) (hb : b ≤ E) : trimF ts (endF ts (b - 1) a) a = trimF ts (b - 1) a := by
  rcases Nat.lt_or_ge a b with h1 | h1
  · rw [h a (b - 1) hja (by omega) (by omega)]
  · have h2 : endF ts (b - 1) a = a := by rw [endF_step, if_neg (by omega)]
    rw [h2, trimF_empty _ _ _ (Nat.le_refl _), trimF_empty _ _ _ (by omega)]
def DlPost (x : Dl) (ok : Bool) (w : World) (e : Ending) (w' : World) : Prop := e = .returned (.tuple #[.agg (dlCells x).toArray, .bool ok]) ∧ Below w.heap.size w w'
end
end Go.Proofs.Ytelbjnanpmdnnaa
