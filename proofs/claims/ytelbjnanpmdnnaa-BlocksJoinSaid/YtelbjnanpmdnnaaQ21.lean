/- Texts of mine in one: Bb3. -/
import Derived.Deep.DeepCutAuto
import Derived.Test.YtelbjnanpmdnnaaQ20
namespace Go.Proofs.Ytelbjnanpmdnnaa
section
open Go.RowKit
set_option linter.unusedVariables false
set_option linter.unusedSimpArgs false
theorem rl_cells (x : Rl) : ∀ u ∈ rlCells x, u.oneCell' = true := by
  intro u hu
  unfold rlCells at hu
  simp only [List.mem_cons, List.not_mem_nil, or_false] at hu
  rcases hu with rfl | rfl | rfl | rfl | rfl | rfl | rfl <;> rfl
theorem set7g (w : World) (p : Nat) (v0 v1 v2 v3 v4 v5 v6 : Value) : w.grownBy (((((((w.setCell ⟨p, 0, none⟩ v0).setCell ⟨p, 1, none⟩ v1).setCell ⟨p, 2, none⟩ v2).setCell ⟨p, 3, none⟩ v3).setCell ⟨p, 4, none⟩ v4).setCell ⟨p, 5, none⟩ v5).setCell ⟨p, 6, none⟩ v6) (some p) :=
  grown_trans (grown_trans (grown_trans (grown_trans (grown_trans (grown_trans (grown_setCell w p 0 v0) (grown_setCell _ p 1 v1)) (grown_setCell _ p 2 v2)) (grown_setCell _ p 3 v3)) (grown_setCell _ p 4 v4)) (grown_setCell _ p 5 v5)) (grown_setCell _ p 6 v6)
def RlsPost (xs : List Rl) (w : World) (e : Ending) (w' : World) : Prop := ∃ v, e = .returned v ∧ w'.ownsRow w.heap.size 32 7 v xs.length (xs.flatMap rlCells) ∧ Below w.heap.size w w'
end
end Go.Proofs.Ytelbjnanpmdnnaa
