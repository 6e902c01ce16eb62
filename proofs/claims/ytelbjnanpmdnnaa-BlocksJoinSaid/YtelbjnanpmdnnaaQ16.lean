/- Texts of mine in one: Tn3 Tn4 Rep Tn5 Tn6 Tn7. -/
import Derived.Test.YtelbjnanpmdnnaaQ15
import Derived.Lib.Replace
import Derived.Lib.IndexBytes
import Derived.Lib.CountLaws
import Derived.Test.YtelbjnanpmdnnaaShelf
import Derived.Test.YtelbjnanpmdnnaaQ12
import Derived.Test.YtelbjnanpmdnnaaQ09
namespace Go.Proofs.Ytelbjnanpmdnnaa
section
open Go.RowKit Go.Shelf
set_option linter.unusedVariables false
section
variable {a : Option Addr} {n cap : Nat} {l : List Int} {w : World} (i : Int) (k : Nat)
end
theorem skipGo_ge (l : List Int) : ∀ (f j : Nat), j ≤ l.length → min (j + 2) l.length ≤ skipGo f l j ∧ skipGo f l j ≤ l.length
  | 0, j, _ => ⟨Nat.le_refl _, Nat.min_le_right _ _⟩
  | f + 1, j, hj => by
    rw [skipGo]
    by_cases h1 : l.length ≤ j
    · rw [if_pos h1]; exact ⟨Nat.le_refl _, Nat.min_le_right _ _⟩
    · rw [if_neg h1]
      by_cases h2 : (isB l j 42 && isB l (j + 1) 47) = true
      · rw [if_pos h2]; exact ⟨Nat.le_refl _, Nat.min_le_right _ _⟩
      · rw [if_neg h2]
        have := skipGo_ge l f (j + 1) (by omega)
        exact ⟨by omega, this.2⟩
theorem openB_lt {l : List Int} {j : Nat} (h : openB l j = true) : j + 2 ≤ l.length := by
  unfold openB at h
  rw [Bool.and_eq_true] at h
  exact lt_of_isB h.2 (by decide)
theorem behindF_stop {l : List Int} {j : Nat} (h : openB l j = false) : behindF l j = j := behindGo_stop _ h
end

section
open Go.RowKit Go.Shelf
set_option linter.unusedVariables false
set_option linter.unusedSimpArgs false
def u8 (z : Int) : UInt8 := UInt8.ofNat z.toNat
end

section
open Go.RowKit Go.Shelf
set_option linter.unusedVariables false
set_option linter.unusedSimpArgs false
theorem Reads.part {w : World} {a : Option Addr} {n cap : Nat} {l : List Int} (h : Reads w .i64 a cap l) (hn : l.length = n) (i j : Nat) (hij : i < j) (hj : j ≤ n) :
    ∃ b off, a = some ⟨b, off, none⟩ ∧ Reads w .i64 (some ⟨b, off + i, none⟩) (cap - i) (sliceF l i j) ∧ (sliceF l i j).length = j - i := by
  obtain ⟨h1, h2, h3⟩ := h
  have hl : (sliceF l i j).length = j - i := by unfold sliceF; rw [List.length_take, List.length_drop, hn]; omega
  rcases h3 with h3 | ⟨b, off, rfl, hat⟩
  · rw [h3] at hn; simp at hn; omega
  · exact ⟨b, off, rfl, ⟨by rw [hl]; omega, by omega, .inr ⟨_, _, rfl, (hat.drop i).take (j - i)⟩⟩, hl⟩
end
end Go.Proofs.Ytelbjnanpmdnnaa
