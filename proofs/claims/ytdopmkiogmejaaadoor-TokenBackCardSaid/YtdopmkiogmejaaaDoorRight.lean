/- What decode's Right does, by what read does: walks. -/
import Derived.Test.YtdopmkiogmejaaaDoorChars
import Derived.Test.YtdopmkiogmejaaaDoorSame
namespace Go.Proofs.YtdopmkiogmejaaaDoor
open Go.RowKit

/-- Are the bytes from a place on right ones? With fuel. -/
def rightN : Nat → List Int → Nat → Bool
  | 0, _, _ => true
  | f + 1, zs, k => if zs.length ≤ k then true else
      if (readF (zs.drop k)).2.2 = true ∧ (readF (zs.drop k)).1 ≠ 0 then rightN f zs (k + sizeF (zs.drop k)) else false
def rightFrom (zs : List Int) (k : Nat) : Bool := rightN (zs.length - k) zs k
def rightF (zs : List Int) : Bool := rightFrom zs 0

theorem rightN_enough (zs : List Int) : ∀ (f k : Nat), zs.length - k ≤ f → rightN f zs k = rightN (zs.length - k) zs k
  | 0, k, h => by rw [show zs.length - k = 0 by omega]
  | f + 1, k, h => by
    by_cases hl : zs.length ≤ k
    · rw [show zs.length - k = 0 by omega]; simp only [rightN]; rw [if_pos hl]
    · have hs := readF_size (zs.drop k) (by simp; omega)
      obtain ⟨m, hm⟩ : ∃ m, zs.length - k = m + 1 := ⟨zs.length - k - 1, by omega⟩
      have hs' : 1 ≤ sizeF (zs.drop k) := hs.1
      rw [hm, rightN, rightN, if_neg hl, if_neg hl, rightN_enough zs f _ (by omega), rightN_enough zs m _ (by omega)]
theorem rightFrom_end (zs : List Int) (k : Nat) (h : zs.length ≤ k) : rightFrom zs k = true := by
  unfold rightFrom; rw [show zs.length - k = 0 by omega, rightN]
theorem rightFrom_step (zs : List Int) (k : Nat) (h : k < zs.length) :
    rightFrom zs k = if (readF (zs.drop k)).2.2 = true ∧ (readF (zs.drop k)).1 ≠ 0 then rightFrom zs (k + sizeF (zs.drop k)) else false := by
  have hs : 1 ≤ sizeF (zs.drop k) := (readF_size (zs.drop k) (by simp; omega)).1
  unfold rightFrom
  obtain ⟨m, hm⟩ : ∃ m, zs.length - k = m + 1 := ⟨zs.length - k - 1, by omega⟩
  rw [hm, rightN, if_neg (by omega), rightN_enough zs m _ (by omega)]

end Go.Proofs.YtdopmkiogmejaaaDoor
