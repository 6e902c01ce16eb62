/- Texts of mine in one: Read. -/
import Derived.Test.YtelbjnanpmdnnaaQ03
namespace Go.Proofs.Ytelbjnanpmdnnaa
section
open Go.RowKit
def goesOn (zs : List Int) (i : Nat) (l h : Int) : Prop := i < zs.length ∧ l ≤ zs[i]?.getD 0 ∧ zs[i]?.getD 0 ≤ h
instance (zs : List Int) (i : Nat) (l h : Int) : Decidable (goesOn zs i l h) := by unfold goesOn; exact inferInstance
def readF (zs : List Int) : Int × Nat × Bool :=
  let z := zs[0]?.getD 0
  if z < 128 then (z, 1, true)
  else if 194 ≤ z ∧ z ≤ 244 then
    if ¬ goesOn zs 1 (loOf z) (hiOf z) then (0, 1, false)
    else
      let c1 := charNext (charBegin z) (zs[1]?.getD 0)
      if z ≤ 223 then (c1, 2, true)
      else if ¬ goesOn zs 2 128 191 then (0, 2, false)
      else
        let c2 := charNext c1 (zs[2]?.getD 0)
        if z ≤ 239 then (c2, 3, true)
        else if ¬ goesOn zs 3 128 191 then (0, 3, false)
        else (charNext c2 (zs[3]?.getD 0), 4, true)
  else (0, 1, false)
end
end Go.Proofs.Ytelbjnanpmdnnaa
