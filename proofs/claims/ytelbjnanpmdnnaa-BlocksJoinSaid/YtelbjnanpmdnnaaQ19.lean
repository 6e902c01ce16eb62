/- Texts of mine in one: Bb1. -/
import Derived.Test.YtelbjnanpmdnnaaQ18
namespace Go.Proofs.Ytelbjnanpmdnnaa
section
open Go.RowKit
set_option linter.unusedVariables false
set_option linter.unusedSimpArgs false
theorem isK_no {a k : Int} (h : k ≠ a) : isK a k = false := decide_eq_false h
theorem isK_yes {a k : Int} (h : k = a) : isK a k = true := decide_eq_true h
end
end Go.Proofs.Ytelbjnanpmdnnaa
