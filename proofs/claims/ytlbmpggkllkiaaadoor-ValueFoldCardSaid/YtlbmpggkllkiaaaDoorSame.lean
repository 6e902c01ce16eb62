/- What Same of the statements' lists does: walks. -/
import Derived.Test.YtlbmpggkllkiaaaDoorKit
namespace Go.Proofs.YtlbmpggkllkiaaaDoor
open Go.RowKit

def BoolPost (r : Bool) (w : World) (e : Ending) (w' : World) : Prop := e = .returned (.bool r) ∧ Below w.heap.size w w'
end Go.Proofs.YtlbmpggkllkiaaaDoor
