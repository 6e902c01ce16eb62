/- What Same of the statements' lists does: walks. -/
import Derived.Test.YtdopmkiogmejaaaDoorKit
namespace Go.Proofs.YtdopmkiogmejaaaDoor
open Go.RowKit

def BoolPost (r : Bool) (w : World) (e : Ending) (w' : World) : Prop := e = .returned (.bool r) ∧ Below w.heap.size w w'
end Go.Proofs.YtdopmkiogmejaaaDoor
