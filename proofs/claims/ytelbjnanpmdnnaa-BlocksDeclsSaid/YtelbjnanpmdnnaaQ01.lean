/- Texts of mine in one: As. -/
import Derived.Test.YtelbjnanpmdnnaaRows
import Derived.WalkKit
import Derived.LaidEql
import Derived.Stop.Asserts
import Derived.RowKitTokens
namespace Go.Proofs.Ytelbjnanpmdnnaa
end Go.Proofs.Ytelbjnanpmdnnaa
