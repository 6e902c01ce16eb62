/- Texts of mine in one: More. -/
import Derived.Test.YtelbjnanpmdnnaaQ01
namespace Go.Proofs.Ytelbjnanpmdnnaa
section
open Go.RowKit
def charNext (c z : Int) : Int := bits .or .i32 (wrap32 (c * 64)) (wrap32 (bits .and .u8 z 63))
end
end Go.Proofs.Ytelbjnanpmdnnaa
