/- The characters of a text, and what a builder's text is: walks. -/
import Derived.Test.YtdopmkiogmejaaaDoorEsc
import Derived.Test.YtdopmkiogmejaaaDoorRaw
namespace Go.Proofs.YtdopmkiogmejaaaDoor
open Go.RowKit
end Go.Proofs.YtdopmkiogmejaaaDoor
