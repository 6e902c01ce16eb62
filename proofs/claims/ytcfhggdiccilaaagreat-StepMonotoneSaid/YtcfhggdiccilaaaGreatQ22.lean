/- Texts of mine in one: RHex R3. -/
import Derived.Test.YtcfhggdiccilaaaGreatQ08
namespace Go.Proofs.YtcfhggdiccilaaaGreat
end Go.Proofs.YtcfhggdiccilaaaGreat
