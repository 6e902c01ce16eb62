/- A number's digits of base 16, by the library: walks. -/
import Derived.Test.YtdopmkiogmejaaaDoorBld
namespace Go.Proofs.YtdopmkiogmejaaaDoor
open Go.RowKit

/-- A digit of base 16. -/
def hexD (d : Int) : Int := if d < 10 then 48 + d else 87 + d

/-- A number's digits of base 16, where it has one, two or four of them. -/
def hexF (u : Int) : List Int := if u < 16 then [hexD u] else if u < 256 then [hexD (u / 16), hexD (u % 16)] else [hexD (u / 4096), hexD (u / 256 % 16), hexD (u / 16 % 16), hexD (u % 16)]
/-- Numbers that have so many digits. -/
def Hexes (u : Int) : Prop := 0 ≤ u ∧ (u < 256 ∨ (4096 ≤ u ∧ u < 65536))

end Go.Proofs.YtdopmkiogmejaaaDoor
