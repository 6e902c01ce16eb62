/- Texts of mine in one: Begin. -/
import Derived.Test.YtelbjnanpmdnnaaQ02
namespace Go.Proofs.Ytelbjnanpmdnnaa
section
open Go.RowKit
def charBegin (z : Int) : Int := if 240 ≤ z then bits .and .i32 z 7 else if 224 ≤ z then bits .and .i32 z 15 else if 128 ≤ z then bits .and .i32 z 31 else z
def loOf (z : Int) : Int := if z = 224 then 160 else if z = 240 then 144 else 128
def hiOf (z : Int) : Int := if z = 237 then 159 else if z = 244 then 143 else 191
end
end Go.Proofs.Ytelbjnanpmdnnaa
