/- ValueFold: the law. -/
import Derived.Test.YtlbmpggkllkiaaaDoorVm1
import Derived.Test.YtlbmpggkllkiaaaDoorVm2
import Derived.Test.YtlbmpggkllkiaaaDoorVm3
namespace Go.Proofs.YtlbmpggkllkiaaaDoor
open Go.RowKit
theorem lawFold_any (op : Int) (fold : Bool) (t s : ByteArray) (w : World) (hL : LibW w) :
    Calls Tryd.prog 10 #[.agg #[.int .i64 op, .string t, .bool fold], .string s] w (Told (.bool true) w) := by
  by_cases h1 : (1000 : Int) < (t.size : Int)
  · exact fold_e1 op fold t s w hL h1
  by_cases h2 : (1000 : Int) < (s.size : Int)
  · exact fold_e2 op fold t s w hL h1 h2
  cases hr : holdsF op (strB t) false (strB s)
  · cases hh : holdsF op (strB t) true (strB s)
    · exact fold_main1 op fold t s w hL h1 h2 hr hh
    · exact fold_main2 op fold t s w hL h1 h2 hr hh
  · exact fold_main3 op fold t s w hL h1 h2 hr (fold_more op _ _ hr)
end Go.Proofs.YtlbmpggkllkiaaaDoor
