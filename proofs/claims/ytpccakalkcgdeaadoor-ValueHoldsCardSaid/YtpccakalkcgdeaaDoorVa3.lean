/- ValueHolds: the law. -/
import Derived.Test.YtpccakalkcgdeaaDoorVa2
import Derived.Test.YtpccakalkcgdeaaDoorVl
import Derived.Test.YtpccakalkcgdeaaDoorVt
namespace Go.Proofs.YtpccakalkcgdeaaDoor
open Go.RowKit Go.Deep

theorem lawHolds_any (a : Option Addr) (n cap : Nat) (xs : List (Int × ByteArray × Bool)) (hn : xs.length = n) (hm : n ≤ 9223372036854775807) (v : ByteArray) (w : World) (hr : RdC w a xs) (hL : LibW w) :
    Calls Tryd.prog 7 #[.slice a n cap, .string v] w (Told (.bool true) w) :=
  lawHolds_of LibW (fun op t fold => holdsF op (strB t) fold (strB v)) v (fun _ _ h hb => h.later hb) (fun w h => speaks6_any w h)
    (fun hv op t fold w ht h => holds_any op fold t v w (by omega) (by omega) h)
    (fun hv op t fold w ht => rholds_any op fold t v w (by omega) (by omega))
    a n cap xs hn hm w hr hL
end Go.Proofs.YtpccakalkcgdeaaDoor
