/- A node is right behind some: the document's side, any node; whether a place is an element's: walks. -/
import Derived.Test.YtfgnepbpfglepaaDq2Z
import Derived.Test.YtfgnepbpfglepaaDq3Z
import Derived.Test.YtfgnepbpfglepaaFE
namespace Go.Proofs.Ytfgnepbpfglepaa
open Go.RowKit
set_option linter.unusedVariables false
set_option linter.unusedSimpArgs false

theorem nodeOK : NodeOK := by
  intro x ats m d sts m' d' xs a n c w hx hA hS hz0 hz1 hz2
  cases hp : parB x.par xs with
  | false =>
    have := rnode_par x ats m d sts m' d' xs a n c w hx hp
    unfold nodeB
    rw [hp]
    exact this
  | true =>
    unfold nodeB
    rw [hp, Bool.true_and]
    by_cases h1 : x.kind = 1
    · rw [if_pos h1]; exact rnode_el x ats m d sts m' d' xs a n c w hx hA hS hz0 hz1 hp h1
    rw [if_neg h1]
    by_cases h2 : x.kind = 2
    · rw [if_pos h2]; exact rnode_tx x ats m d sts m' d' xs a n c w hx hA.1 hS.1 hz2 hp h2
    rw [if_neg h2]
    by_cases h3 : x.kind = 3
    · rw [if_pos h3]; exact rnode_cm x ats m d sts m' d' xs a n c w hx hA.1 hS.1 hz2 hp h3
    rw [if_neg h3]
    exact rnode_no x ats m d sts m' d' xs a n c w hx hp h1 h2 h3
theorem rcheck_any (xs : List Nd) (a : Option Addr) (n c : Nat) (w : World) (hx : RdN (· < w.heap.size) w a n c xs) : Calls Try.prog 12 #[.slice a n c] w (CkP xs n w) := rcheck_of nodeOK xs a n c w hx
end Go.Proofs.Ytfgnepbpfglepaa
