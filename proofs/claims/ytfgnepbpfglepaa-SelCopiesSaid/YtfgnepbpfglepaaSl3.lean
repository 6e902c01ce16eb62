/- How deep a list of selectors is: the walk. -/
import Derived.Test.YtfgnepbpfglepaaSl2
namespace Go.Proofs.Ytfgnepbpfglepaa
open Go.RowKit Go.Shelf

attribute [local go_sem] Oper.semAt_some

def lenL : (d : Nat) → Lx d → Nat
  | 0, _ => 0
  | _ + 1, x => List.length x
theorem RdL.len {ok : Nat → Prop} {w : World} {a : Option Addr} {n c : Nat} : ∀ {d : Nat} {x : Lx d}, RdL ok d w a n c x → n = lenL d x ∧ n ≤ 9223372036854775807
  | 0, _, h => ⟨h.1, by rw [h.1]; omega⟩
  | d + 1, x, h => ⟨h.1, by have h1 := h.2.1; have h2 := h.2.2.1; unfold maxLen at h2; omega⟩
def deepS {d : Nat} (f : Lx d → Int) (t : Int) (s : Flat × Lx d) : Int := if 0 < lenL d s.2 then max t (f s.2) else t
def deepF : (d : Nat) → Lx d → Int
  | 0, _ => 1
  | d + 1, x => wrap64 (1 + (simplesL x).foldl (deepS (deepF d)) 0)

end Go.Proofs.Ytfgnepbpfglepaa
