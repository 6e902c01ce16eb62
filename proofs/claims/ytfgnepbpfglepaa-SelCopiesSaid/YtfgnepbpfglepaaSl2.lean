/- How many simple selectors there are: the walk. -/
import Derived.Test.YtfgnepbpfglepaaSl1
namespace Go.Proofs.Ytfgnepbpfglepaa
open Go.RowKit Go.Shelf

attribute [local go_sem] Oper.semAt_some

def sizeS {d : Nat} (f : Lx d → Int) (t : Int) (s : Flat × Lx d) : Int := IntKind.i64.wrap (t + IntKind.i64.wrap (1 + f s.2))
def sizeF : (d : Nat) → Lx d → Int
  | 0, _ => 0
  | d + 1, x => (simplesL x).foldl (sizeS (sizeF d)) 0

/-- The cells of a simple selector. -/
def scells (f : Flat) (a : Option Addr) (n c : Nat) : Array Value :=
  #[.int .i64 f.kind, .int .i64 f.ns, .string f.pre, .string f.name, .int .i64 f.op, .string f.text, .bool f.fold, .int .i64 f.mark, .int .i64 f.a, .int .i64 f.b, .slice a n c]
theorem Keeps.of_below {n0 : Nat} {A B : World} (h : Below n0 A B) : Keeps (· < n0) A B := ⟨h.size, fun b hb => h.block b hb⟩
theorem RdL.kept {n0 : Nat} {A B : World} (h : Below n0 A B) (hn : n0 ≤ B.heap.size) {d : Nat} {a : Option Addr} {n c : Nat} {x : Lx d} (hx : RdL (· < n0) d A a n c x) : RdL (· < B.heap.size) d B a n c x :=
  RdL.move (fun b hb => ⟨Nat.lt_of_lt_of_le hb hn, h.block b hb⟩) hx

end Go.Proofs.Ytfgnepbpfglepaa
