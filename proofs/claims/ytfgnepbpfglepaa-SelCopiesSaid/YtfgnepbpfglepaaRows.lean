/-
  NARROWER THAN 'FOR EVERY INPUT', by the rows' own cells (each row's printed sentence says how): SelCopies: loops.
  DERIVED. THE GIVEN ROWS OF THIS SEAT. 4 by the template 'for every input the law returns true; each argument reads behind the call as it read before'; 0 by the template 'total and deterministic' (their statements: YtfgnepbpfglepaaTotals.lean).
  GIVEN WITH THE SEED: the statements are not yours to turn. If you find one false, say at which input.
  Laid BY PROGRAM, IN A SANDBOX (cutbox-rows.mjs): the forced cells as the released guide's own fill.sh prints them over the translation 0468e556b8ac2b3d… (all of the seat's roots in one cut). By AI agents, Wed Nov 11 2026. No macro, syntax, notation, axiom, sorry.
-/
import Derived.Test.YtfgnepbpfglepaaChecked
import GoSem.Claim
import GoSem.ClaimJoined
import GoSem.ClaimMapViews
import Derived.JoinedTies
import Derived.KernelRfl
namespace Go.Proofs.Ytfgnepbpfglepaa
/- THE CELL 'sum', in the pinned program and in every row, IS THE sha256 OF THE DUMP (.gsa) THAT YtfgnepbpfglepaaProg.lean LOADS. Nothing in Lean hashes anything: it is a label: what it is worth is what the hold of that sum in a sandbox is worth. -/
noncomputable def Try.pinned : Pinned := { name := "ytfgnepbpfglepaa", sum := "0468e556b8ac2b3d96d0ae95e48b1e429b90d4d1934bc925a4e4f90a269607c1", checked := Try.checked }
namespace Rows
def none {H : Type} : Left H := { results := [], args := [] }

/-- 'wattlelaw11.DomSame': WHATEVER THE INPUT: true; the input reads as it did. -/
def domSameSpec : ChangeSpec := { name := "domSame", fn := fun _ => fun
  | [d1, d2] => { results := [.lit (.bool true)], args := [d1, d2] }
  | _ => none }
def domSameRow : OpenClaim := { program := "ytfgnepbpfglepaa", sum := "0468e556b8ac2b3d96d0ae95e48b1e429b90d4d1934bc925a4e4f90a269607c1", func := "wattle/wattlelaw11.DomSame", spec := "domSame", unfollowed := true, recurses := true, plainKeys := false, apart := false }
def DomSameSaid : Prop := domSameRow.holds Try.pinned (OpenSpec.ofChange domSameSpec)

/-- ITS FALSE NEIGHBOUR: 'it returns false'. Refute it at one input. -/
def domSameWrong : ChangeSpec := { name := "domSame", fn := fun _ => fun
  | [d1, d2] => { results := [.lit (.bool false)], args := [d1, d2] }
  | _ => none }
def DomSameWrongFalsely : Prop := domSameRow.holds Try.pinned (OpenSpec.ofChange domSameWrong)

/-- 'wattlelaw11.DomTells': WHATEVER THE INPUT: true; the input reads as it did. -/
def domTellsSpec : ChangeSpec := { name := "domTells", fn := fun _ => fun
  | [d1, d2, d3, d4] => { results := [.lit (.bool true)], args := [d1, d2, d3, d4] }
  | _ => none }
def domTellsRow : OpenClaim := { program := "ytfgnepbpfglepaa", sum := "0468e556b8ac2b3d96d0ae95e48b1e429b90d4d1934bc925a4e4f90a269607c1", func := "wattle/wattlelaw11.DomTells", spec := "domTells", unfollowed := true, recurses := true, plainKeys := false, apart := false }
def DomTellsSaid : Prop := domTellsRow.holds Try.pinned (OpenSpec.ofChange domTellsSpec)

/-- ITS FALSE NEIGHBOUR: 'it returns false'. Refute it at one input. -/
def domTellsWrong : ChangeSpec := { name := "domTells", fn := fun _ => fun
  | [d1, d2, d3, d4] => { results := [.lit (.bool false)], args := [d1, d2, d3, d4] }
  | _ => none }
def DomTellsWrongFalsely : Prop := domTellsRow.holds Try.pinned (OpenSpec.ofChange domTellsWrong)

/-- 'wattlelaw11.DomGrows': WHATEVER THE INPUT: true; the input reads as it did. -/
def domGrowsSpec : ChangeSpec := { name := "domGrows", fn := fun _ => fun
  | [d1, d2, d3] => { results := [.lit (.bool true)], args := [d1, d2, d3] }
  | _ => none }
def domGrowsRow : OpenClaim := { program := "ytfgnepbpfglepaa", sum := "0468e556b8ac2b3d96d0ae95e48b1e429b90d4d1934bc925a4e4f90a269607c1", func := "wattle/wattlelaw11.DomGrows", spec := "domGrows", unfollowed := true, recurses := true, plainKeys := false, apart := false }
def DomGrowsSaid : Prop := domGrowsRow.holds Try.pinned (OpenSpec.ofChange domGrowsSpec)

/-- ITS FALSE NEIGHBOUR: 'it returns false'. Refute it at one input. -/
def domGrowsWrong : ChangeSpec := { name := "domGrows", fn := fun _ => fun
  | [d1, d2, d3] => { results := [.lit (.bool false)], args := [d1, d2, d3] }
  | _ => none }
def DomGrowsWrongFalsely : Prop := domGrowsRow.holds Try.pinned (OpenSpec.ofChange domGrowsWrong)

/-- 'wattlelaw08.SelCopies': WHATEVER THE INPUT: true; the input reads as it did. -/
def selCopiesSpec : ChangeSpec := { name := "selCopies", fn := fun _ => fun
  | [d1, d2] => { results := [.lit (.bool true)], args := [d1, d2] }
  | _ => none }
def selCopiesRow : OpenClaim := { program := "ytfgnepbpfglepaa", sum := "0468e556b8ac2b3d96d0ae95e48b1e429b90d4d1934bc925a4e4f90a269607c1", func := "wattle/wattlelaw08.SelCopies", spec := "selCopies", unfollowed := true, recurses := true, loops := true, plainKeys := false, apart := false }
def SelCopiesSaid : Prop := selCopiesRow.holds Try.pinned (OpenSpec.ofChange selCopiesSpec)

/-- ITS FALSE NEIGHBOUR: 'it returns false'. Refute it at one input. -/
def selCopiesWrong : ChangeSpec := { name := "selCopies", fn := fun _ => fun
  | [d1, d2] => { results := [.lit (.bool false)], args := [d1, d2] }
  | _ => none }
def SelCopiesWrongFalsely : Prop := selCopiesRow.holds Try.pinned (OpenSpec.ofChange selCopiesWrong)

/- THE SECOND FORM. 'bulk': how many values and letters a reading holds, each counted each time it is reached (what is shared counts as often as it is met; a slice's spare places count too). A statement '..UptoSaid' is the law's where the arguments, and the package variables that the reading takes, are together of bulk at most 1048576: NARROWER than '..Said'. Prove '..Said' where nothing that the law and all that it calls make is longer than what came in: it says more and counts as full. Else prove '..UptoSaid'. A law counts once. -/
mutual
def uptoBulk {H : Type} : DataW H → Nat
  | .lit (.string bytes) => bytes.length + 1
  | .lit _ => 1
  | .nil => 1
  | .ptr d => uptoBulk d + 1
  | .slice elems spare => uptoBulkAll elems + uptoBulkAll spare + 1
  | .agg parts => uptoBulkAll parts + 1
  | .iface _ d => uptoBulk d + 1
  | .map entries => uptoBulkEntries entries + 1
  | .held _ => 1
def uptoBulkAll {H : Type} : List (DataW H) → Nat
  | [] => 0
  | d :: r => uptoBulk d + uptoBulkAll r
def uptoBulkEntries {H : Type} : List (Lit × DataW H) → Nat
  | [] => 0
  | x :: r => uptoBulkEntry x + uptoBulkEntries r
def uptoBulkEntry {H : Type} : Lit × DataW H → Nat
  | (.string bytes, d) => bytes.length + uptoBulk d + 1
  | (_, d) => uptoBulk d + 1
 end
def uptoSmall : (H : Type) → List (DataW H) → Bool := fun _ ds => decide (uptoBulkAll ds ≤ 1048576)
def OpenSpec.upto (s : _root_.Go.ChangeSpec) : _root_.Go.OpenSpec := { _root_.Go.OpenSpec.ofChange s with cond := some uptoSmall }

/-- 'wattlelaw11.DomSame', WHERE WHAT IT READS IS OF BULK AT MOST 1048576: true; the input reads as it did. -/
def domSameUptoRow : OpenClaim := { program := "ytfgnepbpfglepaa", sum := "0468e556b8ac2b3d96d0ae95e48b1e429b90d4d1934bc925a4e4f90a269607c1", func := "wattle/wattlelaw11.DomSame", spec := "domSame", unfollowed := true, recurses := true, plainKeys := false, apart := false, narrowed := true }
def DomSameUptoSaid : Prop := domSameUptoRow.holds Try.pinned (OpenSpec.upto domSameSpec)

/-- 'wattlelaw11.DomTells', WHERE WHAT IT READS IS OF BULK AT MOST 1048576: true; the input reads as it did. -/
def domTellsUptoRow : OpenClaim := { program := "ytfgnepbpfglepaa", sum := "0468e556b8ac2b3d96d0ae95e48b1e429b90d4d1934bc925a4e4f90a269607c1", func := "wattle/wattlelaw11.DomTells", spec := "domTells", unfollowed := true, recurses := true, plainKeys := false, apart := false, narrowed := true }
def DomTellsUptoSaid : Prop := domTellsUptoRow.holds Try.pinned (OpenSpec.upto domTellsSpec)

/-- 'wattlelaw11.DomGrows', WHERE WHAT IT READS IS OF BULK AT MOST 1048576: true; the input reads as it did. -/
def domGrowsUptoRow : OpenClaim := { program := "ytfgnepbpfglepaa", sum := "0468e556b8ac2b3d96d0ae95e48b1e429b90d4d1934bc925a4e4f90a269607c1", func := "wattle/wattlelaw11.DomGrows", spec := "domGrows", unfollowed := true, recurses := true, plainKeys := false, apart := false, narrowed := true }
def DomGrowsUptoSaid : Prop := domGrowsUptoRow.holds Try.pinned (OpenSpec.upto domGrowsSpec)

/-- 'wattlelaw08.SelCopies', WHERE WHAT IT READS IS OF BULK AT MOST 1048576: true; the input reads as it did. -/
def selCopiesUptoRow : OpenClaim := { program := "ytfgnepbpfglepaa", sum := "0468e556b8ac2b3d96d0ae95e48b1e429b90d4d1934bc925a4e4f90a269607c1", func := "wattle/wattlelaw08.SelCopies", spec := "selCopies", unfollowed := true, recurses := true, loops := true, plainKeys := false, apart := false, narrowed := true }
def SelCopiesUptoSaid : Prop := selCopiesUptoRow.holds Try.pinned (OpenSpec.upto selCopiesSpec)

end Rows
end Go.Proofs.Ytfgnepbpfglepaa
