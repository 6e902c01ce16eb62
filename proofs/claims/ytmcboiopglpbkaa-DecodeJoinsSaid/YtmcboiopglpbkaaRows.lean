/-
  No cell of these rows narrows 'for every input' (looked for: loops, veiled, ifaces, maps, wideKeys, modest, calm, conditions, laid).
  DERIVED. THE GIVEN ROWS OF THIS SEAT. 6 by the template 'for every input the law returns true; each argument reads behind the call as it read before'; 0 by the template 'total and deterministic' (their statements: YtmcboiopglpbkaaTotals.lean).
  GIVEN WITH THE SEED: the statements are not yours to turn. If you find one false, say at which input.
  Laid BY PROGRAM, IN A SANDBOX (cutbox-rows.mjs): the forced cells as the released guide's own fill.sh prints them over the translation 25359f74b8b21773… (all of the seat's roots in one cut). By AI agents, Wed Nov 11 2026. No macro, syntax, notation, axiom, sorry.
-/
import Derived.Test.YtmcboiopglpbkaaChecked
import GoSem.Claim
import GoSem.ClaimJoined
import GoSem.ClaimMapViews
import Derived.JoinedTies
import Derived.KernelRfl
namespace Go.Proofs.Ytmcboiopglpbkaa
/- THE CELL 'sum', in the pinned program and in every row, IS THE sha256 OF THE DUMP (.gsa) THAT YtmcboiopglpbkaaProg.lean LOADS. Nothing in Lean hashes anything: it is a label: what it is worth is what the hold of that sum in a sandbox is worth. -/
noncomputable def Try.pinned : Pinned := { name := "ytmcboiopglpbkaa", sum := "25359f74b8b21773c4641773c42cb2d8b04b5cc830b6f82c51fb405d39b2108d", checked := Try.checked }
namespace Rows
def none {H : Type} : Left H := { results := [], args := [] }

/-- 'wattlelaw01.DecodeReads': WHATEVER THE INPUT: true; the input reads as it did. -/
def decodeReadsSpec : ChangeSpec := { name := "decodeReads", fn := fun _ => fun
  | [d] => { results := [.lit (.bool true)], args := [d] }
  | _ => none }
def decodeReadsRow : OpenClaim := { program := "ytmcboiopglpbkaa", sum := "25359f74b8b21773c4641773c42cb2d8b04b5cc830b6f82c51fb405d39b2108d", func := "wattle/wattlelaw01.DecodeReads", spec := "decodeReads", apart := false }
def DecodeReadsSaid : Prop := decodeReadsRow.holds Try.pinned (OpenSpec.ofChange decodeReadsSpec)

/-- ITS FALSE NEIGHBOUR: 'it returns false'. Refute it at one input. -/
def decodeReadsWrong : ChangeSpec := { name := "decodeReads", fn := fun _ => fun
  | [d] => { results := [.lit (.bool false)], args := [d] }
  | _ => none }
def DecodeReadsWrongFalsely : Prop := decodeReadsRow.holds Try.pinned (OpenSpec.ofChange decodeReadsWrong)

/-- 'wattlelaw01.DecodePrepares': WHATEVER THE INPUT: true; the input reads as it did. -/
def decodePreparesSpec : ChangeSpec := { name := "decodePrepares", fn := fun _ => fun
  | [d] => { results := [.lit (.bool true)], args := [d] }
  | _ => none }
def decodePreparesRow : OpenClaim := { program := "ytmcboiopglpbkaa", sum := "25359f74b8b21773c4641773c42cb2d8b04b5cc830b6f82c51fb405d39b2108d", func := "wattle/wattlelaw01.DecodePrepares", spec := "decodePrepares", apart := false }
def DecodePreparesSaid : Prop := decodePreparesRow.holds Try.pinned (OpenSpec.ofChange decodePreparesSpec)

/-- ITS FALSE NEIGHBOUR: 'it returns false'. Refute it at one input. -/
def decodePreparesWrong : ChangeSpec := { name := "decodePrepares", fn := fun _ => fun
  | [d] => { results := [.lit (.bool false)], args := [d] }
  | _ => none }
def DecodePreparesWrongFalsely : Prop := decodePreparesRow.holds Try.pinned (OpenSpec.ofChange decodePreparesWrong)

/-- 'wattlelaw01.DecodeBack': WHATEVER THE INPUT: true; the input reads as it did. -/
def decodeBackSpec : ChangeSpec := { name := "decodeBack", fn := fun _ => fun
  | [d] => { results := [.lit (.bool true)], args := [d] }
  | _ => none }
def decodeBackRow : OpenClaim := { program := "ytmcboiopglpbkaa", sum := "25359f74b8b21773c4641773c42cb2d8b04b5cc830b6f82c51fb405d39b2108d", func := "wattle/wattlelaw01.DecodeBack", spec := "decodeBack", apart := false }
def DecodeBackSaid : Prop := decodeBackRow.holds Try.pinned (OpenSpec.ofChange decodeBackSpec)

/-- ITS FALSE NEIGHBOUR: 'it returns false'. Refute it at one input. -/
def decodeBackWrong : ChangeSpec := { name := "decodeBack", fn := fun _ => fun
  | [d] => { results := [.lit (.bool false)], args := [d] }
  | _ => none }
def DecodeBackWrongFalsely : Prop := decodeBackRow.holds Try.pinned (OpenSpec.ofChange decodeBackWrong)

/-- 'wattlelaw01.DecodeLines': WHATEVER THE INPUT: true; the input reads as it did. -/
def decodeLinesSpec : ChangeSpec := { name := "decodeLines", fn := fun _ => fun
  | [d1, d2] => { results := [.lit (.bool true)], args := [d1, d2] }
  | _ => none }
def decodeLinesRow : OpenClaim := { program := "ytmcboiopglpbkaa", sum := "25359f74b8b21773c4641773c42cb2d8b04b5cc830b6f82c51fb405d39b2108d", func := "wattle/wattlelaw01.DecodeLines", spec := "decodeLines", apart := false }
def DecodeLinesSaid : Prop := decodeLinesRow.holds Try.pinned (OpenSpec.ofChange decodeLinesSpec)

/-- ITS FALSE NEIGHBOUR: 'it returns false'. Refute it at one input. -/
def decodeLinesWrong : ChangeSpec := { name := "decodeLines", fn := fun _ => fun
  | [d1, d2] => { results := [.lit (.bool false)], args := [d1, d2] }
  | _ => none }
def DecodeLinesWrongFalsely : Prop := decodeLinesRow.holds Try.pinned (OpenSpec.ofChange decodeLinesWrong)

/-- 'wattlelaw01.DecodeJoins': WHATEVER THE INPUT: true; the input reads as it did. -/
def decodeJoinsSpec : ChangeSpec := { name := "decodeJoins", fn := fun _ => fun
  | [d1, d2] => { results := [.lit (.bool true)], args := [d1, d2] }
  | _ => none }
def decodeJoinsRow : OpenClaim := { program := "ytmcboiopglpbkaa", sum := "25359f74b8b21773c4641773c42cb2d8b04b5cc830b6f82c51fb405d39b2108d", func := "wattle/wattlelaw01.DecodeJoins", spec := "decodeJoins", apart := false }
def DecodeJoinsSaid : Prop := decodeJoinsRow.holds Try.pinned (OpenSpec.ofChange decodeJoinsSpec)

/-- ITS FALSE NEIGHBOUR: 'it returns false'. Refute it at one input. -/
def decodeJoinsWrong : ChangeSpec := { name := "decodeJoins", fn := fun _ => fun
  | [d1, d2] => { results := [.lit (.bool false)], args := [d1, d2] }
  | _ => none }
def DecodeJoinsWrongFalsely : Prop := decodeJoinsRow.holds Try.pinned (OpenSpec.ofChange decodeJoinsWrong)

/-- 'wattlelaw01.DecodeSizes': WHATEVER THE INPUT: true; the input reads as it did. -/
def decodeSizesSpec : ChangeSpec := { name := "decodeSizes", fn := fun _ => fun
  | [d] => { results := [.lit (.bool true)], args := [d] }
  | _ => none }
def decodeSizesRow : OpenClaim := { program := "ytmcboiopglpbkaa", sum := "25359f74b8b21773c4641773c42cb2d8b04b5cc830b6f82c51fb405d39b2108d", func := "wattle/wattlelaw01.DecodeSizes", spec := "decodeSizes", apart := false }
def DecodeSizesSaid : Prop := decodeSizesRow.holds Try.pinned (OpenSpec.ofChange decodeSizesSpec)

/-- ITS FALSE NEIGHBOUR: 'it returns false'. Refute it at one input. -/
def decodeSizesWrong : ChangeSpec := { name := "decodeSizes", fn := fun _ => fun
  | [d] => { results := [.lit (.bool false)], args := [d] }
  | _ => none }
def DecodeSizesWrongFalsely : Prop := decodeSizesRow.holds Try.pinned (OpenSpec.ofChange decodeSizesWrong)

/- THE SECOND FORM. 'bulk': how many values and letters a reading holds, each counted each time it is reached (what is shared counts as often as it is met; a slice's spare places count too). A statement '..UptoSaid' is the law's where the arguments, and the package variables that the reading takes, are together of bulk at most 1048576: NARROWER than '..Said'. Prove '..Said' where nothing that the law and all that it calls make is longer than what came in: it says more and counts as full. Else prove '..UptoSaid'. A law counts once. -/
mutual
def uptoBulk {H : Type} : DataW H → Nat
  | .lit (.string bytes) => bytes.length + 1
  | .lit _ => 1
  | .nil => 1
  | .ptr d => uptoBulk d + 1
  | .slice elems spare => uptoBulkAll elems + uptoBulkAll spare + 1
  | .agg parts => uptoBulkAll parts + 1
  | .iface _ d => uptoBulk d + 1
  | .map entries => uptoBulkEntries entries + 1
  | .held _ => 1
def uptoBulkAll {H : Type} : List (DataW H) → Nat
  | [] => 0
  | d :: r => uptoBulk d + uptoBulkAll r
def uptoBulkEntries {H : Type} : List (Lit × DataW H) → Nat
  | [] => 0
  | x :: r => uptoBulkEntry x + uptoBulkEntries r
def uptoBulkEntry {H : Type} : Lit × DataW H → Nat
  | (.string bytes, d) => bytes.length + uptoBulk d + 1
  | (_, d) => uptoBulk d + 1
 end
def uptoSmall : (H : Type) → List (DataW H) → Bool := fun _ ds => decide (uptoBulkAll ds ≤ 1048576)
def OpenSpec.upto (s : _root_.Go.ChangeSpec) : _root_.Go.OpenSpec := { _root_.Go.OpenSpec.ofChange s with cond := some uptoSmall }

/-- 'wattlelaw01.DecodeReads', WHERE WHAT IT READS IS OF BULK AT MOST 1048576: true; the input reads as it did. -/
def decodeReadsUptoRow : OpenClaim := { program := "ytmcboiopglpbkaa", sum := "25359f74b8b21773c4641773c42cb2d8b04b5cc830b6f82c51fb405d39b2108d", func := "wattle/wattlelaw01.DecodeReads", spec := "decodeReads", apart := false, narrowed := true }
def DecodeReadsUptoSaid : Prop := decodeReadsUptoRow.holds Try.pinned (OpenSpec.upto decodeReadsSpec)

/-- 'wattlelaw01.DecodePrepares', WHERE WHAT IT READS IS OF BULK AT MOST 1048576: true; the input reads as it did. -/
def decodePreparesUptoRow : OpenClaim := { program := "ytmcboiopglpbkaa", sum := "25359f74b8b21773c4641773c42cb2d8b04b5cc830b6f82c51fb405d39b2108d", func := "wattle/wattlelaw01.DecodePrepares", spec := "decodePrepares", apart := false, narrowed := true }
def DecodePreparesUptoSaid : Prop := decodePreparesUptoRow.holds Try.pinned (OpenSpec.upto decodePreparesSpec)

/-- 'wattlelaw01.DecodeBack', WHERE WHAT IT READS IS OF BULK AT MOST 1048576: true; the input reads as it did. -/
def decodeBackUptoRow : OpenClaim := { program := "ytmcboiopglpbkaa", sum := "25359f74b8b21773c4641773c42cb2d8b04b5cc830b6f82c51fb405d39b2108d", func := "wattle/wattlelaw01.DecodeBack", spec := "decodeBack", apart := false, narrowed := true }
def DecodeBackUptoSaid : Prop := decodeBackUptoRow.holds Try.pinned (OpenSpec.upto decodeBackSpec)

/-- 'wattlelaw01.DecodeLines', WHERE WHAT IT READS IS OF BULK AT MOST 1048576: true; the input reads as it did. -/
def decodeLinesUptoRow : OpenClaim := { program := "ytmcboiopglpbkaa", sum := "25359f74b8b21773c4641773c42cb2d8b04b5cc830b6f82c51fb405d39b2108d", func := "wattle/wattlelaw01.DecodeLines", spec := "decodeLines", apart := false, narrowed := true }
def DecodeLinesUptoSaid : Prop := decodeLinesUptoRow.holds Try.pinned (OpenSpec.upto decodeLinesSpec)

/-- 'wattlelaw01.DecodeJoins', WHERE WHAT IT READS IS OF BULK AT MOST 1048576: true; the input reads as it did. -/
def decodeJoinsUptoRow : OpenClaim := { program := "ytmcboiopglpbkaa", sum := "25359f74b8b21773c4641773c42cb2d8b04b5cc830b6f82c51fb405d39b2108d", func := "wattle/wattlelaw01.DecodeJoins", spec := "decodeJoins", apart := false, narrowed := true }
def DecodeJoinsUptoSaid : Prop := decodeJoinsUptoRow.holds Try.pinned (OpenSpec.upto decodeJoinsSpec)

/-- 'wattlelaw01.DecodeSizes', WHERE WHAT IT READS IS OF BULK AT MOST 1048576: true; the input reads as it did. -/
def decodeSizesUptoRow : OpenClaim := { program := "ytmcboiopglpbkaa", sum := "25359f74b8b21773c4641773c42cb2d8b04b5cc830b6f82c51fb405d39b2108d", func := "wattle/wattlelaw01.DecodeSizes", spec := "decodeSizes", apart := false, narrowed := true }
def DecodeSizesUptoSaid : Prop := decodeSizesUptoRow.holds Try.pinned (OpenSpec.upto decodeSizesSpec)

end Rows
end Go.Proofs.Ytmcboiopglpbkaa
