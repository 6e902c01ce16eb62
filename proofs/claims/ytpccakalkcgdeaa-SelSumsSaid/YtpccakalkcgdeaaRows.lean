/-
  NARROWER THAN 'FOR EVERY INPUT', by the rows' own cells (each row's printed sentence says how): SelCopies: loops · SelSums: loops.
  DERIVED. THE GIVEN ROWS OF THIS SEAT. 3 by the template 'for every input the law returns true; each argument reads behind the call as it read before'; 0 by the template 'total and deterministic' (their statements: YtpccakalkcgdeaaTotals.lean).
  GIVEN WITH THE SEED: the statements are not yours to turn. If you find one false, say at which input.
  Laid BY PROGRAM, IN A SANDBOX (cutbox-rows.mjs): the forced cells as the released guide's own fill.sh prints them over the translation 91ab084e043e7b73… (all of the seat's roots in one cut). By AI agents, Wed Nov 11 2026. No macro, syntax, notation, axiom, sorry.
-/
import Derived.Test.YtpccakalkcgdeaaChecked
import GoSem.Claim
import GoSem.ClaimJoined
import GoSem.ClaimMapViews
import Derived.JoinedTies
import Derived.KernelRfl
namespace Go.Proofs.Ytpccakalkcgdeaa
/- THE CELL 'sum', in the pinned program and in every row, IS THE sha256 OF THE DUMP (.gsa) THAT YtpccakalkcgdeaaProg.lean LOADS. Nothing in Lean hashes anything: it is a label: what it is worth is what the hold of that sum in a sandbox is worth. -/
noncomputable def Try.pinned : Pinned := { name := "ytpccakalkcgdeaa", sum := "91ab084e043e7b73d731f606431561ebcb0f8009bb2100bebc0f444b8a38bfda", checked := Try.checked }
namespace Rows
def none {H : Type} : Left H := { results := [], args := [] }

/-- 'wattlelaw08.SelLess': WHATEVER THE INPUT: true; the input reads as it did. -/
def selLessSpec : ChangeSpec := { name := "selLess", fn := fun _ => fun
  | [d1, d2, d3] => { results := [.lit (.bool true)], args := [d1, d2, d3] }
  | _ => none }
def selLessRow : OpenClaim := { program := "ytpccakalkcgdeaa", sum := "91ab084e043e7b73d731f606431561ebcb0f8009bb2100bebc0f444b8a38bfda", func := "wattle/wattlelaw08.SelLess", spec := "selLess", unfollowed := true, recurses := true, apart := false }
def SelLessSaid : Prop := selLessRow.holds Try.pinned (OpenSpec.ofChange selLessSpec)

/-- ITS FALSE NEIGHBOUR: 'it returns false'. Refute it at one input. -/
def selLessWrong : ChangeSpec := { name := "selLess", fn := fun _ => fun
  | [d1, d2, d3] => { results := [.lit (.bool false)], args := [d1, d2, d3] }
  | _ => none }
def SelLessWrongFalsely : Prop := selLessRow.holds Try.pinned (OpenSpec.ofChange selLessWrong)

/-- 'wattlelaw08.SelCopies': WHATEVER THE INPUT: true; the input reads as it did. -/
def selCopiesSpec : ChangeSpec := { name := "selCopies", fn := fun _ => fun
  | [d1, d2] => { results := [.lit (.bool true)], args := [d1, d2] }
  | _ => none }
def selCopiesRow : OpenClaim := { program := "ytpccakalkcgdeaa", sum := "91ab084e043e7b73d731f606431561ebcb0f8009bb2100bebc0f444b8a38bfda", func := "wattle/wattlelaw08.SelCopies", spec := "selCopies", unfollowed := true, recurses := true, loops := true, apart := false }
def SelCopiesSaid : Prop := selCopiesRow.holds Try.pinned (OpenSpec.ofChange selCopiesSpec)

/-- ITS FALSE NEIGHBOUR: 'it returns false'. Refute it at one input. -/
def selCopiesWrong : ChangeSpec := { name := "selCopies", fn := fun _ => fun
  | [d1, d2] => { results := [.lit (.bool false)], args := [d1, d2] }
  | _ => none }
def SelCopiesWrongFalsely : Prop := selCopiesRow.holds Try.pinned (OpenSpec.ofChange selCopiesWrong)

/-- 'wattlelaw08.SelSums': WHATEVER THE INPUT: true; the input reads as it did. -/
def selSumsSpec : ChangeSpec := { name := "selSums", fn := fun _ => fun
  | [d1, d2] => { results := [.lit (.bool true)], args := [d1, d2] }
  | _ => none }
def selSumsRow : OpenClaim := { program := "ytpccakalkcgdeaa", sum := "91ab084e043e7b73d731f606431561ebcb0f8009bb2100bebc0f444b8a38bfda", func := "wattle/wattlelaw08.SelSums", spec := "selSums", unfollowed := true, recurses := true, loops := true, apart := false }
def SelSumsSaid : Prop := selSumsRow.holds Try.pinned (OpenSpec.ofChange selSumsSpec)

/-- ITS FALSE NEIGHBOUR: 'it returns false'. Refute it at one input. -/
def selSumsWrong : ChangeSpec := { name := "selSums", fn := fun _ => fun
  | [d1, d2] => { results := [.lit (.bool false)], args := [d1, d2] }
  | _ => none }
def SelSumsWrongFalsely : Prop := selSumsRow.holds Try.pinned (OpenSpec.ofChange selSumsWrong)

/- THE SECOND FORM. 'bulk': how many values and letters a reading holds, each counted each time it is reached (what is shared counts as often as it is met; a slice's spare places count too). A statement '..UptoSaid' is the law's where the arguments, and the package variables that the reading takes, are together of bulk at most 1048576: NARROWER than '..Said'. Prove '..Said' where nothing that the law and all that it calls make is longer than what came in: it says more and counts as full. Else prove '..UptoSaid'. A law counts once. -/
mutual
def uptoBulk {H : Type} : DataW H → Nat
  | .lit (.string bytes) => bytes.length + 1
  | .lit _ => 1
  | .nil => 1
  | .ptr d => uptoBulk d + 1
  | .slice elems spare => uptoBulkAll elems + uptoBulkAll spare + 1
  | .agg parts => uptoBulkAll parts + 1
  | .iface _ d => uptoBulk d + 1
  | .map entries => uptoBulkEntries entries + 1
  | .held _ => 1
def uptoBulkAll {H : Type} : List (DataW H) → Nat
  | [] => 0
  | d :: r => uptoBulk d + uptoBulkAll r
def uptoBulkEntries {H : Type} : List (Lit × DataW H) → Nat
  | [] => 0
  | x :: r => uptoBulkEntry x + uptoBulkEntries r
def uptoBulkEntry {H : Type} : Lit × DataW H → Nat
  | (.string bytes, d) => bytes.length + uptoBulk d + 1
  | (_, d) => uptoBulk d + 1
 end
def uptoSmall : (H : Type) → List (DataW H) → Bool := fun _ ds => decide (uptoBulkAll ds ≤ 1048576)
def OpenSpec.upto (s : _root_.Go.ChangeSpec) : _root_.Go.OpenSpec := { _root_.Go.OpenSpec.ofChange s with cond := some uptoSmall }

/-- 'wattlelaw08.SelLess', WHERE WHAT IT READS IS OF BULK AT MOST 1048576: true; the input reads as it did. -/
def selLessUptoRow : OpenClaim := { program := "ytpccakalkcgdeaa", sum := "91ab084e043e7b73d731f606431561ebcb0f8009bb2100bebc0f444b8a38bfda", func := "wattle/wattlelaw08.SelLess", spec := "selLess", unfollowed := true, recurses := true, apart := false, narrowed := true }
def SelLessUptoSaid : Prop := selLessUptoRow.holds Try.pinned (OpenSpec.upto selLessSpec)

/-- 'wattlelaw08.SelCopies', WHERE WHAT IT READS IS OF BULK AT MOST 1048576: true; the input reads as it did. -/
def selCopiesUptoRow : OpenClaim := { program := "ytpccakalkcgdeaa", sum := "91ab084e043e7b73d731f606431561ebcb0f8009bb2100bebc0f444b8a38bfda", func := "wattle/wattlelaw08.SelCopies", spec := "selCopies", unfollowed := true, recurses := true, loops := true, apart := false, narrowed := true }
def SelCopiesUptoSaid : Prop := selCopiesUptoRow.holds Try.pinned (OpenSpec.upto selCopiesSpec)

/-- 'wattlelaw08.SelSums', WHERE WHAT IT READS IS OF BULK AT MOST 1048576: true; the input reads as it did. -/
def selSumsUptoRow : OpenClaim := { program := "ytpccakalkcgdeaa", sum := "91ab084e043e7b73d731f606431561ebcb0f8009bb2100bebc0f444b8a38bfda", func := "wattle/wattlelaw08.SelSums", spec := "selSums", unfollowed := true, recurses := true, loops := true, apart := false, narrowed := true }
def SelSumsUptoSaid : Prop := selSumsUptoRow.holds Try.pinned (OpenSpec.upto selSumsSpec)

end Rows
end Go.Proofs.Ytpccakalkcgdeaa
