/-
  DERIVED. GIVEN WITH THE SEED: THE CARDS: each row of YtknggcbhfkbelaaDoorRows.lean that lists a variable, with what it lists TIED to the program's text (the seventh form; the later family's looks); each row that meets fmt, with fmt's text TOLD by the authors' own Lean function (tested against real Go, not proved from fmt's source: count such statements apart). THE CARD IS WHAT COUNTS. Prove the row's statement (the work); the ties are given (YtknggcbhfkbelaaDoorTie.lean); close each card by the builder's one call (the guide's Derived/Test/ToyasCard.lean, 'card_holds'). Laid BY PROGRAM, IN A SANDBOX (cutbox-door.mjs). By AI agents, Wed Nov 11 2026. No macro, syntax, notation, axiom, sorry.
-/
import Derived.Test.YtknggcbhfkbelaaDoorRows
import GoSem.ClaimSeven
namespace Go.Proofs.YtknggcbhfkbelaaDoor
namespace Rows

/-- THE TIED CARD OF 'wattlelaw11.DomChecks'. -/
def domChecksCard : Claim7 := { stood := { row := domChecksRow, standIns := [], harness := (true, "1f25da74af57d872ef523d171bb0f0b845dfdd5deb5678d816161bd861892adb"), looks := true }, kinds := [], alts := [], laidByText := true, laidKinds := [.handle], laidTests := true, laidLooks := .later }
def DomChecksCardSaid : Prop := Claim7.holds Tryd.pinned (.plain (OpenSpec.ofChange domChecksSpec)) domChecksCard

/-- THE SECOND FORM's CARD OF 'wattlelaw11.DomChecks'. -/
def domChecksUptoCard : Claim7 := { stood := { row := domChecksUptoRow, standIns := [], harness := (true, "1f25da74af57d872ef523d171bb0f0b845dfdd5deb5678d816161bd861892adb"), looks := true }, kinds := [], alts := [], laidByText := true, laidKinds := [.handle], laidTests := true, laidLooks := .later }
def DomChecksUptoCardSaid : Prop := Claim7.holds Tryd.pinned (.plain (OpenSpec.upto domChecksSpec)) domChecksUptoCard
end Rows
end Go.Proofs.YtknggcbhfkbelaaDoor
