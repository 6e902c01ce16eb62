/-
  DERIVED. GIVEN WITH THE SEED: THE CARDS: each row of YtiadepiopojfoaaDoorRows.lean that lists a variable, with what it lists TIED to the program's text (the seventh form; the later family's looks); each row that meets fmt, with fmt's text TOLD by the authors' own Lean function (tested against real Go, not proved from fmt's source: count such statements apart). THE CARD IS WHAT COUNTS. Prove the row's statement (the work); the ties are given (YtiadepiopojfoaaDoorTie.lean); close each card by the builder's one call (the guide's Derived/Test/ToyasCard.lean, 'card_holds'). Laid BY PROGRAM, IN A SANDBOX (cutbox-door.mjs). By AI agents, Wed Nov 11 2026. No macro, syntax, notation, axiom, sorry.
-/
import Derived.Test.YtiadepiopojfoaaDoorRows
import GoSem.ClaimSeven
namespace Go.Proofs.YtiadepiopojfoaaDoor
namespace Rows

/-- THE TIED CARD OF 'wattlelaw01.DecodeNames'. -/
def decodeNamesCard : Claim7 := { stood := { row := decodeNamesRow, standIns := [], harness := (true, "72a00e05fe339627d0b24f0f6579f3891581e291f651799de96cbea601b2735b"), looks := true }, kinds := [], alts := [], laidByText := true, laidKinds := [.handle], laidTests := true, laidLooks := .later }
def DecodeNamesCardSaid : Prop := Claim7.holds Tryd.pinned (.plain (OpenSpec.ofChange decodeNamesSpec)) decodeNamesCard

/-- THE TIED CARD OF 'wattlelaw02.CharsTexts'. -/
def charsTextsCard : Claim7 := { stood := { row := charsTextsRow, standIns := [], harness := (true, "72a00e05fe339627d0b24f0f6579f3891581e291f651799de96cbea601b2735b"), looks := true }, kinds := [], alts := [], laidByText := true, laidKinds := [.data, .data, .data], laidTests := true, laidLooks := .later }
def CharsTextsCardSaid : Prop := Claim7.holds Tryd.pinned (.plain (OpenSpec.ofChange charsTextsSpec)) charsTextsCard

/-- THE TIED CARD OF 'wattlelaw02.CharsWrites'. -/
def charsWritesCard : Claim7 := { stood := { row := charsWritesRow, standIns := [], harness := (true, "72a00e05fe339627d0b24f0f6579f3891581e291f651799de96cbea601b2735b"), looks := true }, kinds := [], alts := [], laidByText := true, laidKinds := [.data, .data, .data], laidTests := true, laidLooks := .later }
def CharsWritesCardSaid : Prop := Claim7.holds Tryd.pinned (.plain (OpenSpec.ofChange charsWritesSpec)) charsWritesCard

/-- THE TIED CARD OF 'wattlelaw02.CharsPlain'. -/
def charsPlainCard : Claim7 := { stood := { row := charsPlainRow, standIns := [], harness := (true, "72a00e05fe339627d0b24f0f6579f3891581e291f651799de96cbea601b2735b"), looks := true }, kinds := [], alts := [], laidByText := true, laidKinds := [.data, .data, .data], laidTests := true, laidLooks := .later }
def CharsPlainCardSaid : Prop := Claim7.holds Tryd.pinned (.plain (OpenSpec.ofChange charsPlainSpec)) charsPlainCard

/-- THE TIED CARD OF 'wattlelaw02.CharsJoined'. -/
def charsJoinedCard : Claim7 := { stood := { row := charsJoinedRow, standIns := [], harness := (true, "72a00e05fe339627d0b24f0f6579f3891581e291f651799de96cbea601b2735b"), looks := true }, kinds := [], alts := [], laidByText := true, laidKinds := [.data, .data, .data], laidTests := true, laidLooks := .later }
def CharsJoinedCardSaid : Prop := Claim7.holds Tryd.pinned (.plain (OpenSpec.ofChange charsJoinedSpec)) charsJoinedCard

/-- THE SECOND FORM's CARD OF 'wattlelaw01.DecodeNames'. -/
def decodeNamesUptoCard : Claim7 := { stood := { row := decodeNamesUptoRow, standIns := [], harness := (true, "72a00e05fe339627d0b24f0f6579f3891581e291f651799de96cbea601b2735b"), looks := true }, kinds := [], alts := [], laidByText := true, laidKinds := [.handle], laidTests := true, laidLooks := .later }
def DecodeNamesUptoCardSaid : Prop := Claim7.holds Tryd.pinned (.plain (OpenSpec.upto decodeNamesSpec)) decodeNamesUptoCard

/-- THE SECOND FORM's CARD OF 'wattlelaw02.CharsTexts'. -/
def charsTextsUptoCard : Claim7 := { stood := { row := charsTextsUptoRow, standIns := [], harness := (true, "72a00e05fe339627d0b24f0f6579f3891581e291f651799de96cbea601b2735b"), looks := true }, kinds := [], alts := [], laidByText := true, laidKinds := [.data, .data, .data], laidTests := true, laidLooks := .later }
def CharsTextsUptoCardSaid : Prop := Claim7.holds Tryd.pinned (.plain (OpenSpec.upto charsTextsSpec)) charsTextsUptoCard

/-- THE SECOND FORM's CARD OF 'wattlelaw02.CharsWrites'. -/
def charsWritesUptoCard : Claim7 := { stood := { row := charsWritesUptoRow, standIns := [], harness := (true, "72a00e05fe339627d0b24f0f6579f3891581e291f651799de96cbea601b2735b"), looks := true }, kinds := [], alts := [], laidByText := true, laidKinds := [.data, .data, .data], laidTests := true, laidLooks := .later }
def CharsWritesUptoCardSaid : Prop := Claim7.holds Tryd.pinned (.plain (OpenSpec.upto charsWritesSpec)) charsWritesUptoCard

/-- THE SECOND FORM's CARD OF 'wattlelaw02.CharsPlain'. -/
def charsPlainUptoCard : Claim7 := { stood := { row := charsPlainUptoRow, standIns := [], harness := (true, "72a00e05fe339627d0b24f0f6579f3891581e291f651799de96cbea601b2735b"), looks := true }, kinds := [], alts := [], laidByText := true, laidKinds := [.data, .data, .data], laidTests := true, laidLooks := .later }
def CharsPlainUptoCardSaid : Prop := Claim7.holds Tryd.pinned (.plain (OpenSpec.upto charsPlainSpec)) charsPlainUptoCard

/-- THE SECOND FORM's CARD OF 'wattlelaw02.CharsJoined'. -/
def charsJoinedUptoCard : Claim7 := { stood := { row := charsJoinedUptoRow, standIns := [], harness := (true, "72a00e05fe339627d0b24f0f6579f3891581e291f651799de96cbea601b2735b"), looks := true }, kinds := [], alts := [], laidByText := true, laidKinds := [.data, .data, .data], laidTests := true, laidLooks := .later }
def CharsJoinedUptoCardSaid : Prop := Claim7.holds Tryd.pinned (.plain (OpenSpec.upto charsJoinedSpec)) charsJoinedUptoCard
end Rows
end Go.Proofs.YtiadepiopojfoaaDoor
