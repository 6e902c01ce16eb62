/-
  DERIVED. GIVEN WITH THE SEED: THE CARDS: each row of YtkpjkeplbjkigaaDoorRows.lean that lists a variable, with what it lists TIED to the program's text (the seventh form; the later family's looks); each row that meets fmt, with fmt's text TOLD by the authors' own Lean function (tested against real Go, not proved from fmt's source: count such statements apart). THE CARD IS WHAT COUNTS. Prove the row's statement (the work); the ties are given (YtkpjkeplbjkigaaDoorTie.lean); close each card by the builder's one call (the guide's Derived/Test/ToyasCard.lean, 'card_holds'). Laid BY PROGRAM, IN A SANDBOX (cutbox-door.mjs). By AI agents, Wed Nov 11 2026. No macro, syntax, notation, axiom, sorry.
-/
import Derived.Test.YtkpjkeplbjkigaaDoorRows
import GoSem.ClaimSeven
namespace Go.Proofs.YtkpjkeplbjkigaaDoor
namespace Rows

/-- THE TIED CARD OF 'wattlelaw02.CharsTexts'. -/
def charsTextsCard : Claim7 := { stood := { row := charsTextsRow, standIns := [], harness := (true, "5d8f7375d5c70e7dccdcd47724ddf6a62f16e215dfe58986cf0ce226e057553f"), looks := false }, kinds := [], alts := [], laidByText := true, laidKinds := [.data, .data, .data], laidTests := true, laidLooks := .later }
def CharsTextsCardSaid : Prop := Claim7.holds Tryd.pinned (.plain (OpenSpec.ofChange charsTextsSpec)) charsTextsCard

/-- THE TIED CARD OF 'wattlelaw02.CharsJoined'. -/
def charsJoinedCard : Claim7 := { stood := { row := charsJoinedRow, standIns := [], harness := (true, "5d8f7375d5c70e7dccdcd47724ddf6a62f16e215dfe58986cf0ce226e057553f"), looks := false }, kinds := [], alts := [], laidByText := true, laidKinds := [.data, .data, .data], laidTests := true, laidLooks := .later }
def CharsJoinedCardSaid : Prop := Claim7.holds Tryd.pinned (.plain (OpenSpec.ofChange charsJoinedSpec)) charsJoinedCard

/-- THE TIED CARD OF 'wattlelaw02.CharsWrites'. -/
def charsWritesCard : Claim7 := { stood := { row := charsWritesRow, standIns := [], harness := (true, "5d8f7375d5c70e7dccdcd47724ddf6a62f16e215dfe58986cf0ce226e057553f"), looks := false }, kinds := [], alts := [], laidByText := true, laidKinds := [.data, .data, .data], laidTests := true, laidLooks := .later }
def CharsWritesCardSaid : Prop := Claim7.holds Tryd.pinned (.plain (OpenSpec.ofChange charsWritesSpec)) charsWritesCard

/-- THE TIED CARD OF 'wattlelaw02.CharsPlain'. -/
def charsPlainCard : Claim7 := { stood := { row := charsPlainRow, standIns := [], harness := (true, "5d8f7375d5c70e7dccdcd47724ddf6a62f16e215dfe58986cf0ce226e057553f"), looks := false }, kinds := [], alts := [], laidByText := true, laidKinds := [.data, .data, .data], laidTests := true, laidLooks := .later }
def CharsPlainCardSaid : Prop := Claim7.holds Tryd.pinned (.plain (OpenSpec.ofChange charsPlainSpec)) charsPlainCard

/-- THE TIED CARD OF 'wattlelaw06.ValueHolds'. -/
def valueHoldsCard : Claim7 := { stood := { row := valueHoldsRow, standIns := [], harness := (true, "5d8f7375d5c70e7dccdcd47724ddf6a62f16e215dfe58986cf0ce226e057553f"), looks := false }, kinds := [], alts := [], laidByText := true, laidKinds := [.data, .pinned], laidTests := true, laidLooks := .later }
def ValueHoldsCardSaid : Prop := Claim7.holds Tryd.pinned (.plain (OpenSpec.ofChange valueHoldsSpec)) valueHoldsCard

/-- THE TIED CARD OF 'wattlelaw06.ValueLeast'. -/
def valueLeastCard : Claim7 := { stood := { row := valueLeastRow, standIns := [], harness := (true, "5d8f7375d5c70e7dccdcd47724ddf6a62f16e215dfe58986cf0ce226e057553f"), looks := false }, kinds := [], alts := [], laidByText := true, laidKinds := [.data, .pinned], laidTests := true, laidLooks := .later }
def ValueLeastCardSaid : Prop := Claim7.holds Tryd.pinned (.plain (OpenSpec.ofChange valueLeastSpec)) valueLeastCard

/-- THE SECOND FORM's CARD OF 'wattlelaw02.CharsTexts'. -/
def charsTextsUptoCard : Claim7 := { stood := { row := charsTextsUptoRow, standIns := [], harness := (true, "5d8f7375d5c70e7dccdcd47724ddf6a62f16e215dfe58986cf0ce226e057553f"), looks := false }, kinds := [], alts := [], laidByText := true, laidKinds := [.data, .data, .data], laidTests := true, laidLooks := .later }
def CharsTextsUptoCardSaid : Prop := Claim7.holds Tryd.pinned (.plain (OpenSpec.upto charsTextsSpec)) charsTextsUptoCard

/-- THE SECOND FORM's CARD OF 'wattlelaw02.CharsJoined'. -/
def charsJoinedUptoCard : Claim7 := { stood := { row := charsJoinedUptoRow, standIns := [], harness := (true, "5d8f7375d5c70e7dccdcd47724ddf6a62f16e215dfe58986cf0ce226e057553f"), looks := false }, kinds := [], alts := [], laidByText := true, laidKinds := [.data, .data, .data], laidTests := true, laidLooks := .later }
def CharsJoinedUptoCardSaid : Prop := Claim7.holds Tryd.pinned (.plain (OpenSpec.upto charsJoinedSpec)) charsJoinedUptoCard

/-- THE SECOND FORM's CARD OF 'wattlelaw02.CharsWrites'. -/
def charsWritesUptoCard : Claim7 := { stood := { row := charsWritesUptoRow, standIns := [], harness := (true, "5d8f7375d5c70e7dccdcd47724ddf6a62f16e215dfe58986cf0ce226e057553f"), looks := false }, kinds := [], alts := [], laidByText := true, laidKinds := [.data, .data, .data], laidTests := true, laidLooks := .later }
def CharsWritesUptoCardSaid : Prop := Claim7.holds Tryd.pinned (.plain (OpenSpec.upto charsWritesSpec)) charsWritesUptoCard

/-- THE SECOND FORM's CARD OF 'wattlelaw02.CharsPlain'. -/
def charsPlainUptoCard : Claim7 := { stood := { row := charsPlainUptoRow, standIns := [], harness := (true, "5d8f7375d5c70e7dccdcd47724ddf6a62f16e215dfe58986cf0ce226e057553f"), looks := false }, kinds := [], alts := [], laidByText := true, laidKinds := [.data, .data, .data], laidTests := true, laidLooks := .later }
def CharsPlainUptoCardSaid : Prop := Claim7.holds Tryd.pinned (.plain (OpenSpec.upto charsPlainSpec)) charsPlainUptoCard

/-- THE SECOND FORM's CARD OF 'wattlelaw06.ValueHolds'. -/
def valueHoldsUptoCard : Claim7 := { stood := { row := valueHoldsUptoRow, standIns := [], harness := (true, "5d8f7375d5c70e7dccdcd47724ddf6a62f16e215dfe58986cf0ce226e057553f"), looks := false }, kinds := [], alts := [], laidByText := true, laidKinds := [.data, .pinned], laidTests := true, laidLooks := .later }
def ValueHoldsUptoCardSaid : Prop := Claim7.holds Tryd.pinned (.plain (OpenSpec.upto valueHoldsSpec)) valueHoldsUptoCard

/-- THE SECOND FORM's CARD OF 'wattlelaw06.ValueLeast'. -/
def valueLeastUptoCard : Claim7 := { stood := { row := valueLeastUptoRow, standIns := [], harness := (true, "5d8f7375d5c70e7dccdcd47724ddf6a62f16e215dfe58986cf0ce226e057553f"), looks := false }, kinds := [], alts := [], laidByText := true, laidKinds := [.data, .pinned], laidTests := true, laidLooks := .later }
def ValueLeastUptoCardSaid : Prop := Claim7.holds Tryd.pinned (.plain (OpenSpec.upto valueLeastSpec)) valueLeastUptoCard
end Rows
end Go.Proofs.YtkpjkeplbjkigaaDoor
