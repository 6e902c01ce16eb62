/-
  DERIVED. GIVEN WITH THE SEED: THE CARDS: each row of YtcfcoojnjdoeeaaDoorRows.lean that lists a variable, with what it lists TIED to the program's text (the seventh form; the later family's looks); each row that meets fmt, with fmt's text TOLD by the authors' own Lean function (tested against real Go, not proved from fmt's source: count such statements apart). THE CARD IS WHAT COUNTS. Prove the row's statement (the work); the ties are given (YtcfcoojnjdoeeaaDoorTie.lean); close each card by the builder's one call (the guide's Derived/Test/ToyasCard.lean, 'card_holds'). Laid BY PROGRAM, IN A SANDBOX (cutbox-door.mjs). By AI agents, Wed Nov 11 2026. No macro, syntax, notation, axiom, sorry.
-/
import Derived.Test.YtcfcoojnjdoeeaaDoorRows
import GoSem.ClaimSeven
namespace Go.Proofs.YtcfcoojnjdoeeaaDoor
namespace Rows

/-- THE TIED CARD OF 'wattlelaw05.NthOver'. -/
def nthOverCard : Claim7 := { stood := { row := nthOverRow, standIns := [], harness := (true, "2123cc1b16565ff52810871774f740a3a8b497c1c76176b2cb43c5cc1ad5d021"), looks := true }, kinds := [], alts := [], laidByText := true, laidKinds := [.handle], laidTests := true, laidLooks := .later }
def NthOverCardSaid : Prop := Claim7.holds Tryd.pinned (.plain (OpenSpec.ofChange nthOverSpec)) nthOverCard

/-- THE TIED CARD OF 'wattlelaw06.ValueHolds'. -/
def valueHoldsCard : Claim7 := { stood := { row := valueHoldsRow, standIns := [], harness := (true, "2123cc1b16565ff52810871774f740a3a8b497c1c76176b2cb43c5cc1ad5d021"), looks := true }, kinds := [], alts := [], laidByText := true, laidKinds := [.data, .pinned], laidTests := true, laidLooks := .later }
def ValueHoldsCardSaid : Prop := Claim7.holds Tryd.pinned (.plain (OpenSpec.ofChange valueHoldsSpec)) valueHoldsCard

/-- THE TIED CARD OF 'wattlelaw06.ValueLeast'. -/
def valueLeastCard : Claim7 := { stood := { row := valueLeastRow, standIns := [], harness := (true, "2123cc1b16565ff52810871774f740a3a8b497c1c76176b2cb43c5cc1ad5d021"), looks := true }, kinds := [], alts := [], laidByText := true, laidKinds := [.data, .pinned], laidTests := true, laidLooks := .later }
def ValueLeastCardSaid : Prop := Claim7.holds Tryd.pinned (.plain (OpenSpec.ofChange valueLeastSpec)) valueLeastCard

/-- THE TIED CARD OF 'wattlelaw06.ValueImplies'. -/
def valueImpliesCard : Claim7 := { stood := { row := valueImpliesRow, standIns := [], harness := (true, "2123cc1b16565ff52810871774f740a3a8b497c1c76176b2cb43c5cc1ad5d021"), looks := true }, kinds := [], alts := [], laidByText := true, laidKinds := [.data, .pinned], laidTests := true, laidLooks := .later }
def ValueImpliesCardSaid : Prop := Claim7.holds Tryd.pinned (.plain (OpenSpec.ofChange valueImpliesSpec)) valueImpliesCard

/-- THE TIED CARD OF 'wattlelaw06.ValueFold'. -/
def valueFoldCard : Claim7 := { stood := { row := valueFoldRow, standIns := [], harness := (true, "2123cc1b16565ff52810871774f740a3a8b497c1c76176b2cb43c5cc1ad5d021"), looks := true }, kinds := [], alts := [], laidByText := true, laidKinds := [.data, .pinned], laidTests := true, laidLooks := .later }
def ValueFoldCardSaid : Prop := Claim7.holds Tryd.pinned (.plain (OpenSpec.ofChange valueFoldSpec)) valueFoldCard

/-- THE TIED CARD OF 'wattlelaw06.ValueJoined'. -/
def valueJoinedCard : Claim7 := { stood := { row := valueJoinedRow, standIns := [], harness := (true, "2123cc1b16565ff52810871774f740a3a8b497c1c76176b2cb43c5cc1ad5d021"), looks := true }, kinds := [], alts := [], laidByText := true, laidKinds := [.data, .pinned], laidTests := true, laidLooks := .later }
def ValueJoinedCardSaid : Prop := Claim7.holds Tryd.pinned (.plain (OpenSpec.ofChange valueJoinedSpec)) valueJoinedCard

/-- THE SECOND FORM's CARD OF 'wattlelaw05.NthOver'. -/
def nthOverUptoCard : Claim7 := { stood := { row := nthOverUptoRow, standIns := [], harness := (true, "2123cc1b16565ff52810871774f740a3a8b497c1c76176b2cb43c5cc1ad5d021"), looks := true }, kinds := [], alts := [], laidByText := true, laidKinds := [.handle], laidTests := true, laidLooks := .later }
def NthOverUptoCardSaid : Prop := Claim7.holds Tryd.pinned (.plain (OpenSpec.upto nthOverSpec)) nthOverUptoCard

/-- THE SECOND FORM's CARD OF 'wattlelaw06.ValueHolds'. -/
def valueHoldsUptoCard : Claim7 := { stood := { row := valueHoldsUptoRow, standIns := [], harness := (true, "2123cc1b16565ff52810871774f740a3a8b497c1c76176b2cb43c5cc1ad5d021"), looks := true }, kinds := [], alts := [], laidByText := true, laidKinds := [.data, .pinned], laidTests := true, laidLooks := .later }
def ValueHoldsUptoCardSaid : Prop := Claim7.holds Tryd.pinned (.plain (OpenSpec.upto valueHoldsSpec)) valueHoldsUptoCard

/-- THE SECOND FORM's CARD OF 'wattlelaw06.ValueLeast'. -/
def valueLeastUptoCard : Claim7 := { stood := { row := valueLeastUptoRow, standIns := [], harness := (true, "2123cc1b16565ff52810871774f740a3a8b497c1c76176b2cb43c5cc1ad5d021"), looks := true }, kinds := [], alts := [], laidByText := true, laidKinds := [.data, .pinned], laidTests := true, laidLooks := .later }
def ValueLeastUptoCardSaid : Prop := Claim7.holds Tryd.pinned (.plain (OpenSpec.upto valueLeastSpec)) valueLeastUptoCard

/-- THE SECOND FORM's CARD OF 'wattlelaw06.ValueImplies'. -/
def valueImpliesUptoCard : Claim7 := { stood := { row := valueImpliesUptoRow, standIns := [], harness := (true, "2123cc1b16565ff52810871774f740a3a8b497c1c76176b2cb43c5cc1ad5d021"), looks := true }, kinds := [], alts := [], laidByText := true, laidKinds := [.data, .pinned], laidTests := true, laidLooks := .later }
def ValueImpliesUptoCardSaid : Prop := Claim7.holds Tryd.pinned (.plain (OpenSpec.upto valueImpliesSpec)) valueImpliesUptoCard

/-- THE SECOND FORM's CARD OF 'wattlelaw06.ValueFold'. -/
def valueFoldUptoCard : Claim7 := { stood := { row := valueFoldUptoRow, standIns := [], harness := (true, "2123cc1b16565ff52810871774f740a3a8b497c1c76176b2cb43c5cc1ad5d021"), looks := true }, kinds := [], alts := [], laidByText := true, laidKinds := [.data, .pinned], laidTests := true, laidLooks := .later }
def ValueFoldUptoCardSaid : Prop := Claim7.holds Tryd.pinned (.plain (OpenSpec.upto valueFoldSpec)) valueFoldUptoCard

/-- THE SECOND FORM's CARD OF 'wattlelaw06.ValueJoined'. -/
def valueJoinedUptoCard : Claim7 := { stood := { row := valueJoinedUptoRow, standIns := [], harness := (true, "2123cc1b16565ff52810871774f740a3a8b497c1c76176b2cb43c5cc1ad5d021"), looks := true }, kinds := [], alts := [], laidByText := true, laidKinds := [.data, .pinned], laidTests := true, laidLooks := .later }
def ValueJoinedUptoCardSaid : Prop := Claim7.holds Tryd.pinned (.plain (OpenSpec.upto valueJoinedSpec)) valueJoinedUptoCard
end Rows
end Go.Proofs.YtcfcoojnjdoeeaaDoor
