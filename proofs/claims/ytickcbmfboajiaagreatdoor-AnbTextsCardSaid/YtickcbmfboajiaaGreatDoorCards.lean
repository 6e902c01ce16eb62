/-
  DERIVED. GIVEN WITH THE SEED: THE CARDS: each row of YtickcbmfboajiaaGreatDoorRows.lean that lists a variable, with what it lists TIED to the program's text (the seventh form; the later family's looks); each row that meets fmt, with fmt's text TOLD by the authors' own Lean function (tested against real Go, not proved from fmt's source: count such statements apart). THE CARD IS WHAT COUNTS. Prove the row's statement (the work); the ties are given (YtickcbmfboajiaaGreatDoorTie.lean); close each card by the builder's one call (the guide's Derived/Test/ToyasCard.lean, 'card_holds'). Laid BY PROGRAM, IN A SANDBOX (cutbox-door.mjs). By AI agents, Wed Nov 11 2026. No macro, syntax, notation, axiom, sorry.
-/
import Derived.Test.YtickcbmfboajiaaGreatDoorRows
import GoSem.ClaimSeven
namespace Go.Proofs.YtickcbmfboajiaaGreatDoor
namespace Rows

/-- THE TIED CARD OF 'wattlelaw03.TokenReads'. -/
def tokenReadsCard : Claim7 := { stood := { row := tokenReadsRow, standIns := [], harness := (true, "07b18df672df15be8f12bee2825cac2d6ef0fb58ece11f6043e451a50c6f936d"), looks := true }, kinds := [], alts := [], laidByText := true, laidKinds := [.data, .data, .pinned], laidTests := true, laidLooks := .later }
def TokenReadsCardSaid : Prop := Claim7.holds Tryz.pinned (.plain (OpenSpec.ofChange tokenReadsSpec)) tokenReadsCard

/-- THE TIED CARD OF 'wattlelaw04.AnbReads'. -/
def anbReadsCard : Claim7 := { stood := { row := anbReadsRow, standIns := [], harness := (true, "07b18df672df15be8f12bee2825cac2d6ef0fb58ece11f6043e451a50c6f936d"), looks := true }, kinds := [], alts := [], laidByText := true, laidKinds := [.data, .data, .data, .handle, .sentinel, .sentinel], laidTests := true, laidLooks := .later }
def AnbReadsCardSaid : Prop := Claim7.holds Tryz.pinned (.plain (OpenSpec.ofChange anbReadsSpec)) anbReadsCard

/-- THE TIED CARD OF 'wattlelaw04.AnbTexts'. -/
def anbTextsCard : Claim7 := { stood := { row := anbTextsRow, standIns := [], harness := (true, "07b18df672df15be8f12bee2825cac2d6ef0fb58ece11f6043e451a50c6f936d"), looks := true }, kinds := [], alts := [], laidByText := true, laidKinds := [.data, .data, .data, .handle, .sentinel, .sentinel], laidTests := true, laidLooks := .later }
def AnbTextsCardSaid : Prop := Claim7.holds Tryz.pinned (.plain (OpenSpec.ofChange anbTextsSpec)) anbTextsCard

/-- THE TIED CARD OF 'wattlelaw04.AnbCases'. -/
def anbCasesCard : Claim7 := { stood := { row := anbCasesRow, standIns := [], harness := (true, "07b18df672df15be8f12bee2825cac2d6ef0fb58ece11f6043e451a50c6f936d"), looks := true }, kinds := [], alts := [], laidByText := true, laidKinds := [.data, .data, .data, .sentinel, .sentinel], laidTests := true, laidLooks := .later }
def AnbCasesCardSaid : Prop := Claim7.holds Tryz.pinned (.plain (OpenSpec.ofChange anbCasesSpec)) anbCasesCard

/-- THE SECOND FORM's CARD OF 'wattlelaw03.TokenReads'. -/
def tokenReadsUptoCard : Claim7 := { stood := { row := tokenReadsUptoRow, standIns := [], harness := (true, "07b18df672df15be8f12bee2825cac2d6ef0fb58ece11f6043e451a50c6f936d"), looks := true }, kinds := [], alts := [], laidByText := true, laidKinds := [.data, .data, .pinned], laidTests := true, laidLooks := .later }
def TokenReadsUptoCardSaid : Prop := Claim7.holds Tryz.pinned (.plain (OpenSpec.upto tokenReadsSpec)) tokenReadsUptoCard

/-- THE SECOND FORM's CARD OF 'wattlelaw04.AnbReads'. -/
def anbReadsUptoCard : Claim7 := { stood := { row := anbReadsUptoRow, standIns := [], harness := (true, "07b18df672df15be8f12bee2825cac2d6ef0fb58ece11f6043e451a50c6f936d"), looks := true }, kinds := [], alts := [], laidByText := true, laidKinds := [.data, .data, .data, .handle, .sentinel, .sentinel], laidTests := true, laidLooks := .later }
def AnbReadsUptoCardSaid : Prop := Claim7.holds Tryz.pinned (.plain (OpenSpec.upto anbReadsSpec)) anbReadsUptoCard

/-- THE SECOND FORM's CARD OF 'wattlelaw04.AnbTexts'. -/
def anbTextsUptoCard : Claim7 := { stood := { row := anbTextsUptoRow, standIns := [], harness := (true, "07b18df672df15be8f12bee2825cac2d6ef0fb58ece11f6043e451a50c6f936d"), looks := true }, kinds := [], alts := [], laidByText := true, laidKinds := [.data, .data, .data, .handle, .sentinel, .sentinel], laidTests := true, laidLooks := .later }
def AnbTextsUptoCardSaid : Prop := Claim7.holds Tryz.pinned (.plain (OpenSpec.upto anbTextsSpec)) anbTextsUptoCard

/-- THE SECOND FORM's CARD OF 'wattlelaw04.AnbCases'. -/
def anbCasesUptoCard : Claim7 := { stood := { row := anbCasesUptoRow, standIns := [], harness := (true, "07b18df672df15be8f12bee2825cac2d6ef0fb58ece11f6043e451a50c6f936d"), looks := true }, kinds := [], alts := [], laidByText := true, laidKinds := [.data, .data, .data, .sentinel, .sentinel], laidTests := true, laidLooks := .later }
def AnbCasesUptoCardSaid : Prop := Claim7.holds Tryz.pinned (.plain (OpenSpec.upto anbCasesSpec)) anbCasesUptoCard
end Rows
end Go.Proofs.YtickcbmfboajiaaGreatDoor
