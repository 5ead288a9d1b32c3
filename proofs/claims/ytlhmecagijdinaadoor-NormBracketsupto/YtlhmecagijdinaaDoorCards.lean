/-
  DERIVED. GIVEN WITH THE SEED: THE CARDS: each row of YtlhmecagijdinaaDoorRows.lean that lists a variable, with what it lists TIED to the program's text (the seventh form; the later family's looks); each row that meets fmt, with fmt's text TOLD by the authors' own Lean function (tested against real Go, not proved from fmt's source: count such statements apart). THE CARD IS WHAT COUNTS. Prove the row's statement (the work); the ties are given (YtlhmecagijdinaaDoorTie.lean); close each card by the builder's one call (the guide's Derived/Test/ToyasCard.lean, 'card_holds'). Laid BY PROGRAM, IN A SANDBOX (cutbox-door.mjs). By AI agents, Wed Nov 11 2026. No macro, syntax, notation, axiom, sorry.
-/
import Derived.Test.YtlhmecagijdinaaDoorRows
import GoSem.ClaimSeven
namespace Go.Proofs.YtlhmecagijdinaaDoor
namespace Rows

/-- THE TIED CARD OF 'jalousielaw12.NormBrackets'. -/
def normBracketsCard : Claim7 := { stood := { row := normBracketsRow, standIns := [], harness := (true, "96c547915d9d331dfe12494f024127629b3e197a6c613055c15205e4354ceddf"), looks := false }, kinds := [], alts := [], laidByText := true, laidKinds := [.data, .data, .data], laidTests := true, laidLooks := .later }
def NormBracketsCardSaid : Prop := Claim7.holds Tryd.pinned (.plain (OpenSpec.ofChange normBracketsSpec)) normBracketsCard

/-- THE TIED CARD OF 'jalousielaw12.NormScaled'. -/
def normScaledCard : Claim7 := { stood := { row := normScaledRow, standIns := [], harness := (true, "96c547915d9d331dfe12494f024127629b3e197a6c613055c15205e4354ceddf"), looks := false }, kinds := [], alts := [], laidByText := true, laidKinds := [.data, .data, .data], laidTests := true, laidLooks := .later }
def NormScaledCardSaid : Prop := Claim7.holds Tryd.pinned (.plain (OpenSpec.ofChange normScaledSpec)) normScaledCard

/-- THE TIED CARD OF 'jalousielaw12.NormTwice'. -/
def normTwiceCard : Claim7 := { stood := { row := normTwiceRow, standIns := [], harness := (true, "96c547915d9d331dfe12494f024127629b3e197a6c613055c15205e4354ceddf"), looks := false }, kinds := [], alts := [], laidByText := true, laidKinds := [.data, .data, .data], laidTests := true, laidLooks := .later }
def NormTwiceCardSaid : Prop := Claim7.holds Tryd.pinned (.plain (OpenSpec.ofChange normTwiceSpec)) normTwiceCard

/-- THE SECOND FORM's CARD OF 'jalousielaw12.NormBrackets'. -/
def normBracketsUptoCard : Claim7 := { stood := { row := normBracketsUptoRow, standIns := [], harness := (true, "96c547915d9d331dfe12494f024127629b3e197a6c613055c15205e4354ceddf"), looks := false }, kinds := [], alts := [], laidByText := true, laidKinds := [.data, .data, .data], laidTests := true, laidLooks := .later }
def NormBracketsUptoCardSaid : Prop := Claim7.holds Tryd.pinned (.plain (OpenSpec.upto normBracketsSpec)) normBracketsUptoCard

/-- THE SECOND FORM's CARD OF 'jalousielaw12.NormScaled'. -/
def normScaledUptoCard : Claim7 := { stood := { row := normScaledUptoRow, standIns := [], harness := (true, "96c547915d9d331dfe12494f024127629b3e197a6c613055c15205e4354ceddf"), looks := false }, kinds := [], alts := [], laidByText := true, laidKinds := [.data, .data, .data], laidTests := true, laidLooks := .later }
def NormScaledUptoCardSaid : Prop := Claim7.holds Tryd.pinned (.plain (OpenSpec.upto normScaledSpec)) normScaledUptoCard

/-- THE SECOND FORM's CARD OF 'jalousielaw12.NormTwice'. -/
def normTwiceUptoCard : Claim7 := { stood := { row := normTwiceUptoRow, standIns := [], harness := (true, "96c547915d9d331dfe12494f024127629b3e197a6c613055c15205e4354ceddf"), looks := false }, kinds := [], alts := [], laidByText := true, laidKinds := [.data, .data, .data], laidTests := true, laidLooks := .later }
def NormTwiceUptoCardSaid : Prop := Claim7.holds Tryd.pinned (.plain (OpenSpec.upto normTwiceSpec)) normTwiceUptoCard
end Rows
end Go.Proofs.YtlhmecagijdinaaDoor
