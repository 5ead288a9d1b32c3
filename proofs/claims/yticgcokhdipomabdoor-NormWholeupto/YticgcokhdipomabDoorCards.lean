/-
  DERIVED. GIVEN WITH THE SEED: THE CARDS: each row of YticgcokhdipomabDoorRows.lean that lists a variable, with what it lists TIED to the program's text (the seventh form; the later family's looks); each row that meets fmt, with fmt's text TOLD by the authors' own Lean function (tested against real Go, not proved from fmt's source: count such statements apart). THE CARD IS WHAT COUNTS. Prove the row's statement (the work); the ties are given (YticgcokhdipomabDoorTie.lean); close each card by the builder's one call (the guide's Derived/Test/ToyasCard.lean, 'card_holds'). Laid BY PROGRAM, IN A SANDBOX (cutbox-door.mjs). By AI agents, Wed Nov 11 2026. No macro, syntax, notation, axiom, sorry.
-/
import Derived.Test.YticgcokhdipomabDoorRows
import GoSem.ClaimSeven
namespace Go.Proofs.YticgcokhdipomabDoor
namespace Rows

/-- THE TIED CARD OF 'jalousielaw12.NormBrackets'. -/
def normBracketsCard : Claim7 := { stood := { row := normBracketsRow, standIns := [], harness := (true, "d537f2d53045dbf8a9e7804018f502e907661f839729e86a2c528e4e587fff80"), looks := false }, kinds := [], alts := [], laidByText := true, laidKinds := [.data, .data, .data], laidTests := true, laidLooks := .later }
def NormBracketsCardSaid : Prop := Claim7.holds Tryd.pinned (.plain (OpenSpec.ofChange normBracketsSpec)) normBracketsCard

/-- THE TIED CARD OF 'jalousielaw12.NormScaled'. -/
def normScaledCard : Claim7 := { stood := { row := normScaledRow, standIns := [], harness := (true, "d537f2d53045dbf8a9e7804018f502e907661f839729e86a2c528e4e587fff80"), looks := false }, kinds := [], alts := [], laidByText := true, laidKinds := [.data, .data, .data], laidTests := true, laidLooks := .later }
def NormScaledCardSaid : Prop := Claim7.holds Tryd.pinned (.plain (OpenSpec.ofChange normScaledSpec)) normScaledCard

/-- THE TIED CARD OF 'jalousielaw12.NormTwice'. -/
def normTwiceCard : Claim7 := { stood := { row := normTwiceRow, standIns := [], harness := (true, "d537f2d53045dbf8a9e7804018f502e907661f839729e86a2c528e4e587fff80"), looks := false }, kinds := [], alts := [], laidByText := true, laidKinds := [.data, .data, .data], laidTests := true, laidLooks := .later }
def NormTwiceCardSaid : Prop := Claim7.holds Tryd.pinned (.plain (OpenSpec.ofChange normTwiceSpec)) normTwiceCard

/-- THE TIED CARD OF 'jalousielaw12.NormWhole'. -/
def normWholeCard : Claim7 := { stood := { row := normWholeRow, standIns := [], harness := (true, "d537f2d53045dbf8a9e7804018f502e907661f839729e86a2c528e4e587fff80"), looks := false }, kinds := [], alts := [], laidByText := true, laidKinds := [.data, .data, .data], laidTests := true, laidLooks := .later }
def NormWholeCardSaid : Prop := Claim7.holds Tryd.pinned (.plain (OpenSpec.ofChange normWholeSpec)) normWholeCard

/-- THE SECOND FORM's CARD OF 'jalousielaw12.NormBrackets'. -/
def normBracketsUptoCard : Claim7 := { stood := { row := normBracketsUptoRow, standIns := [], harness := (true, "d537f2d53045dbf8a9e7804018f502e907661f839729e86a2c528e4e587fff80"), looks := false }, kinds := [], alts := [], laidByText := true, laidKinds := [.data, .data, .data], laidTests := true, laidLooks := .later }
def NormBracketsUptoCardSaid : Prop := Claim7.holds Tryd.pinned (.plain (OpenSpec.upto normBracketsSpec)) normBracketsUptoCard

/-- THE SECOND FORM's CARD OF 'jalousielaw12.NormScaled'. -/
def normScaledUptoCard : Claim7 := { stood := { row := normScaledUptoRow, standIns := [], harness := (true, "d537f2d53045dbf8a9e7804018f502e907661f839729e86a2c528e4e587fff80"), looks := false }, kinds := [], alts := [], laidByText := true, laidKinds := [.data, .data, .data], laidTests := true, laidLooks := .later }
def NormScaledUptoCardSaid : Prop := Claim7.holds Tryd.pinned (.plain (OpenSpec.upto normScaledSpec)) normScaledUptoCard

/-- THE SECOND FORM's CARD OF 'jalousielaw12.NormTwice'. -/
def normTwiceUptoCard : Claim7 := { stood := { row := normTwiceUptoRow, standIns := [], harness := (true, "d537f2d53045dbf8a9e7804018f502e907661f839729e86a2c528e4e587fff80"), looks := false }, kinds := [], alts := [], laidByText := true, laidKinds := [.data, .data, .data], laidTests := true, laidLooks := .later }
def NormTwiceUptoCardSaid : Prop := Claim7.holds Tryd.pinned (.plain (OpenSpec.upto normTwiceSpec)) normTwiceUptoCard

/-- THE SECOND FORM's CARD OF 'jalousielaw12.NormWhole'. -/
def normWholeUptoCard : Claim7 := { stood := { row := normWholeUptoRow, standIns := [], harness := (true, "d537f2d53045dbf8a9e7804018f502e907661f839729e86a2c528e4e587fff80"), looks := false }, kinds := [], alts := [], laidByText := true, laidKinds := [.data, .data, .data], laidTests := true, laidLooks := .later }
def NormWholeUptoCardSaid : Prop := Claim7.holds Tryd.pinned (.plain (OpenSpec.upto normWholeSpec)) normWholeUptoCard
end Rows
end Go.Proofs.YticgcokhdipomabDoor
