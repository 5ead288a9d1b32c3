/-
  DERIVED. GIVEN WITH THE SEED: THE CARDS: each row of YticgcokhdipomaaGreatDoorRows.lean that lists a variable, with what it lists TIED to the program's text (the seventh form; the later family's looks); each row that meets fmt, with fmt's text TOLD by the authors' own Lean function (tested against real Go, not proved from fmt's source: count such statements apart). THE CARD IS WHAT COUNTS. Prove the row's statement (the work); the ties are given (YticgcokhdipomaaGreatDoorTie.lean); close each card by the builder's one call (the guide's Derived/Test/ToyasCard.lean, 'card_holds'). Laid BY PROGRAM, IN A SANDBOX (cutbox-door.mjs). By AI agents, Wed Nov 11 2026. No macro, syntax, notation, axiom, sorry.
-/
import Derived.Test.YticgcokhdipomaaGreatDoorRows
import GoSem.ClaimSeven
namespace Go.Proofs.YticgcokhdipomaaGreatDoor
namespace Rows

/-- THE TIED CARD OF 'jalousielaw12.NormNumbers'. -/
def normNumbersCard : Claim7 := { stood := { row := normNumbersRow, standIns := [], harness := (true, "25c6614243a1e5014ddfa560c50beadbd9f6efed816e0262827e69a0f14a131c"), looks := false }, kinds := [], alts := [], laidByText := true, laidKinds := [.data, .data, .data], laidTests := true, laidLooks := .later }
def NormNumbersCardSaid : Prop := Claim7.holds Tryz.pinned (.plain (OpenSpec.ofChange normNumbersSpec)) normNumbersCard

/-- THE TIED CARD OF 'jalousielaw12.NormForms'. -/
def normFormsCard : Claim7 := { stood := { row := normFormsRow, standIns := [], harness := (true, "25c6614243a1e5014ddfa560c50beadbd9f6efed816e0262827e69a0f14a131c"), looks := false }, kinds := [], alts := [], laidByText := true, laidKinds := [.data, .data, .data], laidTests := true, laidLooks := .later }
def NormFormsCardSaid : Prop := Claim7.holds Tryz.pinned (.plain (OpenSpec.ofChange normFormsSpec)) normFormsCard

/-- THE TIED CARD OF 'jalousielaw12.NormScales'. -/
def normScalesCard : Claim7 := { stood := { row := normScalesRow, standIns := [], harness := (true, "25c6614243a1e5014ddfa560c50beadbd9f6efed816e0262827e69a0f14a131c"), looks := false }, kinds := [], alts := [], laidByText := true, laidKinds := [.data, .data, .data], laidTests := true, laidLooks := .later }
def NormScalesCardSaid : Prop := Claim7.holds Tryz.pinned (.plain (OpenSpec.ofChange normScalesSpec)) normScalesCard

/-- THE SECOND FORM's CARD OF 'jalousielaw12.NormNumbers'. -/
def normNumbersUptoCard : Claim7 := { stood := { row := normNumbersUptoRow, standIns := [], harness := (true, "25c6614243a1e5014ddfa560c50beadbd9f6efed816e0262827e69a0f14a131c"), looks := false }, kinds := [], alts := [], laidByText := true, laidKinds := [.data, .data, .data], laidTests := true, laidLooks := .later }
def NormNumbersUptoCardSaid : Prop := Claim7.holds Tryz.pinned (.plain (OpenSpec.upto normNumbersSpec)) normNumbersUptoCard

/-- THE SECOND FORM's CARD OF 'jalousielaw12.NormForms'. -/
def normFormsUptoCard : Claim7 := { stood := { row := normFormsUptoRow, standIns := [], harness := (true, "25c6614243a1e5014ddfa560c50beadbd9f6efed816e0262827e69a0f14a131c"), looks := false }, kinds := [], alts := [], laidByText := true, laidKinds := [.data, .data, .data], laidTests := true, laidLooks := .later }
def NormFormsUptoCardSaid : Prop := Claim7.holds Tryz.pinned (.plain (OpenSpec.upto normFormsSpec)) normFormsUptoCard

/-- THE SECOND FORM's CARD OF 'jalousielaw12.NormScales'. -/
def normScalesUptoCard : Claim7 := { stood := { row := normScalesUptoRow, standIns := [], harness := (true, "25c6614243a1e5014ddfa560c50beadbd9f6efed816e0262827e69a0f14a131c"), looks := false }, kinds := [], alts := [], laidByText := true, laidKinds := [.data, .data, .data], laidTests := true, laidLooks := .later }
def NormScalesUptoCardSaid : Prop := Claim7.holds Tryz.pinned (.plain (OpenSpec.upto normScalesSpec)) normScalesUptoCard
end Rows
end Go.Proofs.YticgcokhdipomaaGreatDoor
