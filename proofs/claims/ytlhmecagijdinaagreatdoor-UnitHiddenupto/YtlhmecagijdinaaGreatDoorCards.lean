/-
  DERIVED. GIVEN WITH THE SEED: THE CARDS: each row of YtlhmecagijdinaaGreatDoorRows.lean that lists a variable, with what it lists TIED to the program's text (the seventh form; the later family's looks); each row that meets fmt, with fmt's text TOLD by the authors' own Lean function (tested against real Go, not proved from fmt's source: count such statements apart). THE CARD IS WHAT COUNTS. Prove the row's statement (the work); the ties are given (YtlhmecagijdinaaGreatDoorTie.lean); close each card by the builder's one call (the guide's Derived/Test/ToyasCard.lean, 'card_holds'). Laid BY PROGRAM, IN A SANDBOX (cutbox-door.mjs). By AI agents, Wed Nov 11 2026. No macro, syntax, notation, axiom, sorry.
-/
import Derived.Test.YtlhmecagijdinaaGreatDoorRows
import GoSem.ClaimSeven
namespace Go.Proofs.YtlhmecagijdinaaGreatDoor
namespace Rows

/-- THE TIED CARD OF 'jalousielaw12.NormForms'. -/
def normFormsCard : Claim7 := { stood := { row := normFormsRow, standIns := [], harness := (true, "b400c1e7862fd82d9f03dd76216b8195afc2e60759af8c78fd69fd52eb15ebdf"), looks := false }, kinds := [], alts := [], laidByText := true, laidKinds := [.data, .data, .data], laidTests := true, laidLooks := .later }
def NormFormsCardSaid : Prop := Claim7.holds Tryz.pinned (.plain (OpenSpec.ofChange normFormsSpec)) normFormsCard

/-- THE TIED CARD OF 'jalousielaw12.NormScales'. -/
def normScalesCard : Claim7 := { stood := { row := normScalesRow, standIns := [], harness := (true, "b400c1e7862fd82d9f03dd76216b8195afc2e60759af8c78fd69fd52eb15ebdf"), looks := false }, kinds := [], alts := [], laidByText := true, laidKinds := [.data, .data, .data], laidTests := true, laidLooks := .later }
def NormScalesCardSaid : Prop := Claim7.holds Tryz.pinned (.plain (OpenSpec.ofChange normScalesSpec)) normScalesCard

/-- THE TIED CARD OF 'jalousielaw13.UnitLength'. -/
def unitLengthCard : Claim7 := { stood := { row := unitLengthRow, standIns := [], harness := (true, "b400c1e7862fd82d9f03dd76216b8195afc2e60759af8c78fd69fd52eb15ebdf"), looks := false }, kinds := [], alts := [], laidByText := true, laidKinds := [.data, .data, .data, .data], laidTests := true, laidLooks := .later }
def UnitLengthCardSaid : Prop := Claim7.holds Tryz.pinned (.plain (OpenSpec.ofChange unitLengthSpec)) unitLengthCard

/-- THE TIED CARD OF 'jalousielaw13.UnitHidden'. -/
def unitHiddenCard : Claim7 := { stood := { row := unitHiddenRow, standIns := [], harness := (true, "b400c1e7862fd82d9f03dd76216b8195afc2e60759af8c78fd69fd52eb15ebdf"), looks := false }, kinds := [], alts := [], laidByText := true, laidKinds := [.data, .data, .data, .data], laidTests := true, laidLooks := .later }
def UnitHiddenCardSaid : Prop := Claim7.holds Tryz.pinned (.plain (OpenSpec.ofChange unitHiddenSpec)) unitHiddenCard

/-- THE TIED CARD OF 'jalousielaw13.UnitLinear'. -/
def unitLinearCard : Claim7 := { stood := { row := unitLinearRow, standIns := [], harness := (true, "b400c1e7862fd82d9f03dd76216b8195afc2e60759af8c78fd69fd52eb15ebdf"), looks := false }, kinds := [], alts := [], laidByText := true, laidKinds := [.data, .data, .data, .data], laidTests := true, laidLooks := .later }
def UnitLinearCardSaid : Prop := Claim7.holds Tryz.pinned (.plain (OpenSpec.ofChange unitLinearSpec)) unitLinearCard

/-- THE SECOND FORM's CARD OF 'jalousielaw12.NormForms'. -/
def normFormsUptoCard : Claim7 := { stood := { row := normFormsUptoRow, standIns := [], harness := (true, "b400c1e7862fd82d9f03dd76216b8195afc2e60759af8c78fd69fd52eb15ebdf"), looks := false }, kinds := [], alts := [], laidByText := true, laidKinds := [.data, .data, .data], laidTests := true, laidLooks := .later }
def NormFormsUptoCardSaid : Prop := Claim7.holds Tryz.pinned (.plain (OpenSpec.upto normFormsSpec)) normFormsUptoCard

/-- THE SECOND FORM's CARD OF 'jalousielaw12.NormScales'. -/
def normScalesUptoCard : Claim7 := { stood := { row := normScalesUptoRow, standIns := [], harness := (true, "b400c1e7862fd82d9f03dd76216b8195afc2e60759af8c78fd69fd52eb15ebdf"), looks := false }, kinds := [], alts := [], laidByText := true, laidKinds := [.data, .data, .data], laidTests := true, laidLooks := .later }
def NormScalesUptoCardSaid : Prop := Claim7.holds Tryz.pinned (.plain (OpenSpec.upto normScalesSpec)) normScalesUptoCard

/-- THE SECOND FORM's CARD OF 'jalousielaw13.UnitLength'. -/
def unitLengthUptoCard : Claim7 := { stood := { row := unitLengthUptoRow, standIns := [], harness := (true, "b400c1e7862fd82d9f03dd76216b8195afc2e60759af8c78fd69fd52eb15ebdf"), looks := false }, kinds := [], alts := [], laidByText := true, laidKinds := [.data, .data, .data, .data], laidTests := true, laidLooks := .later }
def UnitLengthUptoCardSaid : Prop := Claim7.holds Tryz.pinned (.plain (OpenSpec.upto unitLengthSpec)) unitLengthUptoCard

/-- THE SECOND FORM's CARD OF 'jalousielaw13.UnitHidden'. -/
def unitHiddenUptoCard : Claim7 := { stood := { row := unitHiddenUptoRow, standIns := [], harness := (true, "b400c1e7862fd82d9f03dd76216b8195afc2e60759af8c78fd69fd52eb15ebdf"), looks := false }, kinds := [], alts := [], laidByText := true, laidKinds := [.data, .data, .data, .data], laidTests := true, laidLooks := .later }
def UnitHiddenUptoCardSaid : Prop := Claim7.holds Tryz.pinned (.plain (OpenSpec.upto unitHiddenSpec)) unitHiddenUptoCard

/-- THE SECOND FORM's CARD OF 'jalousielaw13.UnitLinear'. -/
def unitLinearUptoCard : Claim7 := { stood := { row := unitLinearUptoRow, standIns := [], harness := (true, "b400c1e7862fd82d9f03dd76216b8195afc2e60759af8c78fd69fd52eb15ebdf"), looks := false }, kinds := [], alts := [], laidByText := true, laidKinds := [.data, .data, .data, .data], laidTests := true, laidLooks := .later }
def UnitLinearUptoCardSaid : Prop := Claim7.holds Tryz.pinned (.plain (OpenSpec.upto unitLinearSpec)) unitLinearUptoCard
end Rows
end Go.Proofs.YtlhmecagijdinaaGreatDoor
