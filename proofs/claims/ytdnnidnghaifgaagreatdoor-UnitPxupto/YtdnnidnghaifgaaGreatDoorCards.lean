/-
  DERIVED. GIVEN WITH THE SEED: THE CARDS: each row of YtdnnidnghaifgaaGreatDoorRows.lean that lists a variable, with what it lists TIED to the program's text (the seventh form; the later family's looks); each row that meets fmt, with fmt's text TOLD by the authors' own Lean function (tested against real Go, not proved from fmt's source: count such statements apart). THE CARD IS WHAT COUNTS. Prove the row's statement (the work); the ties are given (YtdnnidnghaifgaaGreatDoorTie.lean); close each card by the builder's one call (the guide's Derived/Test/ToyasCard.lean, 'card_holds'). Laid BY PROGRAM, IN A SANDBOX (cutbox-door.mjs). By AI agents, Wed Nov 11 2026. No macro, syntax, notation, axiom, sorry.
-/
import Derived.Test.YtdnnidnghaifgaaGreatDoorRows
import GoSem.ClaimSeven
namespace Go.Proofs.YtdnnidnghaifgaaGreatDoor
namespace Rows

/-- THE TIED CARD OF 'jalousielaw13.UnitSizes'. -/
def unitSizesCard : Claim7 := { stood := { row := unitSizesRow, standIns := [], harness := (true, "0b5285ac40aff4d90eb2b43d62452a716eada8b8c38c0abc3734b2996c41a80a"), looks := false }, kinds := [], alts := [], laidByText := true, laidKinds := [.data, .data, .data, .data], laidTests := true, laidLooks := .later }
def UnitSizesCardSaid : Prop := Claim7.holds Tryz.pinned (.plain (OpenSpec.ofChange unitSizesSpec)) unitSizesCard

/-- THE TIED CARD OF 'jalousielaw13.UnitPx'. -/
def unitPxCard : Claim7 := { stood := { row := unitPxRow, standIns := [], harness := (true, "0b5285ac40aff4d90eb2b43d62452a716eada8b8c38c0abc3734b2996c41a80a"), looks := false }, kinds := [], alts := [], laidByText := true, laidKinds := [.data, .data, .data, .data], laidTests := true, laidLooks := .later }
def UnitPxCardSaid : Prop := Claim7.holds Tryz.pinned (.plain (OpenSpec.ofChange unitPxSpec)) unitPxCard

/-- THE TIED CARD OF 'jalousielaw13.UnitDirect'. -/
def unitDirectCard : Claim7 := { stood := { row := unitDirectRow, standIns := [], harness := (true, "0b5285ac40aff4d90eb2b43d62452a716eada8b8c38c0abc3734b2996c41a80a"), looks := false }, kinds := [], alts := [], laidByText := true, laidKinds := [.data, .data, .data, .data], laidTests := true, laidLooks := .later }
def UnitDirectCardSaid : Prop := Claim7.holds Tryz.pinned (.plain (OpenSpec.ofChange unitDirectSpec)) unitDirectCard

/-- THE TIED CARD OF 'jalousielaw13.UnitLength'. -/
def unitLengthCard : Claim7 := { stood := { row := unitLengthRow, standIns := [], harness := (true, "0b5285ac40aff4d90eb2b43d62452a716eada8b8c38c0abc3734b2996c41a80a"), looks := false }, kinds := [], alts := [], laidByText := true, laidKinds := [.data, .data, .data, .data], laidTests := true, laidLooks := .later }
def UnitLengthCardSaid : Prop := Claim7.holds Tryz.pinned (.plain (OpenSpec.ofChange unitLengthSpec)) unitLengthCard

/-- THE TIED CARD OF 'jalousielaw13.UnitHidden'. -/
def unitHiddenCard : Claim7 := { stood := { row := unitHiddenRow, standIns := [], harness := (true, "0b5285ac40aff4d90eb2b43d62452a716eada8b8c38c0abc3734b2996c41a80a"), looks := false }, kinds := [], alts := [], laidByText := true, laidKinds := [.data, .data, .data, .data], laidTests := true, laidLooks := .later }
def UnitHiddenCardSaid : Prop := Claim7.holds Tryz.pinned (.plain (OpenSpec.ofChange unitHiddenSpec)) unitHiddenCard

/-- THE TIED CARD OF 'jalousielaw13.UnitLinear'. -/
def unitLinearCard : Claim7 := { stood := { row := unitLinearRow, standIns := [], harness := (true, "0b5285ac40aff4d90eb2b43d62452a716eada8b8c38c0abc3734b2996c41a80a"), looks := false }, kinds := [], alts := [], laidByText := true, laidKinds := [.data, .data, .data, .data], laidTests := true, laidLooks := .later }
def UnitLinearCardSaid : Prop := Claim7.holds Tryz.pinned (.plain (OpenSpec.ofChange unitLinearSpec)) unitLinearCard

/-- THE TIED CARD OF 'jalousielaw12.NormForms'. -/
def normFormsCard : Claim7 := { stood := { row := normFormsRow, standIns := [], harness := (true, "0b5285ac40aff4d90eb2b43d62452a716eada8b8c38c0abc3734b2996c41a80a"), looks := false }, kinds := [], alts := [], laidByText := true, laidKinds := [.data, .data, .data], laidTests := true, laidLooks := .later }
def NormFormsCardSaid : Prop := Claim7.holds Tryz.pinned (.plain (OpenSpec.ofChange normFormsSpec)) normFormsCard

/-- THE TIED CARD OF 'jalousielaw12.NormScales'. -/
def normScalesCard : Claim7 := { stood := { row := normScalesRow, standIns := [], harness := (true, "0b5285ac40aff4d90eb2b43d62452a716eada8b8c38c0abc3734b2996c41a80a"), looks := false }, kinds := [], alts := [], laidByText := true, laidKinds := [.data, .data, .data], laidTests := true, laidLooks := .later }
def NormScalesCardSaid : Prop := Claim7.holds Tryz.pinned (.plain (OpenSpec.ofChange normScalesSpec)) normScalesCard

/-- THE SECOND FORM's CARD OF 'jalousielaw13.UnitSizes'. -/
def unitSizesUptoCard : Claim7 := { stood := { row := unitSizesUptoRow, standIns := [], harness := (true, "0b5285ac40aff4d90eb2b43d62452a716eada8b8c38c0abc3734b2996c41a80a"), looks := false }, kinds := [], alts := [], laidByText := true, laidKinds := [.data, .data, .data, .data], laidTests := true, laidLooks := .later }
def UnitSizesUptoCardSaid : Prop := Claim7.holds Tryz.pinned (.plain (OpenSpec.upto unitSizesSpec)) unitSizesUptoCard

/-- THE SECOND FORM's CARD OF 'jalousielaw13.UnitPx'. -/
def unitPxUptoCard : Claim7 := { stood := { row := unitPxUptoRow, standIns := [], harness := (true, "0b5285ac40aff4d90eb2b43d62452a716eada8b8c38c0abc3734b2996c41a80a"), looks := false }, kinds := [], alts := [], laidByText := true, laidKinds := [.data, .data, .data, .data], laidTests := true, laidLooks := .later }
def UnitPxUptoCardSaid : Prop := Claim7.holds Tryz.pinned (.plain (OpenSpec.upto unitPxSpec)) unitPxUptoCard

/-- THE SECOND FORM's CARD OF 'jalousielaw13.UnitDirect'. -/
def unitDirectUptoCard : Claim7 := { stood := { row := unitDirectUptoRow, standIns := [], harness := (true, "0b5285ac40aff4d90eb2b43d62452a716eada8b8c38c0abc3734b2996c41a80a"), looks := false }, kinds := [], alts := [], laidByText := true, laidKinds := [.data, .data, .data, .data], laidTests := true, laidLooks := .later }
def UnitDirectUptoCardSaid : Prop := Claim7.holds Tryz.pinned (.plain (OpenSpec.upto unitDirectSpec)) unitDirectUptoCard

/-- THE SECOND FORM's CARD OF 'jalousielaw13.UnitLength'. -/
def unitLengthUptoCard : Claim7 := { stood := { row := unitLengthUptoRow, standIns := [], harness := (true, "0b5285ac40aff4d90eb2b43d62452a716eada8b8c38c0abc3734b2996c41a80a"), looks := false }, kinds := [], alts := [], laidByText := true, laidKinds := [.data, .data, .data, .data], laidTests := true, laidLooks := .later }
def UnitLengthUptoCardSaid : Prop := Claim7.holds Tryz.pinned (.plain (OpenSpec.upto unitLengthSpec)) unitLengthUptoCard

/-- THE SECOND FORM's CARD OF 'jalousielaw13.UnitHidden'. -/
def unitHiddenUptoCard : Claim7 := { stood := { row := unitHiddenUptoRow, standIns := [], harness := (true, "0b5285ac40aff4d90eb2b43d62452a716eada8b8c38c0abc3734b2996c41a80a"), looks := false }, kinds := [], alts := [], laidByText := true, laidKinds := [.data, .data, .data, .data], laidTests := true, laidLooks := .later }
def UnitHiddenUptoCardSaid : Prop := Claim7.holds Tryz.pinned (.plain (OpenSpec.upto unitHiddenSpec)) unitHiddenUptoCard

/-- THE SECOND FORM's CARD OF 'jalousielaw13.UnitLinear'. -/
def unitLinearUptoCard : Claim7 := { stood := { row := unitLinearUptoRow, standIns := [], harness := (true, "0b5285ac40aff4d90eb2b43d62452a716eada8b8c38c0abc3734b2996c41a80a"), looks := false }, kinds := [], alts := [], laidByText := true, laidKinds := [.data, .data, .data, .data], laidTests := true, laidLooks := .later }
def UnitLinearUptoCardSaid : Prop := Claim7.holds Tryz.pinned (.plain (OpenSpec.upto unitLinearSpec)) unitLinearUptoCard

/-- THE SECOND FORM's CARD OF 'jalousielaw12.NormForms'. -/
def normFormsUptoCard : Claim7 := { stood := { row := normFormsUptoRow, standIns := [], harness := (true, "0b5285ac40aff4d90eb2b43d62452a716eada8b8c38c0abc3734b2996c41a80a"), looks := false }, kinds := [], alts := [], laidByText := true, laidKinds := [.data, .data, .data], laidTests := true, laidLooks := .later }
def NormFormsUptoCardSaid : Prop := Claim7.holds Tryz.pinned (.plain (OpenSpec.upto normFormsSpec)) normFormsUptoCard

/-- THE SECOND FORM's CARD OF 'jalousielaw12.NormScales'. -/
def normScalesUptoCard : Claim7 := { stood := { row := normScalesUptoRow, standIns := [], harness := (true, "0b5285ac40aff4d90eb2b43d62452a716eada8b8c38c0abc3734b2996c41a80a"), looks := false }, kinds := [], alts := [], laidByText := true, laidKinds := [.data, .data, .data], laidTests := true, laidLooks := .later }
def NormScalesUptoCardSaid : Prop := Claim7.holds Tryz.pinned (.plain (OpenSpec.upto normScalesSpec)) normScalesUptoCard
end Rows
end Go.Proofs.YtdnnidnghaifgaaGreatDoor
