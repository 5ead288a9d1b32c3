/-
  DERIVED. GIVEN WITH THE SEED: THE CARDS: each row of YtckefmhleklciaaGreatDoorRows.lean that lists a variable, with what it lists TIED to the program's text (the seventh form; the later family's looks); each row that meets fmt, with fmt's text TOLD by the authors' own Lean function (tested against real Go, not proved from fmt's source: count such statements apart). THE CARD IS WHAT COUNTS. Prove the row's statement (the work); the ties are given (YtckefmhleklciaaGreatDoorTie.lean); close each card by the builder's one call (the guide's Derived/Test/ToyasCard.lean, 'card_holds'). Laid BY PROGRAM, IN A SANDBOX (cutbox-door.mjs). By AI agents, Wed Nov 11 2026. No macro, syntax, notation, axiom, sorry.
-/
import Derived.Test.YtckefmhleklciaaGreatDoorRows
import GoSem.ClaimSeven
namespace Go.Proofs.YtckefmhleklciaaGreatDoor
namespace Rows

/-- THE TIED CARD OF 'jalousielaw3.TokTokens'. -/
def tokTokensCard : Claim7 := { stood := { row := tokTokensRow, standIns := [], harness := (true, "5a3663a6fee36478a6cf91478bb9565feace1a898950eb2a6032bac963377bbc"), looks := true }, kinds := [], alts := [], laidByText := true, laidKinds := [.data, .data, .data, .data, .sentinel, .sentinel, .data, .pinned], laidTests := true, laidLooks := .later }
def TokTokensCardSaid : Prop := Claim7.holds Tryz.pinned (.plain (OpenSpec.ofChange tokTokensSpec)) tokTokensCard

/-- THE TIED CARD OF 'jalousielaw3.TokBytes'. -/
def tokBytesCard : Claim7 := { stood := { row := tokBytesRow, standIns := [], harness := (true, "5a3663a6fee36478a6cf91478bb9565feace1a898950eb2a6032bac963377bbc"), looks := true }, kinds := [], alts := [], laidByText := true, laidKinds := [.data, .data, .data, .data, .sentinel, .sentinel, .data, .pinned], laidTests := true, laidLooks := .later }
def TokBytesCardSaid : Prop := Claim7.holds Tryz.pinned (.plain (OpenSpec.ofChange tokBytesSpec)) tokBytesCard

/-- THE TIED CARD OF 'jalousielaw3.TokFew'. -/
def tokFewCard : Claim7 := { stood := { row := tokFewRow, standIns := [], harness := (true, "5a3663a6fee36478a6cf91478bb9565feace1a898950eb2a6032bac963377bbc"), looks := true }, kinds := [], alts := [], laidByText := true, laidKinds := [.data, .data, .data, .data, .sentinel, .sentinel, .pinned], laidTests := true, laidLooks := .later }
def TokFewCardSaid : Prop := Claim7.holds Tryz.pinned (.plain (OpenSpec.ofChange tokFewSpec)) tokFewCard

/-- THE TIED CARD OF 'jalousielaw3.TokParts'. -/
def tokPartsCard : Claim7 := { stood := { row := tokPartsRow, standIns := [], harness := (true, "5a3663a6fee36478a6cf91478bb9565feace1a898950eb2a6032bac963377bbc"), looks := true }, kinds := [], alts := [], laidByText := true, laidKinds := [.data, .data, .data, .data, .sentinel, .sentinel, .pinned], laidTests := true, laidLooks := .later }
def TokPartsCardSaid : Prop := Claim7.holds Tryz.pinned (.plain (OpenSpec.ofChange tokPartsSpec)) tokPartsCard

/-- THE TIED CARD OF 'jalousielaw3.TokRemarks'. -/
def tokRemarksCard : Claim7 := { stood := { row := tokRemarksRow, standIns := [], harness := (true, "5a3663a6fee36478a6cf91478bb9565feace1a898950eb2a6032bac963377bbc"), looks := true }, kinds := [], alts := [], laidByText := true, laidKinds := [.data, .data, .data, .data, .sentinel, .sentinel, .pinned], laidTests := true, laidLooks := .later }
def TokRemarksCardSaid : Prop := Claim7.holds Tryz.pinned (.plain (OpenSpec.ofChange tokRemarksSpec)) tokRemarksCard

/-- THE SECOND FORM's CARD OF 'jalousielaw3.TokTokens'. -/
def tokTokensUptoCard : Claim7 := { stood := { row := tokTokensUptoRow, standIns := [], harness := (true, "5a3663a6fee36478a6cf91478bb9565feace1a898950eb2a6032bac963377bbc"), looks := true }, kinds := [], alts := [], laidByText := true, laidKinds := [.data, .data, .data, .data, .sentinel, .sentinel, .data, .pinned], laidTests := true, laidLooks := .later }
def TokTokensUptoCardSaid : Prop := Claim7.holds Tryz.pinned (.plain (OpenSpec.upto tokTokensSpec)) tokTokensUptoCard

/-- THE SECOND FORM's CARD OF 'jalousielaw3.TokBytes'. -/
def tokBytesUptoCard : Claim7 := { stood := { row := tokBytesUptoRow, standIns := [], harness := (true, "5a3663a6fee36478a6cf91478bb9565feace1a898950eb2a6032bac963377bbc"), looks := true }, kinds := [], alts := [], laidByText := true, laidKinds := [.data, .data, .data, .data, .sentinel, .sentinel, .data, .pinned], laidTests := true, laidLooks := .later }
def TokBytesUptoCardSaid : Prop := Claim7.holds Tryz.pinned (.plain (OpenSpec.upto tokBytesSpec)) tokBytesUptoCard

/-- THE SECOND FORM's CARD OF 'jalousielaw3.TokFew'. -/
def tokFewUptoCard : Claim7 := { stood := { row := tokFewUptoRow, standIns := [], harness := (true, "5a3663a6fee36478a6cf91478bb9565feace1a898950eb2a6032bac963377bbc"), looks := true }, kinds := [], alts := [], laidByText := true, laidKinds := [.data, .data, .data, .data, .sentinel, .sentinel, .pinned], laidTests := true, laidLooks := .later }
def TokFewUptoCardSaid : Prop := Claim7.holds Tryz.pinned (.plain (OpenSpec.upto tokFewSpec)) tokFewUptoCard

/-- THE SECOND FORM's CARD OF 'jalousielaw3.TokParts'. -/
def tokPartsUptoCard : Claim7 := { stood := { row := tokPartsUptoRow, standIns := [], harness := (true, "5a3663a6fee36478a6cf91478bb9565feace1a898950eb2a6032bac963377bbc"), looks := true }, kinds := [], alts := [], laidByText := true, laidKinds := [.data, .data, .data, .data, .sentinel, .sentinel, .pinned], laidTests := true, laidLooks := .later }
def TokPartsUptoCardSaid : Prop := Claim7.holds Tryz.pinned (.plain (OpenSpec.upto tokPartsSpec)) tokPartsUptoCard

/-- THE SECOND FORM's CARD OF 'jalousielaw3.TokRemarks'. -/
def tokRemarksUptoCard : Claim7 := { stood := { row := tokRemarksUptoRow, standIns := [], harness := (true, "5a3663a6fee36478a6cf91478bb9565feace1a898950eb2a6032bac963377bbc"), looks := true }, kinds := [], alts := [], laidByText := true, laidKinds := [.data, .data, .data, .data, .sentinel, .sentinel, .pinned], laidTests := true, laidLooks := .later }
def TokRemarksUptoCardSaid : Prop := Claim7.holds Tryz.pinned (.plain (OpenSpec.upto tokRemarksSpec)) tokRemarksUptoCard
end Rows
end Go.Proofs.YtckefmhleklciaaGreatDoor
