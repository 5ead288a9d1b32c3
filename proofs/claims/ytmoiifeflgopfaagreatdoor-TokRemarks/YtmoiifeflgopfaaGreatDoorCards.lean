/-
  DERIVED. GIVEN WITH THE SEED: THE CARDS: each row of YtmoiifeflgopfaaGreatDoorRows.lean that lists a variable, with what it lists TIED to the program's text (the seventh form; the later family's looks); each row that meets fmt, with fmt's text TOLD by the authors' own Lean function (tested against real Go, not proved from fmt's source: count such statements apart). THE CARD IS WHAT COUNTS. Prove the row's statement (the work); the ties are given (YtmoiifeflgopfaaGreatDoorTie.lean); close each card by the builder's one call (the guide's Derived/Test/ToyasCard.lean, 'card_holds'). Laid BY PROGRAM, IN A SANDBOX (cutbox-door.mjs). By AI agents, Wed Nov 11 2026. No macro, syntax, notation, axiom, sorry.
-/
import Derived.Test.YtmoiifeflgopfaaGreatDoorRows
import GoSem.ClaimSeven
namespace Go.Proofs.YtmoiifeflgopfaaGreatDoor
namespace Rows

/-- THE TIED CARD OF 'jalousielaw3.TokRemarks'. -/
def tokRemarksCard : Claim7 := { stood := { row := tokRemarksRow, standIns := [], harness := (true, "4525286f7a36a653184920250aa8be8b5a4fa1697f4799dabf785facb5d2a5cd"), looks := true }, kinds := [], alts := [], laidByText := true, laidKinds := [.data, .data, .data, .data, .sentinel, .sentinel, .pinned], laidTests := true, laidLooks := .later }
def TokRemarksCardSaid : Prop := Claim7.holds Tryz.pinned (.plain (OpenSpec.ofChange tokRemarksSpec)) tokRemarksCard

/-- THE SECOND FORM's CARD OF 'jalousielaw3.TokRemarks'. -/
def tokRemarksUptoCard : Claim7 := { stood := { row := tokRemarksUptoRow, standIns := [], harness := (true, "4525286f7a36a653184920250aa8be8b5a4fa1697f4799dabf785facb5d2a5cd"), looks := true }, kinds := [], alts := [], laidByText := true, laidKinds := [.data, .data, .data, .data, .sentinel, .sentinel, .pinned], laidTests := true, laidLooks := .later }
def TokRemarksUptoCardSaid : Prop := Claim7.holds Tryz.pinned (.plain (OpenSpec.upto tokRemarksSpec)) tokRemarksUptoCard
end Rows
end Go.Proofs.YtmoiifeflgopfaaGreatDoor
