/-
  DERIVED. GIVEN WITH THE SEED: THE CARDS: each row of YtknambgknoganaaDoorRows.lean that lists a variable, with what it lists TIED to the program's text (the seventh form; the later family's looks); each row that meets fmt, with fmt's text TOLD by the authors' own Lean function (tested against real Go, not proved from fmt's source: count such statements apart). THE CARD IS WHAT COUNTS. Prove the row's statement (the work); the ties are given (YtknambgknoganaaDoorTie.lean); close each card by the builder's one call (the guide's Derived/Test/ToyasCard.lean, 'card_holds'). Laid BY PROGRAM, IN A SANDBOX (cutbox-door.mjs). By AI agents, Wed Nov 11 2026. No macro, syntax, notation, axiom, sorry.
-/
import Derived.Test.YtknambgknoganaaDoorRows
import GoSem.ClaimSeven
namespace Go.Proofs.YtknambgknoganaaDoor
namespace Rows

/-- THE TIED CARD OF 'jalousielaw1.RatDecimals'. -/
def ratDecimalsCard : Claim7 := { stood := { row := ratDecimalsRow, standIns := [], harness := (true, "1c04a0e6e2a535009f9841003f7222a1641e10b271e8d8c0f22be1b18eb36bb7"), looks := true }, kinds := [], alts := [], laidByText := true, laidKinds := [.data, .data, .data, .data, .sentinel, .sentinel, .pinned], laidTests := true, laidLooks := .later }
def RatDecimalsCardSaid : Prop := Claim7.holds Tryd.pinned (.plain (OpenSpec.ofChange ratDecimalsSpec)) ratDecimalsCard

/-- THE SECOND FORM's CARD OF 'jalousielaw1.RatDecimals'. -/
def ratDecimalsUptoCard : Claim7 := { stood := { row := ratDecimalsUptoRow, standIns := [], harness := (true, "1c04a0e6e2a535009f9841003f7222a1641e10b271e8d8c0f22be1b18eb36bb7"), looks := true }, kinds := [], alts := [], laidByText := true, laidKinds := [.data, .data, .data, .data, .sentinel, .sentinel, .pinned], laidTests := true, laidLooks := .later }
def RatDecimalsUptoCardSaid : Prop := Claim7.holds Tryd.pinned (.plain (OpenSpec.upto ratDecimalsSpec)) ratDecimalsUptoCard
end Rows
end Go.Proofs.YtknambgknoganaaDoor
