/-
  DERIVED. GIVEN WITH THE SEED: THE CARDS: each row of YtmijgeppjpafaaaDoorRows.lean that lists a variable, with what it lists TIED to the program's text (the seventh form; the later family's looks); each row that meets fmt, with fmt's text TOLD by the authors' own Lean function (tested against real Go, not proved from fmt's source: count such statements apart). THE CARD IS WHAT COUNTS. Prove the row's statement (the work); the ties are given (YtmijgeppjpafaaaDoorTie.lean); close each card by the builder's one call (the guide's Derived/Test/ToyasCard.lean, 'card_holds'). Laid BY PROGRAM, IN A SANDBOX (cutbox-door.mjs). By AI agents, Wed Nov 11 2026. No macro, syntax, notation, axiom, sorry.
-/
import Derived.Test.YtmijgeppjpafaaaDoorRows
import GoSem.ClaimSeven
namespace Go.Proofs.YtmijgeppjpafaaaDoor
namespace Rows

/-- THE TIED CARD OF 'jalousielaw1.RatPlains'. -/
def ratPlainsCard : Claim7 := { stood := { row := ratPlainsRow, standIns := [], harness := (true, "82a3687651e39f3d3c86a80a2c34271db2a0b4ec0fd092a4a19f90885ef381a2"), looks := true }, kinds := [], alts := [], laidByText := true, laidKinds := [.data, .data, .data, .data, .sentinel, .sentinel, .pinned], laidTests := true, laidLooks := .later }
def RatPlainsCardSaid : Prop := Claim7.holds Tryd.pinned (.plain (OpenSpec.ofChange ratPlainsSpec)) ratPlainsCard

/-- THE SECOND FORM's CARD OF 'jalousielaw1.RatPlains'. -/
def ratPlainsUptoCard : Claim7 := { stood := { row := ratPlainsUptoRow, standIns := [], harness := (true, "82a3687651e39f3d3c86a80a2c34271db2a0b4ec0fd092a4a19f90885ef381a2"), looks := true }, kinds := [], alts := [], laidByText := true, laidKinds := [.data, .data, .data, .data, .sentinel, .sentinel, .pinned], laidTests := true, laidLooks := .later }
def RatPlainsUptoCardSaid : Prop := Claim7.holds Tryd.pinned (.plain (OpenSpec.upto ratPlainsSpec)) ratPlainsUptoCard
end Rows
end Go.Proofs.YtmijgeppjpafaaaDoor
