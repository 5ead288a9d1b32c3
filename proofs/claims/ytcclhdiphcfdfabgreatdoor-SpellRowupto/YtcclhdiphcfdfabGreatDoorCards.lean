/-
  DERIVED. GIVEN WITH THE SEED: THE CARDS: each row of YtcclhdiphcfdfabGreatDoorRows.lean that lists a variable, with what it lists TIED to the program's text (the seventh form; the later family's looks); each row that meets fmt, with fmt's text TOLD by the authors' own Lean function (tested against real Go, not proved from fmt's source: count such statements apart). THE CARD IS WHAT COUNTS. Prove the row's statement (the work); the ties are given (YtcclhdiphcfdfabGreatDoorTie.lean); close each card by the builder's one call (the guide's Derived/Test/ToyasCard.lean, 'card_holds'). Laid BY PROGRAM, IN A SANDBOX (cutbox-door.mjs). By AI agents, Wed Nov 11 2026. No macro, syntax, notation, axiom, sorry.
-/
import Derived.Test.YtcclhdiphcfdfabGreatDoorRows
import GoSem.ClaimSeven
namespace Go.Proofs.YtcclhdiphcfdfabGreatDoor
namespace Rows

/-- THE TIED CARD OF 'jalousielaw4.SpellRow'. -/
def spellRowCard : Claim7 := { stood := { row := spellRowRow, standIns := [], harness := (true, "8aa2170e0c62418a43f0d5fa88ec3e85b8bdbfb1e5d4a75c5f6ad81e66494121"), looks := true }, kinds := [], alts := [], laidByText := true, laidKinds := [.data, .data, .data, .data, .sentinel, .sentinel, .data, .pinned], laidTests := true, laidLooks := .later }
def SpellRowCardSaid : Prop := Claim7.holds Tryz.pinned (.plain (OpenSpec.ofChange spellRowSpec)) spellRowCard

/-- THE SECOND FORM's CARD OF 'jalousielaw4.SpellRow'. -/
def spellRowUptoCard : Claim7 := { stood := { row := spellRowUptoRow, standIns := [], harness := (true, "8aa2170e0c62418a43f0d5fa88ec3e85b8bdbfb1e5d4a75c5f6ad81e66494121"), looks := true }, kinds := [], alts := [], laidByText := true, laidKinds := [.data, .data, .data, .data, .sentinel, .sentinel, .data, .pinned], laidTests := true, laidLooks := .later }
def SpellRowUptoCardSaid : Prop := Claim7.holds Tryz.pinned (.plain (OpenSpec.upto spellRowSpec)) spellRowUptoCard
end Rows
end Go.Proofs.YtcclhdiphcfdfabGreatDoor
