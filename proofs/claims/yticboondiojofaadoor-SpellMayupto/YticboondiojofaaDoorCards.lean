/-
  DERIVED. GIVEN WITH THE SEED: THE CARDS: each row of YticboondiojofaaDoorRows.lean that lists a variable, with what it lists TIED to the program's text (the seventh form; the later family's looks); each row that meets fmt, with fmt's text TOLD by the authors' own Lean function (tested against real Go, not proved from fmt's source: count such statements apart). THE CARD IS WHAT COUNTS. Prove the row's statement (the work); the ties are given (YticboondiojofaaDoorTie.lean); close each card by the builder's one call (the guide's Derived/Test/ToyasCard.lean, 'card_holds'). Laid BY PROGRAM, IN A SANDBOX (cutbox-door.mjs). By AI agents, Wed Nov 11 2026. No macro, syntax, notation, axiom, sorry.
-/
import Derived.Test.YticboondiojofaaDoorRows
import GoSem.ClaimSeven
namespace Go.Proofs.YticboondiojofaaDoor
namespace Rows

/-- THE TIED CARD OF 'jalousielaw4.SpellMay'. -/
def spellMayCard : Claim7 := { stood := { row := spellMayRow, standIns := [], harness := (true, "efa37c597045ff261767de2b74402e739bfc6ccfaf156bbcd85331314afa2ae8"), looks := false }, kinds := [], alts := [], laidByText := true, laidKinds := [.data, .data, .data, .data, .data, .pinned], laidTests := true, laidLooks := .later }
def SpellMayCardSaid : Prop := Claim7.holds Tryd.pinned (.plain (OpenSpec.ofChange spellMaySpec)) spellMayCard

/-- THE SECOND FORM's CARD OF 'jalousielaw4.SpellMay'. -/
def spellMayUptoCard : Claim7 := { stood := { row := spellMayUptoRow, standIns := [], harness := (true, "efa37c597045ff261767de2b74402e739bfc6ccfaf156bbcd85331314afa2ae8"), looks := false }, kinds := [], alts := [], laidByText := true, laidKinds := [.data, .data, .data, .data, .data, .pinned], laidTests := true, laidLooks := .later }
def SpellMayUptoCardSaid : Prop := Claim7.holds Tryd.pinned (.plain (OpenSpec.upto spellMaySpec)) spellMayUptoCard
end Rows
end Go.Proofs.YticboondiojofaaDoor
