/-
  DERIVED. GIVEN WITH THE SEED: THE CARDS: each row of YticgcokhdipomaaDoorRows.lean that lists a variable, with what it lists TIED to the program's text (the seventh form; the later family's looks); each row that meets fmt, with fmt's text TOLD by the authors' own Lean function (tested against real Go, not proved from fmt's source: count such statements apart). THE CARD IS WHAT COUNTS. Prove the row's statement (the work); the ties are given (YticgcokhdipomaaDoorTie.lean); close each card by the builder's one call (the guide's Derived/Test/ToyasCard.lean, 'card_holds'). Laid BY PROGRAM, IN A SANDBOX (cutbox-door.mjs). By AI agents, Wed Nov 11 2026. No macro, syntax, notation, axiom, sorry.
-/
import Derived.Test.YticgcokhdipomaaDoorRows
import GoSem.ClaimSeven
namespace Go.Proofs.YticgcokhdipomaaDoor
namespace Rows

/-- THE TIED CARD OF 'jalousielaw12.NormAdds'. -/
def normAddsCard : Claim7 := { stood := { row := normAddsRow, standIns := [], harness := (true, "27e946e5089127052d15fce1d0100a62cf19e73959c17525dc9ffc8c77efed59"), looks := false }, kinds := [], alts := [], laidByText := true, laidKinds := [.data, .data, .data], laidTests := true, laidLooks := .later }
def NormAddsCardSaid : Prop := Claim7.holds Tryd.pinned (.plain (OpenSpec.ofChange normAddsSpec)) normAddsCard

/-- THE TIED CARD OF 'jalousielaw12.NormPicks'. -/
def normPicksCard : Claim7 := { stood := { row := normPicksRow, standIns := [], harness := (true, "27e946e5089127052d15fce1d0100a62cf19e73959c17525dc9ffc8c77efed59"), looks := false }, kinds := [], alts := [], laidByText := true, laidKinds := [.data, .data, .data], laidTests := true, laidLooks := .later }
def NormPicksCardSaid : Prop := Claim7.holds Tryd.pinned (.plain (OpenSpec.ofChange normPicksSpec)) normPicksCard

/-- THE TIED CARD OF 'jalousielaw12.NormMay'. -/
def normMayCard : Claim7 := { stood := { row := normMayRow, standIns := [], harness := (true, "27e946e5089127052d15fce1d0100a62cf19e73959c17525dc9ffc8c77efed59"), looks := false }, kinds := [], alts := [], laidByText := true, laidKinds := [.data, .data, .data], laidTests := true, laidLooks := .later }
def NormMayCardSaid : Prop := Claim7.holds Tryd.pinned (.plain (OpenSpec.ofChange normMaySpec)) normMayCard

/-- THE SECOND FORM's CARD OF 'jalousielaw12.NormAdds'. -/
def normAddsUptoCard : Claim7 := { stood := { row := normAddsUptoRow, standIns := [], harness := (true, "27e946e5089127052d15fce1d0100a62cf19e73959c17525dc9ffc8c77efed59"), looks := false }, kinds := [], alts := [], laidByText := true, laidKinds := [.data, .data, .data], laidTests := true, laidLooks := .later }
def NormAddsUptoCardSaid : Prop := Claim7.holds Tryd.pinned (.plain (OpenSpec.upto normAddsSpec)) normAddsUptoCard

/-- THE SECOND FORM's CARD OF 'jalousielaw12.NormPicks'. -/
def normPicksUptoCard : Claim7 := { stood := { row := normPicksUptoRow, standIns := [], harness := (true, "27e946e5089127052d15fce1d0100a62cf19e73959c17525dc9ffc8c77efed59"), looks := false }, kinds := [], alts := [], laidByText := true, laidKinds := [.data, .data, .data], laidTests := true, laidLooks := .later }
def NormPicksUptoCardSaid : Prop := Claim7.holds Tryd.pinned (.plain (OpenSpec.upto normPicksSpec)) normPicksUptoCard

/-- THE SECOND FORM's CARD OF 'jalousielaw12.NormMay'. -/
def normMayUptoCard : Claim7 := { stood := { row := normMayUptoRow, standIns := [], harness := (true, "27e946e5089127052d15fce1d0100a62cf19e73959c17525dc9ffc8c77efed59"), looks := false }, kinds := [], alts := [], laidByText := true, laidKinds := [.data, .data, .data], laidTests := true, laidLooks := .later }
def NormMayUptoCardSaid : Prop := Claim7.holds Tryd.pinned (.plain (OpenSpec.upto normMaySpec)) normMayUptoCard
end Rows
end Go.Proofs.YticgcokhdipomaaDoor
