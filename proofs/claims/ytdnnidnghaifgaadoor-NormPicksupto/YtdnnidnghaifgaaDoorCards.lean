/-
  DERIVED. GIVEN WITH THE SEED: THE CARDS: each row of YtdnnidnghaifgaaDoorRows.lean that lists a variable, with what it lists TIED to the program's text (the seventh form; the later family's looks); each row that meets fmt, with fmt's text TOLD by the authors' own Lean function (tested against real Go, not proved from fmt's source: count such statements apart). THE CARD IS WHAT COUNTS. Prove the row's statement (the work); the ties are given (YtdnnidnghaifgaaDoorTie.lean); close each card by the builder's one call (the guide's Derived/Test/ToyasCard.lean, 'card_holds'). Laid BY PROGRAM, IN A SANDBOX (cutbox-door.mjs). By AI agents, Wed Nov 11 2026. No macro, syntax, notation, axiom, sorry.
-/
import Derived.Test.YtdnnidnghaifgaaDoorRows
import GoSem.ClaimSeven
namespace Go.Proofs.YtdnnidnghaifgaaDoor
namespace Rows

/-- THE TIED CARD OF 'jalousielaw13.UnitAgrees'. -/
def unitAgreesCard : Claim7 := { stood := { row := unitAgreesRow, standIns := [], harness := (true, "764426af4416307c340b2ba914404531eafbe14247be676ee32c8e3aa7335649"), looks := false }, kinds := [], alts := [], laidByText := true, laidKinds := [.data, .data, .data, .data], laidTests := true, laidLooks := .later }
def UnitAgreesCardSaid : Prop := Claim7.holds Tryd.pinned (.plain (OpenSpec.ofChange unitAgreesSpec)) unitAgreesCard

/-- THE TIED CARD OF 'jalousielaw12.NormPicks'. -/
def normPicksCard : Claim7 := { stood := { row := normPicksRow, standIns := [], harness := (true, "764426af4416307c340b2ba914404531eafbe14247be676ee32c8e3aa7335649"), looks := false }, kinds := [], alts := [], laidByText := true, laidKinds := [.data, .data, .data], laidTests := true, laidLooks := .later }
def NormPicksCardSaid : Prop := Claim7.holds Tryd.pinned (.plain (OpenSpec.ofChange normPicksSpec)) normPicksCard

/-- THE SECOND FORM's CARD OF 'jalousielaw13.UnitAgrees'. -/
def unitAgreesUptoCard : Claim7 := { stood := { row := unitAgreesUptoRow, standIns := [], harness := (true, "764426af4416307c340b2ba914404531eafbe14247be676ee32c8e3aa7335649"), looks := false }, kinds := [], alts := [], laidByText := true, laidKinds := [.data, .data, .data, .data], laidTests := true, laidLooks := .later }
def UnitAgreesUptoCardSaid : Prop := Claim7.holds Tryd.pinned (.plain (OpenSpec.upto unitAgreesSpec)) unitAgreesUptoCard

/-- THE SECOND FORM's CARD OF 'jalousielaw12.NormPicks'. -/
def normPicksUptoCard : Claim7 := { stood := { row := normPicksUptoRow, standIns := [], harness := (true, "764426af4416307c340b2ba914404531eafbe14247be676ee32c8e3aa7335649"), looks := false }, kinds := [], alts := [], laidByText := true, laidKinds := [.data, .data, .data], laidTests := true, laidLooks := .later }
def NormPicksUptoCardSaid : Prop := Claim7.holds Tryd.pinned (.plain (OpenSpec.upto normPicksSpec)) normPicksUptoCard
end Rows
end Go.Proofs.YtdnnidnghaifgaaDoor
