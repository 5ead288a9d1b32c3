/-
  DERIVED. GIVEN WITH THE SEED: THE CARDS: each row of YtpcdhdllclenaaaDoorRows.lean that lists a variable, with what it lists TIED to the program's text (the seventh form; the later family's looks); each row that meets fmt, with fmt's text TOLD by the authors' own Lean function (tested against real Go, not proved from fmt's source: count such statements apart). THE CARD IS WHAT COUNTS. Prove the row's statement (the work); the ties are given (YtpcdhdllclenaaaDoorTie.lean); close each card by the builder's one call (the guide's Derived/Test/ToyasCard.lean, 'card_holds'). Laid BY PROGRAM, IN A SANDBOX (cutbox-door.mjs). By AI agents, Wed Nov 11 2026. No macro, syntax, notation, axiom, sorry.
-/
import Derived.Test.YtpcdhdllclenaaaDoorRows
import GoSem.ClaimSeven
namespace Go.Proofs.YtpcdhdllclenaaaDoor
namespace Rows

/-- THE TIED CARD OF 'jalousielaw15.CondLogic'. -/
def condLogicCard : Claim7 := { stood := { row := condLogicRow, standIns := [], harness := (true, "f7d86202ac8cf7498de68b7843aa56da26c04faae611273409a37715bae1e663"), looks := false }, kinds := [], alts := [], laidByText := true, laidKinds := [.data], laidTests := true, laidLooks := .later }
def CondLogicCardSaid : Prop := Claim7.holds Tryd.pinned (.plain (OpenSpec.ofChange condLogicSpec)) condLogicCard

/-- THE TIED CARD OF 'jalousielaw15.CondMorgan'. -/
def condMorganCard : Claim7 := { stood := { row := condMorganRow, standIns := [], harness := (true, "f7d86202ac8cf7498de68b7843aa56da26c04faae611273409a37715bae1e663"), looks := false }, kinds := [], alts := [], laidByText := true, laidKinds := [.data], laidTests := true, laidLooks := .later }
def CondMorganCardSaid : Prop := Claim7.holds Tryd.pinned (.plain (OpenSpec.ofChange condMorganSpec)) condMorganCard

/-- THE TIED CARD OF 'jalousielaw15.CondTurned'. -/
def condTurnedCard : Claim7 := { stood := { row := condTurnedRow, standIns := [], harness := (true, "f7d86202ac8cf7498de68b7843aa56da26c04faae611273409a37715bae1e663"), looks := false }, kinds := [], alts := [], laidByText := true, laidKinds := [.data], laidTests := true, laidLooks := .later }
def CondTurnedCardSaid : Prop := Claim7.holds Tryd.pinned (.plain (OpenSpec.ofChange condTurnedSpec)) condTurnedCard

/-- THE TIED CARD OF 'jalousielaw15.CondMay'. -/
def condMayCard : Claim7 := { stood := { row := condMayRow, standIns := [], harness := (true, "f7d86202ac8cf7498de68b7843aa56da26c04faae611273409a37715bae1e663"), looks := false }, kinds := [], alts := [], laidByText := true, laidKinds := [.data], laidTests := true, laidLooks := .later }
def CondMayCardSaid : Prop := Claim7.holds Tryd.pinned (.plain (OpenSpec.ofChange condMaySpec)) condMayCard

/-- THE TIED CARD OF 'jalousielaw15.CondEvals'. -/
def condEvalsCard : Claim7 := { stood := { row := condEvalsRow, standIns := [], harness := (true, "f7d86202ac8cf7498de68b7843aa56da26c04faae611273409a37715bae1e663"), looks := false }, kinds := [], alts := [], laidByText := true, laidKinds := [.data], laidTests := true, laidLooks := .later }
def CondEvalsCardSaid : Prop := Claim7.holds Tryd.pinned (.plain (OpenSpec.ofChange condEvalsSpec)) condEvalsCard

/-- THE TIED CARD OF 'jalousielaw15.CondKleene'. -/
def condKleeneCard : Claim7 := { stood := { row := condKleeneRow, standIns := [], harness := (true, "f7d86202ac8cf7498de68b7843aa56da26c04faae611273409a37715bae1e663"), looks := false }, kinds := [], alts := [], laidByText := true, laidKinds := [.data], laidTests := true, laidLooks := .later }
def CondKleeneCardSaid : Prop := Claim7.holds Tryd.pinned (.plain (OpenSpec.ofChange condKleeneSpec)) condKleeneCard

/-- THE SECOND FORM's CARD OF 'jalousielaw15.CondLogic'. -/
def condLogicUptoCard : Claim7 := { stood := { row := condLogicUptoRow, standIns := [], harness := (true, "f7d86202ac8cf7498de68b7843aa56da26c04faae611273409a37715bae1e663"), looks := false }, kinds := [], alts := [], laidByText := true, laidKinds := [.data], laidTests := true, laidLooks := .later }
def CondLogicUptoCardSaid : Prop := Claim7.holds Tryd.pinned (.plain (OpenSpec.upto condLogicSpec)) condLogicUptoCard

/-- THE SECOND FORM's CARD OF 'jalousielaw15.CondMorgan'. -/
def condMorganUptoCard : Claim7 := { stood := { row := condMorganUptoRow, standIns := [], harness := (true, "f7d86202ac8cf7498de68b7843aa56da26c04faae611273409a37715bae1e663"), looks := false }, kinds := [], alts := [], laidByText := true, laidKinds := [.data], laidTests := true, laidLooks := .later }
def CondMorganUptoCardSaid : Prop := Claim7.holds Tryd.pinned (.plain (OpenSpec.upto condMorganSpec)) condMorganUptoCard

/-- THE SECOND FORM's CARD OF 'jalousielaw15.CondTurned'. -/
def condTurnedUptoCard : Claim7 := { stood := { row := condTurnedUptoRow, standIns := [], harness := (true, "f7d86202ac8cf7498de68b7843aa56da26c04faae611273409a37715bae1e663"), looks := false }, kinds := [], alts := [], laidByText := true, laidKinds := [.data], laidTests := true, laidLooks := .later }
def CondTurnedUptoCardSaid : Prop := Claim7.holds Tryd.pinned (.plain (OpenSpec.upto condTurnedSpec)) condTurnedUptoCard

/-- THE SECOND FORM's CARD OF 'jalousielaw15.CondMay'. -/
def condMayUptoCard : Claim7 := { stood := { row := condMayUptoRow, standIns := [], harness := (true, "f7d86202ac8cf7498de68b7843aa56da26c04faae611273409a37715bae1e663"), looks := false }, kinds := [], alts := [], laidByText := true, laidKinds := [.data], laidTests := true, laidLooks := .later }
def CondMayUptoCardSaid : Prop := Claim7.holds Tryd.pinned (.plain (OpenSpec.upto condMaySpec)) condMayUptoCard

/-- THE SECOND FORM's CARD OF 'jalousielaw15.CondEvals'. -/
def condEvalsUptoCard : Claim7 := { stood := { row := condEvalsUptoRow, standIns := [], harness := (true, "f7d86202ac8cf7498de68b7843aa56da26c04faae611273409a37715bae1e663"), looks := false }, kinds := [], alts := [], laidByText := true, laidKinds := [.data], laidTests := true, laidLooks := .later }
def CondEvalsUptoCardSaid : Prop := Claim7.holds Tryd.pinned (.plain (OpenSpec.upto condEvalsSpec)) condEvalsUptoCard

/-- THE SECOND FORM's CARD OF 'jalousielaw15.CondKleene'. -/
def condKleeneUptoCard : Claim7 := { stood := { row := condKleeneUptoRow, standIns := [], harness := (true, "f7d86202ac8cf7498de68b7843aa56da26c04faae611273409a37715bae1e663"), looks := false }, kinds := [], alts := [], laidByText := true, laidKinds := [.data], laidTests := true, laidLooks := .later }
def CondKleeneUptoCardSaid : Prop := Claim7.holds Tryd.pinned (.plain (OpenSpec.upto condKleeneSpec)) condKleeneUptoCard
end Rows
end Go.Proofs.YtpcdhdllclenaaaDoor
