/-
  DERIVED. GIVEN WITH THE SEED: THE CARDS: each row of YtbdacepomdlcbaaGreatDoorRows.lean that lists a variable, with what it lists TIED to the program's text (the seventh form; the later family's looks); each row that meets fmt, with fmt's text TOLD by the authors' own Lean function (tested against real Go, not proved from fmt's source: count such statements apart). THE CARD IS WHAT COUNTS. Prove the row's statement (the work); the ties are given (YtbdacepomdlcbaaGreatDoorTie.lean); close each card by the builder's one call (the guide's Derived/Test/ToyasCard.lean, 'card_holds'). Laid BY PROGRAM, IN A SANDBOX (cutbox-door.mjs). By AI agents, Wed Nov 11 2026. No macro, syntax, notation, axiom, sorry.
-/
import Derived.Test.YtbdacepomdlcbaaGreatDoorRows
import GoSem.ClaimSeven
namespace Go.Proofs.YtbdacepomdlcbaaGreatDoor
namespace Rows

/-- THE TIED CARD OF 'jalousielaw6.PrintValues'. -/
def printValuesCard : Claim7 := { stood := { row := printValuesRow, standIns := [], harness := (true, "e214f0cddb23f5fe8f1b999bac5b63dda8c41cd3d980eb0a9473406ef6eaeae8"), looks := false }, kinds := [], alts := [], laidByText := true, laidKinds := [.data, .data, .data, .data, .data, .pinned], laidTests := true, laidLooks := .later }
def PrintValuesCardSaid : Prop := Claim7.holds Tryz.pinned (.plain (OpenSpec.ofChange printValuesSpec)) printValuesCard

/-- THE TIED CARD OF 'jalousielaw6.PrintDecls'. -/
def printDeclsCard : Claim7 := { stood := { row := printDeclsRow, standIns := [], harness := (true, "e214f0cddb23f5fe8f1b999bac5b63dda8c41cd3d980eb0a9473406ef6eaeae8"), looks := false }, kinds := [], alts := [], laidByText := true, laidKinds := [.data, .data, .data, .data, .data, .pinned], laidTests := true, laidLooks := .later }
def PrintDeclsCardSaid : Prop := Claim7.holds Tryz.pinned (.plain (OpenSpec.ofChange printDeclsSpec)) printDeclsCard

/-- THE TIED CARD OF 'jalousielaw6.PrintRules'. -/
def printRulesCard : Claim7 := { stood := { row := printRulesRow, standIns := [], harness := (true, "e214f0cddb23f5fe8f1b999bac5b63dda8c41cd3d980eb0a9473406ef6eaeae8"), looks := false }, kinds := [], alts := [], laidByText := true, laidKinds := [.data, .data, .data, .data, .data, .pinned], laidTests := true, laidLooks := .later }
def PrintRulesCardSaid : Prop := Claim7.holds Tryz.pinned (.plain (OpenSpec.ofChange printRulesSpec)) printRulesCard

/-- THE TIED CARD OF 'jalousielaw6.PrintSame'. -/
def printSameCard : Claim7 := { stood := { row := printSameRow, standIns := [], harness := (true, "e214f0cddb23f5fe8f1b999bac5b63dda8c41cd3d980eb0a9473406ef6eaeae8"), looks := false }, kinds := [], alts := [], laidByText := true, laidKinds := [.data, .data, .data, .data, .data, .pinned], laidTests := true, laidLooks := .later }
def PrintSameCardSaid : Prop := Claim7.holds Tryz.pinned (.plain (OpenSpec.ofChange printSameSpec)) printSameCard

/-- THE TIED CARD OF 'jalousielaw6.PrintBoth'. -/
def printBothCard : Claim7 := { stood := { row := printBothRow, standIns := [], harness := (true, "e214f0cddb23f5fe8f1b999bac5b63dda8c41cd3d980eb0a9473406ef6eaeae8"), looks := false }, kinds := [], alts := [], laidByText := true, laidKinds := [.data, .data, .data, .data, .data, .pinned], laidTests := true, laidLooks := .later }
def PrintBothCardSaid : Prop := Claim7.holds Tryz.pinned (.plain (OpenSpec.ofChange printBothSpec)) printBothCard

/-- THE SECOND FORM's CARD OF 'jalousielaw6.PrintValues'. -/
def printValuesUptoCard : Claim7 := { stood := { row := printValuesUptoRow, standIns := [], harness := (true, "e214f0cddb23f5fe8f1b999bac5b63dda8c41cd3d980eb0a9473406ef6eaeae8"), looks := false }, kinds := [], alts := [], laidByText := true, laidKinds := [.data, .data, .data, .data, .data, .pinned], laidTests := true, laidLooks := .later }
def PrintValuesUptoCardSaid : Prop := Claim7.holds Tryz.pinned (.plain (OpenSpec.upto printValuesSpec)) printValuesUptoCard

/-- THE SECOND FORM's CARD OF 'jalousielaw6.PrintDecls'. -/
def printDeclsUptoCard : Claim7 := { stood := { row := printDeclsUptoRow, standIns := [], harness := (true, "e214f0cddb23f5fe8f1b999bac5b63dda8c41cd3d980eb0a9473406ef6eaeae8"), looks := false }, kinds := [], alts := [], laidByText := true, laidKinds := [.data, .data, .data, .data, .data, .pinned], laidTests := true, laidLooks := .later }
def PrintDeclsUptoCardSaid : Prop := Claim7.holds Tryz.pinned (.plain (OpenSpec.upto printDeclsSpec)) printDeclsUptoCard

/-- THE SECOND FORM's CARD OF 'jalousielaw6.PrintRules'. -/
def printRulesUptoCard : Claim7 := { stood := { row := printRulesUptoRow, standIns := [], harness := (true, "e214f0cddb23f5fe8f1b999bac5b63dda8c41cd3d980eb0a9473406ef6eaeae8"), looks := false }, kinds := [], alts := [], laidByText := true, laidKinds := [.data, .data, .data, .data, .data, .pinned], laidTests := true, laidLooks := .later }
def PrintRulesUptoCardSaid : Prop := Claim7.holds Tryz.pinned (.plain (OpenSpec.upto printRulesSpec)) printRulesUptoCard

/-- THE SECOND FORM's CARD OF 'jalousielaw6.PrintSame'. -/
def printSameUptoCard : Claim7 := { stood := { row := printSameUptoRow, standIns := [], harness := (true, "e214f0cddb23f5fe8f1b999bac5b63dda8c41cd3d980eb0a9473406ef6eaeae8"), looks := false }, kinds := [], alts := [], laidByText := true, laidKinds := [.data, .data, .data, .data, .data, .pinned], laidTests := true, laidLooks := .later }
def PrintSameUptoCardSaid : Prop := Claim7.holds Tryz.pinned (.plain (OpenSpec.upto printSameSpec)) printSameUptoCard

/-- THE SECOND FORM's CARD OF 'jalousielaw6.PrintBoth'. -/
def printBothUptoCard : Claim7 := { stood := { row := printBothUptoRow, standIns := [], harness := (true, "e214f0cddb23f5fe8f1b999bac5b63dda8c41cd3d980eb0a9473406ef6eaeae8"), looks := false }, kinds := [], alts := [], laidByText := true, laidKinds := [.data, .data, .data, .data, .data, .pinned], laidTests := true, laidLooks := .later }
def PrintBothUptoCardSaid : Prop := Claim7.holds Tryz.pinned (.plain (OpenSpec.upto printBothSpec)) printBothUptoCard
end Rows
end Go.Proofs.YtbdacepomdlcbaaGreatDoor
