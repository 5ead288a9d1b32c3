/-
  DERIVED. GIVEN WITH THE SEED: THE CARDS: each row of YtmkbjcoagfnegaaGreatDoorRows.lean that lists a variable, with what it lists TIED to the program's text (the seventh form; the later family's looks); each row that meets fmt, with fmt's text TOLD by the authors' own Lean function (tested against real Go, not proved from fmt's source: count such statements apart). THE CARD IS WHAT COUNTS. Prove the row's statement (the work); the ties are given (YtmkbjcoagfnegaaGreatDoorTie.lean); close each card by the builder's one call (the guide's Derived/Test/ToyasCard.lean, 'card_holds'). Laid BY PROGRAM, IN A SANDBOX (cutbox-door.mjs). By AI agents, Wed Nov 11 2026. No macro, syntax, notation, axiom, sorry.
-/
import Derived.Test.YtmkbjcoagfnegaaGreatDoorRows
import GoSem.ClaimSeven
namespace Go.Proofs.YtmkbjcoagfnegaaGreatDoor
namespace Rows

/-- THE TIED CARD OF 'jalousielaw9.SelParses'. -/
def selParsesCard : Claim7 := { stood := { row := selParsesRow, standIns := [], harness := (true, "83f0815f732347d77b386481eff4d2cc3eae5202a453f737f2d4f46a150dc085"), looks := false }, kinds := [], alts := [], laidByText := true, laidKinds := [.data, .data, .data, .data, .data, .data, .pinned], laidTests := true, laidLooks := .later }
def SelParsesCardSaid : Prop := Claim7.holds Tryz.pinned (.plain (OpenSpec.ofChange selParsesSpec)) selParsesCard

/-- THE TIED CARD OF 'jalousielaw9.SelReads'. -/
def selReadsCard : Claim7 := { stood := { row := selReadsRow, standIns := [], harness := (true, "83f0815f732347d77b386481eff4d2cc3eae5202a453f737f2d4f46a150dc085"), looks := false }, kinds := [], alts := [], laidByText := true, laidKinds := [.data, .data, .data, .data, .data, .data, .pinned], laidTests := true, laidLooks := .later }
def SelReadsCardSaid : Prop := Claim7.holds Tryz.pinned (.plain (OpenSpec.ofChange selReadsSpec)) selReadsCard

/-- THE TIED CARD OF 'jalousielaw9.SelMay'. -/
def selMayCard : Claim7 := { stood := { row := selMayRow, standIns := [], harness := (true, "83f0815f732347d77b386481eff4d2cc3eae5202a453f737f2d4f46a150dc085"), looks := false }, kinds := [], alts := [], laidByText := true, laidKinds := [.data, .data, .data, .data, .data, .data, .pinned], laidTests := true, laidLooks := .later }
def SelMayCardSaid : Prop := Claim7.holds Tryz.pinned (.plain (OpenSpec.ofChange selMaySpec)) selMayCard

/-- THE TIED CARD OF 'jalousielaw9.SelTexts'. -/
def selTextsCard : Claim7 := { stood := { row := selTextsRow, standIns := [], harness := (true, "83f0815f732347d77b386481eff4d2cc3eae5202a453f737f2d4f46a150dc085"), looks := false }, kinds := [], alts := [], laidByText := true, laidKinds := [.data, .data, .data, .data, .data, .data, .pinned], laidTests := true, laidLooks := .later }
def SelTextsCardSaid : Prop := Claim7.holds Tryz.pinned (.plain (OpenSpec.ofChange selTextsSpec)) selTextsCard

/-- THE TIED CARD OF 'jalousielaw9.SelWeighs'. -/
def selWeighsCard : Claim7 := { stood := { row := selWeighsRow, standIns := [], harness := (true, "83f0815f732347d77b386481eff4d2cc3eae5202a453f737f2d4f46a150dc085"), looks := false }, kinds := [], alts := [], laidByText := true, laidKinds := [.data, .data, .data, .data, .data, .data, .pinned], laidTests := true, laidLooks := .later }
def SelWeighsCardSaid : Prop := Claim7.holds Tryz.pinned (.plain (OpenSpec.ofChange selWeighsSpec)) selWeighsCard

/-- THE TIED CARD OF 'jalousielaw9.SelBack'. -/
def selBackCard : Claim7 := { stood := { row := selBackRow, standIns := [], harness := (true, "83f0815f732347d77b386481eff4d2cc3eae5202a453f737f2d4f46a150dc085"), looks := false }, kinds := [], alts := [], laidByText := true, laidKinds := [.data, .data, .data, .data, .data, .data, .pinned], laidTests := true, laidLooks := .later }
def SelBackCardSaid : Prop := Claim7.holds Tryz.pinned (.plain (OpenSpec.ofChange selBackSpec)) selBackCard

/-- THE SECOND FORM's CARD OF 'jalousielaw9.SelParses'. -/
def selParsesUptoCard : Claim7 := { stood := { row := selParsesUptoRow, standIns := [], harness := (true, "83f0815f732347d77b386481eff4d2cc3eae5202a453f737f2d4f46a150dc085"), looks := false }, kinds := [], alts := [], laidByText := true, laidKinds := [.data, .data, .data, .data, .data, .data, .pinned], laidTests := true, laidLooks := .later }
def SelParsesUptoCardSaid : Prop := Claim7.holds Tryz.pinned (.plain (OpenSpec.upto selParsesSpec)) selParsesUptoCard

/-- THE SECOND FORM's CARD OF 'jalousielaw9.SelReads'. -/
def selReadsUptoCard : Claim7 := { stood := { row := selReadsUptoRow, standIns := [], harness := (true, "83f0815f732347d77b386481eff4d2cc3eae5202a453f737f2d4f46a150dc085"), looks := false }, kinds := [], alts := [], laidByText := true, laidKinds := [.data, .data, .data, .data, .data, .data, .pinned], laidTests := true, laidLooks := .later }
def SelReadsUptoCardSaid : Prop := Claim7.holds Tryz.pinned (.plain (OpenSpec.upto selReadsSpec)) selReadsUptoCard

/-- THE SECOND FORM's CARD OF 'jalousielaw9.SelMay'. -/
def selMayUptoCard : Claim7 := { stood := { row := selMayUptoRow, standIns := [], harness := (true, "83f0815f732347d77b386481eff4d2cc3eae5202a453f737f2d4f46a150dc085"), looks := false }, kinds := [], alts := [], laidByText := true, laidKinds := [.data, .data, .data, .data, .data, .data, .pinned], laidTests := true, laidLooks := .later }
def SelMayUptoCardSaid : Prop := Claim7.holds Tryz.pinned (.plain (OpenSpec.upto selMaySpec)) selMayUptoCard

/-- THE SECOND FORM's CARD OF 'jalousielaw9.SelTexts'. -/
def selTextsUptoCard : Claim7 := { stood := { row := selTextsUptoRow, standIns := [], harness := (true, "83f0815f732347d77b386481eff4d2cc3eae5202a453f737f2d4f46a150dc085"), looks := false }, kinds := [], alts := [], laidByText := true, laidKinds := [.data, .data, .data, .data, .data, .data, .pinned], laidTests := true, laidLooks := .later }
def SelTextsUptoCardSaid : Prop := Claim7.holds Tryz.pinned (.plain (OpenSpec.upto selTextsSpec)) selTextsUptoCard

/-- THE SECOND FORM's CARD OF 'jalousielaw9.SelWeighs'. -/
def selWeighsUptoCard : Claim7 := { stood := { row := selWeighsUptoRow, standIns := [], harness := (true, "83f0815f732347d77b386481eff4d2cc3eae5202a453f737f2d4f46a150dc085"), looks := false }, kinds := [], alts := [], laidByText := true, laidKinds := [.data, .data, .data, .data, .data, .data, .pinned], laidTests := true, laidLooks := .later }
def SelWeighsUptoCardSaid : Prop := Claim7.holds Tryz.pinned (.plain (OpenSpec.upto selWeighsSpec)) selWeighsUptoCard

/-- THE SECOND FORM's CARD OF 'jalousielaw9.SelBack'. -/
def selBackUptoCard : Claim7 := { stood := { row := selBackUptoRow, standIns := [], harness := (true, "83f0815f732347d77b386481eff4d2cc3eae5202a453f737f2d4f46a150dc085"), looks := false }, kinds := [], alts := [], laidByText := true, laidKinds := [.data, .data, .data, .data, .data, .data, .pinned], laidTests := true, laidLooks := .later }
def SelBackUptoCardSaid : Prop := Claim7.holds Tryz.pinned (.plain (OpenSpec.upto selBackSpec)) selBackUptoCard
end Rows
end Go.Proofs.YtmkbjcoagfnegaaGreatDoor
