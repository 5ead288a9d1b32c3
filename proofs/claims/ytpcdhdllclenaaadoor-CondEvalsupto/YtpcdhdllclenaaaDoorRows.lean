/-
  NARROWER THAN 'FOR EVERY INPUT', by the rows' own cells (each row's printed sentence says how): CondLogic: laid · CondMorgan: laid · CondTurned: laid · CondMay: loops, laid · CondEvals: loops, laid · CondKleene: loops, laid.
  DERIVED. THE GIVEN ROWS OF THIS SEAT. 6 by the template 'for every input the law returns true; each argument reads behind the call as it read before'; 0 by the template 'total and deterministic' (their statements: YtpcdhdllclenaaaDoorTotals.lean).
  GIVEN WITH THE SEED: the statements are not yours to turn. If you find one false, say at which input.
  Laid BY PROGRAM, IN A SANDBOX (cutbox-rows.mjs): the forced cells as the released guide's own fill.sh prints them over the translation fc40291b0952a1f9… (all of the seat's roots in one cut). By AI agents, Wed Nov 11 2026. No macro, syntax, notation, axiom, sorry.
-/
import Derived.Test.YtpcdhdllclenaaaDoorChecked
import GoSem.Claim
import GoSem.ClaimJoined
import GoSem.ClaimMapViews
import Derived.JoinedTies
import Derived.KernelRfl
namespace Go.Proofs.YtpcdhdllclenaaaDoor
/- THE CELL 'sum', in the pinned program and in every row, IS THE sha256 OF THE DUMP (.gsa) THAT YtpcdhdllclenaaaDoorProg.lean LOADS. Nothing in Lean hashes anything: it is a label: what it is worth is what the hold of that sum in a sandbox is worth. -/
noncomputable def Tryd.pinned : Pinned := { name := "ytpcdhdllclenaaadoor", sum := "fc40291b0952a1f94cebf5011d7a10236a0f1edda102ce5f9f2d39c7cf0c6dd7", checked := Tryd.checked }
namespace Rows
def none {H : Type} : Left H := { results := [], args := [] }

/- WHAT THE LISTED PACKAGE-LEVEL VARIABLES READ AS WHEN THE CALL BEGINS. Each datum BY PROGRAM (the guide's laid-datum.mjs) off the statement by which the dump's own 'gosem.cut.vars' lays the variable. In a bare row this is a premise. The card (YtpcdhdllclenaaaDoorCards.lean) ties it to the program's text. -/
def laid_jalousie_cond_fieldsOf {H : Type} : DataW H := .agg [.lit (.int .i64 0), .lit (.int .i64 1), .lit (.int .i64 2), .lit (.int .i64 2), .lit (.int .i64 14), .lit (.int .i64 18), .lit (.int .i64 98)]

/-- 'jalousielaw15.CondLogic': WHATEVER THE INPUT: true; the input reads as it did. -/
def condLogicSpec : ChangeSpec := { name := "condLogic", fn := fun _ => fun
  | [d1, d2] => { results := [.lit (.bool true)], args := [d1, d2] }
  | _ => none }
def condLogicRow : OpenClaim := { program := "ytpcdhdllclenaaadoor", sum := "fc40291b0952a1f94cebf5011d7a10236a0f1edda102ce5f9f2d39c7cf0c6dd7", func := "jalousie/jalousielaw15.CondLogic", spec := "condLogic", recurses := true, named := ["jalousie/cond.fieldsOf"], apart := false, laid := [("jalousie/cond.fieldsOf", laid_jalousie_cond_fieldsOf)] }
def CondLogicSaid : Prop := condLogicRow.holds Tryd.pinned (OpenSpec.ofChange condLogicSpec)

/-- ITS FALSE NEIGHBOUR: 'it returns false'. Refute it at one input. -/
def condLogicWrong : ChangeSpec := { name := "condLogic", fn := fun _ => fun
  | [d1, d2] => { results := [.lit (.bool false)], args := [d1, d2] }
  | _ => none }
def CondLogicWrongFalsely : Prop := condLogicRow.holds Tryd.pinned (OpenSpec.ofChange condLogicWrong)

/-- 'jalousielaw15.CondMorgan': WHATEVER THE INPUT: true; the input reads as it did. -/
def condMorganSpec : ChangeSpec := { name := "condMorgan", fn := fun _ => fun
  | [d1, d2, d3] => { results := [.lit (.bool true)], args := [d1, d2, d3] }
  | _ => none }
def condMorganRow : OpenClaim := { program := "ytpcdhdllclenaaadoor", sum := "fc40291b0952a1f94cebf5011d7a10236a0f1edda102ce5f9f2d39c7cf0c6dd7", func := "jalousie/jalousielaw15.CondMorgan", spec := "condMorgan", recurses := true, named := ["jalousie/cond.fieldsOf"], apart := false, laid := [("jalousie/cond.fieldsOf", laid_jalousie_cond_fieldsOf)] }
def CondMorganSaid : Prop := condMorganRow.holds Tryd.pinned (OpenSpec.ofChange condMorganSpec)

/-- ITS FALSE NEIGHBOUR: 'it returns false'. Refute it at one input. -/
def condMorganWrong : ChangeSpec := { name := "condMorgan", fn := fun _ => fun
  | [d1, d2, d3] => { results := [.lit (.bool false)], args := [d1, d2, d3] }
  | _ => none }
def CondMorganWrongFalsely : Prop := condMorganRow.holds Tryd.pinned (OpenSpec.ofChange condMorganWrong)

/-- 'jalousielaw15.CondTurned': WHATEVER THE INPUT: true; the input reads as it did. -/
def condTurnedSpec : ChangeSpec := { name := "condTurned", fn := fun _ => fun
  | [d1, d2] => { results := [.lit (.bool true)], args := [d1, d2] }
  | _ => none }
def condTurnedRow : OpenClaim := { program := "ytpcdhdllclenaaadoor", sum := "fc40291b0952a1f94cebf5011d7a10236a0f1edda102ce5f9f2d39c7cf0c6dd7", func := "jalousie/jalousielaw15.CondTurned", spec := "condTurned", recurses := true, named := ["jalousie/cond.fieldsOf"], apart := false, laid := [("jalousie/cond.fieldsOf", laid_jalousie_cond_fieldsOf)] }
def CondTurnedSaid : Prop := condTurnedRow.holds Tryd.pinned (OpenSpec.ofChange condTurnedSpec)

/-- ITS FALSE NEIGHBOUR: 'it returns false'. Refute it at one input. -/
def condTurnedWrong : ChangeSpec := { name := "condTurned", fn := fun _ => fun
  | [d1, d2] => { results := [.lit (.bool false)], args := [d1, d2] }
  | _ => none }
def CondTurnedWrongFalsely : Prop := condTurnedRow.holds Tryd.pinned (OpenSpec.ofChange condTurnedWrong)

/-- 'jalousielaw15.CondMay': WHATEVER THE INPUT: true; the input reads as it did. -/
def condMaySpec : ChangeSpec := { name := "condMay", fn := fun _ => fun
  | [d1, d2] => { results := [.lit (.bool true)], args := [d1, d2] }
  | _ => none }
def condMayRow : OpenClaim := { program := "ytpcdhdllclenaaadoor", sum := "fc40291b0952a1f94cebf5011d7a10236a0f1edda102ce5f9f2d39c7cf0c6dd7", func := "jalousie/jalousielaw15.CondMay", spec := "condMay", unfollowed := true, recurses := true, named := ["jalousie/cond.fieldsOf"], loops := true, apart := false, laid := [("jalousie/cond.fieldsOf", laid_jalousie_cond_fieldsOf)] }
def CondMaySaid : Prop := condMayRow.holds Tryd.pinned (OpenSpec.ofChange condMaySpec)

/-- ITS FALSE NEIGHBOUR: 'it returns false'. Refute it at one input. -/
def condMayWrong : ChangeSpec := { name := "condMay", fn := fun _ => fun
  | [d1, d2] => { results := [.lit (.bool false)], args := [d1, d2] }
  | _ => none }
def CondMayWrongFalsely : Prop := condMayRow.holds Tryd.pinned (OpenSpec.ofChange condMayWrong)

/-- 'jalousielaw15.CondEvals': WHATEVER THE INPUT: true; the input reads as it did. -/
def condEvalsSpec : ChangeSpec := { name := "condEvals", fn := fun _ => fun
  | [d1, d2, d3] => { results := [.lit (.bool true)], args := [d1, d2, d3] }
  | _ => none }
def condEvalsRow : OpenClaim := { program := "ytpcdhdllclenaaadoor", sum := "fc40291b0952a1f94cebf5011d7a10236a0f1edda102ce5f9f2d39c7cf0c6dd7", func := "jalousie/jalousielaw15.CondEvals", spec := "condEvals", unfollowed := true, recurses := true, named := ["jalousie/cond.fieldsOf"], loops := true, apart := false, laid := [("jalousie/cond.fieldsOf", laid_jalousie_cond_fieldsOf)] }
def CondEvalsSaid : Prop := condEvalsRow.holds Tryd.pinned (OpenSpec.ofChange condEvalsSpec)

/-- ITS FALSE NEIGHBOUR: 'it returns false'. Refute it at one input. -/
def condEvalsWrong : ChangeSpec := { name := "condEvals", fn := fun _ => fun
  | [d1, d2, d3] => { results := [.lit (.bool false)], args := [d1, d2, d3] }
  | _ => none }
def CondEvalsWrongFalsely : Prop := condEvalsRow.holds Tryd.pinned (OpenSpec.ofChange condEvalsWrong)

/-- 'jalousielaw15.CondKleene': WHATEVER THE INPUT: true; the input reads as it did. -/
def condKleeneSpec : ChangeSpec := { name := "condKleene", fn := fun _ => fun
  | [d1, d2, d3, d4] => { results := [.lit (.bool true)], args := [d1, d2, d3, d4] }
  | _ => none }
def condKleeneRow : OpenClaim := { program := "ytpcdhdllclenaaadoor", sum := "fc40291b0952a1f94cebf5011d7a10236a0f1edda102ce5f9f2d39c7cf0c6dd7", func := "jalousie/jalousielaw15.CondKleene", spec := "condKleene", unfollowed := true, recurses := true, named := ["jalousie/cond.fieldsOf"], loops := true, apart := false, laid := [("jalousie/cond.fieldsOf", laid_jalousie_cond_fieldsOf)] }
def CondKleeneSaid : Prop := condKleeneRow.holds Tryd.pinned (OpenSpec.ofChange condKleeneSpec)

/-- ITS FALSE NEIGHBOUR: 'it returns false'. Refute it at one input. -/
def condKleeneWrong : ChangeSpec := { name := "condKleene", fn := fun _ => fun
  | [d1, d2, d3, d4] => { results := [.lit (.bool false)], args := [d1, d2, d3, d4] }
  | _ => none }
def CondKleeneWrongFalsely : Prop := condKleeneRow.holds Tryd.pinned (OpenSpec.ofChange condKleeneWrong)

/- THE SECOND FORM. 'bulk': how many values and letters a reading holds, each counted each time it is reached (what is shared counts as often as it is met; a slice's spare places count too). A statement '..UptoSaid' is the law's where the arguments, and the package variables that the reading takes, are together of bulk at most 1048576: NARROWER than '..Said'. Prove '..Said' where nothing that the law and all that it calls make is longer than what came in: it says more and counts as full. Else prove '..UptoSaid'. A law counts once. -/
mutual
def uptoBulk {H : Type} : DataW H → Nat
  | .lit (.string bytes) => bytes.length + 1
  | .lit _ => 1
  | .nil => 1
  | .ptr d => uptoBulk d + 1
  | .slice elems spare => uptoBulkAll elems + uptoBulkAll spare + 1
  | .agg parts => uptoBulkAll parts + 1
  | .iface _ d => uptoBulk d + 1
  | .map entries => uptoBulkEntries entries + 1
  | .held _ => 1
def uptoBulkAll {H : Type} : List (DataW H) → Nat
  | [] => 0
  | d :: r => uptoBulk d + uptoBulkAll r
def uptoBulkEntries {H : Type} : List (Lit × DataW H) → Nat
  | [] => 0
  | x :: r => uptoBulkEntry x + uptoBulkEntries r
def uptoBulkEntry {H : Type} : Lit × DataW H → Nat
  | (.string bytes, d) => bytes.length + uptoBulk d + 1
  | (_, d) => uptoBulk d + 1
 end
def uptoSmall : (H : Type) → List (DataW H) → Bool := fun _ ds => decide (uptoBulkAll ds ≤ 1048576)
def OpenSpec.upto (s : _root_.Go.ChangeSpec) : _root_.Go.OpenSpec := { _root_.Go.OpenSpec.ofChange s with cond := some uptoSmall }

/-- 'jalousielaw15.CondLogic', WHERE WHAT IT READS IS OF BULK AT MOST 1048576: true; the input reads as it did. -/
def condLogicUptoRow : OpenClaim := { program := "ytpcdhdllclenaaadoor", sum := "fc40291b0952a1f94cebf5011d7a10236a0f1edda102ce5f9f2d39c7cf0c6dd7", func := "jalousie/jalousielaw15.CondLogic", spec := "condLogic", recurses := true, named := ["jalousie/cond.fieldsOf"], apart := false, laid := [("jalousie/cond.fieldsOf", laid_jalousie_cond_fieldsOf)], narrowed := true }
def CondLogicUptoSaid : Prop := condLogicUptoRow.holds Tryd.pinned (OpenSpec.upto condLogicSpec)

/-- 'jalousielaw15.CondMorgan', WHERE WHAT IT READS IS OF BULK AT MOST 1048576: true; the input reads as it did. -/
def condMorganUptoRow : OpenClaim := { program := "ytpcdhdllclenaaadoor", sum := "fc40291b0952a1f94cebf5011d7a10236a0f1edda102ce5f9f2d39c7cf0c6dd7", func := "jalousie/jalousielaw15.CondMorgan", spec := "condMorgan", recurses := true, named := ["jalousie/cond.fieldsOf"], apart := false, laid := [("jalousie/cond.fieldsOf", laid_jalousie_cond_fieldsOf)], narrowed := true }
def CondMorganUptoSaid : Prop := condMorganUptoRow.holds Tryd.pinned (OpenSpec.upto condMorganSpec)

/-- 'jalousielaw15.CondTurned', WHERE WHAT IT READS IS OF BULK AT MOST 1048576: true; the input reads as it did. -/
def condTurnedUptoRow : OpenClaim := { program := "ytpcdhdllclenaaadoor", sum := "fc40291b0952a1f94cebf5011d7a10236a0f1edda102ce5f9f2d39c7cf0c6dd7", func := "jalousie/jalousielaw15.CondTurned", spec := "condTurned", recurses := true, named := ["jalousie/cond.fieldsOf"], apart := false, laid := [("jalousie/cond.fieldsOf", laid_jalousie_cond_fieldsOf)], narrowed := true }
def CondTurnedUptoSaid : Prop := condTurnedUptoRow.holds Tryd.pinned (OpenSpec.upto condTurnedSpec)

/-- 'jalousielaw15.CondMay', WHERE WHAT IT READS IS OF BULK AT MOST 1048576: true; the input reads as it did. -/
def condMayUptoRow : OpenClaim := { program := "ytpcdhdllclenaaadoor", sum := "fc40291b0952a1f94cebf5011d7a10236a0f1edda102ce5f9f2d39c7cf0c6dd7", func := "jalousie/jalousielaw15.CondMay", spec := "condMay", unfollowed := true, recurses := true, named := ["jalousie/cond.fieldsOf"], loops := true, apart := false, laid := [("jalousie/cond.fieldsOf", laid_jalousie_cond_fieldsOf)], narrowed := true }
def CondMayUptoSaid : Prop := condMayUptoRow.holds Tryd.pinned (OpenSpec.upto condMaySpec)

/-- 'jalousielaw15.CondEvals', WHERE WHAT IT READS IS OF BULK AT MOST 1048576: true; the input reads as it did. -/
def condEvalsUptoRow : OpenClaim := { program := "ytpcdhdllclenaaadoor", sum := "fc40291b0952a1f94cebf5011d7a10236a0f1edda102ce5f9f2d39c7cf0c6dd7", func := "jalousie/jalousielaw15.CondEvals", spec := "condEvals", unfollowed := true, recurses := true, named := ["jalousie/cond.fieldsOf"], loops := true, apart := false, laid := [("jalousie/cond.fieldsOf", laid_jalousie_cond_fieldsOf)], narrowed := true }
def CondEvalsUptoSaid : Prop := condEvalsUptoRow.holds Tryd.pinned (OpenSpec.upto condEvalsSpec)

/-- 'jalousielaw15.CondKleene', WHERE WHAT IT READS IS OF BULK AT MOST 1048576: true; the input reads as it did. -/
def condKleeneUptoRow : OpenClaim := { program := "ytpcdhdllclenaaadoor", sum := "fc40291b0952a1f94cebf5011d7a10236a0f1edda102ce5f9f2d39c7cf0c6dd7", func := "jalousie/jalousielaw15.CondKleene", spec := "condKleene", unfollowed := true, recurses := true, named := ["jalousie/cond.fieldsOf"], loops := true, apart := false, laid := [("jalousie/cond.fieldsOf", laid_jalousie_cond_fieldsOf)], narrowed := true }
def CondKleeneUptoSaid : Prop := condKleeneUptoRow.holds Tryd.pinned (OpenSpec.upto condKleeneSpec)

end Rows
end Go.Proofs.YtpcdhdllclenaaaDoor
