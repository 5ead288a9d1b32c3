/-
  A number of a stylesheet, by the program: the whole.
-/
import Derived.Test.YticboondiojofaaDoorDecH
import Derived.Deep.RegionHeld3
set_option linter.unusedVariables false
set_option linter.unusedSimpArgs false
namespace Go.Proofs.YticboondiojofaaDoor
open Go.RowKit

/-- What is told of a text as a number. -/
def dN (S : List Int) : Int := ((dec S).getD ((0, 0), false)).1.1
def dD (S : List Int) : Int := ((dec S).getD ((0, 0), false)).1.2
def dW (S : List Int) : Bool := ((dec S).getD ((0, 0), false)).2
def dE (S : List Int) : Int := if (dec S).isSome then 0 else 3
def decV (S : List Int) : Value := .tuple #[ratV (dN S) (dD S), .bool (dW S), .int .i64 (dE S)]
theorem decV_none {S : List Int} (h : dec S = none) : decV S = .tuple #[ratV 0 0, .bool false, .int .i64 3] := by unfold decV dN dD dW dE; rw [h]; rfl
theorem decV_some {S : List Int} {r : Int × Int} {b : Bool} (h : dec S = some (r, b)) : decV S = .tuple #[ratV r.1 r.2, .bool b, .int .i64 0] := by unfold decV dN dD dW dE; rw [h]; rfl
end Go.Proofs.YticboondiojofaaDoor
