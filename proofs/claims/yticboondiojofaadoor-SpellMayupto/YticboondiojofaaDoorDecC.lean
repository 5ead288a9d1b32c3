/-
  A number times a power of ten, in lowest terms, by the program; what stands behind an e.
-/
import Derived.Test.YticboondiojofaaDoorDecB
import Derived.Deep.RegionWith
set_option linter.unusedVariables false
set_option linter.unusedSimpArgs false
namespace Go.Proofs.YticboondiojofaaDoor
open Go.RowKit

/-- A number times a power of ten, as the program tells it. -/
def shN (n : Nat) (p : Int) : Nat := if 0 ≤ p then mulV (n * 10 ^ p.toNat) else if mulB (2 ^ (strip 2 n (-p).toNat).2) then (strip 5 (strip 2 n (-p).toNat).1 (-p).toNat).1 else 0
def shD (n : Nat) (p : Int) : Nat := if 0 ≤ p then 1 else if mulB (2 ^ (strip 2 n (-p).toNat).2) then mulV (mulV (2 ^ (strip 2 n (-p).toNat).2) * 5 ^ (strip 5 (strip 2 n (-p).toNat).1 (-p).toNat).2) else 0
def shB (n : Nat) (p : Int) : Bool := if 0 ≤ p then mulB (n * 10 ^ p.toNat) else if mulB (2 ^ (strip 2 n (-p).toNat).2) then mulB (mulV (2 ^ (strip 2 n (-p).toNat).2) * 5 ^ (strip 5 (strip 2 n (-p).toNat).1 (-p).toNat).2) else false
theorem mulB_iff (P : Nat) : mulB P = true ↔ P ≤ 9223372036854775807 := by simp [mulB]
end Go.Proofs.YticboondiojofaaDoor
