/-
  Whether two rows of numbers are alike: characters, bytes.
-/
import Derived.Test.YtpcdhdllclenaaaDoorUtfE
set_option linter.unusedVariables false
set_option linter.unusedSimpArgs false
namespace Go.Proofs.YtpcdhdllclenaaaDoor
open Go.RowKit

def eqB (a b : List Int) : Bool := decide (a = b)
theorem eq_of {xs bs : List Int} (hl : xs.length = bs.length) (h : ∀ j, j < xs.length → gt xs j = gt bs j) : eqB xs bs = true := by
  unfold eqB; simp
  refine List.ext_getElem hl fun i h1 h2 => ?_
  have := h i h1
  rwa [gt_eq h1, gt_eq h2] at this
theorem eqB_iff {a b : List Int} : eqB a b = true ↔ a = b := by unfold eqB; simp
theorem below_drewN {B : Nat} {a w : World} (h : Below B a w) (n : Nat) : Below B a (w.drewN n) := ⟨h.os, h.tape, h.output, h.size, h.block⟩
def RelEq (n : Nat) (xs bs : List Int) (i : Value) : Prop := ∃ k : Nat, k ≤ n ∧ i = .int .i64 k ∧ Hid (∀ j, j < k → gt xs j = gt bs j)
theorem RelEq.mk {n : Nat} {xs bs : List Int} (k : Nat) {i : Value} (h1 : k ≤ n) (h2 : i = .int .i64 k) (h3 : ∀ j, j < k → gt xs j = gt bs j) : RelEq n xs bs i := ⟨k, h1, h2, h3⟩
end Go.Proofs.YtpcdhdllclenaaaDoor
