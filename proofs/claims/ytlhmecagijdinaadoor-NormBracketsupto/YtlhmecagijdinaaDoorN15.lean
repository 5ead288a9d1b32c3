/-
  The law of whole bytes.
  Whether two rows of numbers are alike: characters, bytes.
-/
import Derived.Test.YtlhmecagijdinaaDoorN14
import Derived.Deep.RegionHeld3
set_option linter.unusedVariables false
set_option linter.unusedSimpArgs false
namespace Go.Proofs.YtlhmecagijdinaaDoor
open Go.RowKit

/-- A slice laid by the call itself. -/
theorem Nums.lit {k : IntKind} (w : World) (t : TypeId) (bs : List Int) (n : Nat) (hn : n = bs.length) (h0 : 0 < n) (hl : n ≤ 1000) :
    Nums k (w.alloc (.cells (bs.map (Value.int k)).toArray t)) (.slice (some ⟨w.heap.size, 0, none⟩) n n) bs :=
  .inr ⟨w.heap.size, 0, n, n, rfl, hn, h0, by simp, Nat.le_refl _, by omega, by omega, fun i hi => by
    rw [cell_of_row _ w.heap.size (0 + i) _ t (0, 0) (heap_alloc_new w _)]
    simp [gt, List.getD_eq_getElem?_getD, List.getElem?_eq_getElem (show i < bs.length by omega)]⟩
theorem whole_two : whole [195, 164] = true := by
  rw [whole_cut (by simp)]
  show (true && whole []) = true
  rw [whole_nil]; rfl
theorem By.two : By [195, 164] := by intro x hx; simp at hx; omega
end Go.Proofs.YtlhmecagijdinaaDoor
set_option linter.unusedVariables false
set_option linter.unusedSimpArgs false
namespace Go.Proofs.YtlhmecagijdinaaDoor
open Go.RowKit

def eqB (a b : List Int) : Bool := decide (a = b)
theorem eq_of {xs bs : List Int} (hl : xs.length = bs.length) (h : ∀ j, j < xs.length → gt xs j = gt bs j) : eqB xs bs = true := by
  unfold eqB; simp
  refine List.ext_getElem hl fun i h1 h2 => ?_
  have := h i h1
  rwa [gt_eq h1, gt_eq h2] at this
theorem eqB_iff {a b : List Int} : eqB a b = true ↔ a = b := by unfold eqB; simp
theorem below_drewN {B : Nat} {a w : World} (h : Below B a w) (n : Nat) : Below B a (w.drewN n) := ⟨h.os, h.tape, h.output, h.size, h.block⟩
def RelEq (n : Nat) (xs bs : List Int) (i : Value) : Prop := ∃ k : Nat, k ≤ n ∧ i = .int .i64 k ∧ Hid (∀ j, j < k → gt xs j = gt bs j)
theorem RelEq.mk {n : Nat} {xs bs : List Int} (k : Nat) {i : Value} (h1 : k ≤ n) (h2 : i = .int .i64 k) (h3 : ∀ j, j < k → gt xs j = gt bs j) : RelEq n xs bs i := ⟨k, h1, h2, h3⟩
end Go.Proofs.YtlhmecagijdinaaDoor
