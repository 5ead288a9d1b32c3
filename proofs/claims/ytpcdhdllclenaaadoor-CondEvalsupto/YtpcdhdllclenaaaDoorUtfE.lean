/-
  The law of whole bytes.
-/
import Derived.Test.YtpcdhdllclenaaaDoorUtfD
import Derived.Deep.RegionHeld3
set_option linter.unusedVariables false
set_option linter.unusedSimpArgs false
namespace Go.Proofs.YtpcdhdllclenaaaDoor
open Go.RowKit

/-- A slice laid by the call itself. -/
theorem Nums.lit {k : IntKind} (w : World) (t : TypeId) (bs : List Int) (n : Nat) (hn : n = bs.length) (h0 : 0 < n) (hl : n ≤ 1000) :
    Nums k (w.alloc (.cells (bs.map (Value.int k)).toArray t)) (.slice (some ⟨w.heap.size, 0, none⟩) n n) bs :=
  .inr ⟨w.heap.size, 0, n, n, rfl, hn, h0, by simp, Nat.le_refl _, by omega, by omega, fun i hi => by
    rw [cell_of_row _ w.heap.size (0 + i) _ t (0, 0) (heap_alloc_new w _)]
    simp [gt, List.getD_eq_getElem?_getD, List.getElem?_eq_getElem (show i < bs.length by omega)]⟩
theorem whole_two : whole [195, 164] = true := by
  rw [whole_cut (by simp)]
  show (true && whole []) = true
  rw [whole_nil]; rfl
theorem By.two : By [195, 164] := by intro x hx; simp at hx; omega
end Go.Proofs.YtpcdhdllclenaaaDoor
