/-
  A number of a stylesheet taken apart, by the program: the walk.
-/
import Derived.Test.YticboondiojofaaDoorDecE
set_option linter.unusedVariables false
set_option linter.unusedSimpArgs false
namespace Go.Proofs.YticboondiojofaaDoor
open Go.RowKit

theorem emp_of {s : ByteArray} {l : List Int} (h : bl s = l) (hl : l = []) : s.toList.isEmpty = true := emp_t (bl_size0.1 (h.trans hl))
theorem full_of {s : ByteArray} {l : List Int} (h : bl s = l) (hl : l ≠ []) : s.toList.isEmpty = false := emp_f (Nat.pos_of_ne_zero fun g => hl (h.symm.trans (bl_size0.2 g)))
theorem pos_of {s : ByteArray} {l : List Int} (h : bl s = l) (hl : l ≠ []) : 0 < s.size := Nat.pos_of_ne_zero fun g => hl (h.symm.trans (bl_size0.2 g))
theorem size_of {s : ByteArray} {l : List Int} (h : bl s = l) {n : Nat} (hl : l.length ≤ n) : s.size ≤ n := by rw [← bl_len, h]; exact hl
theorem dot_ne {l : List Int} (h : nx l 0 = 46) : l ≠ [] := by rintro rfl; simp [nx] at h
end Go.Proofs.YticboondiojofaaDoor
