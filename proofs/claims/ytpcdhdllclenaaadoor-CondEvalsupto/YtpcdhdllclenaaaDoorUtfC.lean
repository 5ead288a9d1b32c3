/-
  The reference's reading of one character; whole bytes, by the program and by the reference.
-/
import Derived.Test.YtpcdhdllclenaaaDoorUtfB
import Derived.Deep.LoopGhost
set_option linter.unusedVariables false
set_option linter.unusedSimpArgs false
namespace Go.Proofs.YtpcdhdllclenaaaDoor
open Go.RowKit

theorem gt_drop (bs : List Int) (i j : Nat) : gt (bs.drop i) j = gt bs (i + j) := by simp [gt, List.getD_eq_getElem?_getD]
/-- The state of the reference's loop over followers. -/
def RelOne (m i n : Nat) (D : List Int) (lo hi cc i' : Value) : Prop := ∃ (k : Nat) (C L H : Int), k ≤ m ∧ i + k + 1 ≤ n ∧ i' = .int .i64 (k + 1) ∧ cc = .int .i32 C ∧ lo = .int .u8 L ∧ hi = .int .u8 H ∧ 0 ≤ C ∧ Hid (C < bd k) ∧ Hid (stp D = fol (m + 1 - 1 - k) C L H (k + 1) (D.drop (k + 1)))
theorem RelOne.mk {m i n : Nat} {D : List Int} (k : Nat) (C L H : Int) {lo hi cc i' : Value} (h1 : k ≤ m) (h2 : i + k + 1 ≤ n) (h3 : i' = .int .i64 (k + 1)) (h4 : cc = .int .i32 C) (h5 : lo = .int .u8 L) (h6 : hi = .int .u8 H) (h7 : 0 ≤ C) (h8 : C < bd k) (h9 : stp D = fol (m + 1 - 1 - k) C L H (k + 1) (D.drop (k + 1))) : RelOne m i n D lo hi cc i' :=
  ⟨k, C, L, H, h1, h2, h3, h4, h5, h6, h7, h8, h9⟩
end Go.Proofs.YtpcdhdllclenaaaDoor
