/-
  Contracts: what stands at the front of some bytes, by the program and by the reference.
-/
import Derived.Test.YtpcdhdllclenaaaDoorUtfA
set_option linter.unusedVariables false
set_option linter.unusedSimpArgs false
namespace Go.Proofs.YtpcdhdllclenaaaDoor
open Go.RowKit

theorem lo_bd (a : Int) : 0 ≤ loOf a ∧ loOf a ≤ 255 ∧ 0 ≤ hiOf a ∧ hiOf a ≤ 255 := by
  unfold loOf hiOf
  refine ⟨?_, ?_, ?_, ?_⟩ <;> (repeat' split) <;> omega
theorem ld_bd (a : Int) (h0 : 0 ≤ a) (hz : szOf a ≠ 0) : 0 ≤ ldOf a ∧ ldOf a < 128 := by
  unfold ldOf
  (repeat' split) <;> omega
/-- One follower more. -/
theorem fol_in {s k : Nat} {C L H : Int} {bs : List Int} {r : Int × Nat × Bool} (h : r = fol (s - 1 - k) C L H (k + 1) (bs.drop (k + 1))) (hk : k + 1 < s) (hn : k + 1 < bs.length) (h1 : L ≤ gt bs (k + 1)) (h2 : gt bs (k + 1) ≤ H) :
    r = fol (s - 1 - (k + 1)) (C * 64 + gt bs (k + 1) % 64) 128 191 (k + 1 + 1) (bs.drop (k + 1 + 1)) := by
  rw [h, drop_gt hn, show s - 1 - k = (s - 1 - (k + 1)) + 1 by omega]
  simp only [fol]
  rw [if_neg (by omega)]
theorem fol_out {s k : Nat} {C L H : Int} {bs : List Int} {r : Int × Nat × Bool} (h : r = fol (s - 1 - k) C L H (k + 1) (bs.drop (k + 1))) (hk : k + 1 < s) (hn : k + 1 < bs.length) (h1 : gt bs (k + 1) < L ∨ H < gt bs (k + 1)) :
    r = (65533, k + 1, false) := by
  rw [h, drop_gt hn, show s - 1 - k = (s - 1 - (k + 1)) + 1 by omega]
  simp only [fol]
  rw [if_pos h1]
theorem fol_end {s k : Nat} {C L H : Int} {bs : List Int} {r : Int × Nat × Bool} (h : r = fol (s - 1 - k) C L H (k + 1) (bs.drop (k + 1))) (hk : k + 1 < s) (hn : bs.length ≤ k + 1) :
    r = (65533, k + 1, false) := by
  rw [h, List.drop_of_length_le hn, show s - 1 - k = (s - 1 - (k + 1)) + 1 by omega]
  simp only [fol]
theorem fol_all {s k : Nat} {C L H : Int} {bs : List Int} {r : Int × Nat × Bool} (h : r = fol (s - 1 - k) C L H (k + 1) (bs.drop (k + 1))) (hk : s = k + 1) :
    r = (C, s, true) := by
  rw [h, show s - 1 - k = 0 by omega, hk]
  simp only [fol]
theorem wrap64' (c : Int) (h0 : 0 ≤ c) (h1 : c < 524288) : IntKind.i32.wrap (c * 64) = c * 64 := wrap_i32_small _ (by omega) (by omega)

end Go.Proofs.YtpcdhdllclenaaaDoor
