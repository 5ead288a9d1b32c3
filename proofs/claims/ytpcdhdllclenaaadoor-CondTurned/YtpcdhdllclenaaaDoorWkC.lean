/-
  Contracts of the reference's numbers of two words.
-/
import Derived.Test.YtpcdhdllclenaaaDoorWkB
import Derived.Laws.Externs
import Derived.Shelf.Spec.BitsCarry
namespace Go.Proofs.YtpcdhdllclenaaaDoor.wk
open Go.RowKit

theorem hl (v : Int) : hi v * 18446744073709551616 + lo v = v := by unfold hi lo; omega
theorem or_join (x y : Int) (k : Nat) (x0 : 0 ≤ x) (x1 : x < 18446744073709551616) (y0 : 0 ≤ y) (y1 : y < 18446744073709551616) (hx : x < 2 ^ k) (hy : y % 2 ^ k = 0) : bits .or .u64 x y = y + x := by
  obtain ⟨x, rfl⟩ := Int.eq_ofNat_of_zero_le x0
  obtain ⟨y, rfl⟩ := Int.eq_ofNat_of_zero_le y0
  rw [u64_or_nat x y (by omega) (by omega), Nat.or_comm, nat_join k y x (by exact_mod_cast hy) (by exact_mod_cast hx)]
  simp
theorem or_join' (x y : Int) (k : Nat) (x0 : 0 ≤ x) (x1 : x < 18446744073709551616) (y0 : 0 ≤ y) (y1 : y < 18446744073709551616) (hx : x < 2 ^ k) (hy : y % 2 ^ k = 0) : bits .or .u64 y x = y + x := by
  obtain ⟨x, rfl⟩ := Int.eq_ofNat_of_zero_le x0
  obtain ⟨y, rfl⟩ := Int.eq_ofNat_of_zero_le y0
  rw [u64_or_nat y x (by omega) (by omega), nat_join k y x (by exact_mod_cast hy) (by exact_mod_cast hx)]
  simp
theorem half_lo (v : Int) : bits .or .u64 (lo v / 2) (IntKind.u64.wrap (hi v * 9223372036854775808)) = lo (v / 2) := by
  rw [IntKind.wrap_u64, or_join _ _ 63 (by unfold lo; omega) (by unfold lo; omega) (by omega) (by omega) (by unfold lo; omega) (by omega)]
  unfold lo hi; omega
theorem half_hi (v : Int) : hi v / 2 = hi (v / 2) := by unfold hi; omega
theorem twice_hi (v : Int) (h0 : 0 ≤ v) (h1 : v < 170141183460469231731687303715884105728) : bits .or .u64 (IntKind.u64.wrap (hi v * 2)) (lo v / 9223372036854775808) = hi (2 * v) := by
  rw [IntKind.wrap_u64, or_join' _ _ 1 (by unfold lo; omega) (by unfold lo; omega) (by omega) (by omega) (by unfold lo; omega) (by omega)]
  unfold lo hi; omega
theorem twice_lo (v : Int) : IntKind.u64.wrap (lo v * 2) = lo (2 * v) := by rw [IntKind.wrap_u64]; unfold lo; omega
/-- The borrow. -/
def bor (x y : Int) : Int := if x < y then 1 else 0
theorem bor_bd (x y : Int) : 0 ≤ bor x y ∧ bor x y ≤ 1 := by unfold bor; split <;> omega
theorem sub_lo (a b : Int) : lo (lo a - lo b) = lo (a - b) := by unfold lo; omega
theorem sub_hi (a b : Int) (b0 : 0 ≤ b) (h : b ≤ a) (a1 : a < 340282366920938463463374607431768211456) : lo (hi a - hi b - bor (lo a) (lo b)) = hi (a - b) := by
  unfold bor; split <;> (unfold lo hi at *; omega)
end Go.Proofs.YtpcdhdllclenaaaDoor.wk
