/-
  Contracts of the reference's numbers of two words.
-/
import Derived.Test.YtpcdhdllclenaaaWkB
import Derived.Laws.Externs
import Derived.Shelf.Spec.BitsCarry
namespace Go.Proofs.Ytpcdhdllclenaaa.wk
open Go.RowKit

theorem hl (v : Int) : hi v * 18446744073709551616 + lo v = v := by unfold hi lo; omega
theorem less_any (a b : Int) (w : World) :
    Calls Try.prog 18 #[.agg #[.int .u64 (hi a), .int .u64 (lo a)], .agg #[.int .u64 (hi b), .int .u64 (lo b)]] w fun e w' => e = .returned (.bool (decide (a < b))) ∧ ∃ c d, w' = (w.alloc (.cells c 38)).alloc (.cells d 38) := by
  have ea := hl a
  have eb := hl b
  have b1 := lo_bd a
  have b2 := lo_bd b
  by_cases h : hi a < hi b
  · have e1 : decide (a < b) = true := by simp; omega
    rw [e1]; clear e1 ea eb
    go_enter Try.func18, Try.ntmps18
    go_wp2
    go_ret
    exact ⟨rfl, _, _, rfl⟩
  by_cases h' : hi a = hi b
  · have e1 : decide (a < b) = decide (lo a < lo b) := by rw [decide_eq_decide]; omega
    have h2 : (hi a == hi b) = true := by simpa using h'
    rw [e1]; clear e1 ea eb
    go_enter Try.func18, Try.ntmps18
    go_wp2
    go_ret
    exact ⟨by simp, _, _, rfl⟩
  · have e1 : decide (a < b) = false := by simp; omega
    have h2 : (hi a == hi b) = false := by simpa using h'
    rw [e1]; clear e1 ea eb
    have h3 : decide (hi a < hi b) = false := by simpa using h
    go_enter Try.func18, Try.ntmps18
    go_wp2
    go_ret
    exact ⟨by simp, _, _, rfl⟩
theorem or_join (x y : Int) (k : Nat) (x0 : 0 ≤ x) (x1 : x < 18446744073709551616) (y0 : 0 ≤ y) (y1 : y < 18446744073709551616) (hx : x < 2 ^ k) (hy : y % 2 ^ k = 0) : bits .or .u64 x y = y + x := by
  obtain ⟨x, rfl⟩ := Int.eq_ofNat_of_zero_le x0
  obtain ⟨y, rfl⟩ := Int.eq_ofNat_of_zero_le y0
  rw [u64_or_nat x y (by omega) (by omega), Nat.or_comm, nat_join k y x (by exact_mod_cast hy) (by exact_mod_cast hx)]
  simp
theorem or_join' (x y : Int) (k : Nat) (x0 : 0 ≤ x) (x1 : x < 18446744073709551616) (y0 : 0 ≤ y) (y1 : y < 18446744073709551616) (hx : x < 2 ^ k) (hy : y % 2 ^ k = 0) : bits .or .u64 y x = y + x := by
  obtain ⟨x, rfl⟩ := Int.eq_ofNat_of_zero_le x0
  obtain ⟨y, rfl⟩ := Int.eq_ofNat_of_zero_le y0
  rw [u64_or_nat y x (by omega) (by omega), nat_join k y x (by exact_mod_cast hy) (by exact_mod_cast hx)]
  simp
theorem half_lo (v : Int) : bits .or .u64 (lo v / 2) (IntKind.u64.wrap (hi v * 9223372036854775808)) = lo (v / 2) := by
  rw [IntKind.wrap_u64, or_join _ _ 63 (by unfold lo; omega) (by unfold lo; omega) (by omega) (by omega) (by unfold lo; omega) (by omega)]
  unfold lo hi; omega
theorem half_hi (v : Int) : hi v / 2 = hi (v / 2) := by unfold hi; omega
theorem twice_hi (v : Int) (h0 : 0 ≤ v) (h1 : v < 170141183460469231731687303715884105728) : bits .or .u64 (IntKind.u64.wrap (hi v * 2)) (lo v / 9223372036854775808) = hi (2 * v) := by
  rw [IntKind.wrap_u64, or_join' _ _ 1 (by unfold lo; omega) (by unfold lo; omega) (by omega) (by omega) (by unfold lo; omega) (by omega)]
  unfold lo hi; omega
theorem twice_lo (v : Int) : IntKind.u64.wrap (lo v * 2) = lo (2 * v) := by rw [IntKind.wrap_u64]; unfold lo; omega
/-- The borrow. -/
def bor (x y : Int) : Int := if x < y then 1 else 0
theorem bor_bd (x y : Int) : 0 ≤ bor x y ∧ bor x y ≤ 1 := by unfold bor; split <;> omega
theorem sub_lo (a b : Int) : lo (lo a - lo b) = lo (a - b) := by unfold lo; omega
theorem sub_hi (a b : Int) (b0 : 0 ≤ b) (h : b ≤ a) (a1 : a < 340282366920938463463374607431768211456) : lo (hi a - hi b - bor (lo a) (lo b)) = hi (a - b) := by
  unfold bor; split <;> (unfold lo hi at *; omega)
theorem mul_any (x y : Int) (w : World) (x0 : 0 ≤ x) (x1 : x < 18446744073709551616) (y0 : 0 ≤ y) (y1 : y < 18446744073709551616) :
    Calls Try.prog 16 #[.int .u64 x, .int .u64 y] w fun e w' => e = .returned (.agg #[.int .u64 (hi (x * y)), .int .u64 (lo (x * y))]) ∧ ∃ c, w' = w.alloc (.cells c 38) := by
  go_enter Try.func16, Try.ntmps16
  go_wp2_with (go_at_call 12; refine (mul64_any _ _ _ x0 x1 y0 y1).mono ?_; rintro e w1 ⟨rfl, rfl⟩)
  exact bodyPost_ret (v := .agg #[.int .u64 (hi (x * y)), .int .u64 (lo (x * y))]) (by simp [results, Try.results16, go_sem]) rfl ⟨rfl, _, rfl⟩
end Go.Proofs.Ytpcdhdllclenaaa.wk
