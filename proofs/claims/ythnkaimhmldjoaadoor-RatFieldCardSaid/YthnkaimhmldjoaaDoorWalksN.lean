/-
  The library's quotient of 128 bits by 64.
-/
import Derived.Test.YthnkaimhmldjoaaDoorWalksI
import Derived.Test.YthnkaimhmldjoaaDoorShelf
import Derived.Deep.LoopGhost
set_option linter.unusedVariables false
namespace Go.Proofs.YthnkaimhmldjoaaDoor
open Go.RowKit

/-! ### Plain numbers: one digit of a quotient -/
/-- The digit of (A * 2^32 + x) / v that is sought. -/
def dg (A x v : Int) : Int := (A * 4294967296 + x) / v
theorem dg_bd {A x v : Int} (A0 : 0 ≤ A) (x0 : 0 ≤ x) (x1 : x < 4294967296) (hA : A < v) : 0 ≤ dg A x v ∧ dg A x v < 4294967296 := by
  unfold dg
  refine ⟨Int.ediv_nonneg (by omega) (by omega), ?_⟩
  exact Int.ediv_lt_of_lt_mul (by omega) (by omega)
theorem dg_le {A x v Q : Int} (hv : 0 < v) (h : Q * v ≤ A * 4294967296 + x) : Q ≤ dg A x v := Int.le_ediv_of_mul_le hv h
theorem dg_lt {A x v Q : Int} (hv : 0 < v) (h : A * 4294967296 + x < Q * v) : dg A x v < Q := Int.ediv_lt_of_lt_mul hv h
theorem dg_rem {A x v : Int} (hv : 0 < v) : 0 ≤ A * 4294967296 + x - dg A x v * v ∧ A * 4294967296 + x - dg A x v * v < v := by
  unfold dg
  have h1 := Int.emod_nonneg (A * 4294967296 + x) (by omega : v ≠ 0)
  have h2 := Int.emod_lt_of_pos (A * 4294967296 + x) hv
  rw [Int.emod_def, Int.mul_comm v] at h1 h2
  exact ⟨h1, h2⟩
theorem split_v (Q v : Int) : Q * v = Q * (v / 4294967296) * 4294967296 + Q * (v % 4294967296) := by
  rw [Int.mul_assoc, ← Int.mul_add]
  congr 1
  omega
theorem first_q {A x v : Int} (A0 : 0 ≤ A) (x0 : 0 ≤ x) (x1 : x < 4294967296) (hA : A < v) (v0 : 9223372036854775808 ≤ v) (v1 : v < 18446744073709551616) :
    dg A x v ≤ A / (v / 4294967296) ∧ A / (v / 4294967296) ≤ 4294967297 := by
  have hv1 : 2147483648 ≤ v / 4294967296 := by omega
  have e := Int.mul_ediv_add_emod A (v / 4294967296)
  have m0 := Int.emod_nonneg A (by omega : v / 4294967296 ≠ 0)
  have m1 := Int.emod_lt_of_pos A (by omega : 0 < v / 4294967296)
  have hs := split_v (A / (v / 4294967296) + 1) v
  have h0 : 0 ≤ (A / (v / 4294967296) + 1) * (v % 4294967296) := Int.mul_nonneg (by have := Int.ediv_nonneg A0 (by omega : 0 ≤ v / 4294967296); omega) (by omega)
  refine ⟨?_, ?_⟩
  · have : dg A x v < A / (v / 4294967296) + 1 := by
      refine dg_lt (by omega) ?_
      rw [hs, Int.add_mul, Int.one_mul]
      rw [Int.mul_comm] at e
      omega
    omega
  · have h2 : A / (v / 4294967296) < 4294967298 := by
      refine Int.ediv_lt_of_lt_mul (by omega) ?_
      omega
    omega
/-- The guess is too great. -/
theorem q_high {A x v Q R : Int} (hv : 0 < v) (e : A = Q * (v / 4294967296) + R) (h : 4294967296 * R + x < Q * (v % 4294967296)) : dg A x v < Q := by
  refine dg_lt hv ?_
  have hs := split_v Q v
  rw [hs, e, Int.add_mul]
  omega
/-- The guess is not too great. -/
theorem q_low {A x v Q R : Int} (hv : 0 < v) (e : A = Q * (v / 4294967296) + R) (h : Q * (v % 4294967296) ≤ 4294967296 * R + x) : Q ≤ dg A x v := by
  refine dg_le hv ?_
  have hs := split_v Q v
  rw [hs, e, Int.add_mul]
  omega
theorem q_prod {Q v : Int} (Q0 : 0 ≤ Q) (Q1 : Q ≤ 4294967297) : 0 ≤ Q * (v % 4294967296) ∧ Q * (v % 4294967296) < 18446744073709551616 := by
  refine ⟨Int.mul_nonneg Q0 (by omega), ?_⟩
  have h1 : Q * (v % 4294967296) ≤ 4294967297 * (v % 4294967296) := Int.mul_le_mul_of_nonneg_right Q1 (by omega)
  omega
theorem q_prod' {Q v : Int} (Q0 : 0 ≤ Q) (Q1 : Q ≤ 4294967296) : Q * (v % 4294967296) ≤ 18446744069414584320 := by
  have h1 : Q * (v % 4294967296) ≤ 4294967296 * (v % 4294967296) := Int.mul_le_mul_of_nonneg_right Q1 (by omega)
  omega
theorem wrap_in {x : Int} (h0 : 0 ≤ x) (h1 : x < 18446744073709551616) : IntKind.u64.wrap x = x := by rw [IntKind.wrap_u64]; omega
/-- What is left behind a digit. -/
theorem rest_eq {A x v : Int} (hv : 0 < v) (v1 : v < 18446744073709551616) : IntKind.u64.wrap (IntKind.u64.wrap (IntKind.u64.wrap (A * 4294967296) + x) - IntKind.u64.wrap (dg A x v * v)) = A * 4294967296 + x - dg A x v * v := by
  obtain ⟨h0, h1⟩ := dg_rem (A := A) (x := x) hv
  simp only [IntKind.wrap_u64]
  generalize dg A x v * v = z at *
  omega
/-- The quotient and what is left, of the moved numbers. -/
theorem two_digits {A L v : Int} (hv : 0 < v) :
    (A * 18446744073709551616 + L) / v = dg A (L / 4294967296) v * 4294967296 + dg (A * 4294967296 + L / 4294967296 - dg A (L / 4294967296) v * v) (L % 4294967296) v ∧
    (A * 18446744073709551616 + L) % v = (A * 4294967296 + L / 4294967296 - dg A (L / 4294967296) v * v) * 4294967296 + L % 4294967296 - dg (A * 4294967296 + L / 4294967296 - dg A (L / 4294967296) v * v) (L % 4294967296) v * v := by
  generalize hq : dg A (L / 4294967296) v = q
  generalize hu : A * 4294967296 + L / 4294967296 - q * v = U
  obtain ⟨h0, h1⟩ := dg_rem (A := U) (x := L % 4294967296) hv
  generalize hp : dg U (L % 4294967296) v = p at *
  have e : A * 18446744073709551616 + L = (U * 4294967296 + L % 4294967296 - p * v) + (q * 4294967296 + p) * v := by
    rw [Int.add_mul, Int.mul_right_comm]
    generalize q * v = z at *
    generalize p * v = t at *
    omega
  rw [e]
  refine ⟨?_, ?_⟩
  · rw [Int.add_mul_ediv_right _ _ (by omega), Int.ediv_eq_zero_of_lt h0 h1]; omega
  · rw [Int.add_mul_emod_self_right, Int.emod_eq_of_lt h0 h1]
/-- The numbers, moved. -/
theorem moved {h l : Int} (k : Nat) (hk : k ≤ 63) (l0 : 0 ≤ l) (l1 : l < 18446744073709551616) (h0 : 0 ≤ h) (hb : h * 2 ^ k < 18446744073709551616) :
    bits .or .u64 (IntKind.u64.wrap (h * 2 ^ k)) (l / 2 ^ (64 - k)) * 18446744073709551616 + IntKind.u64.wrap (l * 2 ^ k) = (h * 18446744073709551616 + l) * 2 ^ k ∧
    bits .or .u64 (IntKind.u64.wrap (h * 2 ^ k)) (l / 2 ^ (64 - k)) = h * 2 ^ k + l / 2 ^ (64 - k) := by
  have p0 : (0 : Int) < 2 ^ k := Int.pow_pos (by omega)
  have p1 : (0 : Int) < 2 ^ (64 - k) := Int.pow_pos (by omega)
  have pe : (2 : Int) ^ k * 2 ^ (64 - k) = 18446744073709551616 := by rw [← Int.pow_add, show k + (64 - k) = 64 by omega]; rfl
  have hh : 0 ≤ h * 2 ^ k := Int.mul_nonneg h0 (by omega)
  have q0 : 0 ≤ l / 2 ^ (64 - k) := Int.ediv_nonneg l0 (by omega)
  have q1 : l / 2 ^ (64 - k) < 2 ^ k := Int.ediv_lt_of_lt_mul p1 (by rw [pe]; exact l1)
  have q2 : (2 : Int) ^ k ≤ 18446744073709551616 := by
    have : (2 : Int) ^ k * 1 ≤ 2 ^ k * 2 ^ (64 - k) := Int.mul_le_mul_of_nonneg_left (by omega) (by omega)
    omega
  have hor : bits .or .u64 (IntKind.u64.wrap (h * 2 ^ k)) (l / 2 ^ (64 - k)) = h * 2 ^ k + l / 2 ^ (64 - k) := by
    rw [wrap_in hh hb, or_join' (l / 2 ^ (64 - k)) (h * 2 ^ k) k q0 (by omega) hh hb q1 (Int.mul_emod_left _ _)]
  refine ⟨?_, hor⟩
  rw [hor, IntKind.wrap_u64]
  have e1 : l * 2 ^ k % 18446744073709551616 = (l % 2 ^ (64 - k)) * 2 ^ k := by
    rw [← pe, Int.mul_comm l, Int.mul_emod_mul_of_pos _ _ p0, Int.mul_comm]
  have e2 := Int.mul_ediv_add_emod l (2 ^ (64 - k))
  rw [e1, Int.add_mul, Int.add_mul]
  have e3 : l * 2 ^ k = l / 2 ^ (64 - k) * 18446744073709551616 + (l % 2 ^ (64 - k)) * 2 ^ k := by
    rw [← pe]
    have : l / 2 ^ (64 - k) * (2 ^ k * 2 ^ (64 - k)) = (2 ^ (64 - k) * (l / 2 ^ (64 - k))) * 2 ^ k := by
      rw [← Int.mul_assoc, Int.mul_right_comm, Int.mul_comm (l / 2 ^ (64 - k))]
    rw [this, ← Int.add_mul, e2]
  rw [e3, Int.mul_right_comm h]
  omega

/-- How far the divisor is moved. -/
theorem bl_spec (x : Nat) (h0 : x ≠ 0) (h : x < 2 ^ 64) : 1 ≤ Lib.bitLen x ∧ Lib.bitLen x ≤ 64 ∧ 2 ^ (Lib.bitLen x - 1) ≤ x ∧ x < 2 ^ Lib.bitLen x := by
  induction x using Nat.strongRecOn with
  | _ x ih =>
    rw [Lib.bitLen_half x h0 h]
    by_cases h1 : x / 2 = 0
    · rw [h1]
      have : Lib.bitLen 0 = 0 := by decide
      rw [this]
      omega
    · obtain ⟨a, b, c, d⟩ := ih (x / 2) (by omega) h1 (by omega)
      generalize Lib.bitLen (x / 2) = m at *
      obtain ⟨j, rfl⟩ : ∃ j, m = j + 1 := ⟨m - 1, by omega⟩
      have e1 : 1 + (j + 1) - 1 = j + 1 := by omega
      have e2 : 1 + (j + 1) = j + 1 + 1 := by omega
      have hj : j + 1 ≤ 63 := by
        refine Nat.le_of_not_lt fun hlt => ?_
        have : 2 ^ 63 ≤ 2 ^ (j + 1 - 1) := Nat.pow_le_pow_right (by decide) (by omega)
        omega
      rw [e1, e2]
      simp only [Nat.add_sub_cancel] at c
      rw [Nat.pow_succ] at d
      refine ⟨by omega, by omega, ?_, ?_⟩
      · rw [Nat.pow_succ]; omega
      · rw [Nat.pow_succ, Nat.pow_succ]; omega
theorem lz_form (y : Int) (w : World) (h0 : 0 < y) (h1 : y < 18446744073709551616) :
    Calls Tryd.prog 27 #[.int .u64 y] w fun e w' => ∃ k : Nat, e = .returned (.int .i64 k) ∧ k ≤ 63 ∧ 9223372036854775808 ≤ y * 2 ^ k ∧ y * 2 ^ k < 18446744073709551616 ∧ w = w' := by
  obtain ⟨a, b, c, d⟩ := bl_spec y.toNat (by omega) (by omega)
  refine (lz_any y w (by omega) (by omega)).mono fun e w' ⟨he, hw⟩ => ?_
  refine ⟨64 - Lib.bitLen y.toNat, ?_, by omega, ?_, ?_, hw.symm⟩
  · rw [he]; congr 2; omega
  · generalize Lib.bitLen y.toNat = m at *
    have e1 : 2 ^ (m - 1) * 2 ^ (64 - m) = 2 ^ 63 := by rw [← Nat.pow_add]; congr 1; omega
    have e2 : 2 ^ (m - 1) * 2 ^ (64 - m) ≤ y.toNat * 2 ^ (64 - m) := Nat.mul_le_mul_right _ c
    have e3 : y * 2 ^ (64 - m) = ((y.toNat * 2 ^ (64 - m) : Nat) : Int) := by rw [Int.natCast_mul, Int.toNat_of_nonneg (by omega)]; simp
    rw [e3]; omega
  · generalize Lib.bitLen y.toNat = m at *
    have e1 : 2 ^ m * 2 ^ (64 - m) = 2 ^ 64 := by rw [← Nat.pow_add]; congr 1; omega
    have e2 : y.toNat * 2 ^ (64 - m) < 2 ^ m * 2 ^ (64 - m) := Nat.mul_lt_mul_of_pos_right d (Nat.pow_pos (by decide))
    have e3 : y * 2 ^ (64 - m) = ((y.toNat * 2 ^ (64 - m) : Nat) : Int) := by rw [Int.natCast_mul, Int.toNat_of_nonneg (by omega)]; simp
    rw [e3]; omega
end Go.Proofs.YthnkaimhmldjoaaDoor
