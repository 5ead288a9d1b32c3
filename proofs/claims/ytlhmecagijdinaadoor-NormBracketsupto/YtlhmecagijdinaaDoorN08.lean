/-
  The library's quotient of 128 bits by 64.
  The library's quotient of 128 bits by 64: it is the quotient, and what is left.
-/
import Derived.Test.YtlhmecagijdinaaDoorN06
import Derived.Test.YtlhmecagijdinaaDoorShelf
import Derived.Deep.LoopGhost
import Derived.Deep.CutBlock
import Derived.Deep.DeepCutAuto
set_option linter.unusedVariables false
namespace Go.Proofs.YtlhmecagijdinaaDoor.wk
open Go.RowKit

/-! ### Plain numbers: one digit of a quotient -/
/-- The digit of (A * 2^32 + x) / v that is sought. -/
def dg (A x v : Int) : Int := (A * 4294967296 + x) / v
theorem dg_bd {A x v : Int} (A0 : 0 ≤ A) (x0 : 0 ≤ x) (x1 : x < 4294967296) (hA : A < v) : 0 ≤ dg A x v ∧ dg A x v < 4294967296 := by
  unfold dg
  refine ⟨Int.ediv_nonneg (by omega) (by omega), ?_⟩
  exact Int.ediv_lt_of_lt_mul (by omega) (by omega)
theorem dg_le {A x v Q : Int} (hv : 0 < v) (h : Q * v ≤ A * 4294967296 + x) : Q ≤ dg A x v := Int.le_ediv_of_mul_le hv h
theorem dg_lt {A x v Q : Int} (hv : 0 < v) (h : A * 4294967296 + x < Q * v) : dg A x v < Q := Int.ediv_lt_of_lt_mul hv h
theorem dg_rem {A x v : Int} (hv : 0 < v) : 0 ≤ A * 4294967296 + x - dg A x v * v ∧ A * 4294967296 + x - dg A x v * v < v := by
  unfold dg
  have h1 := Int.emod_nonneg (A * 4294967296 + x) (by omega : v ≠ 0)
  have h2 := Int.emod_lt_of_pos (A * 4294967296 + x) hv
  rw [Int.emod_def, Int.mul_comm v] at h1 h2
  exact ⟨h1, h2⟩
theorem split_v (Q v : Int) : Q * v = Q * (v / 4294967296) * 4294967296 + Q * (v % 4294967296) := by
  rw [Int.mul_assoc, ← Int.mul_add]
  congr 1
  omega
theorem first_q {A x v : Int} (A0 : 0 ≤ A) (x0 : 0 ≤ x) (x1 : x < 4294967296) (hA : A < v) (v0 : 9223372036854775808 ≤ v) (v1 : v < 18446744073709551616) :
    dg A x v ≤ A / (v / 4294967296) ∧ A / (v / 4294967296) ≤ 4294967297 := by
  have hv1 : 2147483648 ≤ v / 4294967296 := by omega
  have e := Int.mul_ediv_add_emod A (v / 4294967296)
  have m0 := Int.emod_nonneg A (by omega : v / 4294967296 ≠ 0)
  have m1 := Int.emod_lt_of_pos A (by omega : 0 < v / 4294967296)
  have hs := split_v (A / (v / 4294967296) + 1) v
  have h0 : 0 ≤ (A / (v / 4294967296) + 1) * (v % 4294967296) := Int.mul_nonneg (by have := Int.ediv_nonneg A0 (by omega : 0 ≤ v / 4294967296); omega) (by omega)
  refine ⟨?_, ?_⟩
  · have : dg A x v < A / (v / 4294967296) + 1 := by
      refine dg_lt (by omega) ?_
      rw [hs, Int.add_mul, Int.one_mul]
      rw [Int.mul_comm] at e
      omega
    omega
  · have h2 : A / (v / 4294967296) < 4294967298 := by
      refine Int.ediv_lt_of_lt_mul (by omega) ?_
      omega
    omega
/-- The guess is too great. -/
theorem q_high {A x v Q R : Int} (hv : 0 < v) (e : A = Q * (v / 4294967296) + R) (h : 4294967296 * R + x < Q * (v % 4294967296)) : dg A x v < Q := by
  refine dg_lt hv ?_
  have hs := split_v Q v
  rw [hs, e, Int.add_mul]
  omega
/-- The guess is not too great. -/
theorem q_low {A x v Q R : Int} (hv : 0 < v) (e : A = Q * (v / 4294967296) + R) (h : Q * (v % 4294967296) ≤ 4294967296 * R + x) : Q ≤ dg A x v := by
  refine dg_le hv ?_
  have hs := split_v Q v
  rw [hs, e, Int.add_mul]
  omega
theorem q_prod {Q v : Int} (Q0 : 0 ≤ Q) (Q1 : Q ≤ 4294967297) : 0 ≤ Q * (v % 4294967296) ∧ Q * (v % 4294967296) < 18446744073709551616 := by
  refine ⟨Int.mul_nonneg Q0 (by omega), ?_⟩
  have h1 : Q * (v % 4294967296) ≤ 4294967297 * (v % 4294967296) := Int.mul_le_mul_of_nonneg_right Q1 (by omega)
  omega
theorem q_prod' {Q v : Int} (Q0 : 0 ≤ Q) (Q1 : Q ≤ 4294967296) : Q * (v % 4294967296) ≤ 18446744069414584320 := by
  have h1 : Q * (v % 4294967296) ≤ 4294967296 * (v % 4294967296) := Int.mul_le_mul_of_nonneg_right Q1 (by omega)
  omega
theorem wrap_in {x : Int} (h0 : 0 ≤ x) (h1 : x < 18446744073709551616) : IntKind.u64.wrap x = x := by rw [IntKind.wrap_u64]; omega
/-- What is left behind a digit. -/
theorem rest_eq {A x v : Int} (hv : 0 < v) (v1 : v < 18446744073709551616) : IntKind.u64.wrap (IntKind.u64.wrap (IntKind.u64.wrap (A * 4294967296) + x) - IntKind.u64.wrap (dg A x v * v)) = A * 4294967296 + x - dg A x v * v := by
  obtain ⟨h0, h1⟩ := dg_rem (A := A) (x := x) hv
  simp only [IntKind.wrap_u64]
  generalize dg A x v * v = z at *
  omega
/-- The quotient and what is left, of the moved numbers. -/
theorem two_digits {A L v : Int} (hv : 0 < v) :
    (A * 18446744073709551616 + L) / v = dg A (L / 4294967296) v * 4294967296 + dg (A * 4294967296 + L / 4294967296 - dg A (L / 4294967296) v * v) (L % 4294967296) v ∧
    (A * 18446744073709551616 + L) % v = (A * 4294967296 + L / 4294967296 - dg A (L / 4294967296) v * v) * 4294967296 + L % 4294967296 - dg (A * 4294967296 + L / 4294967296 - dg A (L / 4294967296) v * v) (L % 4294967296) v * v := by
  generalize hq : dg A (L / 4294967296) v = q
  generalize hu : A * 4294967296 + L / 4294967296 - q * v = U
  obtain ⟨h0, h1⟩ := dg_rem (A := U) (x := L % 4294967296) hv
  generalize hp : dg U (L % 4294967296) v = p at *
  have e : A * 18446744073709551616 + L = (U * 4294967296 + L % 4294967296 - p * v) + (q * 4294967296 + p) * v := by
    rw [Int.add_mul, Int.mul_right_comm]
    generalize q * v = z at *
    generalize p * v = t at *
    omega
  rw [e]
  refine ⟨?_, ?_⟩
  · rw [Int.add_mul_ediv_right _ _ (by omega), Int.ediv_eq_zero_of_lt h0 h1]; omega
  · rw [Int.add_mul_emod_self_right, Int.emod_eq_of_lt h0 h1]
/-- The numbers, moved. -/
theorem moved {h l : Int} (k : Nat) (hk : k ≤ 63) (l0 : 0 ≤ l) (l1 : l < 18446744073709551616) (h0 : 0 ≤ h) (hb : h * 2 ^ k < 18446744073709551616) :
    bits .or .u64 (IntKind.u64.wrap (h * 2 ^ k)) (l / 2 ^ (64 - k)) * 18446744073709551616 + IntKind.u64.wrap (l * 2 ^ k) = (h * 18446744073709551616 + l) * 2 ^ k ∧
    bits .or .u64 (IntKind.u64.wrap (h * 2 ^ k)) (l / 2 ^ (64 - k)) = h * 2 ^ k + l / 2 ^ (64 - k) := by
  have p0 : (0 : Int) < 2 ^ k := Int.pow_pos (by omega)
  have p1 : (0 : Int) < 2 ^ (64 - k) := Int.pow_pos (by omega)
  have pe : (2 : Int) ^ k * 2 ^ (64 - k) = 18446744073709551616 := by rw [← Int.pow_add, show k + (64 - k) = 64 by omega]; rfl
  have hh : 0 ≤ h * 2 ^ k := Int.mul_nonneg h0 (by omega)
  have q0 : 0 ≤ l / 2 ^ (64 - k) := Int.ediv_nonneg l0 (by omega)
  have q1 : l / 2 ^ (64 - k) < 2 ^ k := Int.ediv_lt_of_lt_mul p1 (by rw [pe]; exact l1)
  have q2 : (2 : Int) ^ k ≤ 18446744073709551616 := by
    have : (2 : Int) ^ k * 1 ≤ 2 ^ k * 2 ^ (64 - k) := Int.mul_le_mul_of_nonneg_left (by omega) (by omega)
    omega
  have hor : bits .or .u64 (IntKind.u64.wrap (h * 2 ^ k)) (l / 2 ^ (64 - k)) = h * 2 ^ k + l / 2 ^ (64 - k) := by
    rw [wrap_in hh hb, or_join' (l / 2 ^ (64 - k)) (h * 2 ^ k) k q0 (by omega) hh hb q1 (Int.mul_emod_left _ _)]
  refine ⟨?_, hor⟩
  rw [hor, IntKind.wrap_u64]
  have e1 : l * 2 ^ k % 18446744073709551616 = (l % 2 ^ (64 - k)) * 2 ^ k := by
    rw [← pe, Int.mul_comm l, Int.mul_emod_mul_of_pos _ _ p0, Int.mul_comm]
  have e2 := Int.mul_ediv_add_emod l (2 ^ (64 - k))
  rw [e1, Int.add_mul, Int.add_mul]
  have e3 : l * 2 ^ k = l / 2 ^ (64 - k) * 18446744073709551616 + (l % 2 ^ (64 - k)) * 2 ^ k := by
    rw [← pe]
    have : l / 2 ^ (64 - k) * (2 ^ k * 2 ^ (64 - k)) = (2 ^ (64 - k) * (l / 2 ^ (64 - k))) * 2 ^ k := by
      rw [← Int.mul_assoc, Int.mul_right_comm, Int.mul_comm (l / 2 ^ (64 - k))]
    rw [this, ← Int.add_mul, e2]
  rw [e3, Int.mul_right_comm h]
  omega

/-- How far the divisor is moved. -/
theorem bl_spec (x : Nat) (h0 : x ≠ 0) (h : x < 2 ^ 64) : 1 ≤ Lib.bitLen x ∧ Lib.bitLen x ≤ 64 ∧ 2 ^ (Lib.bitLen x - 1) ≤ x ∧ x < 2 ^ Lib.bitLen x := by
  induction x using Nat.strongRecOn with
  | _ x ih =>
    rw [Lib.bitLen_half x h0 h]
    by_cases h1 : x / 2 = 0
    · rw [h1]
      have : Lib.bitLen 0 = 0 := by decide
      rw [this]
      omega
    · obtain ⟨a, b, c, d⟩ := ih (x / 2) (by omega) h1 (by omega)
      generalize Lib.bitLen (x / 2) = m at *
      obtain ⟨j, rfl⟩ : ∃ j, m = j + 1 := ⟨m - 1, by omega⟩
      have e1 : 1 + (j + 1) - 1 = j + 1 := by omega
      have e2 : 1 + (j + 1) = j + 1 + 1 := by omega
      have hj : j + 1 ≤ 63 := by
        refine Nat.le_of_not_lt fun hlt => ?_
        have : 2 ^ 63 ≤ 2 ^ (j + 1 - 1) := Nat.pow_le_pow_right (by decide) (by omega)
        omega
      rw [e1, e2]
      simp only [Nat.add_sub_cancel] at c
      rw [Nat.pow_succ] at d
      refine ⟨by omega, by omega, ?_, ?_⟩
      · rw [Nat.pow_succ]; omega
      · rw [Nat.pow_succ, Nat.pow_succ]; omega
theorem lz_form (y : Int) (w : World) (h0 : 0 < y) (h1 : y < 18446744073709551616) :
    Calls Tryd.prog 98 #[.int .u64 y] w fun e w' => ∃ k : Nat, e = .returned (.int .i64 k) ∧ k ≤ 63 ∧ 9223372036854775808 ≤ y * 2 ^ k ∧ y * 2 ^ k < 18446744073709551616 ∧ w = w' := by
  obtain ⟨a, b, c, d⟩ := bl_spec y.toNat (by omega) (by omega)
  refine (lz_any y w (by omega) (by omega)).mono fun e w' ⟨he, hw⟩ => ?_
  refine ⟨64 - Lib.bitLen y.toNat, ?_, by omega, ?_, ?_, hw.symm⟩
  · rw [he]; congr 2; omega
  · generalize Lib.bitLen y.toNat = m at *
    have e1 : 2 ^ (m - 1) * 2 ^ (64 - m) = 2 ^ 63 := by rw [← Nat.pow_add]; congr 1; omega
    have e2 : 2 ^ (m - 1) * 2 ^ (64 - m) ≤ y.toNat * 2 ^ (64 - m) := Nat.mul_le_mul_right _ c
    have e3 : y * 2 ^ (64 - m) = ((y.toNat * 2 ^ (64 - m) : Nat) : Int) := by rw [Int.natCast_mul, Int.toNat_of_nonneg (by omega)]; simp
    rw [e3]; omega
  · generalize Lib.bitLen y.toNat = m at *
    have e1 : 2 ^ m * 2 ^ (64 - m) = 2 ^ 64 := by rw [← Nat.pow_add]; congr 1; omega
    have e2 : y.toNat * 2 ^ (64 - m) < 2 ^ m * 2 ^ (64 - m) := Nat.mul_lt_mul_of_pos_right d (Nat.pow_pos (by decide))
    have e3 : y * 2 ^ (64 - m) = ((y.toNat * 2 ^ (64 - m) : Nat) : Int) := by rw [Int.natCast_mul, Int.toNat_of_nonneg (by omega)]; simp
    rw [e3]; omega
end Go.Proofs.YtlhmecagijdinaaDoor.wk
set_option linter.unusedVariables false
namespace Go.Proofs.YtlhmecagijdinaaDoor.wk
open Go.RowKit

theorem tdiv_in {A v : Int} (A0 : 0 ≤ A) (A1 : A < 18446744073709551616) (hv : 0 < v) : IntKind.u64.wrap (A.tdiv v) = A / v := (wrap_quo A0 A1).resolve_right (by omega)
theorem rem_in {A v : Int} (A0 : 0 ≤ A) (A1 : A < 18446744073709551616) (hv : 0 < v) : IntKind.u64.wrap (A - IntKind.u64.wrap (A / v * v)) = A % v := by
  have e := Int.mul_ediv_add_emod A v
  have m0 := Int.emod_nonneg A (by omega : v ≠ 0)
  have m2 : 0 ≤ A / v * v := Int.mul_nonneg (Int.ediv_nonneg A0 (by omega)) (by omega)
  rw [Int.mul_comm] at e
  rw [IntKind.wrap_u64, IntKind.wrap_u64]
  omega
theorem last_digit {q p : Int} (q0 : 0 ≤ q) (q1 : q < 4294967296) (p0 : 0 ≤ p) (p1 : p < 4294967296) : IntKind.u64.wrap (IntKind.u64.wrap (q * 4294967296) + p) = q * 4294967296 + p := by
  simp only [IntKind.wrap_u64]; omega
theorem fin2 {a b c d : Int} (h1 : a = c) (h2 : b = d) : Ending.returned (.tuple #[.int .u64 a, .int .u64 b]) = .returned (.tuple #[.int .u64 c, .int .u64 d]) := by rw [h1, h2]
set_option maxHeartbeats 4000000 in
theorem div64_core (h l y : Int) (w : World) (h0 : 0 < h) (hy : h < y) (y1 : y < 18446744073709551616) (l0 : 0 ≤ l) (l1 : l < 18446744073709551616) :
    Calls Tryd.prog 94 #[.int .u64 h, .int .u64 l, .int .u64 y] w fun e w' => e = .returned (.tuple #[.int .u64 ((h * 18446744073709551616 + l) / y), .int .u64 ((h * 18446744073709551616 + l) % y)]) ∧ w = w' := by
  have z0 : (y == 0) = false := by simp; omega
  have z1 : (h == 0) = false := by simp; omega
  go_enter Tryd.func94, Tryd.ntmps94
  go_upto_block 0 with (go_at_call 98; refine (lz_form _ _ (by omega) (by omega)).mono ?_; rintro _ _ ⟨k, rfl, hk, hk1, hk2, rfl⟩)
  have p0 : (0 : Int) < 2 ^ k := Int.pow_pos (by omega)
  have hb : h * 2 ^ k < y * 2 ^ k := Int.mul_lt_mul_of_pos_right hy p0
  obtain ⟨M1, M2⟩ := moved k hk l0 l1 (by omega : 0 ≤ h) (by omega)
  have A0 : 0 ≤ bits .or .u64 (IntKind.u64.wrap (h * 2 ^ k)) (l / 2 ^ (64 - k)) := by
    rw [M2]; exact Int.add_nonneg (Int.mul_nonneg (by omega) (by omega)) (Int.ediv_nonneg l0 (Int.le_of_lt (Int.pow_pos (by omega))))
  have L0 : 0 ≤ IntKind.u64.wrap (l * 2 ^ k) := by rw [IntKind.wrap_u64]; omega
  have L1 : IntKind.u64.wrap (l * 2 ^ k) < 18446744073709551616 := by rw [IntKind.wrap_u64]; omega
  have A1 : bits .or .u64 (IntKind.u64.wrap (h * 2 ^ k)) (l / 2 ^ (64 - k)) < y * 2 ^ k := by
    have e1 : (h * 18446744073709551616 + l) * 2 ^ k < (y * 18446744073709551616) * 2 ^ k := Int.mul_lt_mul_of_pos_right (by omega) p0
    rw [Int.mul_right_comm y] at e1
    omega
  have FQ : Hid ((h * 18446744073709551616 + l) / y = (bits .or .u64 (IntKind.u64.wrap (h * 2 ^ k)) (l / 2 ^ (64 - k)) * 18446744073709551616 + IntKind.u64.wrap (l * 2 ^ k)) / (y * 2 ^ k)) := by
    rw [Hid, M1, Int.mul_ediv_mul_of_pos_left _ _ p0]
  have FR : Hid ((h * 18446744073709551616 + l) % y = (bits .or .u64 (IntKind.u64.wrap (h * 2 ^ k)) (l / 2 ^ (64 - k)) * 18446744073709551616 + IntKind.u64.wrap (l * 2 ^ k)) % (y * 2 ^ k) / 2 ^ k) := by
    rw [Hid, M1, Int.mul_comm _ (2 ^ k), Int.mul_comm y, Int.mul_emod_mul_of_pos _ _ p0, Int.mul_ediv_cancel_left _ (by omega)]
  have V0 : bits .and .u64 (y * 2 ^ k) 4294967295 = y * 2 ^ k % 4294967296 := and_low32 _ (by omega) (by omega)
  have V1 : bits .and .u64 (IntKind.u64.wrap (l * 2 ^ k)) 4294967295 = IntKind.u64.wrap (l * 2 ^ k) % 4294967296 := and_low32 _ L0 L1
  rw [V0, V1]
  clear V0 V1 M1 M2 hb
  generalize bits .or .u64 (IntKind.u64.wrap (h * 2 ^ k)) (l / 2 ^ (64 - k)) = A at *
  generalize IntKind.u64.wrap (l * 2 ^ k) = L at *
  generalize y * 2 ^ k = v at *
  rw [tdiv_in A0 (by omega) (by omega), rem_in A0 (by omega) (by omega)]
  have hkk : (k : Int) ≤ 63 := by omega
  obtain ⟨fq0, fq1⟩ := first_q (x := L / 4294967296) A0 (by omega) (by omega) A1 hk1 hk2
  obtain ⟨d0, d1⟩ := dg_bd (x := L / 4294967296) A0 (by omega) (by omega) A1
  have hv1 : 2147483648 ≤ v / 4294967296 := by omega
  have eA := Int.mul_ediv_add_emod A (v / 4294967296)
  rw [Int.mul_comm] at eA
  have ra := Int.emod_nonneg A (by omega : v / 4294967296 ≠ 0)
  have rb := Int.emod_lt_of_pos A (by omega : 0 < v / 4294967296)
  have EA : Hid (A = A / (v / 4294967296) * (v / 4294967296) + A % (v / 4294967296)) := eA.symm
  clear eA z0 z1
  go_cut [15] (fun q wx => w = wx ∧ q = .int .u64 (dg A (L / 4294967296) v))
  case first =>
    go_wp2_with fail
    go_loopg [15, 16] (A / (v / 4294967296) - dg A (L / 4294967296) v).toNat (fun g q r wx => w = wx ∧ ∃ Q R : Int, q = .int .u64 Q ∧ r = .int .u64 R ∧ g = (Q - dg A (L / 4294967296) v).toNat ∧ dg A (L / 4294967296) v ≤ Q ∧ Q ≤ 4294967297 ∧ 0 ≤ R ∧ R < 4294967296 ∧ Hid (A = Q * (v / 4294967296) + R))
    case atStart => exact ⟨rfl, _, _, rfl, rfl, rfl, fq0, fq1, ra, by omega, EA⟩
    case round =>
      obtain ⟨rfl, Q, R, rfl, rfl, hg, q0, q1, r0, r1, hA⟩ := hrel
      clear EA ra rb fq0 fq1
      obtain ⟨pw0, pw1⟩ := q_prod (v := v) (Q := Q) (by omega) q1
      have PW : Hid _ := wrap_in pw0 pw1
      by_cases hC : 4294967296 ≤ Q ∨ 4294967296 * R + L / 4294967296 < Q * (v % 4294967296)
      · have hgt : dg A (L / 4294967296) v < Q := by
          rcases hC with h | h
          · omega
          · exact q_high (by omega) hA.out h
        obtain ⟨P, rfl⟩ : ∃ P, Q = P + 1 := ⟨Q - 1, by omega⟩
        have P0 : 0 ≤ P := by omega
        have P1 : P ≤ 4294967296 := by omega
        have hA2 : Hid (A = P * (v / 4294967296) + (R + v / 4294967296)) := by
          have e := hA.out
          rw [Int.add_mul, Int.one_mul] at e
          rw [Hid]; omega
        have hC2 : (∃ (_ : 4294967296 ≤ P + 1), True) ∨ (∃ (_ : ¬ 4294967296 ≤ P + 1), 4294967296 * R + L / 4294967296 < (P + 1) * (v % 4294967296)) := by
          by_cases h : 4294967296 ≤ P + 1
          · exact Or.inl ⟨h, trivial⟩
          · exact Or.inr ⟨h, by omega⟩
        by_cases hR : R + v / 4294967296 < 4294967296
        · rcases hC2 with ⟨h1, _⟩ | ⟨h1, h2⟩
          all_goals
            have PW2 := PW.out
            clear hC
            go_wp2
            go_roundg (P - dg A (L / 4294967296) v).toNat
            case measure => omega
            case rel => exact ⟨rfl, P, R + v / 4294967296, rfl, rfl, rfl, by omega, by omega, by omega, by omega, hA2⟩
        · have hfin : Hid (P = dg A (L / 4294967296) v) := by
            have := q_low (Q := P) (x := L / 4294967296) (by omega : 0 < v) hA2.out (by have := q_prod' (v := v) (Q := P) (by omega) (by omega); omega)
            rw [Hid]; omega
          rcases hC2 with ⟨h1, _⟩ | ⟨h1, h2⟩
          all_goals
            have PW2 := PW.out
            clear hC
            go_wp2
            go_meet
            exact ⟨rfl, by rw [hfin.out]⟩
      · have hfin : Hid (Q = dg A (L / 4294967296) v) := by
          have := q_low (Q := Q) (x := L / 4294967296) (by omega : 0 < v) hA.out (by omega)
          rw [Hid]; omega
        have h1 : ¬ 4294967296 ≤ Q := by omega
        have h2 : ¬ 4294967296 * R + L / 4294967296 < Q * (v % 4294967296) := by omega
        have PW2 := PW.out
        clear hC
        go_wp2
        go_meet
        exact ⟨rfl, by rw [hfin.out]⟩
  case rest =>
    obtain ⟨rfl, rfl⟩ := hcut
    clear EA ra rb fq0 fq1
    obtain ⟨u0, u1⟩ := dg_rem (A := A) (x := L / 4294967296) (by omega : 0 < v)
    have EU : Hid _ := rest_eq (A := A) (x := L / 4294967296) (by omega : 0 < v) hk2
    go_upto_block 2 with fail
    rw [EU.out]
    clear EU
    revert u0 u1
    generalize hUU : A * 4294967296 + L / 4294967296 - dg A (L / 4294967296) v * v = U
    intro u0 u1
    have HU : Hid _ := hUU
    clear hUU
    rw [tdiv_in u0 (by omega) (by omega), rem_in u0 (by omega) (by omega)]
    obtain ⟨fq0, fq1⟩ := first_q (x := L % 4294967296) u0 (by omega) (by omega) u1 hk1 hk2
    obtain ⟨d2, d3⟩ := dg_bd (x := L % 4294967296) u0 (by omega) (by omega) u1
    have eA := Int.mul_ediv_add_emod U (v / 4294967296)
    rw [Int.mul_comm] at eA
    have ra := Int.emod_nonneg U (by omega : v / 4294967296 ≠ 0)
    have rb := Int.emod_lt_of_pos U (by omega : 0 < v / 4294967296)
    have EA : Hid (U = U / (v / 4294967296) * (v / 4294967296) + U % (v / 4294967296)) := eA.symm
    clear eA
    go_cut [18] (fun q wx => w = wx ∧ q = .int .u64 (dg U (L % 4294967296) v))
    case first =>
      go_wp2_with fail
      go_loopg [18, 16] (U / (v / 4294967296) - dg U (L % 4294967296) v).toNat (fun g q r wx => w = wx ∧ ∃ Q R : Int, q = .int .u64 Q ∧ r = .int .u64 R ∧ g = (Q - dg U (L % 4294967296) v).toNat ∧ dg U (L % 4294967296) v ≤ Q ∧ Q ≤ 4294967297 ∧ 0 ≤ R ∧ R < 4294967296 ∧ Hid (U = Q * (v / 4294967296) + R))
      case atStart => exact ⟨rfl, _, _, rfl, rfl, rfl, fq0, fq1, ra, by omega, EA⟩
      case round =>
        obtain ⟨rfl, Q, R, rfl, rfl, hg, q0, q1, r0, r1, hA⟩ := hrel
        clear EA ra rb fq0 fq1
        obtain ⟨pw0, pw1⟩ := q_prod (v := v) (Q := Q) (by omega) q1
        have PW : Hid _ := wrap_in pw0 pw1
        by_cases hC : 4294967296 ≤ Q ∨ 4294967296 * R + L % 4294967296 < Q * (v % 4294967296)
        · have hgt : dg U (L % 4294967296) v < Q := by
            rcases hC with h | h
            · omega
            · exact q_high (by omega) hA.out h
          obtain ⟨P, rfl⟩ : ∃ P, Q = P + 1 := ⟨Q - 1, by omega⟩
          have P0 : 0 ≤ P := by omega
          have P1 : P ≤ 4294967296 := by omega
          have hA2 : Hid (U = P * (v / 4294967296) + (R + v / 4294967296)) := by
            have e := hA.out
            rw [Int.add_mul, Int.one_mul] at e
            rw [Hid]; omega
          have hC2 : (∃ (_ : 4294967296 ≤ P + 1), True) ∨ (∃ (_ : ¬ 4294967296 ≤ P + 1), 4294967296 * R + L % 4294967296 < (P + 1) * (v % 4294967296)) := by
            by_cases h : 4294967296 ≤ P + 1
            · exact Or.inl ⟨h, trivial⟩
            · exact Or.inr ⟨h, by omega⟩
          by_cases hR : R + v / 4294967296 < 4294967296
          · rcases hC2 with ⟨h1, _⟩ | ⟨h1, h2⟩
            all_goals
              have PW2 := PW.out
              clear hC
              go_wp2
              go_roundg (P - dg U (L % 4294967296) v).toNat
              case measure => omega
              case rel => exact ⟨rfl, P, R + v / 4294967296, rfl, rfl, rfl, by omega, by omega, by omega, by omega, hA2⟩
          · have hfin : Hid (P = dg U (L % 4294967296) v) := by
              have := q_low (Q := P) (x := L % 4294967296) (by omega : 0 < v) hA2.out (by have := q_prod' (v := v) (Q := P) (by omega) (by omega); omega)
              rw [Hid]; omega
            rcases hC2 with ⟨h1, _⟩ | ⟨h1, h2⟩
            all_goals
              have PW2 := PW.out
              clear hC
              go_wp2
              go_meet
              exact ⟨rfl, by rw [hfin.out]⟩
        · have hfin : Hid (Q = dg U (L % 4294967296) v) := by
            have := q_low (Q := Q) (x := L % 4294967296) (by omega : 0 < v) hA.out (by omega)
            rw [Hid]; omega
          have h1 : ¬ 4294967296 ≤ Q := by omega
          have h2 : ¬ 4294967296 * R + L % 4294967296 < Q * (v % 4294967296) := by omega
          have PW2 := PW.out
          clear hC
          go_wp2
          go_meet
          exact ⟨rfl, by rw [hfin.out]⟩
    case rest =>
      obtain ⟨rfl, rfl⟩ := hcut
      clear EA ra rb fq0 fq1
      have EV : Hid _ := rest_eq (A := U) (x := L % 4294967296) (by omega : 0 < v) hk2
      have EW : Hid _ := last_digit d0 d1 d2 d3
      obtain ⟨w0, w1⟩ := dg_rem (A := U) (x := L % 4294967296) (by omega : 0 < v)
      obtain ⟨t1, t2⟩ := two_digits (A := A) (L := L) (by omega : 0 < v)
      rw [HU.out] at t1 t2
      have GQ : Hid _ := FQ.out.trans t1
      have GR : Hid _ := FR.out.trans (by rw [t2])
      clear t1 t2 FQ FR HU
      go_wp2
      go_ret2
      exact ⟨fin2 GQ.out.symm (by rw [EV.out]; exact GR.out.symm), rfl⟩
theorem div64_zero (l y : Int) (w : World) (y0 : 0 < y) (y1 : y < 18446744073709551616) (l0 : 0 ≤ l) (l1 : l < 18446744073709551616) :
    Calls Tryd.prog 94 #[.int .u64 0, .int .u64 l, .int .u64 y] w fun e w' => e = .returned (.tuple #[.int .u64 (l / y), .int .u64 (l % y)]) ∧ Up w w' := by
  have z0 : (y == 0) = false := by simp; omega
  have z2 : ¬ y = 0 := by omega
  have z3 : ¬ y ≤ 0 := by omega
  have m0 : 0 ≤ l % y := Int.emod_nonneg _ z2
  have m1 : l % y < y := Int.emod_lt_of_pos _ y0
  go_enter Tryd.func94, Tryd.ntmps94
  go_wp2
  go_quiet (fail)
  go_wp2
  go_ret2
  exact ⟨fin2 rfl rfl, (Up.refl _).drewN _⟩
theorem div64_up (h l y : Int) (w : World) (h0 : 0 ≤ h) (hy : h < y) (y1 : y < 18446744073709551616) (l0 : 0 ≤ l) (l1 : l < 18446744073709551616) :
    Calls Tryd.prog 94 #[.int .u64 h, .int .u64 l, .int .u64 y] w fun e w' => e = .returned (.tuple #[.int .u64 ((h * 18446744073709551616 + l) / y), .int .u64 ((h * 18446744073709551616 + l) % y)]) ∧ Up w w' := by
  by_cases hz : h = 0
  · subst hz
    rw [Int.zero_mul, Int.zero_add]
    exact div64_zero l y w hy y1 l0 l1
  · exact (div64_core h l y w (by omega) hy y1 l0 l1).mono fun _ _ ⟨a, b⟩ => ⟨a, b ▸ Up.refl _⟩
theorem rem64_up (h l y : Int) (w : World) (h0 : 0 ≤ h) (h1 : h < 18446744073709551616) (y0 : 0 < y) (y1 : y < 18446744073709551616) (l0 : 0 ≤ l) (l1 : l < 18446744073709551616) :
    Calls Tryd.prog 93 #[.int .u64 h, .int .u64 l, .int .u64 y] w fun e w' => e = .returned (.int .u64 ((h * 18446744073709551616 + l) % y)) ∧ Up w w' := by
  have z2 : ¬ y = 0 := by omega
  have m0 : 0 ≤ h % y := Int.emod_nonneg _ z2
  have m1 : h % y < y := Int.emod_lt_of_pos _ y0
  have E : Hid ((h % y * 18446744073709551616 + l) % y = (h * 18446744073709551616 + l) % y) := by
    have e := Int.mul_ediv_add_emod h y
    have e2 : h * 18446744073709551616 + l = (h % y * 18446744073709551616 + l) + y * (h / y * 18446744073709551616) := by
      rw [← Int.mul_assoc]; omega
    rw [Hid, e2, Int.add_mul_emod_self_left]
  go_enter Tryd.func93, Tryd.ntmps93
  go_wp2_with (go_at_call 94; refine (div64_up _ _ _ _ m0 m1 y1 l0 l1).mono ?_; rintro _ wl ⟨rfl, hl⟩; rw [E.out])
  go_ret
  exact ⟨rfl, hl⟩
end Go.Proofs.YtlhmecagijdinaaDoor.wk
