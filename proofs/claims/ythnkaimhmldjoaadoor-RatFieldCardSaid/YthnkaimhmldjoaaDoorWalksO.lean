/-
  The library's quotient of 128 bits by 64: it is the quotient, and what is left.
-/
import Derived.Test.YthnkaimhmldjoaaDoorWalksN
import Derived.Deep.LoopGhost
import Derived.Deep.CutBlock
import Derived.Deep.DeepCutAuto
set_option linter.unusedVariables false
namespace Go.Proofs.YthnkaimhmldjoaaDoor
open Go.RowKit

theorem tdiv_in {A v : Int} (A0 : 0 ≤ A) (A1 : A < 18446744073709551616) (hv : 0 < v) : IntKind.u64.wrap (A.tdiv v) = A / v := (wrap_quo A0 A1).resolve_right (by omega)
theorem rem_in {A v : Int} (A0 : 0 ≤ A) (A1 : A < 18446744073709551616) (hv : 0 < v) : IntKind.u64.wrap (A - IntKind.u64.wrap (A / v * v)) = A % v := by
  have e := Int.mul_ediv_add_emod A v
  have m0 := Int.emod_nonneg A (by omega : v ≠ 0)
  have m2 : 0 ≤ A / v * v := Int.mul_nonneg (Int.ediv_nonneg A0 (by omega)) (by omega)
  rw [Int.mul_comm] at e
  rw [IntKind.wrap_u64, IntKind.wrap_u64]
  omega
theorem last_digit {q p : Int} (q0 : 0 ≤ q) (q1 : q < 4294967296) (p0 : 0 ≤ p) (p1 : p < 4294967296) : IntKind.u64.wrap (IntKind.u64.wrap (q * 4294967296) + p) = q * 4294967296 + p := by
  simp only [IntKind.wrap_u64]; omega
theorem fin2 {a b c d : Int} (h1 : a = c) (h2 : b = d) : Ending.returned (.tuple #[.int .u64 a, .int .u64 b]) = .returned (.tuple #[.int .u64 c, .int .u64 d]) := by rw [h1, h2]
set_option maxHeartbeats 4000000 in
theorem div64_core (h l y : Int) (w : World) (h0 : 0 < h) (hy : h < y) (y1 : y < 18446744073709551616) (l0 : 0 ≤ l) (l1 : l < 18446744073709551616) :
    Calls Tryd.prog 21 #[.int .u64 h, .int .u64 l, .int .u64 y] w fun e w' => e = .returned (.tuple #[.int .u64 ((h * 18446744073709551616 + l) / y), .int .u64 ((h * 18446744073709551616 + l) % y)]) ∧ w = w' := by
  have z0 : (y == 0) = false := by simp; omega
  have z1 : (h == 0) = false := by simp; omega
  go_enter Tryd.func21, Tryd.ntmps21
  go_upto_block 0 with (go_at_call 27; refine (lz_form _ _ (by omega) (by omega)).mono ?_; rintro _ _ ⟨k, rfl, hk, hk1, hk2, rfl⟩)
  have p0 : (0 : Int) < 2 ^ k := Int.pow_pos (by omega)
  have hb : h * 2 ^ k < y * 2 ^ k := Int.mul_lt_mul_of_pos_right hy p0
  obtain ⟨M1, M2⟩ := moved k hk l0 l1 (by omega : 0 ≤ h) (by omega)
  have A0 : 0 ≤ bits .or .u64 (IntKind.u64.wrap (h * 2 ^ k)) (l / 2 ^ (64 - k)) := by
    rw [M2]; exact Int.add_nonneg (Int.mul_nonneg (by omega) (by omega)) (Int.ediv_nonneg l0 (Int.le_of_lt (Int.pow_pos (by omega))))
  have L0 : 0 ≤ IntKind.u64.wrap (l * 2 ^ k) := by rw [IntKind.wrap_u64]; omega
  have L1 : IntKind.u64.wrap (l * 2 ^ k) < 18446744073709551616 := by rw [IntKind.wrap_u64]; omega
  have A1 : bits .or .u64 (IntKind.u64.wrap (h * 2 ^ k)) (l / 2 ^ (64 - k)) < y * 2 ^ k := by
    have e1 : (h * 18446744073709551616 + l) * 2 ^ k < (y * 18446744073709551616) * 2 ^ k := Int.mul_lt_mul_of_pos_right (by omega) p0
    rw [Int.mul_right_comm y] at e1
    omega
  have FQ : Hid ((h * 18446744073709551616 + l) / y = (bits .or .u64 (IntKind.u64.wrap (h * 2 ^ k)) (l / 2 ^ (64 - k)) * 18446744073709551616 + IntKind.u64.wrap (l * 2 ^ k)) / (y * 2 ^ k)) := by
    rw [Hid, M1, Int.mul_ediv_mul_of_pos_left _ _ p0]
  have FR : Hid ((h * 18446744073709551616 + l) % y = (bits .or .u64 (IntKind.u64.wrap (h * 2 ^ k)) (l / 2 ^ (64 - k)) * 18446744073709551616 + IntKind.u64.wrap (l * 2 ^ k)) % (y * 2 ^ k) / 2 ^ k) := by
    rw [Hid, M1, Int.mul_comm _ (2 ^ k), Int.mul_comm y, Int.mul_emod_mul_of_pos _ _ p0, Int.mul_ediv_cancel_left _ (by omega)]
  have V0 : bits .and .u64 (y * 2 ^ k) 4294967295 = y * 2 ^ k % 4294967296 := and_low32 _ (by omega) (by omega)
  have V1 : bits .and .u64 (IntKind.u64.wrap (l * 2 ^ k)) 4294967295 = IntKind.u64.wrap (l * 2 ^ k) % 4294967296 := and_low32 _ L0 L1
  rw [V0, V1]
  clear V0 V1 M1 M2 hb
  generalize bits .or .u64 (IntKind.u64.wrap (h * 2 ^ k)) (l / 2 ^ (64 - k)) = A at *
  generalize IntKind.u64.wrap (l * 2 ^ k) = L at *
  generalize y * 2 ^ k = v at *
  rw [tdiv_in A0 (by omega) (by omega), rem_in A0 (by omega) (by omega)]
  have hkk : (k : Int) ≤ 63 := by omega
  obtain ⟨fq0, fq1⟩ := first_q (x := L / 4294967296) A0 (by omega) (by omega) A1 hk1 hk2
  obtain ⟨d0, d1⟩ := dg_bd (x := L / 4294967296) A0 (by omega) (by omega) A1
  have hv1 : 2147483648 ≤ v / 4294967296 := by omega
  have eA := Int.mul_ediv_add_emod A (v / 4294967296)
  rw [Int.mul_comm] at eA
  have ra := Int.emod_nonneg A (by omega : v / 4294967296 ≠ 0)
  have rb := Int.emod_lt_of_pos A (by omega : 0 < v / 4294967296)
  have EA : Hid (A = A / (v / 4294967296) * (v / 4294967296) + A % (v / 4294967296)) := eA.symm
  clear eA z0 z1
  go_cut [15] (fun q wx => w = wx ∧ q = .int .u64 (dg A (L / 4294967296) v))
  case first =>
    go_wp2_with fail
    go_loopg [15, 16] (A / (v / 4294967296) - dg A (L / 4294967296) v).toNat (fun g q r wx => w = wx ∧ ∃ Q R : Int, q = .int .u64 Q ∧ r = .int .u64 R ∧ g = (Q - dg A (L / 4294967296) v).toNat ∧ dg A (L / 4294967296) v ≤ Q ∧ Q ≤ 4294967297 ∧ 0 ≤ R ∧ R < 4294967296 ∧ Hid (A = Q * (v / 4294967296) + R))
    case atStart => exact ⟨rfl, _, _, rfl, rfl, rfl, fq0, fq1, ra, by omega, EA⟩
    case round =>
      obtain ⟨rfl, Q, R, rfl, rfl, hg, q0, q1, r0, r1, hA⟩ := hrel
      clear EA ra rb fq0 fq1
      obtain ⟨pw0, pw1⟩ := q_prod (v := v) (Q := Q) (by omega) q1
      have PW : Hid _ := wrap_in pw0 pw1
      by_cases hC : 4294967296 ≤ Q ∨ 4294967296 * R + L / 4294967296 < Q * (v % 4294967296)
      · have hgt : dg A (L / 4294967296) v < Q := by
          rcases hC with h | h
          · omega
          · exact q_high (by omega) hA.out h
        obtain ⟨P, rfl⟩ : ∃ P, Q = P + 1 := ⟨Q - 1, by omega⟩
        have P0 : 0 ≤ P := by omega
        have P1 : P ≤ 4294967296 := by omega
        have hA2 : Hid (A = P * (v / 4294967296) + (R + v / 4294967296)) := by
          have e := hA.out
          rw [Int.add_mul, Int.one_mul] at e
          rw [Hid]; omega
        have hC2 : (∃ (_ : 4294967296 ≤ P + 1), True) ∨ (∃ (_ : ¬ 4294967296 ≤ P + 1), 4294967296 * R + L / 4294967296 < (P + 1) * (v % 4294967296)) := by
          by_cases h : 4294967296 ≤ P + 1
          · exact Or.inl ⟨h, trivial⟩
          · exact Or.inr ⟨h, by omega⟩
        by_cases hR : R + v / 4294967296 < 4294967296
        · rcases hC2 with ⟨h1, _⟩ | ⟨h1, h2⟩
          all_goals
            have PW2 := PW.out
            clear hC
            go_wp2
            go_roundg (P - dg A (L / 4294967296) v).toNat
            case measure => omega
            case rel => exact ⟨rfl, P, R + v / 4294967296, rfl, rfl, rfl, by omega, by omega, by omega, by omega, hA2⟩
        · have hfin : Hid (P = dg A (L / 4294967296) v) := by
            have := q_low (Q := P) (x := L / 4294967296) (by omega : 0 < v) hA2.out (by have := q_prod' (v := v) (Q := P) (by omega) (by omega); omega)
            rw [Hid]; omega
          rcases hC2 with ⟨h1, _⟩ | ⟨h1, h2⟩
          all_goals
            have PW2 := PW.out
            clear hC
            go_wp2
            go_meet
            exact ⟨rfl, by rw [hfin.out]⟩
      · have hfin : Hid (Q = dg A (L / 4294967296) v) := by
          have := q_low (Q := Q) (x := L / 4294967296) (by omega : 0 < v) hA.out (by omega)
          rw [Hid]; omega
        have h1 : ¬ 4294967296 ≤ Q := by omega
        have h2 : ¬ 4294967296 * R + L / 4294967296 < Q * (v % 4294967296) := by omega
        have PW2 := PW.out
        clear hC
        go_wp2
        go_meet
        exact ⟨rfl, by rw [hfin.out]⟩
  case rest =>
    obtain ⟨rfl, rfl⟩ := hcut
    clear EA ra rb fq0 fq1
    obtain ⟨u0, u1⟩ := dg_rem (A := A) (x := L / 4294967296) (by omega : 0 < v)
    have EU : Hid _ := rest_eq (A := A) (x := L / 4294967296) (by omega : 0 < v) hk2
    go_upto_block 2 with fail
    rw [EU.out]
    clear EU
    revert u0 u1
    generalize hUU : A * 4294967296 + L / 4294967296 - dg A (L / 4294967296) v * v = U
    intro u0 u1
    have HU : Hid _ := hUU
    clear hUU
    rw [tdiv_in u0 (by omega) (by omega), rem_in u0 (by omega) (by omega)]
    obtain ⟨fq0, fq1⟩ := first_q (x := L % 4294967296) u0 (by omega) (by omega) u1 hk1 hk2
    obtain ⟨d2, d3⟩ := dg_bd (x := L % 4294967296) u0 (by omega) (by omega) u1
    have eA := Int.mul_ediv_add_emod U (v / 4294967296)
    rw [Int.mul_comm] at eA
    have ra := Int.emod_nonneg U (by omega : v / 4294967296 ≠ 0)
    have rb := Int.emod_lt_of_pos U (by omega : 0 < v / 4294967296)
    have EA : Hid (U = U / (v / 4294967296) * (v / 4294967296) + U % (v / 4294967296)) := eA.symm
    clear eA
    go_cut [18] (fun q wx => w = wx ∧ q = .int .u64 (dg U (L % 4294967296) v))
    case first =>
      go_wp2_with fail
      go_loopg [18, 16] (U / (v / 4294967296) - dg U (L % 4294967296) v).toNat (fun g q r wx => w = wx ∧ ∃ Q R : Int, q = .int .u64 Q ∧ r = .int .u64 R ∧ g = (Q - dg U (L % 4294967296) v).toNat ∧ dg U (L % 4294967296) v ≤ Q ∧ Q ≤ 4294967297 ∧ 0 ≤ R ∧ R < 4294967296 ∧ Hid (U = Q * (v / 4294967296) + R))
      case atStart => exact ⟨rfl, _, _, rfl, rfl, rfl, fq0, fq1, ra, by omega, EA⟩
      case round =>
        obtain ⟨rfl, Q, R, rfl, rfl, hg, q0, q1, r0, r1, hA⟩ := hrel
        clear EA ra rb fq0 fq1
        obtain ⟨pw0, pw1⟩ := q_prod (v := v) (Q := Q) (by omega) q1
        have PW : Hid _ := wrap_in pw0 pw1
        by_cases hC : 4294967296 ≤ Q ∨ 4294967296 * R + L % 4294967296 < Q * (v % 4294967296)
        · have hgt : dg U (L % 4294967296) v < Q := by
            rcases hC with h | h
            · omega
            · exact q_high (by omega) hA.out h
          obtain ⟨P, rfl⟩ : ∃ P, Q = P + 1 := ⟨Q - 1, by omega⟩
          have P0 : 0 ≤ P := by omega
          have P1 : P ≤ 4294967296 := by omega
          have hA2 : Hid (U = P * (v / 4294967296) + (R + v / 4294967296)) := by
            have e := hA.out
            rw [Int.add_mul, Int.one_mul] at e
            rw [Hid]; omega
          have hC2 : (∃ (_ : 4294967296 ≤ P + 1), True) ∨ (∃ (_ : ¬ 4294967296 ≤ P + 1), 4294967296 * R + L % 4294967296 < (P + 1) * (v % 4294967296)) := by
            by_cases h : 4294967296 ≤ P + 1
            · exact Or.inl ⟨h, trivial⟩
            · exact Or.inr ⟨h, by omega⟩
          by_cases hR : R + v / 4294967296 < 4294967296
          · rcases hC2 with ⟨h1, _⟩ | ⟨h1, h2⟩
            all_goals
              have PW2 := PW.out
              clear hC
              go_wp2
              go_roundg (P - dg U (L % 4294967296) v).toNat
              case measure => omega
              case rel => exact ⟨rfl, P, R + v / 4294967296, rfl, rfl, rfl, by omega, by omega, by omega, by omega, hA2⟩
          · have hfin : Hid (P = dg U (L % 4294967296) v) := by
              have := q_low (Q := P) (x := L % 4294967296) (by omega : 0 < v) hA2.out (by have := q_prod' (v := v) (Q := P) (by omega) (by omega); omega)
              rw [Hid]; omega
            rcases hC2 with ⟨h1, _⟩ | ⟨h1, h2⟩
            all_goals
              have PW2 := PW.out
              clear hC
              go_wp2
              go_meet
              exact ⟨rfl, by rw [hfin.out]⟩
        · have hfin : Hid (Q = dg U (L % 4294967296) v) := by
            have := q_low (Q := Q) (x := L % 4294967296) (by omega : 0 < v) hA.out (by omega)
            rw [Hid]; omega
          have h1 : ¬ 4294967296 ≤ Q := by omega
          have h2 : ¬ 4294967296 * R + L % 4294967296 < Q * (v % 4294967296) := by omega
          have PW2 := PW.out
          clear hC
          go_wp2
          go_meet
          exact ⟨rfl, by rw [hfin.out]⟩
    case rest =>
      obtain ⟨rfl, rfl⟩ := hcut
      clear EA ra rb fq0 fq1
      have EV : Hid _ := rest_eq (A := U) (x := L % 4294967296) (by omega : 0 < v) hk2
      have EW : Hid _ := last_digit d0 d1 d2 d3
      obtain ⟨w0, w1⟩ := dg_rem (A := U) (x := L % 4294967296) (by omega : 0 < v)
      obtain ⟨t1, t2⟩ := two_digits (A := A) (L := L) (by omega : 0 < v)
      rw [HU.out] at t1 t2
      have GQ : Hid _ := FQ.out.trans t1
      have GR : Hid _ := FR.out.trans (by rw [t2])
      clear t1 t2 FQ FR HU
      go_wp2
      go_ret2
      exact ⟨fin2 GQ.out.symm (by rw [EV.out]; exact GR.out.symm), rfl⟩
theorem div64_zero (l y : Int) (w : World) (y0 : 0 < y) (y1 : y < 18446744073709551616) (l0 : 0 ≤ l) (l1 : l < 18446744073709551616) :
    Calls Tryd.prog 21 #[.int .u64 0, .int .u64 l, .int .u64 y] w fun e w' => e = .returned (.tuple #[.int .u64 (l / y), .int .u64 (l % y)]) ∧ Up w w' := by
  have z0 : (y == 0) = false := by simp; omega
  have z2 : ¬ y = 0 := by omega
  have z3 : ¬ y ≤ 0 := by omega
  have m0 : 0 ≤ l % y := Int.emod_nonneg _ z2
  have m1 : l % y < y := Int.emod_lt_of_pos _ y0
  go_enter Tryd.func21, Tryd.ntmps21
  go_wp2
  go_quiet (fail)
  go_wp2
  go_ret2
  exact ⟨fin2 rfl rfl, (Up.refl _).drewN _⟩
theorem div64_up (h l y : Int) (w : World) (h0 : 0 ≤ h) (hy : h < y) (y1 : y < 18446744073709551616) (l0 : 0 ≤ l) (l1 : l < 18446744073709551616) :
    Calls Tryd.prog 21 #[.int .u64 h, .int .u64 l, .int .u64 y] w fun e w' => e = .returned (.tuple #[.int .u64 ((h * 18446744073709551616 + l) / y), .int .u64 ((h * 18446744073709551616 + l) % y)]) ∧ Up w w' := by
  by_cases hz : h = 0
  · subst hz
    rw [Int.zero_mul, Int.zero_add]
    exact div64_zero l y w hy y1 l0 l1
  · exact (div64_core h l y w (by omega) hy y1 l0 l1).mono fun _ _ ⟨a, b⟩ => ⟨a, b ▸ Up.refl _⟩
theorem rem64_up (h l y : Int) (w : World) (h0 : 0 ≤ h) (h1 : h < 18446744073709551616) (y0 : 0 < y) (y1 : y < 18446744073709551616) (l0 : 0 ≤ l) (l1 : l < 18446744073709551616) :
    Calls Tryd.prog 20 #[.int .u64 h, .int .u64 l, .int .u64 y] w fun e w' => e = .returned (.int .u64 ((h * 18446744073709551616 + l) % y)) ∧ Up w w' := by
  have z2 : ¬ y = 0 := by omega
  have m0 : 0 ≤ h % y := Int.emod_nonneg _ z2
  have m1 : h % y < y := Int.emod_lt_of_pos _ y0
  have E : Hid ((h % y * 18446744073709551616 + l) % y = (h * 18446744073709551616 + l) % y) := by
    have e := Int.mul_ediv_add_emod h y
    have e2 : h * 18446744073709551616 + l = (h % y * 18446744073709551616 + l) + y * (h / y * 18446744073709551616) := by
      rw [← Int.mul_assoc]; omega
    rw [Hid, e2, Int.add_mul_emod_self_left]
  go_enter Tryd.func20, Tryd.ntmps20
  go_wp2_with (go_at_call 21; refine (div64_up _ _ _ _ m0 m1 y1 l0 l1).mono ?_; rintro _ wl ⟨rfl, hl⟩; rw [E.out])
  go_ret
  exact ⟨rfl, hl⟩
end Go.Proofs.YthnkaimhmldjoaaDoor
