/-
  The two products of fractions: both tell the product in lowest terms, or over.
-/
import Derived.Test.YtjeflecigeamnaaWalksI
import Derived.Deep.RegionHeld3
set_option linter.unusedVariables false
namespace Go.Proofs.Ytjeflecigeamnaa
open Go.RowKit

/-! ### Plain numbers -/
theorem cross_nat {A B d e : Nat} (hA : 0 < e) (hB : 0 < d) (h1 : Nat.gcd A d = 1) (h2 : Nat.gcd B e = 1) :
    Nat.gcd (A * B) (d * e) = Nat.gcd A e * Nat.gcd B d := by
  obtain ⟨A', hA'⟩ : Nat.gcd A e ∣ A := Nat.gcd_dvd_left _ _
  obtain ⟨e', he'⟩ : Nat.gcd A e ∣ e := Nat.gcd_dvd_right _ _
  obtain ⟨B', hB'⟩ : Nat.gcd B d ∣ B := Nat.gcd_dvd_left _ _
  obtain ⟨d', hd'⟩ : Nat.gcd B d ∣ d := Nat.gcd_dvd_right _ _
  have g0 : 0 < Nat.gcd A e := Nat.gcd_pos_of_pos_right _ hA
  have k0 : 0 < Nat.gcd B d := Nat.gcd_pos_of_pos_right _ hB
  generalize hg : Nat.gcd A e = g at *
  generalize hk : Nat.gcd B d = k at *
  have c1 : Nat.Coprime A' e' := by
    have : g * Nat.gcd A' e' = g * 1 := by rw [← Nat.gcd_mul_left, ← hA', ← he', hg, Nat.mul_one]
    exact Nat.eq_of_mul_eq_mul_left g0 this
  have c2 : Nat.Coprime B' d' := by
    have : k * Nat.gcd B' d' = k * 1 := by rw [← Nat.gcd_mul_left, ← hB', ← hd', hk, Nat.mul_one]
    exact Nat.eq_of_mul_eq_mul_left k0 this
  have c3 : Nat.Coprime A' d' := Nat.Coprime.coprime_dvd_left ⟨g, by rw [hA', Nat.mul_comm]⟩ (Nat.Coprime.coprime_dvd_right ⟨k, by rw [hd', Nat.mul_comm]⟩ h1)
  have c4 : Nat.Coprime B' e' := Nat.Coprime.coprime_dvd_left ⟨k, by rw [hB', Nat.mul_comm]⟩ (Nat.Coprime.coprime_dvd_right ⟨g, by rw [he', Nat.mul_comm]⟩ h2)
  have c5 : Nat.Coprime (A' * B') (d' * e') := (c3.mul_right c1).mul_left (c2.mul_right c4)
  have e1 : A * B = g * k * (A' * B') := by rw [hA', hB']; exact Nat.mul_mul_mul_comm _ _ _ _
  have e2 : d * e = g * k * (d' * e') := by rw [hd', he', Nat.mul_comm (k * d'), Nat.mul_mul_mul_comm, Nat.mul_comm e' d']
  rw [e1, e2, Nat.gcd_mul_left, c5, Nat.mul_one]
theorem cross {A B d e : Int} (A0 : 0 ≤ A) (B0 : 0 ≤ B) (d0 : 0 < d) (e0 : 0 < e) (h1 : gc A d = 1) (h2 : gc B e = 1) :
    gc (A * B) (d * e) = gc A e * gc B d := by
  obtain ⟨A, rfl⟩ := Int.eq_ofNat_of_zero_le A0
  obtain ⟨B, rfl⟩ := Int.eq_ofNat_of_zero_le B0
  obtain ⟨d, rfl⟩ := Int.eq_ofNat_of_zero_le (Int.le_of_lt d0)
  obtain ⟨e, rfl⟩ := Int.eq_ofNat_of_zero_le (Int.le_of_lt e0)
  rw [← Int.natCast_mul, ← Int.natCast_mul, gc_nat, gc_nat, gc_nat, ← Int.natCast_mul]
  rw [gc_nat] at h1 h2
  rw [cross_nat (by omega) (by omega) (by omega) (by omega)]
theorem quo_mul {A B g k : Int} (hg : g ∣ A) (hk : k ∣ B) (g0 : 0 < g) (k0 : 0 < k) : A * B / (g * k) = (A / g) * (B / k) := by
  obtain ⟨a, rfl⟩ := hg
  obtain ⟨b, rfl⟩ := hk
  rw [Int.mul_ediv_cancel_left _ (by omega), Int.mul_ediv_cancel_left _ (by omega)]
  rw [show g * a * (k * b) = g * k * (a * b) by simp only [Int.mul_assoc, Int.mul_left_comm a k b]]
  exact Int.mul_ediv_cancel_left _ (Int.ne_of_gt (Int.mul_pos g0 k0))
/-- The two quotients of the whole product are the products of the crosswise quotients. -/
theorem cross_quo {A B d e : Int} (A0 : 0 ≤ A) (B0 : 0 ≤ B) (d0 : 0 < d) (e0 : 0 < e) (h1 : gc A d = 1) (h2 : gc B e = 1) :
    A * B / gc (A * B) (d * e) = (A / gc A e) * (B / gc B d) ∧ d * e / gc (A * B) (d * e) = (d / gc B d) * (e / gc A e) := by
  have g0 : 0 < gc A e := by rw [gc_comm]; exact gc_pos e0
  have k0 : 0 < gc B d := by rw [gc_comm]; exact gc_pos d0
  rw [cross A0 B0 d0 e0 h1 h2]
  refine ⟨quo_mul (gc_dvd_l _ _) (gc_dvd_l _ _) g0 k0, ?_⟩
  rw [Int.mul_comm (gc A e)]
  exact quo_mul (gc_dvd_r _ _) (gc_dvd_r _ _) k0 g0
/-- Lowest terms by the crosswise quotients' words. -/
theorem low_words (neg : Bool) {n d X Y : Int} (hd : 0 < d) (hX : n / gc n d = X) (hY : d / gc n d = Y) (X0 : 0 ≤ X) (Y0 : 0 ≤ Y) :
    (hi X ≠ 0 → lowN neg n d = 0 ∧ lowD n d = 0) ∧ (hi Y ≠ 0 → lowN neg n d = 0 ∧ lowD n d = 0) ∧
    (hi X = 0 → hi Y = 0 → lowN neg n d = mkN neg (lo X) (lo Y) ∧ lowD n d = mkD (lo X) (lo Y)) := by
  obtain ⟨e1, e2⟩ := mk_low neg (n := n) hd
  rw [hX, hY] at e1 e2
  rw [← e1, ← e2]
  refine ⟨fun h => ?_, fun h => ?_, fun h k => ?_⟩
  · have : ¬ (X ≤ 9223372036854775807 ∧ Y ≤ 9223372036854775807) := by unfold hi at h; omega
    simp [mkN, mkD, this]
  · have : ¬ (X ≤ 9223372036854775807 ∧ Y ≤ 9223372036854775807) := by unfold hi at h; omega
    simp [mkN, mkD, this]
  · have a1 : lo X = X := by unfold lo hi at *; omega
    have a2 : lo Y = Y := by unfold lo hi at *; omega
    rw [a1, a2]; exact ⟨rfl, rfl⟩
/-- The product of two fractions. -/
def mulN (n d m e : Int) : Int := if isV n d && isV m e then lowN (ng n m) (ab n * ab m) (d * e) else 0
def mulD (n d m e : Int) : Int := if isV n d && isV m e then lowD (ab n * ab m) (d * e) else 0
theorem mul_no {n d m e : Int} (h : (isV n d && isV m e) = false) : mulN n d m e = 0 ∧ mulD n d m e = 0 := by simp [mulN, mulD, h]

/-! ### Two fractions and a result in memory -/
def S2 (w wr : World) (n d m e : Int) : Prop := Up w wr ∧ w.heap.size + 1 + 1 < wr.heap.size ∧
  wr.cell? ⟨w.heap.size, 0, none⟩ = some (.int .i64 n) ∧ wr.cell? ⟨w.heap.size, 1, none⟩ = some (.int .i64 d) ∧
  wr.cell? ⟨w.heap.size + 1, 0, none⟩ = some (.int .i64 m) ∧ wr.cell? ⟨w.heap.size + 1, 1, none⟩ = some (.int .i64 e) ∧
  wr.cell? ⟨w.heap.size + 1 + 1, 0, none⟩ = some (.int .i64 0) ∧ wr.cell? ⟨w.heap.size + 1 + 1, 1, none⟩ = some (.int .i64 0)
theorem S2.start (w : World) (n d m e : Int) : S2 w (((w.alloc (.cells #[.int .i64 n, .int .i64 d] 23)).alloc (.cells #[.int .i64 m, .int .i64 e] 23)).alloc (.cells #[.int .i64 0, .int .i64 0] 23)) n d m e := by
  refine ⟨(((Up.refl _).alloc _ _).alloc _ _).alloc _ _, ?_, ?_, ?_, ?_, ?_, ?_, ?_⟩ <;> simp [go_sem]
theorem S2.up {w wr wl : World} {n d m e : Int} (s : S2 w wr n d m e) (h : Up wr wl) : S2 w wl n d m e := by
  obtain ⟨s0, s1, s2, s3, s4, s5, s6, s7⟩ := s
  exact ⟨s0.trans h, Nat.lt_of_lt_of_le s1 h.size, (h.cell _ _ (by omega)).trans s2, (h.cell _ _ (by omega)).trans s3, (h.cell _ _ (by omega)).trans s4, (h.cell _ _ (by omega)).trans s5, (h.cell _ _ (by omega)).trans s6, (h.cell _ _ (by omega)).trans s7⟩
theorem S2.fz {w wr : World} {n d m e : Int} (s : S2 w wr n d m e) (o : Nat) : wr.frozen? ⟨w.heap.size + 1 + 1, o, none⟩ = false := s.1.fz o (by omega)
theorem S2.cells {w wr : World} {n d m e : Int} (s : S2 w wr n d m e) : wr.cell? ⟨w.heap.size, 0, none⟩ = some (.int .i64 n) ∧ wr.cell? ⟨w.heap.size, 1, none⟩ = some (.int .i64 d) ∧
  wr.cell? ⟨w.heap.size + 1, 0, none⟩ = some (.int .i64 m) ∧ wr.cell? ⟨w.heap.size + 1, 1, none⟩ = some (.int .i64 e) := ⟨s.2.2.1, s.2.2.2.1, s.2.2.2.2.1, s.2.2.2.2.2.1⟩
theorem isValue64 (n d : Int) (w : World) (hn : I64 n) (hd : I64 d) :
    Calls Try.prog 11 #[.agg #[.int .i64 n, .int .i64 d]] w fun e w' => e = .returned (.bool (isV n d)) ∧ Up w w' := isValue_any n d w hn.1 hn.2 hd.1 hd.2
attribute [local go_sem ↓] Go.wp_at_zero Go.wp_at_succ
theorem small_prod {x y : Int} (x0 : 0 ≤ x) (x1 : x ≤ 9223372036854775808) (y0 : 0 ≤ y) (y1 : y ≤ 9223372036854775807) : 0 ≤ x * y ∧ x * y < 170141183460469231731687303715884105728 := by
  refine ⟨Int.mul_nonneg x0 y0, ?_⟩
  have h1 : x * y ≤ 9223372036854775808 * y := Int.mul_le_mul_of_nonneg_right x1 y0
  omega
theorem ab_bd' {n : Int} (h1 : -9223372036854775808 ≤ n) (h2 : n ≤ 9223372036854775807) (h3 : n ≠ -9223372036854775808) : 0 ≤ ab n ∧ ab n ≤ 9223372036854775807 := by unfold ab; split <;> omega
theorem divisor_up (a b : Int) (w : World) (h1 : 0 ≤ a) (h2 : a < 18446744073709551616) (h3 : 0 ≤ b) (h4 : b < 18446744073709551616) :
    Calls Try.prog 24 #[.int .u64 a, .int .u64 b] w fun e w' => e = .returned (.int .u64 (gc a b)) ∧ Up w w' :=
  (divisor_any a b w h1 h2 h3 h4).mono fun _ _ ⟨h, k, hk⟩ => ⟨h, hk ▸ (Up.refl _).drewN _⟩
theorem made_up (neg : Bool) (n d : Int) (w : World) (n0 : 0 ≤ n) (n1 : n < 18446744073709551616) (d0 : 0 ≤ d) (d1 : d < 18446744073709551616) :
    Calls Try.prog 28 #[.bool neg, .int .u64 n, .int .u64 d] w fun e w' => e = .returned (.agg #[.int .i64 (mkN neg n d), .int .i64 (mkD n d)]) ∧ Up w w' :=
  (made_any neg n d w n0 n1 d0 d1).mono fun _ _ ⟨h, c, k⟩ => ⟨h, k ▸ (Up.refl _).alloc _ _⟩
end Go.Proofs.Ytjeflecigeamnaa
