/-
  The sum's upper part, crosswise.
  The two sums of two fractions: both tell the sum in lowest terms, or over.
-/
import Derived.Test.YtlhmecagijdinaaDoorN06
import Derived.Test.YtlhmecagijdinaaDoorN08
import Derived.Test.YtlhmecagijdinaaDoorN07
import Derived.Deep.RegionHeld3
set_option linter.unusedVariables false
namespace Go.Proofs.YtlhmecagijdinaaDoor.wk
open Go.RowKit

theorem add64 (x y c : Int) (hx : 0 ≤ x) (hy : 0 ≤ y) (hc0 : 0 ≤ c) (hc : c ≤ 1) (w : World) : (callFunc 96 #[.int .u64 x, .int .u64 y, .int .u64 c]).run Tryd.prog w =
    .ok (.value (.tuple #[.int .u64 (lo (x + y + c)), .int .u64 (hi (x + y + c))])) w := by
  rw [run_callFunc_extern Tryd.func96 (by kernel_rfl) (by kernel_rfl) (by kernel_rfl) (e := add64Entry) (by kernel_rfl), run_add64 x y c hx hy hc0 hc]
  rfl
theorem add64_0 (x y : Int) (hx : 0 ≤ x) (hy : 0 ≤ y) (w : World) : (callFunc 96 #[.int .u64 x, .int .u64 y, .int .u64 0]).run Tryd.prog w =
    .ok (.value (.tuple #[.int .u64 (lo (x + y)), .int .u64 (hi (x + y))])) w := by
  simpa using add64 x y 0 hx hy (Int.le_refl 0) (by decide) w
theorem add_lo (a b : Int) : lo (lo a + lo b) = lo (a + b) := by unfold lo; omega
theorem add_hi (a b : Int) (a0 : 0 ≤ a) (b0 : 0 ≤ b) (h : a + b < 340282366920938463463374607431768211456) : lo (hi a + hi b + hi (lo a + lo b)) = hi (a + b) := by
  unfold lo hi; omega
/-- Is the sum below 0? And its magnitude. X and Y: the magnitudes of the two. -/
def belw (n m X Y : Int) : Bool := if decide (n < 0) == decide (m < 0) then decide (n < 0) else if X < Y then !decide (n < 0) else decide (n < 0)
def mg (n m X Y : Int) : Int := if decide (n < 0) == decide (m < 0) then X + Y else if X < Y then Y - X else X - Y
theorem fin3 {a b : Bool} {x y z t : Int} (h : a = b) (k : x = y) (l : z = t) : Ending.returned (.tuple #[.bool a, .int .u64 x, .int .u64 z]) = .returned (.tuple #[.bool b, .int .u64 y, .int .u64 t]) := by rw [h, k, l]
set_option maxHeartbeats 2000000 in
theorem cross_any (n d p m e q : Int) (w : World) (n1 : -9223372036854775808 ≤ n) (n2 : n ≤ 9223372036854775807) (m1 : -9223372036854775808 ≤ m) (m2 : m ≤ 9223372036854775807)
    (p0 : 0 ≤ p) (p1 : p ≤ 9223372036854775807) (q0 : 0 ≤ q) (q1 : q ≤ 9223372036854775807) :
    Calls Tryd.prog 92 #[.agg #[.int .i64 n, .int .i64 d], .int .u64 p, .agg #[.int .i64 m, .int .i64 e], .int .u64 q] w fun x w' => x = .returned (.tuple #[.bool (belw n m (ab n * p) (ab m * q)), .int .u64 (hi (mg n m (ab n * p) (ab m * q))), .int .u64 (lo (mg n m (ab n * p) (ab m * q)))]) ∧ Up w w' := by
  obtain ⟨a1, a2⟩ := ab_bd n1 n2
  obtain ⟨b1, b2⟩ := ab_bd m1 m2
  have a3 : ab n ≤ 9223372036854775808 := by unfold ab; split <;> omega
  have b3 : ab m ≤ 9223372036854775808 := by unfold ab; split <;> omega
  obtain ⟨x0, x1⟩ := small_prod a1 a3 p0 p1
  obtain ⟨y0, y1⟩ := small_prod b1 b3 q0 q1
  obtain ⟨hx0, hx1⟩ := hi_bd x0 (by omega)
  obtain ⟨hy0, hy1⟩ := hi_bd y0 (by omega)
  obtain ⟨lx0, lx1⟩ := lo_bd (ab n * p)
  obtain ⟨ly0, ly1⟩ := lo_bd (ab m * q)
  by_cases hs : (decide (n < 0) == decide (m < 0)) = true
  · have B : Hid (belw n m (ab n * p) (ab m * q) = decide (n < 0)) := if_pos hs
    have M : Hid (mg n m (ab n * p) (ab m * q) = ab n * p + ab m * q) := if_pos hs
    have E1 : Hid _ := add_lo (ab n * p) (ab m * q)
    have E2 : Hid _ := add_hi (ab n * p) (ab m * q) x0 y0 (by omega)
    have c0 : 0 ≤ hi (lo (ab n * p) + lo (ab m * q)) := by unfold hi; omega
    have c1 : hi (lo (ab n * p) + lo (ab m * q)) ≤ 1 := by unfold hi; omega
    go_enter Tryd.func92, Tryd.ntmps92
    go_wp2_with (first
      | (go_at_call 57; refine (magnitude_any _ _ (by omega) (by omega)).mono ?_; rintro _ _ ⟨rfl, rfl⟩)
      | (go_at_call 66; refine (mul64_any _ _ _ (by omega) (by omega) (by omega) (by omega)).mono ?_; rintro _ _ ⟨rfl, rfl⟩)
      | simp only [add64_0 _ _ lx0 ly0] | simp only [add64 _ _ _ hx0 hy0 c0 c1])
    go_ret3
    exact ⟨fin3 B.out.symm (by rw [M.out]; exact E2.out) (by rw [M.out]; exact E1.out), ((Up.refl _).alloc _ _).alloc _ _⟩
  · have hs' : (decide (n < 0) == decide (m < 0)) = false := by simpa using hs
    by_cases hlt : ab n * p < ab m * q
    · have B : Hid (belw n m (ab n * p) (ab m * q) = !decide (n < 0)) := by simp [Hid, belw, hs', hlt]
      have M : Hid (mg n m (ab n * p) (ab m * q) = ab m * q - ab n * p) := by simp [Hid, mg, hs', hlt]
      have E1 : Hid _ := sub_lo (ab m * q) (ab n * p)
      have E2 : Hid _ := sub_hi (ab m * q) (ab n * p) x0 (by omega) (by omega)
      obtain ⟨k1, k2⟩ := bor_bd (lo (ab m * q)) (lo (ab n * p))
      have C : Hid _ := cm_lt hlt
      clear hlt hs
      go_enter Tryd.func92, Tryd.ntmps92
      go_wp2_with (first
        | (go_at_call 57; refine (magnitude_any _ _ (by omega) (by omega)).mono ?_; rintro _ _ ⟨rfl, rfl⟩)
        | (go_at_call 66; refine (mul64_any _ _ _ (by omega) (by omega) (by omega) (by omega)).mono ?_; rintro _ _ ⟨rfl, rfl⟩)
        | (go_at_call 97; refine (compareWide_hl _ _ _).mono ?_; rintro _ _ ⟨rfl, rfl⟩; simp only [C.out])
        | simp only [sub64_0 _ _ ly0 lx0 lx1] | simp only [sub64 _ _ _ hy0 hx0 hx1 k1 k2])
      go_ret3
      exact ⟨fin3 B.out.symm (by rw [M.out]; exact E2.out) (by rw [M.out]; exact E1.out), ((Up.refl _).alloc _ _).alloc _ _⟩
    · have B : Hid (belw n m (ab n * p) (ab m * q) = decide (n < 0)) := by simp [Hid, belw, hs', hlt]
      have M : Hid (mg n m (ab n * p) (ab m * q) = ab n * p - ab m * q) := by simp [Hid, mg, hs', hlt]
      have E1 : Hid _ := sub_lo (ab n * p) (ab m * q)
      have E2 : Hid _ := sub_hi (ab n * p) (ab m * q) y0 (by omega) (by omega)
      obtain ⟨k1, k2⟩ := bor_bd (lo (ab n * p)) (lo (ab m * q))
      have C : ¬ cm (ab n * p) (ab m * q) < 0 := by unfold cm; rw [if_neg hlt]; split <;> omega
      clear hlt hs
      go_enter Tryd.func92, Tryd.ntmps92
      go_wp2_with (first
        | (go_at_call 57; refine (magnitude_any _ _ (by omega) (by omega)).mono ?_; rintro _ _ ⟨rfl, rfl⟩)
        | (go_at_call 66; refine (mul64_any _ _ _ (by omega) (by omega) (by omega) (by omega)).mono ?_; rintro _ _ ⟨rfl, rfl⟩)
        | (go_at_call 97; refine (compareWide_hl _ _ _).mono ?_; rintro _ _ ⟨rfl, rfl⟩)
        | simp only [sub64_0 _ _ lx0 ly0 ly1] | simp only [sub64 _ _ _ hx0 hy0 hy1 k1 k2])
      go_ret3
      exact ⟨fin3 B.out.symm (by rw [M.out]; exact E2.out) (by rw [M.out]; exact E1.out), ((Up.refl _).alloc _ _).alloc _ _⟩
end Go.Proofs.YtlhmecagijdinaaDoor.wk
set_option linter.unusedVariables false
namespace Go.Proofs.YtlhmecagijdinaaDoor.wk
open Go.RowKit

/-! ### Plain numbers -/
theorem mg_abs {n m p q : Int} (p0 : 0 ≤ p) (q0 : 0 ≤ q) : mg n m (ab n * p) (ab m * q) = ((n * p + m * q).natAbs : Int) := by
  have a1 : n < 0 → ab n * p = -(n * p) ∧ n * p ≤ 0 := fun h => ⟨by rw [ab_neg h, Int.neg_mul], Int.mul_nonpos_of_nonpos_of_nonneg (by omega) p0⟩
  have a2 : 0 ≤ n → ab n * p = n * p ∧ 0 ≤ n * p := fun h => ⟨by rw [ab_pos h], Int.mul_nonneg h p0⟩
  have b1 : m < 0 → ab m * q = -(m * q) ∧ m * q ≤ 0 := fun h => ⟨by rw [ab_neg h, Int.neg_mul], Int.mul_nonpos_of_nonpos_of_nonneg (by omega) q0⟩
  have b2 : 0 ≤ m → ab m * q = m * q ∧ 0 ≤ m * q := fun h => ⟨by rw [ab_pos h], Int.mul_nonneg h q0⟩
  generalize n * p = x at *
  generalize m * q = y at *
  generalize ab n * p = X at *
  generalize ab m * q = Y at *
  unfold mg
  by_cases hn : n < 0 <;> by_cases hm : m < 0 <;> simp [hn, hm]
  · obtain ⟨e1, e2⟩ := a1 hn; obtain ⟨e3, e4⟩ := b1 hm; omega
  · obtain ⟨e1, e2⟩ := a1 hn; obtain ⟨e3, e4⟩ := b2 (by omega); split <;> omega
  · obtain ⟨e1, e2⟩ := a2 (by omega); obtain ⟨e3, e4⟩ := b1 hm; split <;> omega
  · obtain ⟨e1, e2⟩ := a2 (by omega); obtain ⟨e3, e4⟩ := b2 (by omega); omega
theorem mg_scale {n m X Y g : Int} (g0 : 0 < g) : mg n m (g * X) (g * Y) = g * mg n m X Y ∧ belw n m (g * X) (g * Y) = belw n m X Y := by
  have h : g * X < g * Y ↔ X < Y := ⟨fun h => Int.lt_of_mul_lt_mul_left h (by omega), fun h => Int.mul_lt_mul_of_pos_left h g0⟩
  unfold mg belw
  simp only [h]
  refine ⟨?_, trivial⟩
  split
  · rw [Int.mul_add]
  · split <;> rw [Int.mul_sub]
theorem cop_sum {n m : Int} {d' e' d : Nat} (h1 : Nat.gcd n.natAbs d = 1) (hd : d' ∣ d) (h2 : Nat.gcd d' e' = 1) : Nat.gcd (n * e' + m * d').natAbs d' = 1 := by
  generalize hk : Nat.gcd (n * e' + m * d').natAbs d' = k
  have k1 : k ∣ (n * e' + m * d').natAbs := hk ▸ Nat.gcd_dvd_left _ _
  have k2 : k ∣ d' := hk ▸ Nat.gcd_dvd_right _ _
  have k3 : (k : Int) ∣ n * e' + m * d' := Int.ofNat_dvd_left.mpr k1
  have k4 : (k : Int) ∣ m * d' := Int.dvd_trans (Int.natCast_dvd_natCast.mpr k2) (Int.dvd_mul_left _ _)
  have k5 : (k : Int) ∣ n * e' := by
    have := Int.dvd_sub k3 k4
    rwa [Int.add_sub_cancel] at this
  have k6 : k ∣ n.natAbs * e' := by
    have := Int.ofNat_dvd_left.mp k5
    rwa [Int.natAbs_mul, Int.natAbs_natCast] at this
  have k7 : Nat.Coprime k e' := Nat.Coprime.coprime_dvd_left k2 h2
  have k8 : k ∣ n.natAbs := k7.dvd_of_dvd_mul_right k6
  have k9 : k ∣ Nat.gcd n.natAbs d := Nat.dvd_gcd k8 (Nat.dvd_trans k2 hd)
  rw [h1] at k9
  exact Nat.dvd_one.mp k9
theorem sum_nat {n m : Int} {d e : Nat} (d0 : 0 < d) (e0 : 0 < e) (h1 : Nat.gcd n.natAbs d = 1) (h2 : Nat.gcd m.natAbs e = 1) :
    Nat.gcd (Nat.gcd d e * (n * ((e / Nat.gcd d e : Nat) : Int) + m * ((d / Nat.gcd d e : Nat) : Int)).natAbs) (d * e) = Nat.gcd d e * Nat.gcd (n * ((e / Nat.gcd d e : Nat) : Int) + m * ((d / Nat.gcd d e : Nat) : Int)).natAbs (Nat.gcd d e) := by
  have g0 : 0 < Nat.gcd d e := Nat.gcd_pos_of_pos_left _ d0
  obtain ⟨d', hd⟩ : Nat.gcd d e ∣ d := Nat.gcd_dvd_left _ _
  obtain ⟨e', he⟩ : Nat.gcd d e ∣ e := Nat.gcd_dvd_right _ _
  generalize hg : Nat.gcd d e = g at *
  have q1 : d / g = d' := by rw [hd, Nat.mul_div_cancel_left _ g0]
  have q2 : e / g = e' := by rw [he, Nat.mul_div_cancel_left _ g0]
  rw [q1, q2]
  have c : Nat.gcd d' e' = 1 := by
    have : g * Nat.gcd d' e' = g * 1 := by rw [← Nat.gcd_mul_left, ← hd, ← he, hg, Nat.mul_one]
    exact Nat.eq_of_mul_eq_mul_left g0 this
  have c1 := cop_sum (m := m) h1 ⟨g, by rw [hd, Nat.mul_comm]⟩ c
  have c2 := cop_sum (m := n) h2 ⟨g, by rw [he, Nat.mul_comm]⟩ (by rw [Nat.gcd_comm]; exact c)
  rw [Int.add_comm (m * _)] at c2
  generalize (n * (e' : Int) + m * (d' : Int)).natAbs = M at *
  have e1 : d * e = g * (d' * (e' * g)) := by rw [hd, he, Nat.mul_assoc, Nat.mul_comm g e']
  have k1 : Nat.Coprime d' M := by rw [Nat.coprime_iff_gcd_eq_one, Nat.gcd_comm]; exact c1
  have k2 : Nat.Coprime e' M := by rw [Nat.coprime_iff_gcd_eq_one, Nat.gcd_comm]; exact c2
  rw [e1, Nat.gcd_mul_left, k1.gcd_mul_left_cancel_right, k2.gcd_mul_left_cancel_right]
theorem natAbs_ab (n : Int) : ab n = (n.natAbs : Int) := by unfold ab; split <;> omega
/-- The divisor that is common to the whole sum's two parts. -/
theorem sum_gc {n d m e : Int} (d0 : 0 < d) (e0 : 0 < e) (h1 : gc (ab n) d = 1) (h2 : gc (ab m) e = 1) :
    gc (mg n m (ab n * e) (ab m * d)) (d * e) = gc d e * gc (gc d e) (mg n m (ab n * (e / gc d e)) (ab m * (d / gc d e)) % gc d e) ∧
    mg n m (ab n * e) (ab m * d) = gc d e * mg n m (ab n * (e / gc d e)) (ab m * (d / gc d e)) ∧
    belw n m (ab n * e) (ab m * d) = belw n m (ab n * (e / gc d e)) (ab m * (d / gc d e)) := by
  have g0 : 0 < gc d e := gc_pos d0
  obtain ⟨s1, s2⟩ := mg_scale (n := n) (m := m) (X := ab n * (e / gc d e)) (Y := ab m * (d / gc d e)) g0
  have x1 : gc d e * (ab n * (e / gc d e)) = ab n * e := by rw [Int.mul_left_comm, Int.mul_ediv_cancel' (gc_dvd_r _ _)]
  have x2 : gc d e * (ab m * (d / gc d e)) = ab m * d := by rw [Int.mul_left_comm, Int.mul_ediv_cancel' (gc_dvd_l _ _)]
  rw [x1, x2] at s1 s2
  refine ⟨?_, s1, s2⟩
  have p0 : 0 ≤ e / gc d e := Int.ediv_nonneg (by omega) (by omega)
  have q0 : 0 ≤ d / gc d e := Int.ediv_nonneg (by omega) (by omega)
  have M0 : 0 ≤ mg n m (ab n * (e / gc d e)) (ab m * (d / gc d e)) := by rw [mg_abs p0 q0]; omega
  have e3 : gc (gc d e) (mg n m (ab n * (e / gc d e)) (ab m * (d / gc d e)) % gc d e) = gc (mg n m (ab n * (e / gc d e)) (ab m * (d / gc d e))) (gc d e) := by
    have := gcd_step (mg n m (ab n * (e / gc d e)) (ab m * (d / gc d e))) (gc d e) M0 g0
    unfold gc at *
    rw [this]
  rw [e3, s1, mg_abs p0 q0]
  obtain ⟨d, rfl⟩ := Int.eq_ofNat_of_zero_le (Int.le_of_lt d0)
  obtain ⟨e, rfl⟩ := Int.eq_ofNat_of_zero_le (Int.le_of_lt e0)
  rw [natAbs_ab, gc_nat] at h1 h2
  have := sum_nat (n := n) (m := m) (d := d) (e := e) (by omega) (by omega) (by omega) (by omega)
  rw [gc_nat d e, ← Int.natCast_ediv, ← Int.natCast_ediv, ← Int.natCast_mul, ← Int.natCast_mul, gc_nat, gc_nat, this, Int.natCast_mul]
theorem sum_quo {n d m e : Int} (d0 : 0 < d) (e0 : 0 < e) (h1 : gc (ab n) d = 1) (h2 : gc (ab m) e = 1) :
    mg n m (ab n * e) (ab m * d) / gc (mg n m (ab n * e) (ab m * d)) (d * e) = mg n m (ab n * (e / gc d e)) (ab m * (d / gc d e)) / gc (gc d e) (mg n m (ab n * (e / gc d e)) (ab m * (d / gc d e)) % gc d e) ∧
    d * e / gc (mg n m (ab n * e) (ab m * d)) (d * e) = (d / gc d e) * (e / gc (gc d e) (mg n m (ab n * (e / gc d e)) (ab m * (d / gc d e)) % gc d e)) := by
  obtain ⟨s1, s2, _⟩ := sum_gc (n := n) (m := m) d0 e0 h1 h2
  have g0 : 0 < gc d e := gc_pos d0
  have c0 : 0 < gc (gc d e) (mg n m (ab n * (e / gc d e)) (ab m * (d / gc d e)) % gc d e) := gc_pos g0
  rw [s1]
  refine ⟨?_, ?_⟩
  · rw [s2, Int.mul_ediv_mul_of_pos _ _ g0]
  · exact quo_mul (gc_dvd_l _ _) (Int.dvd_trans (gc_dvd_l _ _) (gc_dvd_r _ _)) g0 c0
/-- The sum of two fractions. -/
def addN (n d m e : Int) : Int := if isV n d && isV m e then lowN (belw n m (ab n * e) (ab m * d)) (mg n m (ab n * e) (ab m * d)) (d * e) else 0
def addD (n d m e : Int) : Int := if isV n d && isV m e then lowD (mg n m (ab n * e) (ab m * d)) (d * e) else 0
theorem add_no {n d m e : Int} (h : (isV n d && isV m e) = false) : addN n d m e = 0 ∧ addD n d m e = 0 := by simp [addN, addD, h]
theorem mg_bd {n m X Y : Int} (x0 : 0 ≤ X) (x1 : X < 170141183460469231731687303715884105728) (y0 : 0 ≤ Y) (y1 : Y < 170141183460469231731687303715884105728) : 0 ≤ mg n m X Y ∧ mg n m X Y < 340282366920938463463374607431768211456 := by
  unfold mg; split <;> (try split) <;> omega
theorem low_words' (neg : Bool) {n d X Y : Int} (hd : 0 < d) (hX : n / gc n d = X) (hY : d / gc n d = Y) (X0 : 0 ≤ X) (Y0 : 0 ≤ Y) :
    (18446744073709551616 ≤ X → lowN neg n d = 0 ∧ lowD n d = 0) ∧ (hi Y ≠ 0 → lowN neg n d = 0 ∧ lowD n d = 0) ∧
    (X < 18446744073709551616 → hi Y = 0 → lowN neg n d = mkN neg X (lo Y) ∧ lowD n d = mkD X (lo Y)) := by
  obtain ⟨L1, L2, L3⟩ := low_words neg hd hX hY X0 Y0
  refine ⟨fun h => L1 (by unfold hi; omega), L2, fun h k => ?_⟩
  have h1 : hi X = 0 := by unfold hi; omega
  have h2 : lo X = X := by unfold lo; omega
  have := L3 h1 k
  rwa [h2] at this
attribute [local go_sem ↓] Go.wp_at_zero Go.wp_at_succ
set_option maxHeartbeats 4000000 in
theorem plus_any (n d m e : Int) (w : World) (hn : I64 n) (hd : I64 d) (hm : I64 m) (he : I64 e) :
    Calls Tryd.prog 86 #[.agg #[.int .i64 n, .int .i64 d], .agg #[.int .i64 m, .int .i64 e]] w fun x w' => x = .returned (.agg #[.int .i64 (addN n d m e), .int .i64 (addD n d m e)]) ∧ Up w w' := by
  have s0 := S2.start w n d m e
  by_cases va : isV n d = true
  rotate_left
  · have va' : isV n d = false := by simpa using va
    obtain ⟨e1, e2⟩ := add_no (n := n) (d := d) (m := m) (e := e) (by simp [va'])
    rw [e1, e2]
    go_enter Tryd.func86, Tryd.ntmps86
    go_wp2_with (go_at_call 90; refine (isValue64 _ _ _ (by assumption) (by assumption)).mono ?_; rintro _ wa ⟨rfl, ha⟩; have sa := s0.up ha; obtain ⟨c0, c1, c2, c3, c4, c5, c6, c7⟩ := id sa; have f := sa.fz; simp only [va'])
    exact bodyPost_ret (v := .agg #[.int .i64 0, .int .i64 0]) (by simp [results, Tryd.results86, go_sem, *]) rfl ⟨rfl, (sa.1.setCell (by simp; omega) _).setCell (by simp; omega) _⟩
  by_cases vb : isV m e = true
  rotate_left
  · have vb' : isV m e = false := by simpa using vb
    obtain ⟨e1, e2⟩ := add_no (n := n) (d := d) (m := m) (e := e) (by simp [vb'])
    rw [e1, e2]
    go_enter Tryd.func86, Tryd.ntmps86
    go_wp2_with (first
      | (go_at_call_of 90 (Value.agg #[.int .i64 n, .int .i64 d]); refine (isValue64 _ _ _ (by assumption) (by assumption)).mono ?_; rintro _ wa ⟨rfl, ha⟩; have sa := s0.up ha; obtain ⟨c0, c1, c2, c3, c4, c5, c6, c7⟩ := id sa; have f := sa.fz; simp only [va])
      | (go_at_call 90; refine (isValue64 _ _ _ (by assumption) (by assumption)).mono ?_; rintro _ wb ⟨rfl, hb⟩; have sb := sa.up hb; obtain ⟨t0, t1, t2, t3, t4, t5, t6, t7⟩ := id sb; have f1 := sb.fz; simp only [vb']))
    exact bodyPost_ret (v := .agg #[.int .i64 0, .int .i64 0]) (by simp [results, Tryd.results86, go_sem, *]) rfl ⟨rfl, (sb.1.setCell (by simp; omega) _).setCell (by simp; omega) _⟩
  obtain ⟨n1, n2⟩ := id hn; obtain ⟨d1, d2⟩ := id hd; obtain ⟨m1, m2⟩ := id hm; obtain ⟨e1, e2⟩ := id he
  have hd0 := isV_den va
  have he0 := isV_den vb
  obtain ⟨p1, p2⟩ := ab_bd' n1 n2 (isV_num va)
  obtain ⟨q1, q2⟩ := ab_bd' m1 m2 (isV_num vb)
  have g0 : 0 < gc d e := gc_pos (by omega)
  have g1 : gc d e ≤ e := gc_le_r (by omega)
  obtain ⟨E1, E2⟩ := sum_quo (n := n) (m := m) (by omega : 0 < d) (by omega : 0 < e) (isV_gcd va) (isV_gcd vb)
  obtain ⟨_, _, E3⟩ := sum_gc (n := n) (m := m) (by omega : 0 < d) (by omega : 0 < e) (isV_gcd va) (isV_gcd vb)
  have ya := quo_bd (by omega : 0 ≤ d) g0
  have yb := quo_bd (by omega : 0 ≤ e) g0
  obtain ⟨x0, x1⟩ := small_prod p1 (by omega) yb.1 (by omega)
  obtain ⟨y0, y1⟩ := small_prod q1 (by omega) ya.1 (by omega)
  obtain ⟨M0, M1⟩ := mg_bd (n := n) (m := m) x0 x1 y0 y1
  rw [show addN n d m e = lowN (belw n m (ab n * e) (ab m * d)) (mg n m (ab n * e) (ab m * d)) (d * e) by simp [addN, va, vb], show addD n d m e = lowD (mg n m (ab n * e) (ab m * d)) (d * e) by simp [addD, va, vb], E3]
  have CS := fun W => cross_any n d (e / gc d e) m e (d / gc d e) W n1 n2 m1 m2 yb.1 (by omega) ya.1 (by omega)
  have T1 : Hid _ := (wrap_quo (x := e) (g := gc d e) (by omega) (by omega)).resolve_right (by omega)
  have T2 : Hid _ := (wrap_quo (x := d) (g := gc d e) (by omega) (by omega)).resolve_right (by omega)
  have g2 : ¬ gc d e = 0 := by omega
  generalize hM : mg n m (ab n * (e / gc d e)) (ab m * (d / gc d e)) = M at *
  have c0 : 0 < gc (gc d e) (M % gc d e) := gc_pos g0
  have c1 : gc (gc d e) (M % gc d e) ≤ gc d e := Int.le_of_dvd g0 (gc_dvd_l _ _)
  have r0 : 0 ≤ M % gc d e := Int.emod_nonneg _ g2
  have r1 : M % gc d e < gc d e := Int.emod_lt_of_pos _ g0
  have zb := quo_bd (by omega : 0 ≤ e) c0
  have za := quo_bd M0 c0
  obtain ⟨w0, w1⟩ := small_prod ya.1 (by omega) zb.1 (by omega)
  have LW := low_words' (belw n m (ab n * (e / gc d e)) (ab m * (d / gc d e))) (Int.mul_pos (by omega : 0 < d) (by omega : 0 < e)) E1 E2 za.1 w0
  have T3 : Hid _ := (wrap_quo (x := e) (g := gc (gc d e) (M % gc d e)) (by omega) (by omega)).resolve_right (by omega)
  have CG := fun W => divisor_up (gc d e) (M % gc d e) W (by omega) (by omega) r0 (by omega)
  generalize gc (gc d e) (M % gc d e) = c at *
  generalize mg n m (ab n * e) (ab m * d) = N at *
  generalize belw n m (ab n * (e / gc d e)) (ab m * (d / gc d e)) = bb at *
  obtain ⟨hM0, hM1⟩ := hi_bd M0 M1
  obtain ⟨lM0, lM1⟩ := lo_bd M
  have HL := hl M
  have HLM : Hid _ := HL
  clear E1 E2 E3 hM HL
  go_enter Tryd.func86, Tryd.ntmps86
  go_wp2_with (first
      | (go_at_call_of 90 (Value.agg #[.int .i64 n, .int .i64 d]); refine (isValue64 _ _ _ (by assumption) (by assumption)).mono ?_; rintro _ wa ⟨rfl, ha⟩; have sa := s0.up ha; obtain ⟨a0, a1, a2, a3, a4, a5, a6, a7⟩ := id sa; simp only [va])
      | (go_at_call 90; refine (isValue64 _ _ _ (by assumption) (by assumption)).mono ?_; rintro _ wb ⟨rfl, hb⟩; have sb := sa.up hb; simp only [vb]))
  clear a0 a1 a2 a3 a4 a5 a6 a7 sa ha hb s0
  obtain ⟨t0, t1, t2, t3, t4, t5, t6, t7⟩ := id sb
  go_quiet (fail)
  go_wp2_with (go_at_call 58; refine (divisor_up _ _ _ (by omega) (by omega) (by omega) (by omega)).mono ?_; rintro _ wk ⟨rfl, hk⟩)
  have sd := sb.up (show Up wb wk by repeat (first | exact Up.refl _ | apply Up.drewN | apply Up.drew | (refine Up.trans ?_ (by assumption))))
  clear t0 t1 t2 t3 t4 t5 t6 t7 sb hk
  obtain ⟨t0, t1, t2, t3, t4, t5, t6, t7⟩ := id sd
  clear t0
  go_region_held3 (fun w' => w'.cell? ⟨w.heap.size, 0, none⟩ = some (.int .i64 n) ∧ w'.cell? ⟨w.heap.size, 1, none⟩ = some (.int .i64 d) ∧ w'.cell? ⟨w.heap.size + 1, 0, none⟩ = some (.int .i64 m) ∧ w'.cell? ⟨w.heap.size + 1, 1, none⟩ = some (.int .i64 e))
    ((refine (sd.up ?_).cells; (repeat (first | exact Up.refl _ | apply Up.drewN | apply Up.drew | (refine Up.trans ?_ (by assumption)))); done))
    (first | (go_at_call 92; rw [T1.out, T2.out]; refine (CS _).mono ?_; rintro _ wl ⟨rfl, hl⟩))
  have sl := sd.up (show Up wk wl by repeat (first | exact Up.refl _ | apply Up.drewN | apply Up.drew | (refine Up.trans ?_ (by assumption))))
  have hul : Up wl wl := Up.refl _
  clear t1 t2 t3 t4 t5 t6 t7
  by_cases hbig : c ≤ hi M
  · obtain ⟨e3, e4⟩ := LW.1 (Int.le_ediv_of_mul_le c0 (by have := HLM.out; omega))
    have F : Hid _ := And.intro e3 e4
    clear e3 e4 LW
    go_wp2_with (first
      | (go_at_call 93; refine (rem64_up _ _ _ _ hM0 hM1 (by omega) (by omega) lM0 lM1).mono ?_; rintro _ wr ⟨rfl, hr⟩; rw [HLM.out])
      | (go_at_call 58; refine (CG _).mono ?_; rintro _ wt ⟨rfl, ht⟩; have st := sl.up (show Up wl wt by repeat (first | exact Up.refl _ | apply Up.drewN | apply Up.drew | (refine Up.trans ?_ (by assumption)))); obtain ⟨v0, v1, v2, v3, v4, v5, v6, v7⟩ := id st; have f2 := st.fz))
    exact bodyPost_ret (v := .agg #[.int .i64 0, .int .i64 0]) (by simp [results, Tryd.results86, go_sem, *]) rfl ⟨by rw [F.out.1, F.out.2], (v0.setCell (by simp; omega) _).setCell (by simp; omega) _⟩
  have hq1 : M / c < 18446744073709551616 := Int.ediv_lt_of_lt_mul c0 (by have := HLM.out; omega)
  have hcl : hi M < c := by omega
  obtain ⟨_, L2, L3⟩ := LW
  go_wp2_with (first
    | (go_at_call 93; refine (rem64_up _ _ _ _ hM0 hM1 (by omega) (by omega) lM0 lM1).mono ?_; rintro _ wr ⟨rfl, hr⟩; rw [HLM.out])
    | (go_at_call 58; refine (CG _).mono ?_; rintro _ wt ⟨rfl, ht⟩)
    | (go_at_call 94; refine (div64_up _ _ _ _ hM0 hcl (by omega) lM0 lM1).mono ?_; rintro _ wu ⟨rfl, hu⟩; rw [HLM.out]))
  have su := sl.up (show Up wl wu by repeat (first | exact Up.refl _ | apply Up.drewN | apply Up.drew | (refine Up.trans ?_ (by assumption))))
  have c2 : ¬ c = 0 := by omega
  go_quiet ((go_at_call 66; rw [T2.out, T3.out]; exact Calls.quiet_of_same (mul64_any _ _ _ (by omega) (by omega) (by omega) (by omega))))
  have sv := su.up ((Up.refl _).drewN nq)
  revert sv
  generalize wu.drewN nq = wv
  intro sv
  obtain ⟨t0, t1, t2, t3, t4, t5, t6, t7⟩ := id sv
  have f1 := sv.fz
  obtain ⟨hv3, hv4⟩ := hi_bd w0 (by omega)
  obtain ⟨lv3, lv4⟩ := lo_bd (d / gc d e * (e / c))
  clear T1 T2 T3 CS CG
  by_cases z2 : hi (d / gc d e * (e / c)) = 0
  rotate_left
  · have b2 : (hi (d / gc d e * (e / c)) != 0) = true := by simpa using z2
    obtain ⟨e3, e4⟩ := L2 z2
    have F : Hid _ := And.intro e3 e4
    clear e3 e4 L2 L3
    go_wp2
    exact bodyPost_ret (v := .agg #[.int .i64 0, .int .i64 0]) (by simp [results, Tryd.results86, go_sem, *]) rfl ⟨by rw [F.out.1, F.out.2], (sv.1.setCell (by simp; omega) _).setCell (by simp; omega) _⟩
  have b2 : (hi (d / gc d e * (e / c)) != 0) = false := by simpa using z2
  obtain ⟨e3, e4⟩ := L3 hq1 z2
  have F : Hid _ := And.intro e3 e4
  clear e3 e4 L2 L3 z2
  go_wp2_with (go_at_call 59; refine (made_up _ _ _ _ za.1 hq1 lv3 lv4).mono ?_; rintro _ wl ⟨rfl, hl⟩; have sl := sv.up hl; have f2 := sl.fz; obtain ⟨v0, v1, v2, v3, v4, v5, v6, v7⟩ := id sl)
  exact bodyPost_ret (v := .agg #[.int .i64 (mkN bb (M / c) (lo (d / gc d e * (e / c)))), .int .i64 (mkD (M / c) (lo (d / gc d e * (e / c))))]) (by simp [results, Tryd.results86, go_sem, *]) rfl ⟨by rw [F.out.1, F.out.2], (v0.setCell (by simp; omega) _).setCell (by simp; omega) _⟩
end Go.Proofs.YtlhmecagijdinaaDoor.wk
