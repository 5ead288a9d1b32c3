/-
  The fraction of two numbers, by both; and the walk of the statement RatMay.
  The two products of fractions: both tell the product in lowest terms, or over.
-/
import Derived.Test.YtlhmecagijdinaaDoorN05
import Derived.Deep.RegionHeld3
set_option linter.unusedVariables false
namespace Go.Proofs.YtlhmecagijdinaaDoor.wk
open Go.RowKit

theorem hi_small {v : Int} (h0 : 0 ≤ v) (h1 : v < 18446744073709551616) : hi v = 0 := by unfold hi; omega
theorem lo_small {v : Int} (h0 : 0 ≤ v) (h1 : v < 18446744073709551616) : lo v = v := by unfold lo; omega
theorem rmade_small (neg : Bool) (n d : Int) (w : World) (n0 : 0 ≤ n) (n1 : n < 18446744073709551616) (d0 : 0 ≤ d) (d1 : d < 18446744073709551616) :
    Calls Tryd.prog 44 #[.bool neg, .agg #[.int .u64 0, .int .u64 n], .agg #[.int .u64 0, .int .u64 d]] w fun e w' => e = .returned (.agg #[.int .i64 (lowN neg n d), .int .i64 (lowD n d)]) ∧ Up w w' := by
  have h := rmade_any neg n d w n0 (by omega) d0 (by omega)
  rwa [hi_small n0 n1, hi_small d0 d1, lo_small n0 n1, lo_small d0 d1] at h
theorem mk_low (neg : Bool) {n d : Int} (hd : 0 < d) : mkN neg (n / gc n d) (d / gc n d) = lowN neg n d ∧ mkD (n / gc n d) (d / gc n d) = lowD n d := by
  by_cases h : n / gc n d ≤ 9223372036854775807 ∧ d / gc n d ≤ 9223372036854775807
  · have : fits n d = true := by simp [fits, hd, h]
    simp [mkN, mkD, lowN, lowD, h, this]
  · have : fits n d = false := by
      rw [Bool.eq_false_iff]; intro k; simp [fits] at k; exact h ⟨k.1.2, k.2⟩
    simp [mkN, mkD, lowN, lowD, h, this]
theorem of_all (n d : Int) (w : World) (n1 : -9223372036854775808 ≤ n) (n2 : n ≤ 9223372036854775807) (d1 : -9223372036854775808 ≤ d) (d2 : d ≤ 9223372036854775807) :
    Calls Tryd.prog 34 #[.int .i64 n, .int .i64 d] w fun e w' => e = .returned (.agg #[.int .i64 (lowN (ng n d) (ab n) (ab d)), .int .i64 (lowD (ab n) (ab d))]) ∧ Up w w' := by
  by_cases hd : d = 0
  · subst hd
    have e1 : lowN (ng n 0) (ab n) (ab 0) = 0 := by simp [lowN, fits, ab]
    have e2 : lowD (ab n) (ab 0) = 0 := by simp [lowD, fits, ab]
    rw [e1, e2]
    exact of_zero n w
  · have h := of_any n d w n1 n2 d1 d2 hd
    have q3 : 0 < ab d := by unfold ab; split <;> omega
    obtain ⟨e1, e2⟩ := mk_low (ng n d) (n := ab n) q3
    rwa [e1, e2] at h
theorem keep2 {wa w' : World} {b : Nat} {x0 x1 : Option Value} (hq : Up wa w') (h0 : b < wa.heap.size) (k0 : wa.cell? ⟨b, 0, none⟩ = x0) (k1 : wa.cell? ⟨b, 1, none⟩ = x1) :
    w'.cell? ⟨b, 0, none⟩ = x0 ∧ w'.cell? ⟨b, 1, none⟩ = x1 :=
  ⟨(hq.cell _ _ h0).trans k0, (hq.cell _ _ h0).trans k1⟩
attribute [local go_sem ↓] Go.wp_at_zero Go.wp_at_succ
end Go.Proofs.YtlhmecagijdinaaDoor.wk
set_option linter.unusedVariables false
namespace Go.Proofs.YtlhmecagijdinaaDoor.wk
open Go.RowKit

/-! ### Plain numbers -/
theorem cross_nat {A B d e : Nat} (hA : 0 < e) (hB : 0 < d) (h1 : Nat.gcd A d = 1) (h2 : Nat.gcd B e = 1) :
    Nat.gcd (A * B) (d * e) = Nat.gcd A e * Nat.gcd B d := by
  obtain ⟨A', hA'⟩ : Nat.gcd A e ∣ A := Nat.gcd_dvd_left _ _
  obtain ⟨e', he'⟩ : Nat.gcd A e ∣ e := Nat.gcd_dvd_right _ _
  obtain ⟨B', hB'⟩ : Nat.gcd B d ∣ B := Nat.gcd_dvd_left _ _
  obtain ⟨d', hd'⟩ : Nat.gcd B d ∣ d := Nat.gcd_dvd_right _ _
  have g0 : 0 < Nat.gcd A e := Nat.gcd_pos_of_pos_right _ hA
  have k0 : 0 < Nat.gcd B d := Nat.gcd_pos_of_pos_right _ hB
  generalize hg : Nat.gcd A e = g at *
  generalize hk : Nat.gcd B d = k at *
  have c1 : Nat.Coprime A' e' := by
    have : g * Nat.gcd A' e' = g * 1 := by rw [← Nat.gcd_mul_left, ← hA', ← he', hg, Nat.mul_one]
    exact Nat.eq_of_mul_eq_mul_left g0 this
  have c2 : Nat.Coprime B' d' := by
    have : k * Nat.gcd B' d' = k * 1 := by rw [← Nat.gcd_mul_left, ← hB', ← hd', hk, Nat.mul_one]
    exact Nat.eq_of_mul_eq_mul_left k0 this
  have c3 : Nat.Coprime A' d' := Nat.Coprime.coprime_dvd_left ⟨g, by rw [hA', Nat.mul_comm]⟩ (Nat.Coprime.coprime_dvd_right ⟨k, by rw [hd', Nat.mul_comm]⟩ h1)
  have c4 : Nat.Coprime B' e' := Nat.Coprime.coprime_dvd_left ⟨k, by rw [hB', Nat.mul_comm]⟩ (Nat.Coprime.coprime_dvd_right ⟨g, by rw [he', Nat.mul_comm]⟩ h2)
  have c5 : Nat.Coprime (A' * B') (d' * e') := (c3.mul_right c1).mul_left (c2.mul_right c4)
  have e1 : A * B = g * k * (A' * B') := by rw [hA', hB']; exact Nat.mul_mul_mul_comm _ _ _ _
  have e2 : d * e = g * k * (d' * e') := by rw [hd', he', Nat.mul_comm (k * d'), Nat.mul_mul_mul_comm, Nat.mul_comm e' d']
  rw [e1, e2, Nat.gcd_mul_left, c5, Nat.mul_one]
theorem cross {A B d e : Int} (A0 : 0 ≤ A) (B0 : 0 ≤ B) (d0 : 0 < d) (e0 : 0 < e) (h1 : gc A d = 1) (h2 : gc B e = 1) :
    gc (A * B) (d * e) = gc A e * gc B d := by
  obtain ⟨A, rfl⟩ := Int.eq_ofNat_of_zero_le A0
  obtain ⟨B, rfl⟩ := Int.eq_ofNat_of_zero_le B0
  obtain ⟨d, rfl⟩ := Int.eq_ofNat_of_zero_le (Int.le_of_lt d0)
  obtain ⟨e, rfl⟩ := Int.eq_ofNat_of_zero_le (Int.le_of_lt e0)
  rw [← Int.natCast_mul, ← Int.natCast_mul, gc_nat, gc_nat, gc_nat, ← Int.natCast_mul]
  rw [gc_nat] at h1 h2
  rw [cross_nat (by omega) (by omega) (by omega) (by omega)]
theorem quo_mul {A B g k : Int} (hg : g ∣ A) (hk : k ∣ B) (g0 : 0 < g) (k0 : 0 < k) : A * B / (g * k) = (A / g) * (B / k) := by
  obtain ⟨a, rfl⟩ := hg
  obtain ⟨b, rfl⟩ := hk
  rw [Int.mul_ediv_cancel_left _ (by omega), Int.mul_ediv_cancel_left _ (by omega)]
  rw [show g * a * (k * b) = g * k * (a * b) by simp only [Int.mul_assoc, Int.mul_left_comm a k b]]
  exact Int.mul_ediv_cancel_left _ (Int.ne_of_gt (Int.mul_pos g0 k0))
/-- The two quotients of the whole product are the products of the crosswise quotients. -/
theorem cross_quo {A B d e : Int} (A0 : 0 ≤ A) (B0 : 0 ≤ B) (d0 : 0 < d) (e0 : 0 < e) (h1 : gc A d = 1) (h2 : gc B e = 1) :
    A * B / gc (A * B) (d * e) = (A / gc A e) * (B / gc B d) ∧ d * e / gc (A * B) (d * e) = (d / gc B d) * (e / gc A e) := by
  have g0 : 0 < gc A e := by rw [gc_comm]; exact gc_pos e0
  have k0 : 0 < gc B d := by rw [gc_comm]; exact gc_pos d0
  rw [cross A0 B0 d0 e0 h1 h2]
  refine ⟨quo_mul (gc_dvd_l _ _) (gc_dvd_l _ _) g0 k0, ?_⟩
  rw [Int.mul_comm (gc A e)]
  exact quo_mul (gc_dvd_r _ _) (gc_dvd_r _ _) k0 g0
/-- Lowest terms by the crosswise quotients' words. -/
theorem low_words (neg : Bool) {n d X Y : Int} (hd : 0 < d) (hX : n / gc n d = X) (hY : d / gc n d = Y) (X0 : 0 ≤ X) (Y0 : 0 ≤ Y) :
    (hi X ≠ 0 → lowN neg n d = 0 ∧ lowD n d = 0) ∧ (hi Y ≠ 0 → lowN neg n d = 0 ∧ lowD n d = 0) ∧
    (hi X = 0 → hi Y = 0 → lowN neg n d = mkN neg (lo X) (lo Y) ∧ lowD n d = mkD (lo X) (lo Y)) := by
  obtain ⟨e1, e2⟩ := mk_low neg (n := n) hd
  rw [hX, hY] at e1 e2
  rw [← e1, ← e2]
  refine ⟨fun h => ?_, fun h => ?_, fun h k => ?_⟩
  · have : ¬ (X ≤ 9223372036854775807 ∧ Y ≤ 9223372036854775807) := by unfold hi at h; omega
    simp [mkN, mkD, this]
  · have : ¬ (X ≤ 9223372036854775807 ∧ Y ≤ 9223372036854775807) := by unfold hi at h; omega
    simp [mkN, mkD, this]
  · have a1 : lo X = X := by unfold lo hi at *; omega
    have a2 : lo Y = Y := by unfold lo hi at *; omega
    rw [a1, a2]; exact ⟨rfl, rfl⟩
/-- The product of two fractions. -/
def mulN (n d m e : Int) : Int := if isV n d && isV m e then lowN (ng n m) (ab n * ab m) (d * e) else 0
def mulD (n d m e : Int) : Int := if isV n d && isV m e then lowD (ab n * ab m) (d * e) else 0
theorem mul_no {n d m e : Int} (h : (isV n d && isV m e) = false) : mulN n d m e = 0 ∧ mulD n d m e = 0 := by simp [mulN, mulD, h]

/-! ### Two fractions and a result in memory -/
def S2 (w wr : World) (n d m e : Int) : Prop := Up w wr ∧ w.heap.size + 1 + 1 < wr.heap.size ∧
  wr.cell? ⟨w.heap.size, 0, none⟩ = some (.int .i64 n) ∧ wr.cell? ⟨w.heap.size, 1, none⟩ = some (.int .i64 d) ∧
  wr.cell? ⟨w.heap.size + 1, 0, none⟩ = some (.int .i64 m) ∧ wr.cell? ⟨w.heap.size + 1, 1, none⟩ = some (.int .i64 e) ∧
  wr.cell? ⟨w.heap.size + 1 + 1, 0, none⟩ = some (.int .i64 0) ∧ wr.cell? ⟨w.heap.size + 1 + 1, 1, none⟩ = some (.int .i64 0)
theorem S2.start (w : World) (n d m e : Int) : S2 w (((w.alloc (.cells #[.int .i64 n, .int .i64 d] 23)).alloc (.cells #[.int .i64 m, .int .i64 e] 23)).alloc (.cells #[.int .i64 0, .int .i64 0] 23)) n d m e := by
  refine ⟨(((Up.refl _).alloc _ _).alloc _ _).alloc _ _, ?_, ?_, ?_, ?_, ?_, ?_, ?_⟩ <;> simp [go_sem]
theorem S2.up {w wr wl : World} {n d m e : Int} (s : S2 w wr n d m e) (h : Up wr wl) : S2 w wl n d m e := by
  obtain ⟨s0, s1, s2, s3, s4, s5, s6, s7⟩ := s
  exact ⟨s0.trans h, Nat.lt_of_lt_of_le s1 h.size, (h.cell _ _ (by omega)).trans s2, (h.cell _ _ (by omega)).trans s3, (h.cell _ _ (by omega)).trans s4, (h.cell _ _ (by omega)).trans s5, (h.cell _ _ (by omega)).trans s6, (h.cell _ _ (by omega)).trans s7⟩
theorem S2.fz {w wr : World} {n d m e : Int} (s : S2 w wr n d m e) (o : Nat) : wr.frozen? ⟨w.heap.size + 1 + 1, o, none⟩ = false := s.1.fz o (by omega)
theorem S2.cells {w wr : World} {n d m e : Int} (s : S2 w wr n d m e) : wr.cell? ⟨w.heap.size, 0, none⟩ = some (.int .i64 n) ∧ wr.cell? ⟨w.heap.size, 1, none⟩ = some (.int .i64 d) ∧
  wr.cell? ⟨w.heap.size + 1, 0, none⟩ = some (.int .i64 m) ∧ wr.cell? ⟨w.heap.size + 1, 1, none⟩ = some (.int .i64 e) := ⟨s.2.2.1, s.2.2.2.1, s.2.2.2.2.1, s.2.2.2.2.2.1⟩
theorem is64 (n d : Int) (w : World) (hn : I64 n) (hd : I64 d) :
    Calls Tryd.prog 43 #[.agg #[.int .i64 n, .int .i64 d]] w fun e w' => e = .returned (.bool (isV n d)) ∧ Up w w' := is_any n d w hn.1 hn.2 hd.1 hd.2
theorem isValue64 (n d : Int) (w : World) (hn : I64 n) (hd : I64 d) :
    Calls Tryd.prog 90 #[.agg #[.int .i64 n, .int .i64 d]] w fun e w' => e = .returned (.bool (isV n d)) ∧ Up w w' := isValue_any n d w hn.1 hn.2 hd.1 hd.2
theorem mul_up (x y : Int) (w : World) (x0 : 0 ≤ x) (x1 : x < 18446744073709551616) (y0 : 0 ≤ y) (y1 : y < 18446744073709551616) :
    Calls Tryd.prog 45 #[.int .u64 x, .int .u64 y] w fun e w' => e = .returned (.agg #[.int .u64 (hi (x * y)), .int .u64 (lo (x * y))]) ∧ Up w w' :=
  (mul_any x y w x0 x1 y0 y1).mono fun _ _ ⟨h, c, k⟩ => ⟨h, k ▸ (Up.refl _).alloc _ _⟩
theorem over_up (w : World) : Calls Tryd.prog 42 #[] w fun e w' => e = .returned (.agg #[.int .i64 0, .int .i64 0]) ∧ Up w w' :=
  (over_any w).mono fun _ _ ⟨h, c, k⟩ => ⟨h, k ▸ (Up.refl _).alloc _ _⟩
attribute [local go_sem ↓] Go.wp_at_zero Go.wp_at_succ
theorem small_prod {x y : Int} (x0 : 0 ≤ x) (x1 : x ≤ 9223372036854775808) (y0 : 0 ≤ y) (y1 : y ≤ 9223372036854775807) : 0 ≤ x * y ∧ x * y < 170141183460469231731687303715884105728 := by
  refine ⟨Int.mul_nonneg x0 y0, ?_⟩
  have h1 : x * y ≤ 9223372036854775808 * y := Int.mul_le_mul_of_nonneg_right x1 y0
  omega
theorem ab_bd' {n : Int} (h1 : -9223372036854775808 ≤ n) (h2 : n ≤ 9223372036854775807) (h3 : n ≠ -9223372036854775808) : 0 ≤ ab n ∧ ab n ≤ 9223372036854775807 := by unfold ab; split <;> omega
set_option maxHeartbeats 4000000 in
theorem mul2_any (n d m e : Int) (w : World) (hn : I64 n) (hd : I64 d) (hm : I64 m) (he : I64 e) :
    Calls Tryd.prog 26 #[.agg #[.int .i64 n, .int .i64 d], .agg #[.int .i64 m, .int .i64 e]] w fun x w' => x = .returned (.agg #[.int .i64 (mulN n d m e), .int .i64 (mulD n d m e)]) ∧ Up w w' := by
  have s0 := S2.start w n d m e
  by_cases va : isV n d = true
  rotate_left
  · have va' : isV n d = false := by simpa using va
    obtain ⟨e1, e2⟩ := mul_no (n := n) (d := d) (m := m) (e := e) (by simp [va'])
    rw [e1, e2]
    go_enter Tryd.func26, Tryd.ntmps26
    go_wp2_with (first
      | (go_at_call 43; refine (is64 _ _ _ (by assumption) (by assumption)).mono ?_; rintro _ wa ⟨rfl, ha⟩; have sa := s0.up ha; obtain ⟨c0, c1, c2, c3, c4, c5, c6, c7⟩ := id sa; have f := sa.fz; simp only [va'])
      | (go_at_call 42; refine (over_up _).mono ?_; rintro _ wo ⟨rfl, ho⟩; have so := sa.up ho; obtain ⟨v0, v1, v2, v3, v4, v5, v6, v7⟩ := id so; have f2 := so.fz))
    exact bodyPost_ret (v := .agg #[.int .i64 0, .int .i64 0]) (by simp [results, Tryd.results26, go_sem, *]) rfl ⟨rfl, (so.1.setCell (by simp; omega) _).setCell (by simp; omega) _⟩
  by_cases vb : isV m e = true
  rotate_left
  · have vb' : isV m e = false := by simpa using vb
    obtain ⟨e1, e2⟩ := mul_no (n := n) (d := d) (m := m) (e := e) (by simp [vb'])
    rw [e1, e2]
    go_enter Tryd.func26, Tryd.ntmps26
    go_wp2_with (first
      | (go_at_call_of 43 (Value.agg #[.int .i64 n, .int .i64 d]); refine (is64 _ _ _ (by assumption) (by assumption)).mono ?_; rintro _ wa ⟨rfl, ha⟩; have sa := s0.up ha; obtain ⟨c0, c1, c2, c3, c4, c5, c6, c7⟩ := id sa; have f := sa.fz; simp only [va])
      | (go_at_call 43; refine (is64 _ _ _ (by assumption) (by assumption)).mono ?_; rintro _ wb ⟨rfl, hb⟩; have sb := sa.up hb; obtain ⟨t0, t1, t2, t3, t4, t5, t6, t7⟩ := id sb; have f1 := sb.fz; simp only [vb'])
      | (go_at_call 42; refine (over_up _).mono ?_; rintro _ wo ⟨rfl, ho⟩; have so := sb.up ho; obtain ⟨v0, v1, v2, v3, v4, v5, v6, v7⟩ := id so; have f2 := so.fz))
    exact bodyPost_ret (v := .agg #[.int .i64 0, .int .i64 0]) (by simp [results, Tryd.results26, go_sem, *]) rfl ⟨rfl, (so.1.setCell (by simp; omega) _).setCell (by simp; omega) _⟩
  obtain ⟨n1, n2⟩ := id hn; obtain ⟨d1, d2⟩ := id hd; obtain ⟨m1, m2⟩ := id hm; obtain ⟨e1, e2⟩ := id he
  have hd0 := isV_den va
  have he0 := isV_den vb
  obtain ⟨p1, p2⟩ := ab_bd' n1 n2 (isV_num va)
  obtain ⟨q1, q2⟩ := ab_bd' m1 m2 (isV_num vb)
  obtain ⟨x0, x1⟩ := small_prod p1 (by omega) q1 q2
  obtain ⟨y0, y1⟩ := small_prod (x := d) (y := e) (by omega) (by omega) (by omega) (by omega)
  rw [show mulN n d m e = lowN (ng n m) (ab n * ab m) (d * e) by simp [mulN, va, vb], show mulD n d m e = lowD (ab n * ab m) (d * e) by simp [mulD, va, vb]]
  have we : IntKind.u64.wrap e = e := by rw [IntKind.wrap_u64]; omega
  have wd : IntKind.u64.wrap d = d := by rw [IntKind.wrap_u64]; omega
  go_enter Tryd.func26, Tryd.ntmps26
  go_wp2_with (first
      | (go_at_call_of 43 (Value.agg #[.int .i64 n, .int .i64 d]); refine (is64 _ _ _ (by assumption) (by assumption)).mono ?_; rintro _ wa ⟨rfl, ha⟩; have sa := s0.up ha; obtain ⟨c0, c1, c2, c3, c4, c5, c6, c7⟩ := id sa; simp only [va])
      | (go_at_call 43; refine (is64 _ _ _ (by assumption) (by assumption)).mono ?_; rintro _ wb ⟨rfl, hb⟩; have sb := sa.up hb; simp only [vb]))
  clear c0 c1 c2 c3 c4 c5 c6 c7 sa ha hb s0
  obtain ⟨t0, t1, t2, t3, t4, t5, t6, t7⟩ := id sb
  have f1 := sb.fz
  go_region_held3 (fun w' => w'.cell? ⟨w.heap.size, 0, none⟩ = some (.int .i64 n) ∧ w'.cell? ⟨w.heap.size, 1, none⟩ = some (.int .i64 d) ∧ w'.cell? ⟨w.heap.size + 1, 0, none⟩ = some (.int .i64 m) ∧ w'.cell? ⟨w.heap.size + 1, 1, none⟩ = some (.int .i64 e))
    (first | (refine (sb.up ?_).cells; (repeat (first | exact Up.refl _ | apply Up.drewN | apply Up.drew | (refine Up.trans ?_ (by assumption)))); done) | (simp [go_sem, *]; done))
    (first
      | (go_at_call 46; refine (mag_any _ _ (by omega) (by omega)).mono ?_; rintro _ _ ⟨rfl, rfl⟩)
      | (go_at_call 45; (try simp only [we, wd]); refine (mul_up _ _ _ (by omega) (by omega) (by omega) (by omega)).mono ?_; rintro _ wl ⟨rfl, hl⟩)
      | (go_at_call 44; refine (rmade_any _ _ _ _ (by omega) (by omega) (by omega) (by omega)).mono ?_; rintro _ wl ⟨rfl, hl⟩; have sl := sb.up (show Up wb wl by repeat (first | exact Up.refl _ | apply Up.drewN | apply Up.drew | (refine Up.trans ?_ (by assumption)))); have f2 := sl.fz; obtain ⟨v0, v1, v2, v3, v4, v5, v6, v7⟩ := id sl; clear v0))
  all_goals
    go_wp2
    refine bodyPost_ret (v := .agg #[.int .i64 (lowN (ng n m) (ab n * ab m) (d * e)), .int .i64 (lowD (ab n * ab m) (d * e))]) (by simp [results, Tryd.results26, go_sem, ng, *]) rfl ⟨rfl, ?_⟩
    repeat (first | exact sl.1 | apply Up.drewN | apply Up.drew | (refine Up.setCell ?_ (by simp; omega) _))
theorem divisor_up (a b : Int) (w : World) (h1 : 0 ≤ a) (h2 : a < 18446744073709551616) (h3 : 0 ≤ b) (h4 : b < 18446744073709551616) :
    Calls Tryd.prog 58 #[.int .u64 a, .int .u64 b] w fun e w' => e = .returned (.int .u64 (gc a b)) ∧ Up w w' :=
  (divisor_any a b w h1 h2 h3 h4).mono fun _ _ ⟨h, k, hk⟩ => ⟨h, hk ▸ (Up.refl _).drewN _⟩
theorem made_up (neg : Bool) (n d : Int) (w : World) (n0 : 0 ≤ n) (n1 : n < 18446744073709551616) (d0 : 0 ≤ d) (d1 : d < 18446744073709551616) :
    Calls Tryd.prog 59 #[.bool neg, .int .u64 n, .int .u64 d] w fun e w' => e = .returned (.agg #[.int .i64 (mkN neg n d), .int .i64 (mkD n d)]) ∧ Up w w' :=
  (made_any neg n d w n0 n1 d0 d1).mono fun _ _ ⟨h, c, k⟩ => ⟨h, k ▸ (Up.refl _).alloc _ _⟩
set_option maxHeartbeats 4000000 in
theorem times_any (n d m e : Int) (w : World) (hn : I64 n) (hd : I64 d) (hm : I64 m) (he : I64 e) :
    Calls Tryd.prog 81 #[.agg #[.int .i64 n, .int .i64 d], .agg #[.int .i64 m, .int .i64 e]] w fun x w' => x = .returned (.agg #[.int .i64 (mulN n d m e), .int .i64 (mulD n d m e)]) ∧ Up w w' := by
  have s0 := S2.start w n d m e
  by_cases va : isV n d = true
  rotate_left
  · have va' : isV n d = false := by simpa using va
    obtain ⟨e1, e2⟩ := mul_no (n := n) (d := d) (m := m) (e := e) (by simp [va'])
    rw [e1, e2]
    go_enter Tryd.func81, Tryd.ntmps81
    go_wp2_with (go_at_call 90; refine (isValue64 _ _ _ (by assumption) (by assumption)).mono ?_; rintro _ wa ⟨rfl, ha⟩; have sa := s0.up ha; obtain ⟨c0, c1, c2, c3, c4, c5, c6, c7⟩ := id sa; have f := sa.fz; simp only [va'])
    exact bodyPost_ret (v := .agg #[.int .i64 0, .int .i64 0]) (by simp [results, Tryd.results81, go_sem, *]) rfl ⟨rfl, (sa.1.setCell (by simp; omega) _).setCell (by simp; omega) _⟩
  by_cases vb : isV m e = true
  rotate_left
  · have vb' : isV m e = false := by simpa using vb
    obtain ⟨e1, e2⟩ := mul_no (n := n) (d := d) (m := m) (e := e) (by simp [vb'])
    rw [e1, e2]
    go_enter Tryd.func81, Tryd.ntmps81
    go_wp2_with (first
      | (go_at_call_of 90 (Value.agg #[.int .i64 n, .int .i64 d]); refine (isValue64 _ _ _ (by assumption) (by assumption)).mono ?_; rintro _ wa ⟨rfl, ha⟩; have sa := s0.up ha; obtain ⟨c0, c1, c2, c3, c4, c5, c6, c7⟩ := id sa; have f := sa.fz; simp only [va])
      | (go_at_call 90; refine (isValue64 _ _ _ (by assumption) (by assumption)).mono ?_; rintro _ wb ⟨rfl, hb⟩; have sb := sa.up hb; obtain ⟨t0, t1, t2, t3, t4, t5, t6, t7⟩ := id sb; have f1 := sb.fz; simp only [vb']))
    exact bodyPost_ret (v := .agg #[.int .i64 0, .int .i64 0]) (by simp [results, Tryd.results81, go_sem, *]) rfl ⟨rfl, (sb.1.setCell (by simp; omega) _).setCell (by simp; omega) _⟩
  obtain ⟨n1, n2⟩ := id hn; obtain ⟨d1, d2⟩ := id hd; obtain ⟨m1, m2⟩ := id hm; obtain ⟨e1, e2⟩ := id he
  have hd0 := isV_den va
  have he0 := isV_den vb
  obtain ⟨p1, p2⟩ := ab_bd' n1 n2 (isV_num va)
  obtain ⟨q1, q2⟩ := ab_bd' m1 m2 (isV_num vb)
  have g0 : 0 < gc (ab n) e := by rw [gc_comm]; exact gc_pos (by omega)
  have k0 : 0 < gc (ab m) d := by rw [gc_comm]; exact gc_pos (by omega)
  obtain ⟨E1, E2⟩ := cross_quo p1 q1 (by omega : 0 < d) (by omega : 0 < e) (isV_gcd va) (isV_gcd vb)
  have xa := quo_bd p1 g0
  have xb := quo_bd q1 k0
  have ya := quo_bd (by omega : 0 ≤ d) k0
  have yb := quo_bd (by omega : 0 ≤ e) g0
  obtain ⟨x0, x1⟩ := small_prod xa.1 (by omega) xb.1 (by omega)
  obtain ⟨y0, y1⟩ := small_prod ya.1 (by omega) yb.1 (by omega)
  have LW := low_words (ng n m) (Int.mul_pos (by omega : 0 < d) (by omega : 0 < e)) E1 E2 x0 y0
  rw [show mulN n d m e = lowN (ng n m) (ab n * ab m) (d * e) by simp [mulN, va, vb], show mulD n d m e = lowD (ab n * ab m) (d * e) by simp [mulD, va, vb]]
  have T1 : Hid _ := (wrap_quo (g := gc (ab n) e) p1 (by omega)).resolve_right (by omega)
  have T2 : Hid _ := (wrap_quo (g := gc (ab m) d) q1 (by omega)).resolve_right (by omega)
  have T3 : Hid _ := (wrap_quo (x := d) (g := gc (ab m) d) (by omega) (by omega)).resolve_right (by omega)
  have T4 : Hid _ := (wrap_quo (x := e) (g := gc (ab n) e) (by omega) (by omega)).resolve_right (by omega)
  have g1 : ¬ gc (ab n) e = 0 := by omega
  have k1 : ¬ gc (ab m) d = 0 := by omega
  clear E1 E2
  go_enter Tryd.func81, Tryd.ntmps81
  go_wp2_with (first
      | (go_at_call_of 90 (Value.agg #[.int .i64 n, .int .i64 d]); refine (isValue64 _ _ _ (by assumption) (by assumption)).mono ?_; rintro _ wa ⟨rfl, ha⟩; have sa := s0.up ha; obtain ⟨c0, c1, c2, c3, c4, c5, c6, c7⟩ := id sa; simp only [va])
      | (go_at_call 90; refine (isValue64 _ _ _ (by assumption) (by assumption)).mono ?_; rintro _ wb ⟨rfl, hb⟩; have sb := sa.up hb; simp only [vb]))
  clear c0 c1 c2 c3 c4 c5 c6 c7 sa ha hb s0
  obtain ⟨t0, t1, t2, t3, t4, t5, t6, t7⟩ := id sb
  go_quiet (first | (go_at_call 57; exact Calls.quiet_of_same (magnitude_any _ _ (by omega) (by omega))))
  go_wp2_with fail
  have sc := sb.up ((Up.refl _).drewN nq)
  revert sc
  generalize wb.drewN nq = wc
  intro sc
  clear t0 t1 t2 t3 t4 t5 t6 t7 sb
  obtain ⟨t0, t1, t2, t3, t4, t5, t6, t7⟩ := id sc
  go_quiet (first | (go_at_call 57; exact Calls.quiet_of_same (magnitude_any _ _ (by omega) (by omega))))
  go_wp2_with (go_at_call 58; refine (divisor_up _ _ _ (by omega) (by omega) (by omega) (by omega)).mono ?_; rintro _ wk ⟨rfl, hk⟩)
  have sd := sc.up (show Up wc wk by repeat (first | exact Up.refl _ | apply Up.drewN | apply Up.drew | (refine Up.trans ?_ (by assumption))))
  clear t0 t1 t2 t3 t4 t5 t6 t7 sc hk
  go_quiet ((go_at_call 66; rw [T1.out, T2.out]; exact Calls.quiet_of_same (mul64_any _ _ _ (by omega) (by omega) (by omega) (by omega))))
  go_wp2_with fail
  have se := sd.up ((Up.refl _).drewN nq)
  revert se
  generalize wk.drewN nq = wf
  intro se
  clear sd
  go_quiet ((go_at_call 66; rw [T3.out, T4.out]; exact Calls.quiet_of_same (mul64_any _ _ _ (by omega) (by omega) (by omega) (by omega))))
  have sf := se.up ((Up.refl _).drewN nq)
  revert sf
  generalize wf.drewN nq = wg
  intro sf
  clear se T1 T2 T3 T4
  obtain ⟨t0, t1, t2, t3, t4, t5, t6, t7⟩ := id sf
  have f1 := sf.fz
  obtain ⟨hv1, hv2⟩ := hi_bd x0 (by omega)
  obtain ⟨hv3, hv4⟩ := hi_bd y0 (by omega)
  obtain ⟨lv1, lv2⟩ := lo_bd (ab n / gc (ab n) e * (ab m / gc (ab m) d))
  obtain ⟨lv3, lv4⟩ := lo_bd (d / gc (ab m) d * (e / gc (ab n) e))
  obtain ⟨L1, L2, L3⟩ := LW
  by_cases z1 : hi (ab n / gc (ab n) e * (ab m / gc (ab m) d)) = 0
  rotate_left
  · have b1 : (hi (ab n / gc (ab n) e * (ab m / gc (ab m) d)) != 0) = true := by simpa using z1
    obtain ⟨e3, e4⟩ := L1 z1
    have F : Hid _ := And.intro e3 e4
    clear e3 e4 L1 L2 L3
    go_wp2
    exact bodyPost_ret (v := .agg #[.int .i64 0, .int .i64 0]) (by simp [results, Tryd.results81, go_sem, *]) rfl ⟨by rw [F.out.1, F.out.2], (sf.1.setCell (by simp; omega) _).setCell (by simp; omega) _⟩
  by_cases z2 : hi (d / gc (ab m) d * (e / gc (ab n) e)) = 0
  rotate_left
  · have b1 : (hi (ab n / gc (ab n) e * (ab m / gc (ab m) d)) != 0) = false := by simpa using z1
    have b2 : (hi (d / gc (ab m) d * (e / gc (ab n) e)) != 0) = true := by simpa using z2
    obtain ⟨e3, e4⟩ := L2 z2
    have F : Hid _ := And.intro e3 e4
    clear e3 e4 L1 L2 L3 z1
    go_wp2
    exact bodyPost_ret (v := .agg #[.int .i64 0, .int .i64 0]) (by simp [results, Tryd.results81, go_sem, *]) rfl ⟨by rw [F.out.1, F.out.2], (sf.1.setCell (by simp; omega) _).setCell (by simp; omega) _⟩
  have b1 : (hi (ab n / gc (ab n) e * (ab m / gc (ab m) d)) != 0) = false := by simpa using z1
  have b2 : (hi (d / gc (ab m) d * (e / gc (ab n) e)) != 0) = false := by simpa using z2
  obtain ⟨e3, e4⟩ := L3 z1 z2
  have F : Hid _ := And.intro e3 e4
  clear e3 e4 L1 L2 L3 z1 z2
  go_wp2_with (go_at_call 59; refine (made_up _ _ _ _ (by omega) (by omega) (by omega) (by omega)).mono ?_; rintro _ wl ⟨rfl, hl⟩; have sl := sf.up hl; have f2 := sl.fz; obtain ⟨v0, v1, v2, v3, v4, v5, v6, v7⟩ := id sl)
  exact bodyPost_ret (v := .agg #[.int .i64 (mkN (ng n m) (lo (ab n / gc (ab n) e * (ab m / gc (ab m) d))) (lo (d / gc (ab m) d * (e / gc (ab n) e)))), .int .i64 (mkD (lo (ab n / gc (ab n) e * (ab m / gc (ab m) d))) (lo (d / gc (ab m) d * (e / gc (ab n) e))))]) (by simp [results, Tryd.results81, go_sem, ng, *]) rfl ⟨by rw [F.out.1, F.out.2], (v0.setCell (by simp; omega) _).setCell (by simp; omega) _⟩
end Go.Proofs.YtlhmecagijdinaaDoor.wk
