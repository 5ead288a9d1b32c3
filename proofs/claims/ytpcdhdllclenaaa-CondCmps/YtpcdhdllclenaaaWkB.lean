/-
  Contracts of the fractions' tests, of products of 128 bits and of comparisons.
-/
import Derived.Test.YtpcdhdllclenaaaWkA
import Derived.Laws.MathBits
import Derived.Laws.BitsAllLaws
namespace Go.Proofs.Ytpcdhdllclenaaa.wk
open Go.RowKit

theorem rmay_any (n d : Int) (w : World) (n1 : -9223372036854775808 ≤ n) (n2 : n ≤ 9223372036854775807) (d1 : -9223372036854775808 ≤ d) (d2 : d ≤ 9223372036854775807) :
    Calls Try.prog 24 #[.agg #[.int .i64 n, .int .i64 d]] w fun e w' => e = .returned (.bool (mayB n d)) ∧ Up w w' := by
  obtain ⟨m1, m2⟩ := ab_bd n1 n2
  by_cases hz : n = 0 ∧ d = 0
  · obtain ⟨rfl, rfl⟩ := hz
    go_enter Try.func24, Try.ntmps24
    go_wp2
    go_ret
    exact ⟨rfl, (Up.refl _).alloc _ _⟩
  have z0 : (n == 0 && d == 0) = false := by
    rw [Bool.eq_false_iff]; intro h; simp at h; exact hz h
  by_cases hd : d < 1
  · have hd0 : decide (1 ≤ d) = false := by simp; omega
    have e1 : mayB n d = false := by simp only [mayB, isV, z0, hd0]; simp
    rw [e1]; clear e1
    by_cases hn : n = 0
    · have hn1 : (n == 0) = true := by simpa using hn
      have hd1 : (d == 0) = false := by simpa [hn1] using z0
      clear hz z0
      go_enter Try.func24, Try.ntmps24
      go_wp2
      go_quiet (fail)
      go_wp2
      go_ret
      exact ⟨rfl, ((Up.refl _).alloc _ _).drewN _⟩
    · have hn1 : (n == 0) = false := by simpa using hn
      clear hz z0
      go_enter Try.func24, Try.ntmps24
      go_wp2
      go_quiet (fail)
      go_wp2
      go_ret
      exact ⟨rfl, ((Up.refl _).alloc _ _).drewN _⟩
  have hd' : 1 ≤ d := by omega
  have hd0 : decide (1 ≤ d) = true := by simp; omega
  have hdz : (d == 0) = false := by simp; omega
  by_cases hn : n = -9223372036854775808
  · subst hn
    have e1 : mayB (-9223372036854775808) d = false := by simp [mayB, isV]
    rw [e1]; clear e1 hz z0
    go_enter Try.func24, Try.ntmps24
    go_wp2
    go_quiet (fail)
    go_wp2
    go_ret
    exact ⟨rfl, ((Up.refl _).alloc _ _).drewN _⟩
  have hn' : (n != -9223372036854775808) = true := by simpa using hn
  have e1 : mayB n d = (gc (ab n) d == 1) := by simp only [mayB, isV, z0, hd0, hn']; simp
  rw [e1]; clear e1 hz z0
  by_cases hn0 : n = 0
  · have hn1 : (n == 0) = true := by simpa using hn0
    clear hn0
    go_enter Try.func24, Try.ntmps24
    go_wp2_with fail
    go_quiet (first | (go_at_call 17; exact Calls.quiet_of_same (mag_any _ _ n1 n2)) | (go_at_call 28; exact Calls.quiet_of (small_any _ _ _ m1 m2 (by omega) (by omega))))
    go_wp2
    go_ret
    exact ⟨rfl, ((Up.refl _).alloc _ _).drewN _⟩
  · have hn1 : (n == 0) = false := by simpa using hn0
    clear hn0
    go_enter Try.func24, Try.ntmps24
    go_wp2_with fail
    go_quiet (first | (go_at_call 17; exact Calls.quiet_of_same (mag_any _ _ n1 n2)) | (go_at_call 28; exact Calls.quiet_of (small_any _ _ _ m1 m2 (by omega) (by omega))))
    go_wp2
    go_ret
    exact ⟨rfl, ((Up.refl _).alloc _ _).drewN _⟩

theorem isV_of_may {n d : Int} (h : mayB n d = true) : isV n d = !(n == 0 && d == 0) := by
  unfold mayB at h
  by_cases hz : (n == 0 && d == 0) = true
  · simp at hz; obtain ⟨rfl, rfl⟩ := hz; decide
  · simp only [Bool.not_eq_true] at hz; rw [hz] at h ⊢; simpa using h
theorem isV_of_not {n d : Int} (h : mayB n d = false) : isV n d = false := by
  unfold mayB at h; simp only [Bool.or_eq_false_iff] at h; exact h.2
theorem isV_of_may' {n d : Int} (h : mayB n d = true) : isV n d = decide (0 < d) := by
  rw [isV_of_may h]
  unfold mayB isV at h
  by_cases hd : 0 < d
  · have : (d == 0) = false := by simp; omega
    simp [this, hd]
  · have h1 : decide (1 ≤ d) = false := by simp; omega
    simp [h1] at h
    simp [h]
theorem isValue_any (n d : Int) (w : World) (n1 : -9223372036854775808 ≤ n) (n2 : n ≤ 9223372036854775807) (d1 : -9223372036854775808 ≤ d) (d2 : d ≤ 9223372036854775807) :
    Calls Try.prog 9 #[.agg #[.int .i64 n, .int .i64 d]] w fun e w' => e = .returned (.bool (isV n d)) ∧ Up w w' := by
  by_cases hm : mayB n d = true
  · rw [isV_of_may hm]
    go_enter Try.func9, Try.ntmps9
    go_wp2_with (first | (go_at_call 19; refine (may_any _ _ _ n1 n2 d1 d2).mono ?_; rintro e w1 ⟨rfl, h1⟩; have hc := h1.cell; simp only [hm]) | (go_at_call 20; refine (isOver_any _ _ _).mono ?_; rintro e w' ⟨rfl, c, rfl⟩))
    go_ret
    exact ⟨by simp [Bool.not_and], (((Up.refl _).alloc _ _).trans h1).alloc _ _⟩
  · have hm' : mayB n d = false := by simpa using hm
    rw [isV_of_not hm']
    go_enter Try.func9, Try.ntmps9
    go_wp2_with (go_at_call 19; refine (may_any _ _ _ n1 n2 d1 d2).mono ?_; rintro e w1 ⟨rfl, h1⟩; have hc := h1.cell; simp only [hm'])
    go_ret
    exact ⟨rfl, ((Up.refl _).alloc _ _).trans h1⟩
theorem is_any (n d : Int) (w : World) (n1 : -9223372036854775808 ≤ n) (n2 : n ≤ 9223372036854775807) (d1 : -9223372036854775808 ≤ d) (d2 : d ≤ 9223372036854775807) :
    Calls Try.prog 15 #[.agg #[.int .i64 n, .int .i64 d]] w fun e w' => e = .returned (.bool (isV n d)) ∧ Up w w' := by
  by_cases hm : mayB n d = true
  · rw [isV_of_may' hm]
    go_enter Try.func15, Try.ntmps15
    go_wp2_with (go_at_call 24; refine (rmay_any _ _ _ n1 n2 d1 d2).mono ?_; rintro e w1 ⟨rfl, h1⟩; have hc := h1.cell; simp only [hm])
    go_ret
    exact ⟨rfl, ((Up.refl _).alloc _ _).trans h1⟩
  · have hm' : mayB n d = false := by simpa using hm
    rw [isV_of_not hm']
    go_enter Try.func15, Try.ntmps15
    go_wp2_with (go_at_call 24; refine (rmay_any _ _ _ n1 n2 d1 d2).mono ?_; rintro e w1 ⟨rfl, h1⟩; have hc := h1.cell; simp only [hm'])
    go_ret
    exact ⟨rfl, ((Up.refl _).alloc _ _).trans h1⟩

/-- -1, 0, 1. -/
def cm (x y : Int) : Int := if x < y then -1 else if y < x then 1 else 0
theorem compareI64_any (x y : Int) (w : World) : Calls Try.prog 21 #[.int .i64 x, .int .i64 y] w fun e w' => e = .returned (.int .i64 (cm x y)) ∧ w' = w := by
  by_cases h : x < y
  · rw [show cm x y = -1 from if_pos h]
    go_enter Try.func21, Try.ntmps21
    go_wp2
    go_ret
    exact ⟨rfl, rfl⟩
  by_cases h' : y < x
  · rw [show cm x y = 1 by unfold cm; rw [if_neg h, if_pos h']]
    go_enter Try.func21, Try.ntmps21
    go_wp2
    go_ret
    exact ⟨rfl, rfl⟩
  · rw [show cm x y = 0 by unfold cm; rw [if_neg h, if_neg h']]
    go_enter Try.func21, Try.ntmps21
    go_wp2
    go_ret
    exact ⟨rfl, rfl⟩
theorem compareU64_any (x y : Int) (w : World) : Calls Try.prog 23 #[.int .u64 x, .int .u64 y] w fun e w' => e = .returned (.int .i64 (cm x y)) ∧ w' = w := by
  by_cases h : x < y
  · rw [show cm x y = -1 from if_pos h]
    go_enter Try.func23, Try.ntmps23
    go_wp2
    go_ret
    exact ⟨rfl, rfl⟩
  by_cases h' : y < x
  · rw [show cm x y = 1 by unfold cm; rw [if_neg h, if_pos h']]
    go_enter Try.func23, Try.ntmps23
    go_wp2
    go_ret
    exact ⟨rfl, rfl⟩
  · rw [show cm x y = 0 by unfold cm; rw [if_neg h, if_neg h']]
    go_enter Try.func23, Try.ntmps23
    go_wp2
    go_ret
    exact ⟨rfl, rfl⟩
theorem compareInt_any (x y : Int) (w : World) : Calls Try.prog 11 #[.int .i64 x, .int .i64 y] w fun e w' => e = .returned (.int .i64 (cm x y)) ∧ w' = w := by
  by_cases h : x < y
  · rw [show cm x y = -1 from if_pos h]
    go_enter Try.func11, Try.ntmps11
    go_wp2
    go_ret
    exact ⟨rfl, rfl⟩
  by_cases h' : y < x
  · rw [show cm x y = 1 by unfold cm; rw [if_neg h, if_pos h']]
    go_enter Try.func11, Try.ntmps11
    go_wp2
    go_ret
    exact ⟨rfl, rfl⟩
  · rw [show cm x y = 0 by unfold cm; rw [if_neg h, if_neg h']]
    go_enter Try.func11, Try.ntmps11
    go_wp2
    go_ret
    exact ⟨rfl, rfl⟩
theorem sign_any (n d : Int) (w : World) : Calls Try.prog 10 #[.agg #[.int .i64 n, .int .i64 d]] w fun e w' => e = .returned (.int .i64 (cm n 0)) ∧ Up w w' := by
  go_enter Try.func10, Try.ntmps10
  go_wp2_with (go_at_call 21; refine (compareI64_any _ _ _).mono ?_; rintro e w1 ⟨rfl, rfl⟩)
  go_ret
  exact ⟨rfl, (Up.refl _).alloc _ _⟩

/-- The upper and the lower word. -/
def hi (v : Int) : Int := v / 18446744073709551616
def lo (v : Int) : Int := v % 18446744073709551616
theorem lo_bd (v : Int) : 0 ≤ lo v ∧ lo v < 18446744073709551616 := by unfold lo; omega
theorem hi_bd {v : Int} (h0 : 0 ≤ v) (h : v < 340282366920938463463374607431768211456) : 0 ≤ hi v ∧ hi v < 18446744073709551616 := by unfold hi; omega
theorem mul_bd {x y : Int} (x0 : 0 ≤ x) (x1 : x < 18446744073709551616) (y0 : 0 ≤ y) (y1 : y < 18446744073709551616) : 0 ≤ x * y ∧ x * y < 340282366920938463463374607431768211456 := by
  refine ⟨Int.mul_nonneg x0 y0, ?_⟩
  have h1 : x * y ≤ 18446744073709551615 * y := Int.mul_le_mul_of_nonneg_right (by omega) y0
  omega
theorem ret_int2 {a b c d : Int} (h : a = c) (k : b = d) : Ending.returned (.tuple #[.int .u64 a, .int .u64 b]) = .returned (.tuple #[.int .u64 c, .int .u64 d]) := by rw [h, k]
theorem and32 (z : Int) : bits .and .u64 (z % 18446744073709551616) 4294967295 = z % 18446744073709551616 % 4294967296 := and_low32 _ (by omega) (by omega)
theorem mul64_any (x y : Int) (w : World) (x0 : 0 ≤ x) (x1 : x < 18446744073709551616) (y0 : 0 ≤ y) (y1 : y < 18446744073709551616) :
    Calls Try.prog 12 #[.int .u64 x, .int .u64 y] w fun e w' => e = .returned (.tuple #[.int .u64 (hi (x * y)), .int .u64 (lo (x * y))]) ∧ w' = w := by
  go_enter Try.func12, Try.ntmps12
  go_wp2
  go_ret2
  refine ⟨ret_int2 ?_ ?_, rfl⟩
  · simp only [IntKind.wrap_u64, and32]
    rw [and_low32 x x0 x1, and_low32 y y0 y1]
    exact mul64_arith x y x0 x1 y0 y1
  · exact IntKind.wrap_u64 _
theorem cm_ne {a c : Int} (h : ¬ a = c) : (cm a c != 0) = true := by unfold cm; split; · rfl
                                                                     · split; · rfl
                                                                       · omega
theorem compareWide_any (a b c d : Int) (w : World) :
    Calls Try.prog 14 #[.int .u64 a, .int .u64 b, .int .u64 c, .int .u64 d] w fun e w' => e = .returned (.int .i64 (if a = c then cm b d else cm a c)) ∧ w' = w := by
  by_cases h : a = c
  · subst h
    have e0 : cm a a = 0 := by simp [cm]
    rw [if_pos rfl]
    go_enter Try.func14, Try.ntmps14
    go_wp2_with (go_at_call 23; refine (compareU64_any _ _ _).mono ?_; rintro e w1 ⟨rfl, rfl⟩; try simp only [e0])
    go_ret
    exact ⟨rfl, rfl⟩
  · have e0 := cm_ne h
    rw [if_neg h]
    clear h
    go_enter Try.func14, Try.ntmps14
    go_wp2_with (go_at_call 23; refine (compareU64_any _ _ _).mono ?_; rintro e w1 ⟨rfl, rfl⟩)
    go_ret
    exact ⟨rfl, rfl⟩
end Go.Proofs.Ytpcdhdllclenaaa.wk
