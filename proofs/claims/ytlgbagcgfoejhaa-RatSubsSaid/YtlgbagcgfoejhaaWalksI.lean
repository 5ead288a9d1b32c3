/-
  The fraction of two numbers, by both; and the walk of the statement RatMay.
-/
import Derived.Test.YtlgbagcgfoejhaaWalksG
import Derived.Test.YtlgbagcgfoejhaaWalksH
import Derived.Deep.RegionHeld3
set_option linter.unusedVariables false
namespace Go.Proofs.Ytlgbagcgfoejhaa
open Go.RowKit

theorem hi_small {v : Int} (h0 : 0 ≤ v) (h1 : v < 18446744073709551616) : hi v = 0 := by unfold hi; omega
theorem lo_small {v : Int} (h0 : 0 ≤ v) (h1 : v < 18446744073709551616) : lo v = v := by unfold lo; omega
theorem rmade_small (neg : Bool) (n d : Int) (w : World) (n0 : 0 ≤ n) (n1 : n < 18446744073709551616) (d0 : 0 ≤ d) (d1 : d < 18446744073709551616) :
    Calls Try.prog 32 #[.bool neg, .agg #[.int .u64 0, .int .u64 n], .agg #[.int .u64 0, .int .u64 d]] w fun e w' => e = .returned (.agg #[.int .i64 (lowN neg n d), .int .i64 (lowD n d)]) ∧ Up w w' := by
  have h := rmade_any neg n d w n0 (by omega) d0 (by omega)
  rwa [hi_small n0 n1, hi_small d0 d1, lo_small n0 n1, lo_small d0 d1] at h
theorem mk_low (neg : Bool) {n d : Int} (hd : 0 < d) : mkN neg (n / gc n d) (d / gc n d) = lowN neg n d ∧ mkD (n / gc n d) (d / gc n d) = lowD n d := by
  by_cases h : n / gc n d ≤ 9223372036854775807 ∧ d / gc n d ≤ 9223372036854775807
  · have : fits n d = true := by simp [fits, hd, h]
    simp [mkN, mkD, lowN, lowD, h, this]
  · have : fits n d = false := by
      rw [Bool.eq_false_iff]; intro k; simp [fits] at k; exact h ⟨k.1.2, k.2⟩
    simp [mkN, mkD, lowN, lowD, h, this]
theorem of_all (n d : Int) (w : World) (n1 : -9223372036854775808 ≤ n) (n2 : n ≤ 9223372036854775807) (d1 : -9223372036854775808 ≤ d) (d2 : d ≤ 9223372036854775807) :
    Calls Try.prog 11 #[.int .i64 n, .int .i64 d] w fun e w' => e = .returned (.agg #[.int .i64 (lowN (ng n d) (ab n) (ab d)), .int .i64 (lowD (ab n) (ab d))]) ∧ Up w w' := by
  by_cases hd : d = 0
  · subst hd
    have e1 : lowN (ng n 0) (ab n) (ab 0) = 0 := by simp [lowN, fits, ab]
    have e2 : lowD (ab n) (ab 0) = 0 := by simp [lowD, fits, ab]
    rw [e1, e2]
    exact of_zero n w
  · have h := of_any n d w n1 n2 d1 d2 hd
    have q3 : 0 < ab d := by unfold ab; split <;> omega
    obtain ⟨e1, e2⟩ := mk_low (ng n d) (n := ab n) q3
    rwa [e1, e2] at h
theorem rof_all (n d : Int) (w : World) (n1 : -9223372036854775808 ≤ n) (n2 : n ≤ 9223372036854775807) (d1 : -9223372036854775808 ≤ d) (d2 : d ≤ 9223372036854775807) :
    Calls Try.prog 12 #[.int .i64 n, .int .i64 d] w fun e w' => e = .returned (.agg #[.int .i64 (lowN (ng n d) (ab n) (ab d)), .int .i64 (lowD (ab n) (ab d))]) ∧ Up w w' := by
  obtain ⟨p1, p2⟩ := ab_bd n1 n2
  obtain ⟨q1, q2⟩ := ab_bd d1 d2
  go_enter Try.func12, Try.ntmps12
  go_wp2_with (first
    | (go_at_call 30; refine (mag_any _ _ (by omega) (by omega)).mono ?_; rintro _ _ ⟨rfl, rfl⟩)
    | (go_at_call 32; refine (rmade_small _ _ _ _ p1 p2 q1 q2).mono ?_; rintro _ wl ⟨rfl, hl⟩; have c0 := hl.cell w.heap.size 0 (by simp); have c1 := hl.cell w.heap.size 1 (by simp); have m0 := hl.2 ⟨w.heap.size, 0, none⟩; have m1 := hl.2 ⟨w.heap.size, 1, none⟩; simp [go_sem] at c0 c1 m0 m1))
  refine bodyPost_ret (v := .agg #[.int .i64 (lowN (ng n d) (ab n) (ab d)), .int .i64 (lowD (ab n) (ab d))]) (by simp [results, Try.results12, go_sem, ng, *]) rfl ⟨rfl, ?_⟩
  exact ((((Up.refl _).alloc _ _).trans hl).setCell (by simp) _).setCell (by simp) _
theorem keep2 {wa w' : World} {b : Nat} {x0 x1 : Option Value} (hq : Up wa w') (h0 : b < wa.heap.size) (k0 : wa.cell? ⟨b, 0, none⟩ = x0) (k1 : wa.cell? ⟨b, 1, none⟩ = x1) :
    w'.cell? ⟨b, 0, none⟩ = x0 ∧ w'.cell? ⟨b, 1, none⟩ = x1 :=
  ⟨(hq.cell _ _ h0).trans k0, (hq.cell _ _ h0).trans k1⟩
attribute [local go_sem ↓] Go.wp_at_zero Go.wp_at_succ
set_option maxHeartbeats 4000000 in
theorem law_may (n d : Int) (w : World) (n1 : -9223372036854775808 ≤ n) (n2 : n ≤ 9223372036854775807) (d1 : -9223372036854775808 ≤ d) (d2 : d ≤ 9223372036854775807) :
    Calls Try.prog 3 #[.int .i64 n, .int .i64 d] w fun e w' => e = .returned (.bool true) ∧ Up w w' := by
  have h23 : mayB 2 3 = true := by decide
  go_enter Try.func3, Try.ntmps3
  go_wp2_with fail
  go_region_held3 (fun w' => w'.cell? ⟨w.heap.size, 0, none⟩ = some (.int .i64 n) ∧ w'.cell? ⟨w.heap.size, 1, none⟩ = some (.int .i64 d))
    (exact keep2 (wa := w.alloc (.cells #[.int .i64 n, .int .i64 d] 23)) (by repeat (first | exact Up.refl _ | apply Up.drewN | apply Up.drew | (refine Up.trans ?_ (by assumption)))) (by simp) (by simp [go_sem]) (by simp [go_sem]))
    (first
      | (go_at_call 9; refine (may_any _ _ _ (by omega) (by omega) (by omega) (by omega)).mono ?_; rintro _ wl ⟨rfl, hl⟩; (try simp only [h23]))
      | (go_at_call 10; refine (rmay_any _ _ _ (by omega) (by omega) (by omega) (by omega)).mono ?_; rintro _ wl ⟨rfl, hl⟩)
      | (go_at_call 11; refine (of_all _ _ _ (by omega) (by omega) (by omega) (by omega)).mono ?_; rintro _ wl ⟨rfl, hl⟩)
      | (go_at_call 12; refine (rof_all _ _ _ (by omega) (by omega) (by omega) (by omega)).mono ?_; rintro _ wl ⟨rfl, hl⟩))

  all_goals
    go_wp2
    go_ret
    exact ⟨by simp, by repeat (first | exact Up.refl _ | apply Up.alloc | apply Up.drewN | apply Up.drew | (refine Up.trans ?_ (by assumption)))⟩
end Go.Proofs.Ytlgbagcgfoejhaa
