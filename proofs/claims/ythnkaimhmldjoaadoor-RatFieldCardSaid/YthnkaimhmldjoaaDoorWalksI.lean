/-
  The fraction of two numbers, by both; and the walk of the statement RatMay.
-/
import Derived.Test.YthnkaimhmldjoaaDoorWalksG
import Derived.Test.YthnkaimhmldjoaaDoorWalksH
import Derived.Deep.RegionHeld3
set_option linter.unusedVariables false
namespace Go.Proofs.YthnkaimhmldjoaaDoor
open Go.RowKit

theorem hi_small {v : Int} (h0 : 0 ≤ v) (h1 : v < 18446744073709551616) : hi v = 0 := by unfold hi; omega
theorem lo_small {v : Int} (h0 : 0 ≤ v) (h1 : v < 18446744073709551616) : lo v = v := by unfold lo; omega
theorem mk_low (neg : Bool) {n d : Int} (hd : 0 < d) : mkN neg (n / gc n d) (d / gc n d) = lowN neg n d ∧ mkD (n / gc n d) (d / gc n d) = lowD n d := by
  by_cases h : n / gc n d ≤ 9223372036854775807 ∧ d / gc n d ≤ 9223372036854775807
  · have : fits n d = true := by simp [fits, hd, h]
    simp [mkN, mkD, lowN, lowD, h, this]
  · have : fits n d = false := by
      rw [Bool.eq_false_iff]; intro k; simp [fits] at k; exact h ⟨k.1.2, k.2⟩
    simp [mkN, mkD, lowN, lowD, h, this]
theorem of_all (n d : Int) (w : World) (n1 : -9223372036854775808 ≤ n) (n2 : n ≤ 9223372036854775807) (d1 : -9223372036854775808 ≤ d) (d2 : d ≤ 9223372036854775807) :
    Calls Tryd.prog 15 #[.int .i64 n, .int .i64 d] w fun e w' => e = .returned (.agg #[.int .i64 (lowN (ng n d) (ab n) (ab d)), .int .i64 (lowD (ab n) (ab d))]) ∧ Up w w' := by
  by_cases hd : d = 0
  · subst hd
    have e1 : lowN (ng n 0) (ab n) (ab 0) = 0 := by simp [lowN, fits, ab]
    have e2 : lowD (ab n) (ab 0) = 0 := by simp [lowD, fits, ab]
    rw [e1, e2]
    exact of_zero n w
  · have h := of_any n d w n1 n2 d1 d2 hd
    have q3 : 0 < ab d := by unfold ab; split <;> omega
    obtain ⟨e1, e2⟩ := mk_low (ng n d) (n := ab n) q3
    rwa [e1, e2] at h
theorem keep2 {wa w' : World} {b : Nat} {x0 x1 : Option Value} (hq : Up wa w') (h0 : b < wa.heap.size) (k0 : wa.cell? ⟨b, 0, none⟩ = x0) (k1 : wa.cell? ⟨b, 1, none⟩ = x1) :
    w'.cell? ⟨b, 0, none⟩ = x0 ∧ w'.cell? ⟨b, 1, none⟩ = x1 :=
  ⟨(hq.cell _ _ h0).trans k0, (hq.cell _ _ h0).trans k1⟩
attribute [local go_sem ↓] Go.wp_at_zero Go.wp_at_succ
end Go.Proofs.YthnkaimhmldjoaaDoor
