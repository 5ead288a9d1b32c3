/-
  The two quotients of fractions, and the walk of the statement RatDivs.
-/
import Derived.Test.YtjeflecigeamnaaWalksK
set_option linter.unusedVariables false
namespace Go.Proofs.Ytjeflecigeamnaa
open Go.RowKit

theorem low_I64 (neg : Bool) {n d : Int} (n0 : 0 ≤ n) (d0 : 0 ≤ d) : I64 (lowN neg n d) ∧ I64 (lowD n d) := by
  by_cases h : fits n d = true
  · have k := h
    simp [fits] at k
    have g0 : 0 < gc n d := by rw [gc_comm]; exact gc_pos k.1.1
    obtain ⟨x0, x1⟩ := quo_bd n0 g0
    obtain ⟨y0, y1⟩ := quo_bd d0 g0
    simp only [lowN, lowD, h, if_true]
    refine ⟨?_, by unfold I64; omega⟩
    cases neg <;> (unfold I64; simp; omega)
  · have k : fits n d = false := by simpa using h
    simp [lowN, lowD, k, I64]
def divN (n d m e : Int) : Int := if isV n d && isV m e && (m != 0) then lowN (ng n m) (ab n * e) (d * ab m) else 0
def divD (n d m e : Int) : Int := if isV n d && isV m e && (m != 0) then lowD (ab n * e) (d * ab m) else 0
theorem div_no {n d m e : Int} (h : (isV n d && isV m e && (m != 0)) = false) : divN n d m e = 0 ∧ divD n d m e = 0 := by simp [divN, divD, h]
theorem gc_one_quo {n d : Int} (h : gc n d = 1) : n / gc n d = n ∧ d / gc n d = d := by rw [h]; simp
theorem ab_flip (m e : Int) (he : 1 ≤ e) : ab (if m < 0 then -e else e) = e := by unfold ab; split <;> split <;> omega
theorem flip {m e : Int} (hm : I64 m) (he : I64 e) (v : isV m e = true) (hz : m ≠ 0) :
    lowN (ng e m) (ab e) (ab m) = (if m < 0 then -e else e) ∧ lowD (ab e) (ab m) = ab m ∧ isV (if m < 0 then -e else e) (ab m) = true := by
  have h1 := isV_den v
  have h2 := isV_num v
  have h3 := isV_gcd v
  obtain ⟨m1, m2⟩ := hm; obtain ⟨e1, e2⟩ := he
  have ae : ab e = e := ab_pos (by omega)
  have am : 0 < ab m ∧ ab m ≤ 9223372036854775807 := by unfold ab; split <;> omega
  rw [gc_comm] at h3
  obtain ⟨q1, q2⟩ := gc_one_quo h3
  have f : fits e (ab m) = true := by simp [fits, q1, q2]; omega
  have hng : ng e m = decide (m < 0) := by
    have : decide (e < 0) = false := by simp; omega
    unfold ng; rw [this]; cases decide (m < 0) <;> rfl
  refine ⟨?_, ?_, ?_⟩
  · rw [ae, hng]; simp [lowN, f, q1]
  · rw [ae]; simp [lowD, f, q2]
  · unfold isV
    rw [ab_flip m e h1, h3]
    have : (if m < 0 then -e else e) ≠ -9223372036854775808 := by split <;> omega
    simp [this]; omega
theorem ng_flip (n m e : Int) (he : 1 ≤ e) : ng n (if m < 0 then -e else e) = ng n m := by
  unfold ng
  have : decide ((if m < 0 then -e else e) < 0) = decide (m < 0) := by rw [decide_eq_decide]; split <;> omega
  rw [this]
theorem div_eq {n d m e : Int} (hm : I64 m) (he : I64 e) (v : isV m e = true) :
    mulN n d (lowN (ng e m) (ab e) (ab m)) (lowD (ab e) (ab m)) = divN n d m e ∧ mulD n d (lowN (ng e m) (ab e) (ab m)) (lowD (ab e) (ab m)) = divD n d m e := by
  by_cases hz : m = 0
  · subst hz
    have e1 : lowN (ng e 0) (ab e) (ab 0) = 0 := by simp [lowN, fits, ab]
    have e2 : lowD (ab e) (ab 0) = 0 := by simp [lowD, fits, ab]
    rw [e1, e2]
    have h0 : isV 0 0 = false := by decide
    simp [mulN, mulD, divN, divD, h0]
  · obtain ⟨f1, f2, f3⟩ := flip hm he v hz
    have hz' : (m != 0) = true := by simpa using hz
    rw [f1, f2]
    unfold mulN mulD divN divD
    rw [f3, v, hz', ng_flip n m e (isV_den v), ab_flip m e (isV_den v)]
    simp
attribute [local go_sem ↓] Go.wp_at_zero Go.wp_at_succ
theorem div_half : divN 1 1 2 1 = 1 ∧ divD 1 1 2 1 = 2 := by decide
end Go.Proofs.Ytjeflecigeamnaa
