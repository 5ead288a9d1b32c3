/-
  The order of fractions: plain facts, and the walk of the statement RatOrder.
-/
import Derived.Test.YthnkaimhmldjoaaDoorWalksT
import Derived.Deep.RegionHeld3
import Derived.Deep.DrawnRows
import Derived.Deep.DeepCutAuto
set_option linter.unusedVariables false
namespace Go.Proofs.YthnkaimhmldjoaaDoor
open Go.RowKit

theorem cm_le {x y : Int} : cm x y ≤ 0 ↔ x ≤ y := by unfold cm; split <;> (try split) <;> omega
theorem cm_neg1 {x y : Int} : cm x y = -1 ↔ x < y := by unfold cm; split <;> (try split) <;> omega
theorem cm_zero {x y : Int} : cm x y = 0 ↔ x = y := by unfold cm; split <;> (try split) <;> omega
theorem cq_swap (n d m e : Int) : cq m e n d = -cq n d m e := by unfold cq; rw [cm_swap]
theorem cq_turn (n d m e : Int) : cq (-n) d (-m) e = -cq n d m e := by
  unfold cq; rw [Int.neg_mul, Int.neg_mul, cm_neg, cm_swap]
theorem uniq {n d m e : Int} (va : isV n d = true) (vb : isV m e = true) (h : n * e = m * d) : n = m ∧ d = e := by
  have d0 := isV_den va
  have e0 := isV_den vb
  have g1 := isV_gcd va
  have g2 := isV_gcd vb
  rw [natAbs_ab] at g1 g2
  obtain ⟨d, rfl⟩ := Int.eq_ofNat_of_zero_le (by omega : 0 ≤ d)
  obtain ⟨e, rfl⟩ := Int.eq_ofNat_of_zero_le (by omega : 0 ≤ e)
  rw [gc_nat] at g1 g2
  have hn : n.natAbs * e = m.natAbs * d := by
    have := congrArg Int.natAbs h
    simpa [Int.natAbs_mul] using this
  have c1 : Nat.Coprime d n.natAbs := by rw [Nat.coprime_iff_gcd_eq_one, Nat.gcd_comm]; omega
  have c2 : Nat.Coprime e m.natAbs := by rw [Nat.coprime_iff_gcd_eq_one, Nat.gcd_comm]; omega
  have k1 : d ∣ e := c1.dvd_of_dvd_mul_left ⟨m.natAbs, by rw [hn, Nat.mul_comm]⟩
  have k2 : e ∣ d := c2.dvd_of_dvd_mul_left ⟨n.natAbs, by rw [← hn, Nat.mul_comm]⟩
  have k3 : d = e := Nat.dvd_antisymm k1 k2
  subst k3
  exact ⟨Int.eq_of_mul_eq_mul_right (by omega) h, rfl⟩
theorem cq_zero {n d m e : Int} (va : isV n d = true) (vb : isV m e = true) : cq n d m e = 0 ↔ (n = m ∧ d = e) := by
  unfold cq
  rw [cm_zero]
  exact ⟨uniq va vb, fun ⟨h, k⟩ => by rw [h, k]⟩
theorem cq_trans {n d m e f g : Int} (hd : 0 < d) (he : 0 < e) (hg : 0 < g) (h : cq n d m e ≤ 0) (k : cq m e f g ≤ 0) : cq n d f g ≤ 0 := by
  unfold cq at *
  rw [cm_le] at *
  have h1 : n * e * g ≤ m * d * g := Int.mul_le_mul_of_nonneg_right h (by omega)
  have h2 : m * g * d ≤ f * e * d := Int.mul_le_mul_of_nonneg_right k (by omega)
  have h3 : n * g * e ≤ f * d * e := by
    rw [Int.mul_right_comm n g e, Int.mul_right_comm f d e]
    rw [Int.mul_right_comm m d g] at h1
    omega
  exact Int.le_of_mul_le_mul_right h3 he
theorem cq_trans' {n d m e f g : Int} (hd : 0 < d) (he : 0 < e) (hg : 0 < g) (h : cq n d m e ≤ 0) (k : cq m e f g ≤ 0) (s : cq n d m e < 0 ∨ cq m e f g < 0) : cq n d f g = -1 := by
  unfold cq at *
  have b1 := cm_bd (n * e) (m * d)
  have b2 := cm_bd (m * g) (f * e)
  have s' : n * e < m * d ∨ m * g < f * e := by
    rcases s with s | s
    · left; exact cm_neg1.mp (by omega)
    · right; exact cm_neg1.mp (by omega)
  rw [cm_le] at h k
  rw [cm_neg1]
  have h1 : n * e * g ≤ m * d * g := Int.mul_le_mul_of_nonneg_right h (by omega)
  have h2 : m * g * d ≤ f * e * d := Int.mul_le_mul_of_nonneg_right k (by omega)
  have h3 : n * g * e < f * d * e := by
    rw [Int.mul_right_comm n g e, Int.mul_right_comm f d e]
    rw [Int.mul_right_comm m d g] at h1
    rcases s' with s | s
    · have := Int.mul_lt_mul_of_pos_right s hg
      rw [Int.mul_right_comm m d g] at this
      omega
    · have := Int.mul_lt_mul_of_pos_right s hd
      omega
  exact Int.lt_of_mul_lt_mul_right h3 (by omega)
theorem sgn_mg {n m p q : Int} (p0 : 0 ≤ p) (q0 : 0 ≤ q) : (if belw n m (ab n * p) (ab m * q) then -mg n m (ab n * p) (ab m * q) else mg n m (ab n * p) (ab m * q)) = n * p + m * q := by
  have a1 : n < 0 → ab n * p = -(n * p) ∧ n * p ≤ 0 := fun h => ⟨by rw [ab_neg h, Int.neg_mul], Int.mul_nonpos_of_nonpos_of_nonneg (by omega) p0⟩
  have a2 : 0 ≤ n → ab n * p = n * p ∧ 0 ≤ n * p := fun h => ⟨by rw [ab_pos h], Int.mul_nonneg h p0⟩
  have b1 : m < 0 → ab m * q = -(m * q) ∧ m * q ≤ 0 := fun h => ⟨by rw [ab_neg h, Int.neg_mul], Int.mul_nonpos_of_nonpos_of_nonneg (by omega) q0⟩
  have b2 : 0 ≤ m → ab m * q = m * q ∧ 0 ≤ m * q := fun h => ⟨by rw [ab_pos h], Int.mul_nonneg h q0⟩
  generalize n * p = x at *
  generalize m * q = y at *
  generalize ab n * p = X at *
  generalize ab m * q = Y at *
  unfold mg belw
  by_cases hn : n < 0 <;> by_cases hm : m < 0 <;> simp [hn, hm]
  · obtain ⟨e1, e2⟩ := a1 hn; obtain ⟨e3, e4⟩ := b1 hm; omega
  · obtain ⟨e1, e2⟩ := a1 hn; obtain ⟨e3, e4⟩ := b2 (by omega)
    by_cases h : X < Y <;> simp [h] <;> omega
  · obtain ⟨e1, e2⟩ := a2 (by omega); obtain ⟨e3, e4⟩ := b1 hm
    by_cases h : X < Y <;> simp [h] <;> omega
  · obtain ⟨e1, e2⟩ := a2 (by omega); obtain ⟨e3, e4⟩ := b2 (by omega); omega
theorem add_val {n d f g : Int} (va : isV n d = true) (vc : isV f g = true) (vp : isV (addN n d f g) (addD n d f g) = true) : addN n d f g * (d * g) = (n * g + f * d) * addD n d f g := by
  have d0 := isV_den va
  have g0 := isV_den vc
  have hs := sgn_mg (n := n) (m := f) (p := g) (q := d) (by omega) (by omega)
  unfold addN addD at *
  simp only [va, vc, Bool.and_self, if_true] at *
  generalize hM : mg n f (ab n * g) (ab f * d) = M at *
  generalize belw n f (ab n * g) (ab f * d) = bb at *
  by_cases hf : fits M (d * g) = true
  · simp only [lowN, lowD, hf, if_true]
    obtain ⟨M', hM'⟩ := gc_dvd_l M (d * g)
    obtain ⟨D', hD'⟩ := gc_dvd_r M (d * g)
    have gp : 0 < gc M (d * g) := by rw [gc_comm]; exact gc_pos (Int.mul_pos (by omega) (by omega))
    have q1 : M / gc M (d * g) = M' := by
      generalize gc M (d * g) = c at *
      rw [hM', Int.mul_ediv_cancel_left _ (by omega)]
    have q2 : d * g / gc M (d * g) = D' := by
      generalize hc : gc M (d * g) = c at *
      rw [hD', Int.mul_ediv_cancel_left _ (by omega)]
    rw [q1, q2, ← hs]
    cases bb
    · simp only [Bool.false_eq_true, if_false]
      generalize gc M (d * g) = c at *
      rw [hD', hM']
      grind
    · simp only [if_true]
      generalize gc M (d * g) = c at *
      rw [hD', hM']
      grind
  · have hf' : fits M (d * g) = false := by simpa using hf
    simp [lowN, lowD, hf'] at vp
    have : isV 0 0 = false := by decide
    rw [this] at vp
    exact absurd vp (by decide)
theorem cm_scale {x y t : Int} (ht : 0 < t) : cm (x * t) (y * t) = cm x y := by
  have h1 : x * t < y * t ↔ x < y := ⟨fun h => Int.lt_of_mul_lt_mul_right h (by omega), fun h => Int.mul_lt_mul_of_pos_right h ht⟩
  have h2 : y * t < x * t ↔ y < x := ⟨fun h => Int.lt_of_mul_lt_mul_right h (by omega), fun h => Int.mul_lt_mul_of_pos_right h ht⟩
  unfold cm; simp only [h1, h2]
theorem cm_shift (x y t : Int) : cm (x + t) (y + t) = cm x y := by unfold cm; split <;> split <;> (try split) <;> (try split) <;> omega
theorem cq_add {n d m e f g : Int} (va : isV n d = true) (vb : isV m e = true) (vc : isV f g = true) (vp : isV (addN n d f g) (addD n d f g) = true) (vq : isV (addN m e f g) (addD m e f g) = true) :
    cq (addN n d f g) (addD n d f g) (addN m e f g) (addD m e f g) = cq n d m e := by
  have h1 := add_val va vc vp
  have h2 := add_val vb vc vq
  have d0 := isV_den va
  have e0 := isV_den vb
  have g0 := isV_den vc
  have p0 := isV_den vp
  have q0 := isV_den vq
  generalize addN n d f g = p at *
  generalize addD n d f g = pd at *
  generalize addN m e f g = q at *
  generalize addD m e f g = qd at *
  unfold cq
  have t0 : 0 < d * g * (e * g) := Int.mul_pos (Int.mul_pos (by omega) (by omega)) (Int.mul_pos (by omega) (by omega))
  have t1 : 0 < pd * qd := Int.mul_pos (by omega) (by omega)
  have t2 : 0 < g * g := Int.mul_pos (by omega) (by omega)
  rw [← cm_scale t0]
  have e1 : p * qd * (d * g * (e * g)) = ((n * e) * (g * g) + f * g * d * e) * (pd * qd) := by grind
  have e2 : q * pd * (d * g * (e * g)) = ((m * d) * (g * g) + f * g * d * e) * (pd * qd) := by grind
  rw [e1, e2, cm_scale t1, cm_shift, cm_scale t2]
theorem isL_any (n d : Int) (w : World) (hn : I64 n) (hd : I64 d) :
    Calls Tryd.prog 5 #[.agg #[.int .i64 n, .int .i64 d]] w fun e w' => e = .returned (.bool (isV n d)) ∧ Up w w' := by
  obtain ⟨n1, n2⟩ := hn; obtain ⟨d1, d2⟩ := hd
  by_cases hm : mayB n d = true
  · rw [isV_of_may' hm]
    go_enter Tryd.func5, Tryd.ntmps5
    go_wp2_with (go_at_call 11; refine (may_any _ _ _ n1 n2 d1 d2).mono ?_; rintro e w1 ⟨rfl, h1⟩; have hc := h1.cell; simp only [hm])
    go_ret
    exact ⟨rfl, ((Up.refl _).alloc _ _).trans h1⟩
  · have hm' : mayB n d = false := by simpa using hm
    rw [isV_of_not hm']
    go_enter Tryd.func5, Tryd.ntmps5
    go_wp2_with (go_at_call 11; refine (may_any _ _ _ n1 n2 d1 d2).mono ?_; rintro e w1 ⟨rfl, h1⟩; have hc := h1.cell; simp only [hm'])
    go_ret
    exact ⟨rfl, ((Up.refl _).alloc _ _).trans h1⟩
end Go.Proofs.YthnkaimhmldjoaaDoor
