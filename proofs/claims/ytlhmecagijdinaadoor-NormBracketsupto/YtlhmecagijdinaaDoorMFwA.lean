/-
  Plain: sums of fractions, whichever are added first, where nothing is over.
-/
import Derived.Test.YtlhmecagijdinaaDoorN11
set_option linter.unusedVariables false
namespace Go.Proofs.YtlhmecagijdinaaDoor.wk
open Go.RowKit

theorem sgn_mg {n m p q : Int} (p0 : 0 ≤ p) (q0 : 0 ≤ q) : (if belw n m (ab n * p) (ab m * q) then -mg n m (ab n * p) (ab m * q) else mg n m (ab n * p) (ab m * q)) = n * p + m * q := by
  have a1 : n < 0 → ab n * p = -(n * p) ∧ n * p ≤ 0 := fun h => ⟨by rw [ab_neg h, Int.neg_mul], Int.mul_nonpos_of_nonpos_of_nonneg (by omega) p0⟩
  have a2 : 0 ≤ n → ab n * p = n * p ∧ 0 ≤ n * p := fun h => ⟨by rw [ab_pos h], Int.mul_nonneg h p0⟩
  have b1 : m < 0 → ab m * q = -(m * q) ∧ m * q ≤ 0 := fun h => ⟨by rw [ab_neg h, Int.neg_mul], Int.mul_nonpos_of_nonpos_of_nonneg (by omega) q0⟩
  have b2 : 0 ≤ m → ab m * q = m * q ∧ 0 ≤ m * q := fun h => ⟨by rw [ab_pos h], Int.mul_nonneg h q0⟩
  generalize n * p = x at *
  generalize m * q = y at *
  generalize ab n * p = X at *
  generalize ab m * q = Y at *
  unfold mg belw
  by_cases hn : n < 0 <;> by_cases hm : m < 0 <;> simp [hn, hm]
  · obtain ⟨e1, e2⟩ := a1 hn; obtain ⟨e3, e4⟩ := b1 hm; omega
  · obtain ⟨e1, e2⟩ := a1 hn; obtain ⟨e3, e4⟩ := b2 (by omega)
    by_cases h : X < Y <;> simp [h] <;> omega
  · obtain ⟨e1, e2⟩ := a2 (by omega); obtain ⟨e3, e4⟩ := b1 hm
    by_cases h : X < Y <;> simp [h] <;> omega
  · obtain ⟨e1, e2⟩ := a2 (by omega); obtain ⟨e3, e4⟩ := b2 (by omega); omega
def sg (s : Bool) (P : Int) : Int := if s then -P else P
theorem sg_mul (s : Bool) (P x : Int) : sg s P * x = sg s (P * x) := by unfold sg; split <;> simp [Int.neg_mul]
theorem low_parts {P Q : Int} (hP : 0 ≤ P) (hQ : 0 < Q) : ∃ g p q, 0 < g ∧ P = g * p ∧ Q = g * q ∧ P / gc P Q = p ∧ Q / gc P Q = q ∧ 0 ≤ p ∧ 1 ≤ q ∧ gc p q = 1 := by
  have gp : 0 < gc P Q := by rw [gc_comm]; exact gc_pos hQ
  obtain ⟨p, hp⟩ := gc_dvd_l P Q
  obtain ⟨q, hq⟩ := gc_dvd_r P Q
  have e1 : P / gc P Q = p := by
    generalize gc P Q = c at *
    rw [hp, Int.mul_ediv_cancel_left _ (by omega)]
  have e2 : Q / gc P Q = q := by
    generalize gc P Q = c at *
    rw [hq, Int.mul_ediv_cancel_left _ (by omega)]
  have p0 : 0 ≤ p := by rw [← e1]; exact Int.ediv_nonneg hP (by omega)
  have q0 : 1 ≤ q := by
    have h0 : 0 < q := Int.lt_of_not_ge (fun h => by
      have : gc P Q * q ≤ 0 := Int.mul_nonpos_of_nonneg_of_nonpos (by omega) h
      omega)
    omega
  refine ⟨gc P Q, p, q, gp, hp, hq, e1, e2, p0, q0, ?_⟩
  have hg : Int.gcd P Q = gc P Q := rfl
  have key : gc P Q = gc P Q * gc p q := by
    have h1 : Int.gcd (gc P Q * p) (gc P Q * q) = (gc P Q).natAbs * Int.gcd p q := Int.gcd_mul_left _ _ _
    rw [← hp, ← hq] at h1
    have h2 : ((gc P Q).natAbs : Int) = gc P Q := Int.natAbs_of_nonneg (by omega)
    have h3 := congrArg (fun x : Nat => (x : Int)) h1
    simp only [Int.natCast_mul, h2] at h3
    exact h3
  generalize gc P Q = c at *
  have h4 : c * (gc p q) = c * 1 := by omega
  exact Int.eq_of_mul_eq_mul_left (by omega) h4
theorem ab_sg {s : Bool} {p : Int} (h : 0 ≤ p) : ab (sg s p) = p := by
  unfold ab sg
  cases s <;> simp <;> omega
theorem low_isV (s : Bool) {P Q : Int} (hP : 0 ≤ P) (hf : fits P Q = true) : isV (lowN s P Q) (lowD P Q) = true := by
  have hf' := hf
  unfold fits at hf'
  simp at hf'
  obtain ⟨g, p, q, g0, rfl, rfl, e1, e2, p0, q0, hg⟩ := low_parts hP hf'.1.1
  rw [e1, e2] at hf'
  unfold lowN lowD
  rw [hf, if_pos rfl, if_pos rfl, e1, e2]
  show isV (sg s p) q = true
  unfold isV
  rw [ab_sg p0, hg]
  have hp1 := hf'.1.2
  have : (sg s p != -9223372036854775808) = true := by rw [bne_iff_ne]; unfold sg; split <;> omega
  rw [this]
  simp; omega
theorem low_val (s : Bool) {P Q : Int} (hP : 0 ≤ P) (hf : fits P Q = true) : lowN s P Q * Q = sg s P * lowD P Q := by
  have hf' := hf
  unfold fits at hf'
  simp at hf'
  obtain ⟨g, p, q, g0, hp, hq, e1, e2, p0, q0, hg⟩ := low_parts hP hf'.1.1
  unfold lowN lowD
  rw [hf, if_pos rfl, if_pos rfl, e1, e2]
  show sg s p * Q = sg s P * q
  rw [sg_mul, sg_mul, hp, hq]
  congr 1
  grind
theorem low_no (s : Bool) {P Q : Int} (hf : fits P Q = false) : lowN s P Q = 0 ∧ lowD P Q = 0 := by simp [lowN, lowD, hf]
theorem low_may (s : Bool) {P Q : Int} (hP : 0 ≤ P) : mayB (lowN s P Q) (lowD P Q) = true := by
  cases hf : fits P Q with
  | true => unfold mayB; rw [low_isV s hP hf]; simp
  | false => obtain ⟨e1, e2⟩ := low_no s hf; rw [e1, e2]; decide
theorem low_fit (s : Bool) {P Q : Int} (hv : isV (lowN s P Q) (lowD P Q) = true) : fits P Q = true := by
  cases hf : fits P Q with
  | true => rfl
  | false =>
    obtain ⟨e1, e2⟩ := low_no s hf
    rw [e1, e2] at hv
    exact absurd hv (by decide)
theorem uniqG {n d m e : Int} (d0 : 1 ≤ d) (e0 : 1 ≤ e) (g1 : gc (ab n) d = 1) (g2 : gc (ab m) e = 1) (h : n * e = m * d) : n = m ∧ d = e := by
  rw [natAbs_ab] at g1 g2
  obtain ⟨d, rfl⟩ := Int.eq_ofNat_of_zero_le (by omega : 0 ≤ d)
  obtain ⟨e, rfl⟩ := Int.eq_ofNat_of_zero_le (by omega : 0 ≤ e)
  rw [gc_nat] at g1 g2
  have hn : n.natAbs * e = m.natAbs * d := by
    have := congrArg Int.natAbs h
    simpa [Int.natAbs_mul] using this
  have c1 : Nat.Coprime d n.natAbs := by rw [Nat.coprime_iff_gcd_eq_one, Nat.gcd_comm]; omega
  have c2 : Nat.Coprime e m.natAbs := by rw [Nat.coprime_iff_gcd_eq_one, Nat.gcd_comm]; omega
  have k1 : d ∣ e := c1.dvd_of_dvd_mul_left ⟨m.natAbs, by rw [hn, Nat.mul_comm]⟩
  have k2 : e ∣ d := c2.dvd_of_dvd_mul_left ⟨n.natAbs, by rw [← hn, Nat.mul_comm]⟩
  have k3 : d = e := Nat.dvd_antisymm k1 k2
  subst k3
  exact ⟨Int.eq_of_mul_eq_mul_right (by omega) h, rfl⟩
/-- A number has one form. -/
theorem low_eq {s : Bool} {P Q n d : Int} (hP : 0 ≤ P) (hQ : 0 < Q) (hV : isV n d = true) (hn : I64 n) (hd : I64 d) (h : sg s P * d = n * Q) : lowN s P Q = n ∧ lowD P Q = d := by
  obtain ⟨g, p, q, g0, rfl, rfl, e1, e2, p0, q0, hg⟩ := low_parts hP hQ
  have d0 := isV_den hV
  have n0 := isV_num hV
  have h' : sg s p * d = n * q := by
    rw [sg_mul] at h ⊢
    have : g * sg s (p * d) = g * (n * q) := by
      have e : sg s (g * p * d) = g * sg s (p * d) := by unfold sg; split <;> grind
      rw [← e, h]; grind
    exact Int.eq_of_mul_eq_mul_left (by omega) this
  obtain ⟨k1, k2⟩ := uniqG (n := n) (d := d) (m := sg s p) (e := q) d0 q0 (isV_gcd hV) (by rw [ab_sg p0]; exact hg) h'.symm
  unfold I64 at hn hd
  have hp : p = ab n := by rw [k1, ab_sg p0]
  have hab : ab n ≤ 9223372036854775807 := by unfold ab; split <;> omega
  have hf : fits (g * p) (g * q) = true := by
    unfold fits
    rw [e1, e2]
    simp
    exact ⟨⟨hQ, by omega⟩, by omega⟩
  unfold lowN lowD
  rw [hf, if_pos rfl, if_pos rfl, e1, e2]
  exact ⟨k1.symm, k2.symm⟩
theorem low_same {s t : Bool} {P R Q : Int} (hP : 0 ≤ P) (hR : 0 ≤ R) (h : sg s P = sg t R) : lowN s P Q = lowN t R Q ∧ lowD P Q = lowD R Q := by
  have e : P = R := by unfold sg at h; split at h <;> split at h <;> omega
  subst e
  refine ⟨?_, rfl⟩
  by_cases hst : s = t
  · rw [hst]
  · have h0 : P = 0 := by unfold sg at h; cases s <;> cases t <;> simp at h hst ⊢ <;> omega
    subst h0
    unfold lowN
    split
    · simp
    · rfl
/-! ### Sums, products, quotients as such forms -/
theorem mg_pos {n m X Y : Int} (hX : 0 ≤ X) (hY : 0 ≤ Y) : 0 ≤ mg n m X Y := by unfold mg; split; omega; split <;> omega
theorem ab_nn (n : Int) : 0 ≤ ab n := by unfold ab; split <;> omega
theorem add_low {n d m e : Int} (va : isV n d = true) (vb : isV m e = true) : ∃ s P, 0 ≤ P ∧ sg s P = n * e + m * d ∧ addN n d m e = lowN s P (d * e) ∧ addD n d m e = lowD P (d * e) := by
  have d0 := isV_den va
  have e0 := isV_den vb
  refine ⟨_, _, mg_pos (n := n) (m := m) (Int.mul_nonneg (ab_nn n) (by omega : 0 ≤ e)) (Int.mul_nonneg (ab_nn m) (by omega : 0 ≤ d)), sgn_mg (n := n) (m := m) (by omega) (by omega), ?_, ?_⟩
  · unfold addN; rw [va, vb]; rfl
  · unfold addD; rw [va, vb]; rfl
theorem ng_sg (n m x : Int) (h : x = ab n * ab m) : sg (ng n m) x = n * m := by
  subst h
  unfold sg ng ab
  by_cases h1 : n < 0 <;> by_cases h2 : m < 0 <;> simp [h1, h2] <;> grind
theorem mul_low {n d m e : Int} (va : isV n d = true) (vb : isV m e = true) : ∃ s P, 0 ≤ P ∧ sg s P = n * m ∧ mulN n d m e = lowN s P (d * e) ∧ mulD n d m e = lowD P (d * e) :=
  ⟨ng n m, ab n * ab m, Int.mul_nonneg (ab_nn n) (ab_nn m), ng_sg n m _ rfl, by unfold mulN; rw [va, vb]; rfl, by unfold mulD; rw [va, vb]; rfl⟩
theorem div_low {n d m e : Int} (va : isV n d = true) (vb : isV m e = true) (hm : m ≠ 0) : ∃ s P, 0 ≤ P ∧ 0 < d * ab m ∧ sg s P * m = n * e * ab m ∧ divN n d m e = lowN s P (d * ab m) ∧ divD n d m e = lowD P (d * ab m) := by
  have d0 := isV_den va
  have e0 := isV_den vb
  have hm' : (m != 0) = true := by simpa using hm
  refine ⟨ng n m, ab n * e, Int.mul_nonneg (ab_nn n) (by omega), Int.mul_pos (by omega) (by unfold ab; split <;> omega), ?_, by unfold divN; rw [va, vb, hm']; rfl, by unfold divD; rw [va, vb, hm']; rfl⟩
  unfold sg ng ab
  by_cases h1 : n < 0 <;> by_cases h2 : m < 0 <;> simp [h1, h2] <;> grind
def V (a : Int × Int) : Prop := isV a.1 a.2 = true
def J (a : Int × Int) : Prop := I64 a.1 ∧ I64 a.2
def ad (a b : Int × Int) : Int × Int := (addN a.1 a.2 b.1 b.2, addD a.1 a.2 b.1 b.2)
def ml (a b : Int × Int) : Int × Int := (mulN a.1 a.2 b.1 b.2, mulD a.1 a.2 b.1 b.2)
theorem V.pos {a : Int × Int} (h : V a) : 1 ≤ a.2 := isV_den h
theorem notV0 : ¬ isV 0 0 = true := by decide
theorem V.add_l {a b : Int × Int} (h : V (ad a b)) : V a ∧ V b := by
  unfold V ad addN addD at *
  cases hv : (isV a.1 a.2 && isV b.1 b.2) with
  | false => simp only [hv] at h; exact absurd h notV0
  | true => rw [Bool.and_eq_true] at hv; exact hv
theorem uniqV {a b : Int × Int} (va : V a) (vb : V b) (h : a.1 * b.2 = b.1 * a.2) : a = b := by
  have g1 : gc (ab a.1) a.2 = 1 := by have := va; unfold V isV at this; simp at this; exact this.2
  have g2 : gc (ab b.1) b.2 = 1 := by have := vb; unfold V isV at this; simp at this; exact this.2
  obtain ⟨h1, h2⟩ := uniqG va.pos vb.pos g1 g2 h
  exact Prod.ext h1 h2
theorem R_add {a b : Int × Int} (h : V (ad a b)) : (ad a b).1 * (a.2 * b.2) = (a.1 * b.2 + b.1 * a.2) * (ad a b).2 := by
  obtain ⟨va, vb⟩ := h.add_l
  obtain ⟨s, P, hP, hs, e1, e2⟩ := add_low va vb
  have h' : isV (lowN s P (a.2 * b.2)) (lowD P (a.2 * b.2)) = true := by rw [← e1, ← e2]; exact h
  have := low_val s hP (low_fit s h')
  rw [hs, ← e1, ← e2] at this
  exact this
theorem tr {p1 p2 q1 q2 r1 r2 : Int} (h : p1 * q2 = q1 * p2) (k : q1 * r2 = r1 * q2) (hq : q2 ≠ 0) : p1 * r2 = r1 * p2 := by
  have : q2 * (p1 * r2) = q2 * (r1 * p2) := by grind
  exact Int.eq_of_mul_eq_mul_left hq this
theorem cmul {a1 a2 A1 A2 q1 q2 Q1 Q2 : Int} (h : a1 * A2 = A1 * a2) (k : q1 * Q2 = Q1 * q2) : (a1 * q1) * (A2 * Q2) = (A1 * Q1) * (a2 * q2) := by grind
theorem cadd {a1 a2 A1 A2 q1 q2 Q1 Q2 : Int} (h : a1 * A2 = A1 * a2) (k : q1 * Q2 = Q1 * q2) : (a1 * q2 + q1 * a2) * (A2 * Q2) = (A1 * Q2 + Q1 * A2) * (a2 * q2) := by grind
theorem nz {a b : Int × Int} (va : V a) (vb : V b) : a.2 * b.2 ≠ 0 := by
  have := Int.mul_pos (show 0 < a.2 by have := va.pos; omega) (show 0 < b.2 by have := vb.pos; omega)
  omega
theorem add_comm' {a b : Int × Int} (va : V a) (vb : V b) : ad a b = ad b a := by
  obtain ⟨s, P, hP, hs, e1, e2⟩ := add_low va vb
  obtain ⟨t, R, hR, ht, f1, f2⟩ := add_low vb va
  unfold ad
  rw [e1, e2, f1, f2, Int.mul_comm b.2 a.2]
  obtain ⟨g1, g2⟩ := low_same (Q := a.2 * b.2) hP hR (by rw [hs, ht]; omega)
  rw [g1, g2]
theorem add_assoc' {a b c : Int × Int} (vu : V (ad (ad a b) c)) (vv : V (ad a (ad b c))) : ad (ad a b) c = ad a (ad b c) := by
  obtain ⟨vs, vc⟩ := vu.add_l
  obtain ⟨va, vq⟩ := vv.add_l
  obtain ⟨_, vb⟩ := vs.add_l
  have r1 := R_add vu
  have r2 := R_add vs
  have r3 := R_add vv
  have r4 := R_add vq
  have n1 := nz vs vc
  have n2 := nz va vq
  have m1 := nz va vb
  have m2 := nz vb vc
  have c2 := vc.pos
  have a2 := va.pos
  generalize ad (ad a b) c = u at *
  generalize ad a (ad b c) = v at *
  generalize ad a b = s at *
  generalize ad b c = q at *
  refine uniqV vu vv ?_
  have k1 := cadd (q1 := c.1) (q2 := c.2) (Q1 := c.1) (Q2 := c.2) r2 rfl
  have k2 := cadd (a1 := a.1) (a2 := a.2) (A1 := a.1) (A2 := a.2) rfl r4
  have h1 := tr r1 k1 n1
  have h2 := tr r3 k2 n2
  have hz : a.2 * b.2 * c.2 ≠ 0 := Int.mul_ne_zero m1 (by omega)
  refine tr h1 ?_ hz
  have hz2 : a.2 * (b.2 * c.2) ≠ 0 := Int.mul_ne_zero (by omega) m2
  grind
end Go.Proofs.YtlhmecagijdinaaDoor.wk
