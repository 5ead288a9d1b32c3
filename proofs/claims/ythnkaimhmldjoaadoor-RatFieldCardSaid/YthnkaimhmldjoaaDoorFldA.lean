/-
  Plain: fractions are a field, where nothing is over.
-/
import Derived.Test.YthnkaimhmldjoaaDoorLowB
set_option linter.unusedVariables false
namespace Go.Proofs.YthnkaimhmldjoaaDoor
open Go.RowKit

def V (a : Int × Int) : Prop := isV a.1 a.2 = true
def J (a : Int × Int) : Prop := I64 a.1 ∧ I64 a.2
def ad (a b : Int × Int) : Int × Int := (addN a.1 a.2 b.1 b.2, addD a.1 a.2 b.1 b.2)
def ml (a b : Int × Int) : Int × Int := (mulN a.1 a.2 b.1 b.2, mulD a.1 a.2 b.1 b.2)
def sb (a b : Int × Int) : Int × Int := (sbN a.1 a.2 b.1 b.2, sbD a.1 a.2 b.1 b.2)
def dv (a b : Int × Int) : Int × Int := (divN a.1 a.2 b.1 b.2, divD a.1 a.2 b.1 b.2)
def ngp (a : Int × Int) : Int × Int := (ngN a.1 a.2, ngD a.1 a.2)
theorem addAll_ad {a b : Int × Int} (ja : J a) (va : V a) : addAll [a, b] = ad a b := addAll2 (n := a.1) (d := a.2) (f := b.1) (g := b.2) ja.1 ja.2 va
theorem mulAll_ml {a b : Int × Int} (ja : J a) (va : V a) : mulAll [a, b] = ml a b := by
  obtain ⟨e1, e2⟩ := one_mul ja.1 ja.2
  have va' : isV a.1 a.2 = true := va
  have hm : mayB a.1 a.2 = true := by simp [mayB, va']
  have c1 : clN a.1 a.2 = a.1 := by simp [clN, hm]
  have c2 : clD a.1 a.2 = a.2 := by simp [clD, hm]
  simp only [mulAll, List.foldl_cons, List.foldl_nil, e1, e2, c1, c2, ml]
theorem V.pos {a : Int × Int} (h : V a) : 1 ≤ a.2 := isV_den h
theorem notV0 : ¬ isV 0 0 = true := by decide
theorem V.add_l {a b : Int × Int} (h : V (ad a b)) : V a ∧ V b := by
  unfold V ad addN addD at *
  cases hv : (isV a.1 a.2 && isV b.1 b.2) with
  | false => simp only [hv] at h; exact absurd h notV0
  | true => rw [Bool.and_eq_true] at hv; exact hv
theorem V.mul_l {a b : Int × Int} (h : V (ml a b)) : V a ∧ V b := by
  unfold V ml mulN mulD at *
  cases hv : (isV a.1 a.2 && isV b.1 b.2) with
  | false => simp only [hv] at h; exact absurd h notV0
  | true => rw [Bool.and_eq_true] at hv; exact hv
theorem uniqV {a b : Int × Int} (va : V a) (vb : V b) (h : a.1 * b.2 = b.1 * a.2) : a = b := by
  have g1 : gc (ab a.1) a.2 = 1 := by have := va; unfold V isV at this; simp at this; exact this.2
  have g2 : gc (ab b.1) b.2 = 1 := by have := vb; unfold V isV at this; simp at this; exact this.2
  obtain ⟨h1, h2⟩ := uniqG va.pos vb.pos g1 g2 h
  exact Prod.ext h1 h2
theorem R_add {a b : Int × Int} (h : V (ad a b)) : (ad a b).1 * (a.2 * b.2) = (a.1 * b.2 + b.1 * a.2) * (ad a b).2 := by
  obtain ⟨va, vb⟩ := h.add_l
  obtain ⟨s, P, hP, hs, e1, e2⟩ := add_low va vb
  have h' : isV (lowN s P (a.2 * b.2)) (lowD P (a.2 * b.2)) = true := by rw [← e1, ← e2]; exact h
  have := low_val s hP (low_fit s h')
  rw [hs, ← e1, ← e2] at this
  exact this
theorem R_mul {a b : Int × Int} (h : V (ml a b)) : (ml a b).1 * (a.2 * b.2) = (a.1 * b.1) * (ml a b).2 := by
  obtain ⟨va, vb⟩ := h.mul_l
  obtain ⟨s, P, hP, hs, e1, e2⟩ := mul_low va vb
  have h' : isV (lowN s P (a.2 * b.2)) (lowD P (a.2 * b.2)) = true := by rw [← e1, ← e2]; exact h
  have := low_val s hP (low_fit s h')
  rw [hs, ← e1, ← e2] at this
  exact this
theorem tr {p1 p2 q1 q2 r1 r2 : Int} (h : p1 * q2 = q1 * p2) (k : q1 * r2 = r1 * q2) (hq : q2 ≠ 0) : p1 * r2 = r1 * p2 := by
  have : q2 * (p1 * r2) = q2 * (r1 * p2) := by grind
  exact Int.eq_of_mul_eq_mul_left hq this
theorem cmul {a1 a2 A1 A2 q1 q2 Q1 Q2 : Int} (h : a1 * A2 = A1 * a2) (k : q1 * Q2 = Q1 * q2) : (a1 * q1) * (A2 * Q2) = (A1 * Q1) * (a2 * q2) := by grind
theorem cadd {a1 a2 A1 A2 q1 q2 Q1 Q2 : Int} (h : a1 * A2 = A1 * a2) (k : q1 * Q2 = Q1 * q2) : (a1 * q2 + q1 * a2) * (A2 * Q2) = (A1 * Q2 + Q1 * A2) * (a2 * q2) := by grind
theorem nz {a b : Int × Int} (va : V a) (vb : V b) : a.2 * b.2 ≠ 0 := by
  have := Int.mul_pos (show 0 < a.2 by have := va.pos; omega) (show 0 < b.2 by have := vb.pos; omega)
  omega
theorem add_comm' {a b : Int × Int} (va : V a) (vb : V b) : ad a b = ad b a := by
  obtain ⟨s, P, hP, hs, e1, e2⟩ := add_low va vb
  obtain ⟨t, R, hR, ht, f1, f2⟩ := add_low vb va
  unfold ad
  rw [e1, e2, f1, f2, Int.mul_comm b.2 a.2]
  obtain ⟨g1, g2⟩ := low_same (Q := a.2 * b.2) hP hR (by rw [hs, ht]; omega)
  rw [g1, g2]
theorem mul_comm' {a b : Int × Int} (va : V a) (vb : V b) : ml a b = ml b a := by
  obtain ⟨s, P, hP, hs, e1, e2⟩ := mul_low va vb
  obtain ⟨t, R, hR, ht, f1, f2⟩ := mul_low vb va
  unfold ml
  rw [e1, e2, f1, f2, Int.mul_comm b.2 a.2]
  obtain ⟨g1, g2⟩ := low_same (Q := a.2 * b.2) hP hR (by rw [hs, ht]; exact Int.mul_comm _ _)
  rw [g1, g2]
theorem ngp_V {a : Int × Int} (ja : J a) (va : V a) : ngp a = (-a.1, a.2) ∧ V (-a.1, a.2) := by
  have va' : isV a.1 a.2 = true := va
  exact ⟨by simp [ngp, ngN, ngD, va'], turn_isV ja.1 va⟩
theorem J.ng {a : Int × Int} (ja : J a) : J (ngp a) := ng_I64 ja.1 ja.2
theorem J_ad (a b : Int × Int) : J (ad a b) := add_I64' _ _ _ _
theorem J_ml (a b : Int × Int) : J (ml a b) := mul_I64' _ _ _ _
theorem neg_neg' {a : Int × Int} (ja : J a) (va : V a) : ngp (ngp a) = a := by
  obtain ⟨e, v⟩ := ngp_V ja va
  have j : J (-a.1, a.2) := e ▸ ja.ng
  rw [e, (ngp_V j v).1]
  exact Prod.ext (Int.neg_neg _) rfl
theorem i1 : I64 1 := by unfold I64; omega
theorem pos2 {a b : Int × Int} (va : V a) (vb : V b) : 0 < a.2 * b.2 := Int.mul_pos (by have := va.pos; omega) (by have := vb.pos; omega)
theorem add_neg' {a : Int × Int} (ja : J a) (va : V a) : ad a (ngp a) = (0, 1) := by
  obtain ⟨e, v⟩ := ngp_V ja va
  rw [e]
  obtain ⟨s, P, hP, hs, e1, e2⟩ := add_low va v
  obtain ⟨f1, f2⟩ := low_eq (s := s) (n := 0) (d := 1) hP (pos2 va v) (by decide) i0 i1 (by
    rw [hs]
    simp only [Int.zero_mul, Int.mul_one, Int.neg_mul]
    omega)
  unfold ad
  rw [e1, e2, f1, f2]
theorem sub_back {a b : Int × Int} (ja : J a) (jb : J b) (va : V a) (vb : V b) (vs : V (ad a b)) : sb (ad a b) b = a := by
  obtain ⟨e, v⟩ := ngp_V jb vb
  have h : sb (ad a b) b = ad (ad a b) (ngp b) := rfl
  rw [h, e]
  have r := R_add vs
  generalize ad a b = s at *
  obtain ⟨t, P, hP, hs, e1, e2⟩ := add_low vs v
  obtain ⟨f1, f2⟩ := low_eq (s := t) (n := a.1) (d := a.2) hP (pos2 vs v) va ja.1 ja.2 (by rw [hs]; simp only; grind)
  unfold ad
  rw [e1, e2, f1, f2]
theorem div_back {a b : Int × Int} (ja : J a) (va : V a) (vb : V b) (vp : V (ml a b)) (hb : b.1 ≠ 0) : dv (ml a b) b = a := by
  have r := R_mul vp
  generalize ml a b = p at *
  obtain ⟨t, P, hP, hQ, hs, e1, e2⟩ := div_low vp vb hb
  obtain ⟨f1, f2⟩ := low_eq (s := t) (n := a.1) (d := a.2) hP hQ va ja.1 ja.2 (by
    apply Int.eq_of_mul_eq_mul_left hb
    generalize ab b.1 = c at *
    grind)
  unfold dv
  rw [e1, e2, f1, f2]
theorem div_self' {a : Int × Int} (va : V a) (ha : a.1 ≠ 0) : dv a a = (1, 1) := by
  obtain ⟨t, P, hP, hQ, hs, e1, e2⟩ := div_low va va ha
  obtain ⟨f1, f2⟩ := low_eq (s := t) (n := 1) (d := 1) hP hQ (by decide) i1 i1 (by
    apply Int.eq_of_mul_eq_mul_left ha
    generalize ab a.1 = c at *
    grind)
  unfold dv
  rw [e1, e2, f1, f2]
theorem add_assoc' {a b c : Int × Int} (vu : V (ad (ad a b) c)) (vv : V (ad a (ad b c))) : ad (ad a b) c = ad a (ad b c) := by
  obtain ⟨vs, vc⟩ := vu.add_l
  obtain ⟨va, vq⟩ := vv.add_l
  obtain ⟨_, vb⟩ := vs.add_l
  have r1 := R_add vu
  have r2 := R_add vs
  have r3 := R_add vv
  have r4 := R_add vq
  have n1 := nz vs vc
  have n2 := nz va vq
  have m1 := nz va vb
  have m2 := nz vb vc
  have c2 := vc.pos
  have a2 := va.pos
  generalize ad (ad a b) c = u at *
  generalize ad a (ad b c) = v at *
  generalize ad a b = s at *
  generalize ad b c = q at *
  refine uniqV vu vv ?_
  have k1 := cadd (q1 := c.1) (q2 := c.2) (Q1 := c.1) (Q2 := c.2) r2 rfl
  have k2 := cadd (a1 := a.1) (a2 := a.2) (A1 := a.1) (A2 := a.2) rfl r4
  have h1 := tr r1 k1 n1
  have h2 := tr r3 k2 n2
  have hz : a.2 * b.2 * c.2 ≠ 0 := Int.mul_ne_zero m1 (by omega)
  refine tr h1 ?_ hz
  have hz2 : a.2 * (b.2 * c.2) ≠ 0 := Int.mul_ne_zero (by omega) m2
  grind
theorem mul_assoc' {a b c : Int × Int} (vu : V (ml (ml a b) c)) (vv : V (ml a (ml b c))) : ml (ml a b) c = ml a (ml b c) := by
  obtain ⟨vs, vc⟩ := vu.mul_l
  obtain ⟨va, vq⟩ := vv.mul_l
  obtain ⟨_, vb⟩ := vs.mul_l
  have r1 := R_mul vu
  have r2 := R_mul vs
  have r3 := R_mul vv
  have r4 := R_mul vq
  have n1 := nz vs vc
  have n2 := nz va vq
  have m1 := nz va vb
  have c2 := vc.pos
  generalize ml (ml a b) c = u at *
  generalize ml a (ml b c) = v at *
  generalize ml a b = s at *
  generalize ml b c = q at *
  refine uniqV vu vv ?_
  have k1 := cmul (q1 := c.1) (q2 := c.2) (Q1 := c.1) (Q2 := c.2) r2 rfl
  have k2 := cmul (a1 := a.1) (a2 := a.2) (A1 := a.1) (A2 := a.2) rfl r4
  have h1 := tr r1 k1 n1
  have h2 := tr r3 k2 n2
  have hz : a.2 * b.2 * c.2 ≠ 0 := Int.mul_ne_zero m1 (by omega)
  refine tr h1 ?_ hz
  grind
theorem dist' {a b c : Int × Int} (vx : V (ml a (ad b c))) (vy : V (ad (ml a b) (ml a c))) : ml a (ad b c) = ad (ml a b) (ml a c) := by
  obtain ⟨va, vq⟩ := vx.mul_l
  obtain ⟨vb, vc⟩ := vq.add_l
  obtain ⟨vr, vt⟩ := vy.add_l
  have r1 := R_mul vx
  have r2 := R_add vq
  have r3 := R_add vy
  have r4 := R_mul vr
  have r5 := R_mul vt
  have n1 := nz va vq
  have n2 := nz vr vt
  have m1 := nz vb vc
  have a2 := va.pos
  generalize ml a (ad b c) = x at *
  generalize ad (ml a b) (ml a c) = y at *
  generalize ad b c = q at *
  generalize ml a b = r at *
  generalize ml a c = t at *
  refine uniqV vx vy ?_
  have k1 := cmul (a1 := a.1) (a2 := a.2) (A1 := a.1) (A2 := a.2) rfl r2
  have k2 := cadd r4 r5
  have h1 := tr r1 k1 n1
  have h2 := tr r3 k2 n2
  have hz : a.2 * (b.2 * c.2) ≠ 0 := Int.mul_ne_zero (by omega) m1
  refine tr h1 ?_ hz
  have ha : a.2 ≠ 0 := by omega
  apply Int.eq_of_mul_eq_mul_left ha
  grind
end Go.Proofs.YthnkaimhmldjoaaDoor
