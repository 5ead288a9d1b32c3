/-
  Contracts of the two comparisons of fractions.
-/
import Derived.Test.YtpcdhdllclenaaaWkC
import Derived.Deep.RegionHeld3
import Derived.Deep.DrawnRows
import Derived.Deep.DeepCutAuto
set_option linter.unusedVariables false
namespace Go.Proofs.Ytpcdhdllclenaaa.wk
open Go.RowKit

theorem Up.past {W wa : World} (h : Up W wa) {k : Nat} (hk : k < W.heap.size) : k < wa.heap.size := Nat.lt_of_lt_of_le hk h.size
/-- Which of two fractions is greater. -/
def cq (n d m e : Int) : Int := cm (n * e) (m * d)
theorem cm_bd (x y : Int) : -1 ≤ cm x y ∧ cm x y ≤ 1 := by unfold cm; split <;> (try split) <;> omega
theorem cm_swap (x y : Int) : cm x y = - cm y x := by unfold cm; split <;> split <;> (try split) <;> omega
theorem wide_cm (a b : Int) : (if hi a = hi b then cm (lo a) (lo b) else cm (hi a) (hi b)) = cm a b := by
  unfold cm hi lo; split <;> split <;> split <;> omega
theorem cm_neg (x y : Int) : cm (-x) (-y) = cm y x := by unfold cm; split <;> split <;> (try split) <;> (try split) <;> omega
theorem cm_pos {x : Int} (h : 0 < x) : cm x 0 = 1 := by unfold cm; rw [if_neg (by omega), if_pos h]
theorem cm_lt {x y : Int} (h : x < y) : cm x y = -1 := if_pos h
theorem cm_gt {x y : Int} (h : y < x) : cm x y = 1 := by unfold cm; rw [if_neg (by omega), if_pos h]
theorem cm_self (x : Int) : cm x x = 0 := by unfold cm; rw [if_neg (by omega), if_neg (by omega)]
/-- Unlike signs. -/
theorem cq_unlike {n d m e : Int} (hd : 0 < d) (he : 0 < e) (h : ¬ cm n 0 = cm m 0) : cm (cm n 0) (cm m 0) = cq n d m e := by
  unfold cq
  have p1 : 0 < n → 0 < n * e := fun h => Int.mul_pos h he
  have p2 : n < 0 → n * e < 0 := fun h => Int.mul_neg_of_neg_of_pos h he
  have p3 : 0 < m → 0 < m * d := fun h => Int.mul_pos h hd
  have p4 : m < 0 → m * d < 0 := fun h => Int.mul_neg_of_neg_of_pos h hd
  have z1 : n = 0 → n * e = 0 := fun h => by rw [h, Int.zero_mul]
  have z2 : m = 0 → m * d = 0 := fun h => by rw [h, Int.zero_mul]
  generalize n * e = x at *
  generalize m * d = y at *
  unfold cm at *
  repeat' split at *
  all_goals omega
/-- Like signs. -/
theorem cq_like {n d m e : Int} (hd : 0 < d) (he : 0 < e) (h : cm n 0 = cm m 0) : cm n 0 * cm (ab n * e) (ab m * d) = cq n d m e := by
  unfold cq
  by_cases h1 : 0 < n
  · have h2 : 0 < m := by rw [cm_pos h1] at h; unfold cm at h; repeat' split at h
                          all_goals omega
    rw [ab_pos (by omega), ab_pos (by omega), cm_pos h1, Int.one_mul]
  · by_cases h2 : n < 0
    · have h3 : m < 0 := by rw [cm_lt h2] at h; unfold cm at h; repeat' split at h
                            all_goals omega
      rw [ab_neg h2, ab_neg h3, cm_lt h2, show -n * e = -(n * e) from Int.neg_mul _ _, show -m * d = -(m * d) from Int.neg_mul _ _, cm_neg, cm_swap (m * d)]; omega
    · have h3 : n = 0 := by omega
      subst h3
      have h4 : m = 0 := by rw [cm_self] at h; unfold cm at h; repeat' split at h
                            all_goals omega
      subst h4
      simp [cm_self]
/-- What the two comparisons tell: as a pair of values. -/
def cmpR (n d m e : Int) : Value := if isV n d && isV m e then .tuple #[.int .i64 (cq n d m e), .bool true] else .tuple #[.int .i64 0, .bool false]
theorem isV_den {n d : Int} (h : isV n d = true) : 1 ≤ d := by unfold isV at h; simp at h; exact h.1.1
theorem isV_num {n d : Int} (h : isV n d = true) : n ≠ -9223372036854775808 := by unfold isV at h; simp at h; exact h.1.2
theorem isV_gcd {n d : Int} (h : isV n d = true) : gc (ab n) d = 1 := by unfold isV at h; simp at h; exact h.2
/-- An int64. -/
def I64 (n : Int) : Prop := -9223372036854775808 ≤ n ∧ n ≤ 9223372036854775807
theorem cq_nn {n d m e : Int} (h : 0 ≤ n) (k : 0 ≤ m) : cq n d m e = cm (ab n * e) (ab m * d) := by
  rw [ab_pos h, ab_pos k]; rfl
theorem cq_bb {n d m e : Int} (h : n < 0) (k : m < 0) : cq n d m e = cm (ab m * d) (ab n * e) := by
  rw [ab_neg h, ab_neg k, show -n * e = -(n * e) from Int.neg_mul _ _, show -m * d = -(m * d) from Int.neg_mul _ _, cm_neg]; rfl
theorem cq_bn {n d m e : Int} (hd : 0 < d) (he : 0 < e) (h : n < 0) (k : 0 ≤ m) : cq n d m e = -1 := by
  have h1 := Int.mul_neg_of_neg_of_pos h he
  have h2 := Int.mul_nonneg k (by omega : 0 ≤ d)
  exact cm_lt (by omega)
theorem cq_nb {n d m e : Int} (hd : 0 < d) (he : 0 < e) (h : 0 ≤ n) (k : m < 0) : cq n d m e = 1 := by
  have h1 := Int.mul_neg_of_neg_of_pos k hd
  have h2 := Int.mul_nonneg h (by omega : 0 ≤ e)
  exact cm_gt (by omega)
theorem less_up (a b : Int) (w : World) :
    Calls Try.prog 18 #[.agg #[.int .u64 (hi a), .int .u64 (lo a)], .agg #[.int .u64 (hi b), .int .u64 (lo b)]] w fun e w' => e = .returned (.bool (decide (a < b))) ∧ Up w w' :=
  (less_any a b w).mono fun _ _ ⟨h, c, d, k⟩ => ⟨h, k ▸ ((Up.refl _).alloc _ _).alloc _ _⟩
theorem compareWide_hl (x y : Int) (w : World) :
    Calls Try.prog 14 #[.int .u64 (hi x), .int .u64 (lo x), .int .u64 (hi y), .int .u64 (lo y)] w fun e w' => e = .returned (.int .i64 (cm x y)) ∧ w' = w := by
  have h := compareWide_any (hi x) (lo x) (hi y) (lo y) w
  rwa [wide_cm] at h
theorem wrap_cq (n d m e : Int) : wrap64 (cq n d m e) = cq n d m e := by
  have := cm_bd (n * e) (m * d)
  unfold cq
  unfold wrap64; omega
theorem fin_cmp {x y : Int} (h : x = y) : Ending.returned (.tuple #[.int .i64 x, .bool true]) = .returned (.tuple #[.int .i64 y, .bool true]) := by rw [h]
theorem cmp_any (n d m e : Int) (w : World) (hn : I64 n) (hd : I64 d) (hm : I64 m) (he : I64 e) :
    Calls Try.prog 6 #[.agg #[.int .i64 n, .int .i64 d], .agg #[.int .i64 m, .int .i64 e]] w fun x w' => x = .returned (cmpR n d m e) ∧ Up w w' := by
  obtain ⟨n1, n2⟩ := hn; obtain ⟨d1, d2⟩ := hd; obtain ⟨m1, m2⟩ := hm; obtain ⟨e1, e2⟩ := he
  by_cases va : isV n d = true
  rotate_left
  · have va' : isV n d = false := by simpa using va
    rw [show cmpR n d m e = .tuple #[.int .i64 0, .bool false] by simp [cmpR, va']]
    go_enter Try.func6, Try.ntmps6
    go_wp2_with (go_at_call 9; refine (isValue_any n d _ n1 n2 d1 d2).mono ?_; rintro _ wa ⟨rfl, ha⟩; have hca := ha.cell; simp only [va'])
    go_ret2
    exact ⟨rfl, (((Up.refl _).alloc _ _).alloc _ _).trans ha⟩
  by_cases vb : isV m e = true
  rotate_left
  · have vb' : isV m e = false := by simpa using vb
    rw [show cmpR n d m e = .tuple #[.int .i64 0, .bool false] by simp [cmpR, vb']]
    go_enter Try.func6, Try.ntmps6
    go_wp2_with (go_at_call 9; refine (isValue_any _ _ _ (by assumption) (by assumption) (by assumption) (by assumption)).mono ?_; rintro _ wa ⟨rfl, ha⟩; have hca := ha.cell; have hza := ha.size; simp only [va, vb'])
    go_ret2
    exact ⟨rfl, by repeat (first | exact Up.refl _ | apply Up.alloc | apply Up.drewN | apply Up.drew | (refine Up.trans ?_ (by assumption)))⟩
  have hd0 := isV_den va
  have he0 := isV_den vb
  rw [show cmpR n d m e = .tuple #[.int .i64 (cq n d m e), .bool true] by simp [cmpR, va, vb]]
  by_cases hs : cm n 0 = cm m 0
  · have E1 : Hid _ := cq_like (n := n) (d := d) (m := m) (e := e) (by omega) (by omega) hs
    have hs' : (cm n 0 != cm m 0) = false := by simpa using hs
    clear hs
    go_enter Try.func6, Try.ntmps6
    go_wp2_with (first
      | (go_at_call 9; refine (isValue_any _ _ _ (by assumption) (by assumption) (by assumption) (by assumption)).mono ?_; rintro _ wa ⟨rfl, ha⟩; have hca := ha.cell; have hza := ha.past (k := w.heap.size + 1) (by first | assumption | (simp; done) | (simp; omega)); have hzb := ha.past (k := w.heap.size) (by first | assumption | (simp; done) | (simp; omega)); simp only [va, vb])
      | (go_at_call 10; refine (sign_any _ _ _).mono ?_; rintro _ wa ⟨rfl, ha⟩; have hca := ha.cell; have hza := ha.past (k := w.heap.size + 1) (by first | assumption | (simp; done) | (simp; omega)); have hzb := ha.past (k := w.heap.size) (by first | assumption | (simp; done) | (simp; omega))))
    obtain ⟨p1, p2⟩ := ab_bd n1 n2
    obtain ⟨q1, q2⟩ := ab_bd m1 m2
    go_quiet (first | (go_at_call 13; exact Calls.quiet_of_same (magnitude_any _ _ (by assumption) (by assumption))) | (go_at_call 12; exact Calls.quiet_of_same (mul64_any _ _ _ (by omega) (by omega) (by omega) (by omega))))
    go_wp2_with fail
    have hb : Up wa (wa.drewN nq) := (Up.refl _).drewN _
    revert hb
    generalize wa.drewN nq = wb
    intro hb
    have hcb := hb.cell
    have hya := hb.past hza
    have hyb := hb.past hzb
    go_quiet (first | (go_at_call 13; exact Calls.quiet_of_same (magnitude_any _ _ (by assumption) (by assumption))) | (go_at_call 12; exact Calls.quiet_of_same (mul64_any _ _ _ (by omega) (by omega) (by omega) (by omega))))
    go_wp2_with (go_at_call 14; refine (compareWide_hl _ _ _).mono ?_; rintro _ wc ⟨rfl, rfl⟩)
    go_ret2
    exact ⟨fin_cmp (by rw [E1.out]; exact wrap_cq _ _ _ _), by repeat (first | exact Up.refl _ | apply Up.alloc | apply Up.drewN | apply Up.drew | (refine Up.trans ?_ (by assumption)))⟩
  · have E1 : Hid _ := cq_unlike (n := n) (d := d) (m := m) (e := e) (by omega) (by omega) hs
    have hs' : (cm n 0 != cm m 0) = true := by simpa using hs
    clear hs
    go_enter Try.func6, Try.ntmps6
    go_wp2_with (first
      | (go_at_call 9; refine (isValue_any _ _ _ (by assumption) (by assumption) (by assumption) (by assumption)).mono ?_; rintro _ wa ⟨rfl, ha⟩; have hca := ha.cell; have hza := ha.past (k := w.heap.size + 1) (by first | assumption | (simp; done) | (simp; omega)); have hzb := ha.past (k := w.heap.size) (by first | assumption | (simp; done) | (simp; omega)); simp only [va, vb])
      | (go_at_call 10; refine (sign_any _ _ _).mono ?_; rintro _ wa ⟨rfl, ha⟩; have hca := ha.cell; have hza := ha.past (k := w.heap.size + 1) (by first | assumption | (simp; done) | (simp; omega)); have hzb := ha.past (k := w.heap.size) (by first | assumption | (simp; done) | (simp; omega)))
      | (go_at_call 11; refine (compareInt_any _ _ _).mono ?_; rintro _ wc ⟨rfl, rfl⟩))
    go_ret2
    exact ⟨by rw [← E1.out]; rfl, by repeat (first | exact Up.refl _ | apply Up.alloc | apply Up.drewN | apply Up.drew | (refine Up.trans ?_ (by assumption)))⟩
theorem keep4 {wa w' : World} {b : Nat} {x0 x1 x2 x3 : Option Value} (hq : Up wa w') (h0 : b < wa.heap.size) (h1 : b + 1 < wa.heap.size) (k0 : wa.cell? ⟨b, 0, none⟩ = x0) (k1 : wa.cell? ⟨b, 1, none⟩ = x1) (k2 : wa.cell? ⟨b + 1, 0, none⟩ = x2) (k3 : wa.cell? ⟨b + 1, 1, none⟩ = x3) :
    w'.cell? ⟨b, 0, none⟩ = x0 ∧ w'.cell? ⟨b, 1, none⟩ = x1 ∧ w'.cell? ⟨b + 1, 0, none⟩ = x2 ∧ w'.cell? ⟨b + 1, 1, none⟩ = x3 :=
  ⟨(hq.cell _ _ h0).trans k0, (hq.cell _ _ h0).trans k1, (hq.cell _ _ h1).trans k2, (hq.cell _ _ h1).trans k3⟩
end Go.Proofs.Ytpcdhdllclenaaa.wk
