/-
  Magnitudes, greatest common divisors, which fractions may be: by the program and by the reference (beside the texts on bytes and decimals).
-/
import Derived.Test.YtpcdhdllclenaaaDoorUtfD
set_option linter.unusedVariables false
namespace Go.Proofs.YtpcdhdllclenaaaDoor
open Go.RowKit

/-- The magnitude. -/
def ab (n : Int) : Int := if n < 0 then -n else n

theorem wrap_neg (n : Int) (h1 : -9223372036854775808 ≤ n) (h : n < 0) : IntKind.u64.wrap (-IntKind.u64.wrap n) = ab n := by
  simp only [ab, if_pos h, IntKind.wrap]
  simp [IntKind.bits, IntKind.signed]
  omega
theorem ab_neg {n : Int} (h : n < 0) : ab n = -n := if_pos h
theorem ab_pos {n : Int} (h : 0 ≤ n) : ab n = n := if_neg (by omega)
theorem gcd_step (p q : Int) (h0 : 0 ≤ p) (h : 0 < q) : Int.gcd q (p % q) = Int.gcd p q := by
  obtain ⟨p, rfl⟩ := Int.eq_ofNat_of_zero_le h0
  obtain ⟨q, rfl⟩ := Int.eq_ofNat_of_zero_le (Int.le_of_lt h)
  rw [← Int.natCast_emod]
  simp only [Int.gcd_natCast_natCast]
  rw [Nat.gcd_comm p q, Nat.gcd_rec q p, Nat.gcd_comm]

theorem magnitude_any (n : Int) (w : World) (h1 : -9223372036854775808 ≤ n) (h2 : n ≤ 9223372036854775807) :
    Calls Tryd.prog 47 #[.int .i64 n] w fun e w' => e = .returned (.int .u64 (ab n)) ∧ w' = w := by
  by_cases h : n < 0
  · go_enter Tryd.func47, Tryd.ntmps47
    go_wp2
    go_ret
    exact ⟨ret_int (wrap_neg n h1 h), rfl⟩
  · go_enter Tryd.func47, Tryd.ntmps47
    go_wp2
    go_ret
    exact ⟨ret_int (ab_pos h).symm, rfl⟩
theorem mag_any (n : Int) (w : World) (h1 : -9223372036854775808 ≤ n) (h2 : n ≤ 9223372036854775807) :
    Calls Tryd.prog 79 #[.int .i64 n] w fun e w' => e = .returned (.int .u64 (ab n)) ∧ w' = w := by
  by_cases h : n < 0
  · go_enter Tryd.func79, Tryd.ntmps79
    go_wp2
    go_ret
    exact ⟨ret_int (by rw [ab_neg h]; omega), rfl⟩
  · go_enter Tryd.func79, Tryd.ntmps79
    go_wp2
    go_ret
    exact ⟨ret_int (ab_pos h).symm, rfl⟩
def gc (a b : Int) : Int := (Int.gcd a b : Nat)
theorem divisor_any (a b : Int) (w : World) (h1 : 0 ≤ a) (h2 : a < 18446744073709551616) (h3 : 0 ≤ b) (h4 : b < 18446744073709551616) :
    Calls Tryd.prog 67 #[.int .u64 a, .int .u64 b] w fun e w' => e = .returned (.int .u64 (gc a b)) ∧ ∃ n, w' = w.drewN n := by
  go_enter Tryd.func67, Tryd.ntmps67
  go_wp2
  go_loopw [0, 1] (fun x y wr => ∃ p q : Int, x = .int .u64 p ∧ y = .int .u64 q ∧ 0 ≤ p ∧ p < 18446744073709551616 ∧ 0 ≤ q ∧ q < 18446744073709551616 ∧ Hid (Int.gcd p q = Int.gcd a b) ∧ ∃ n, wr = w.drewN n) (fun _ y _ => (intOf y).toNat)
  case atStart => exact ⟨a, b, rfl, rfl, h1, h2, h3, h4, rfl, 0, rfl⟩
  case round =>
    obtain ⟨p, q, rfl, rfl, p0, p1, q0, q1, hg, n, rfl⟩ := hrel
    by_cases hq : 0 < q
    · have hq' : (q != 0) = true := by simp; omega
      have hq2 : ¬ q = 0 := by omega
      have hm0 : 0 ≤ p % q := Int.emod_nonneg _ hq2
      have hm1 : p % q < q := Int.emod_lt_of_pos _ hq
      go_wp2
      go_quiet (fail)
      go_wp2
      exact ⟨⟨q, p % q, rfl, rfl, by omega, by omega, by omega, by omega, (gcd_step p q p0 hq).trans hg, n + nq, World.drewN_drewN _ _ _⟩, by simp [intOf]; omega⟩
    · have : q = 0 := by omega
      subst this
      go_wp2
      go_ret
      exact ⟨ret_int (by unfold gc; rw [← hg.out]; simp; omega), n, rfl⟩
theorem small_any (a b : Int) (w : World) (h1 : 0 ≤ a) (h2 : a < 18446744073709551616) (h3 : 0 ≤ b) (h4 : b < 18446744073709551616) :
    Calls Tryd.prog 78 #[.int .u64 a, .int .u64 b] w fun e w' => e = .returned (.int .u64 (gc a b)) ∧ ∃ n, w' = w.drewN n := by
  go_enter Tryd.func78, Tryd.ntmps78
  go_wp2
  go_loopw [0, 1] (fun x y wr => ∃ p q : Int, x = .int .u64 p ∧ y = .int .u64 q ∧ 0 ≤ p ∧ p < 18446744073709551616 ∧ 0 ≤ q ∧ q < 18446744073709551616 ∧ Hid (Int.gcd p q = Int.gcd a b) ∧ ∃ n, wr = w.drewN n) (fun _ y _ => (intOf y).toNat)
  case atStart => exact ⟨a, b, rfl, rfl, h1, h2, h3, h4, rfl, 0, rfl⟩
  case round =>
    obtain ⟨p, q, rfl, rfl, p0, p1, q0, q1, hg, n, rfl⟩ := hrel
    by_cases hq : 0 < q
    · have hq' : (q != 0) = true := by simp; omega
      have hq2 : ¬ q = 0 := by omega
      have hm0 : 0 ≤ p % q := Int.emod_nonneg _ hq2
      have hm1 : p % q < q := Int.emod_lt_of_pos _ hq
      go_wp2
      go_quiet (fail)
      go_wp2
      exact ⟨⟨q, p % q, rfl, rfl, by omega, by omega, by omega, by omega, (gcd_step p q p0 hq).trans hg, n + nq, World.drewN_drewN _ _ _⟩, by simp [intOf]; omega⟩
    · have : q = 0 := by omega
      subst this
      go_wp2
      go_ret
      exact ⟨ret_int (by unfold gc; rw [← hg.out]; simp; omega), n, rfl⟩
/-! ### What a call leaves: new blocks alone. -/
def Up (w w' : World) : Prop := Below w.heap.size w w' ∧ ∀ a, w'.frozen? a = w.frozen? a
theorem Up.refl (w : World) : Up w w := ⟨Below.refl _ _, fun _ => rfl⟩
theorem Up.size {w w' : World} (h : Up w w') : w.heap.size ≤ w'.heap.size := h.1.size
theorem Up.trans {a b c : World} (h : Up a b) (k : Up b c) : Up a c := ⟨h.1.trans (k.1.mono h.1.size), fun x => (k.2 x).trans (h.2 x)⟩
theorem Up.alloc {w w' : World} (h : Up w w') (c : Array Value) (t : TypeId) : Up w (w'.alloc (.cells c t)) :=
  ⟨h.1.alloc h.1.size _, fun a => (frozen?_alloc_cells _ _ _ _).trans (h.2 a)⟩
theorem Up.drewN {w w' : World} (h : Up w w') (n : Nat) : Up w (w'.drewN n) := ⟨below_drewN h.1 n, h.2⟩
theorem Up.drew {w w' : World} (h : Up w w') : Up w w'.drew := ⟨h.1.drew, h.2⟩
theorem Up.setCell {w w' : World} (h : Up w w') {p : Addr} (hp : w.heap.size ≤ p.block) (u : Value) : Up w (w'.setCell p u) :=
  ⟨h.1.setCell hp u, fun a => by rw [World.frozen?_setCell]; exact h.2 a⟩
theorem Up.cell {w w' : World} (h : Up w w') (b o : Nat) (hb : b < w.heap.size) : w'.cell? ⟨b, o, none⟩ = w.cell? ⟨b, o, none⟩ := h.1.cell (p := ⟨b, o, none⟩) hb
theorem Up.grown {w w' : World} (h : Up w w') : Grown w w' := ⟨h.1.frame _, h.2, h.1.size⟩

theorem isOver_any (n d : Int) (w : World) :
    Calls Tryd.prog 57 #[.agg #[.int .i64 n, .int .i64 d]] w fun e w' => e = .returned (.bool (n == 0 && d == 0)) ∧ ∃ c, w' = w.alloc (.cells c 29) := by
  by_cases hn : n = 0
  · by_cases hd : d = 0
    all_goals
      go_enter Tryd.func57, Tryd.ntmps57
      go_wp2
      go_ret
      exact ⟨by simp [hn, hd], _, rfl⟩
  · go_enter Tryd.func57, Tryd.ntmps57
    go_wp2
    go_ret
    exact ⟨by simp [hn], _, rfl⟩

/-- A fraction that is not over. -/
def isV (n d : Int) : Bool := decide (1 ≤ d) && (n != -9223372036854775808) && gc (ab n) d == 1
/-- A fraction that may be. -/
def mayB (n d : Int) : Bool := (n == 0 && d == 0) || isV n d
theorem ab_bd {n : Int} (h1 : -9223372036854775808 ≤ n) (h2 : n ≤ 9223372036854775807) : 0 ≤ ab n ∧ ab n < 18446744073709551616 := by
  unfold ab; split <;> omega

theorem may_any (n d : Int) (w : World) (n1 : -9223372036854775808 ≤ n) (n2 : n ≤ 9223372036854775807) (d1 : -9223372036854775808 ≤ d) (d2 : d ≤ 9223372036854775807) :
    Calls Tryd.prog 56 #[.agg #[.int .i64 n, .int .i64 d]] w fun e w' => e = .returned (.bool (mayB n d)) ∧ Up w w' := by
  obtain ⟨m1, m2⟩ := ab_bd n1 n2
  by_cases hd : d < 1
  · have e1 : mayB n d = (n == 0 && d == 0) := by
      have : decide (1 ≤ d) = false := by simp; omega
      simp [mayB, isV, this]
    rw [e1]; clear e1
    go_enter Tryd.func56, Tryd.ntmps56
    go_wp2_with (go_at_call 57; refine (isOver_any _ _ _).mono ?_; rintro e w' ⟨rfl, c, rfl⟩)
    go_ret
    exact ⟨rfl, ((Up.refl _).alloc _ _).alloc _ _⟩
  · have hd' : 1 ≤ d := by omega
    by_cases hn : n = -9223372036854775808
    · subst hn
      have e1 : mayB (-9223372036854775808) d = false := by
        have : (d == 0) = false := by simp; omega
        simp [mayB, isV]
      rw [e1]; clear e1
      go_enter Tryd.func56, Tryd.ntmps56
      go_wp2_with (go_at_call 57; refine (isOver_any _ _ _).mono ?_; rintro e w' ⟨rfl, c, rfl⟩)
      go_ret
      exact ⟨rfl, ((Up.refl _).alloc _ _).alloc _ _⟩
    · have e1 : mayB n d = (gc (ab n) d == 1) := by
        have a1 : (d == 0) = false := by simp; omega
        have a2 : (n != -9223372036854775808) = true := by simpa using hn
        simp [mayB, isV, a1, a2, hd']
      rw [e1]; clear e1
      have hn' : (n == -9223372036854775808) = false := by simpa using hn
      go_enter Tryd.func56, Tryd.ntmps56
      go_wp2_with fail
      go_quiet (first | (go_at_call 47; exact Calls.quiet_of_same (magnitude_any _ _ n1 n2)) | (go_at_call 67; exact Calls.quiet_of (divisor_any _ _ _ m1 m2 (by omega) (by omega))))
      go_wp2
      go_ret
      exact ⟨rfl, ((Up.refl _).alloc _ _).drewN _⟩
theorem rmay_any (n d : Int) (w : World) (n1 : -9223372036854775808 ≤ n) (n2 : n ≤ 9223372036854775807) (d1 : -9223372036854775808 ≤ d) (d2 : d ≤ 9223372036854775807) :
    Calls Tryd.prog 77 #[.agg #[.int .i64 n, .int .i64 d]] w fun e w' => e = .returned (.bool (mayB n d)) ∧ Up w w' := by
  obtain ⟨m1, m2⟩ := ab_bd n1 n2
  by_cases hz : n = 0 ∧ d = 0
  · obtain ⟨rfl, rfl⟩ := hz
    go_enter Tryd.func77, Tryd.ntmps77
    go_wp2
    go_ret
    exact ⟨rfl, (Up.refl _).alloc _ _⟩
  have z0 : (n == 0 && d == 0) = false := by
    rw [Bool.eq_false_iff]; intro h; simp at h; exact hz h
  by_cases hd : d < 1
  · have hd0 : decide (1 ≤ d) = false := by simp; omega
    have e1 : mayB n d = false := by simp only [mayB, isV, z0, hd0]; simp
    rw [e1]; clear e1
    by_cases hn : n = 0
    · have hn1 : (n == 0) = true := by simpa using hn
      have hd1 : (d == 0) = false := by simpa [hn1] using z0
      clear hz z0
      go_enter Tryd.func77, Tryd.ntmps77
      go_wp2
      go_quiet (fail)
      go_wp2
      go_ret
      exact ⟨rfl, ((Up.refl _).alloc _ _).drewN _⟩
    · have hn1 : (n == 0) = false := by simpa using hn
      clear hz z0
      go_enter Tryd.func77, Tryd.ntmps77
      go_wp2
      go_quiet (fail)
      go_wp2
      go_ret
      exact ⟨rfl, ((Up.refl _).alloc _ _).drewN _⟩
  have hd' : 1 ≤ d := by omega
  have hd0 : decide (1 ≤ d) = true := by simp; omega
  have hdz : (d == 0) = false := by simp; omega
  by_cases hn : n = -9223372036854775808
  · subst hn
    have e1 : mayB (-9223372036854775808) d = false := by simp [mayB, isV]
    rw [e1]; clear e1 hz z0
    go_enter Tryd.func77, Tryd.ntmps77
    go_wp2
    go_quiet (fail)
    go_wp2
    go_ret
    exact ⟨rfl, ((Up.refl _).alloc _ _).drewN _⟩
  have hn' : (n != -9223372036854775808) = true := by simpa using hn
  have e1 : mayB n d = (gc (ab n) d == 1) := by simp only [mayB, isV, z0, hd0, hn']; simp
  rw [e1]; clear e1 hz z0
  by_cases hn0 : n = 0
  · have hn1 : (n == 0) = true := by simpa using hn0
    clear hn0
    go_enter Tryd.func77, Tryd.ntmps77
    go_wp2_with fail
    go_quiet (first | (go_at_call 79; exact Calls.quiet_of_same (mag_any _ _ n1 n2)) | (go_at_call 78; exact Calls.quiet_of (small_any _ _ _ m1 m2 (by omega) (by omega))))
    go_wp2
    go_ret
    exact ⟨rfl, ((Up.refl _).alloc _ _).drewN _⟩
  · have hn1 : (n == 0) = false := by simpa using hn0
    clear hn0
    go_enter Tryd.func77, Tryd.ntmps77
    go_wp2_with fail
    go_quiet (first | (go_at_call 79; exact Calls.quiet_of_same (mag_any _ _ n1 n2)) | (go_at_call 78; exact Calls.quiet_of (small_any _ _ _ m1 m2 (by omega) (by omega))))
    go_wp2
    go_ret
    exact ⟨rfl, ((Up.refl _).alloc _ _).drewN _⟩

theorem isV_of_may {n d : Int} (h : mayB n d = true) : isV n d = !(n == 0 && d == 0) := by
  unfold mayB at h
  by_cases hz : (n == 0 && d == 0) = true
  · simp at hz; obtain ⟨rfl, rfl⟩ := hz; decide
  · simp only [Bool.not_eq_true] at hz; rw [hz] at h ⊢; simpa using h
theorem isV_of_not {n d : Int} (h : mayB n d = false) : isV n d = false := by
  unfold mayB at h; simp only [Bool.or_eq_false_iff] at h; exact h.2
theorem isV_of_may' {n d : Int} (h : mayB n d = true) : isV n d = decide (0 < d) := by
  rw [isV_of_may h]
  unfold mayB isV at h
  by_cases hd : 0 < d
  · have : (d == 0) = false := by simp; omega
    simp [this, hd]
  · have h1 : decide (1 ≤ d) = false := by simp; omega
    simp [h1] at h
    simp [h]
theorem isValue_any (n d : Int) (w : World) (n1 : -9223372036854775808 ≤ n) (n2 : n ≤ 9223372036854775807) (d1 : -9223372036854775808 ≤ d) (d2 : d ≤ 9223372036854775807) :
    Calls Tryd.prog 43 #[.agg #[.int .i64 n, .int .i64 d]] w fun e w' => e = .returned (.bool (isV n d)) ∧ Up w w' := by
  by_cases hm : mayB n d = true
  · rw [isV_of_may hm]
    go_enter Tryd.func43, Tryd.ntmps43
    go_wp2_with (first | (go_at_call 56; refine (may_any _ _ _ n1 n2 d1 d2).mono ?_; rintro e w1 ⟨rfl, h1⟩; have hc := h1.cell; simp only [hm]) | (go_at_call 57; refine (isOver_any _ _ _).mono ?_; rintro e w' ⟨rfl, c, rfl⟩))
    go_ret
    exact ⟨by simp [Bool.not_and], (((Up.refl _).alloc _ _).trans h1).alloc _ _⟩
  · have hm' : mayB n d = false := by simpa using hm
    rw [isV_of_not hm']
    go_enter Tryd.func43, Tryd.ntmps43
    go_wp2_with (go_at_call 56; refine (may_any _ _ _ n1 n2 d1 d2).mono ?_; rintro e w1 ⟨rfl, h1⟩; have hc := h1.cell; simp only [hm'])
    go_ret
    exact ⟨rfl, ((Up.refl _).alloc _ _).trans h1⟩
end Go.Proofs.YtpcdhdllclenaaaDoor
