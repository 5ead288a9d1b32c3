/-
  Magnitudes, greatest common divisors, which fractions may be: by the program and by the reference (beside the texts on bytes and decimals).
  Expressions: plain, and in memory.
-/
import Derived.Test.YtlhmecagijdinaaDoorN14
import Derived.Test.YtlhmecagijdinaaDoorN16
set_option linter.unusedVariables false
namespace Go.Proofs.YtlhmecagijdinaaDoor
open Go.RowKit

/-- The magnitude. -/
def ab (n : Int) : Int := if n < 0 then -n else n

theorem wrap_neg (n : Int) (h1 : -9223372036854775808 ≤ n) (h : n < 0) : IntKind.u64.wrap (-IntKind.u64.wrap n) = ab n := by
  simp only [ab, if_pos h, IntKind.wrap]
  simp [IntKind.bits, IntKind.signed]
  omega
theorem ab_neg {n : Int} (h : n < 0) : ab n = -n := if_pos h
theorem ab_pos {n : Int} (h : 0 ≤ n) : ab n = n := if_neg (by omega)
theorem gcd_step (p q : Int) (h0 : 0 ≤ p) (h : 0 < q) : Int.gcd q (p % q) = Int.gcd p q := by
  obtain ⟨p, rfl⟩ := Int.eq_ofNat_of_zero_le h0
  obtain ⟨q, rfl⟩ := Int.eq_ofNat_of_zero_le (Int.le_of_lt h)
  rw [← Int.natCast_emod]
  simp only [Int.gcd_natCast_natCast]
  rw [Nat.gcd_comm p q, Nat.gcd_rec q p, Nat.gcd_comm]

theorem magnitude_any (n : Int) (w : World) (h1 : -9223372036854775808 ≤ n) (h2 : n ≤ 9223372036854775807) :
    Calls Tryd.prog 57 #[.int .i64 n] w fun e w' => e = .returned (.int .u64 (ab n)) ∧ w' = w := by
  by_cases h : n < 0
  · go_enter Tryd.func57, Tryd.ntmps57
    go_wp2
    go_ret
    exact ⟨ret_int (wrap_neg n h1 h), rfl⟩
  · go_enter Tryd.func57, Tryd.ntmps57
    go_wp2
    go_ret
    exact ⟨ret_int (ab_pos h).symm, rfl⟩
theorem mag_any (n : Int) (w : World) (h1 : -9223372036854775808 ≤ n) (h2 : n ≤ 9223372036854775807) :
    Calls Tryd.prog 46 #[.int .i64 n] w fun e w' => e = .returned (.int .u64 (ab n)) ∧ w' = w := by
  by_cases h : n < 0
  · go_enter Tryd.func46, Tryd.ntmps46
    go_wp2
    go_ret
    exact ⟨ret_int (by rw [ab_neg h]; omega), rfl⟩
  · go_enter Tryd.func46, Tryd.ntmps46
    go_wp2
    go_ret
    exact ⟨ret_int (ab_pos h).symm, rfl⟩
def gc (a b : Int) : Int := (Int.gcd a b : Nat)
theorem divisor_any (a b : Int) (w : World) (h1 : 0 ≤ a) (h2 : a < 18446744073709551616) (h3 : 0 ≤ b) (h4 : b < 18446744073709551616) :
    Calls Tryd.prog 58 #[.int .u64 a, .int .u64 b] w fun e w' => e = .returned (.int .u64 (gc a b)) ∧ ∃ n, w' = w.drewN n := by
  go_enter Tryd.func58, Tryd.ntmps58
  go_wp2
  go_loopw [0, 1] (fun x y wr => ∃ p q : Int, x = .int .u64 p ∧ y = .int .u64 q ∧ 0 ≤ p ∧ p < 18446744073709551616 ∧ 0 ≤ q ∧ q < 18446744073709551616 ∧ Hid (Int.gcd p q = Int.gcd a b) ∧ ∃ n, wr = w.drewN n) (fun _ y _ => (intOf y).toNat)
  case atStart => exact ⟨a, b, rfl, rfl, h1, h2, h3, h4, rfl, 0, rfl⟩
  case round =>
    obtain ⟨p, q, rfl, rfl, p0, p1, q0, q1, hg, n, rfl⟩ := hrel
    by_cases hq : 0 < q
    · have hq' : (q != 0) = true := by simp; omega
      have hq2 : ¬ q = 0 := by omega
      have hm0 : 0 ≤ p % q := Int.emod_nonneg _ hq2
      have hm1 : p % q < q := Int.emod_lt_of_pos _ hq
      go_wp2
      go_quiet (fail)
      go_wp2
      exact ⟨⟨q, p % q, rfl, rfl, by omega, by omega, by omega, by omega, (gcd_step p q p0 hq).trans hg, n + nq, World.drewN_drewN _ _ _⟩, by simp [intOf]; omega⟩
    · have : q = 0 := by omega
      subst this
      go_wp2
      go_ret
      exact ⟨ret_int (by unfold gc; rw [← hg.out]; simp; omega), n, rfl⟩
theorem small_any (a b : Int) (w : World) (h1 : 0 ≤ a) (h2 : a < 18446744073709551616) (h3 : 0 ≤ b) (h4 : b < 18446744073709551616) :
    Calls Tryd.prog 62 #[.int .u64 a, .int .u64 b] w fun e w' => e = .returned (.int .u64 (gc a b)) ∧ ∃ n, w' = w.drewN n := by
  go_enter Tryd.func62, Tryd.ntmps62
  go_wp2
  go_loopw [0, 1] (fun x y wr => ∃ p q : Int, x = .int .u64 p ∧ y = .int .u64 q ∧ 0 ≤ p ∧ p < 18446744073709551616 ∧ 0 ≤ q ∧ q < 18446744073709551616 ∧ Hid (Int.gcd p q = Int.gcd a b) ∧ ∃ n, wr = w.drewN n) (fun _ y _ => (intOf y).toNat)
  case atStart => exact ⟨a, b, rfl, rfl, h1, h2, h3, h4, rfl, 0, rfl⟩
  case round =>
    obtain ⟨p, q, rfl, rfl, p0, p1, q0, q1, hg, n, rfl⟩ := hrel
    by_cases hq : 0 < q
    · have hq' : (q != 0) = true := by simp; omega
      have hq2 : ¬ q = 0 := by omega
      have hm0 : 0 ≤ p % q := Int.emod_nonneg _ hq2
      have hm1 : p % q < q := Int.emod_lt_of_pos _ hq
      go_wp2
      go_quiet (fail)
      go_wp2
      exact ⟨⟨q, p % q, rfl, rfl, by omega, by omega, by omega, by omega, (gcd_step p q p0 hq).trans hg, n + nq, World.drewN_drewN _ _ _⟩, by simp [intOf]; omega⟩
    · have : q = 0 := by omega
      subst this
      go_wp2
      go_ret
      exact ⟨ret_int (by unfold gc; rw [← hg.out]; simp; omega), n, rfl⟩
/-! ### What a call leaves: new blocks alone. -/
def Up (w w' : World) : Prop := Below w.heap.size w w' ∧ ∀ a, w'.frozen? a = w.frozen? a
theorem Up.refl (w : World) : Up w w := ⟨Below.refl _ _, fun _ => rfl⟩
theorem Up.size {w w' : World} (h : Up w w') : w.heap.size ≤ w'.heap.size := h.1.size
theorem Up.trans {a b c : World} (h : Up a b) (k : Up b c) : Up a c := ⟨h.1.trans (k.1.mono h.1.size), fun x => (k.2 x).trans (h.2 x)⟩
theorem Up.alloc {w w' : World} (h : Up w w') (c : Array Value) (t : TypeId) : Up w (w'.alloc (.cells c t)) :=
  ⟨h.1.alloc h.1.size _, fun a => (frozen?_alloc_cells _ _ _ _).trans (h.2 a)⟩
theorem Up.drewN {w w' : World} (h : Up w w') (n : Nat) : Up w (w'.drewN n) := ⟨below_drewN h.1 n, h.2⟩
theorem Up.drew {w w' : World} (h : Up w w') : Up w w'.drew := ⟨h.1.drew, h.2⟩
theorem Up.setCell {w w' : World} (h : Up w w') {p : Addr} (hp : w.heap.size ≤ p.block) (u : Value) : Up w (w'.setCell p u) :=
  ⟨h.1.setCell hp u, fun a => by rw [World.frozen?_setCell]; exact h.2 a⟩
theorem Up.cell {w w' : World} (h : Up w w') (b o : Nat) (hb : b < w.heap.size) : w'.cell? ⟨b, o, none⟩ = w.cell? ⟨b, o, none⟩ := h.1.cell (p := ⟨b, o, none⟩) hb
theorem Up.grown {w w' : World} (h : Up w w') : Grown w w' := ⟨h.1.frame _, h.2, h.1.size⟩

theorem isOver_any (n d : Int) (w : World) :
    Calls Tryd.prog 61 #[.agg #[.int .i64 n, .int .i64 d]] w fun e w' => e = .returned (.bool (n == 0 && d == 0)) ∧ ∃ c, w' = w.alloc (.cells c 23) := by
  by_cases hn : n = 0
  · by_cases hd : d = 0
    all_goals
      go_enter Tryd.func61, Tryd.ntmps61
      go_wp2
      go_ret
      exact ⟨by simp [hn, hd], _, rfl⟩
  · go_enter Tryd.func61, Tryd.ntmps61
    go_wp2
    go_ret
    exact ⟨by simp [hn], _, rfl⟩

/-- A fraction that is not over. -/
def isV (n d : Int) : Bool := decide (1 ≤ d) && (n != -9223372036854775808) && gc (ab n) d == 1
/-- A fraction that may be. -/
def mayB (n d : Int) : Bool := (n == 0 && d == 0) || isV n d
theorem ab_bd {n : Int} (h1 : -9223372036854775808 ≤ n) (h2 : n ≤ 9223372036854775807) : 0 ≤ ab n ∧ ab n < 18446744073709551616 := by
  unfold ab; split <;> omega

theorem may_any (n d : Int) (w : World) (n1 : -9223372036854775808 ≤ n) (n2 : n ≤ 9223372036854775807) (d1 : -9223372036854775808 ≤ d) (d2 : d ≤ 9223372036854775807) :
    Calls Tryd.prog 40 #[.agg #[.int .i64 n, .int .i64 d]] w fun e w' => e = .returned (.bool (mayB n d)) ∧ Up w w' := by
  obtain ⟨m1, m2⟩ := ab_bd n1 n2
  by_cases hd : d < 1
  · have e1 : mayB n d = (n == 0 && d == 0) := by
      have : decide (1 ≤ d) = false := by simp; omega
      simp [mayB, isV, this]
    rw [e1]; clear e1
    go_enter Tryd.func40, Tryd.ntmps40
    go_wp2_with (go_at_call 61; refine (isOver_any _ _ _).mono ?_; rintro e w' ⟨rfl, c, rfl⟩)
    go_ret
    exact ⟨rfl, ((Up.refl _).alloc _ _).alloc _ _⟩
  · have hd' : 1 ≤ d := by omega
    by_cases hn : n = -9223372036854775808
    · subst hn
      have e1 : mayB (-9223372036854775808) d = false := by
        have : (d == 0) = false := by simp; omega
        simp [mayB, isV]
      rw [e1]; clear e1
      go_enter Tryd.func40, Tryd.ntmps40
      go_wp2_with (go_at_call 61; refine (isOver_any _ _ _).mono ?_; rintro e w' ⟨rfl, c, rfl⟩)
      go_ret
      exact ⟨rfl, ((Up.refl _).alloc _ _).alloc _ _⟩
    · have e1 : mayB n d = (gc (ab n) d == 1) := by
        have a1 : (d == 0) = false := by simp; omega
        have a2 : (n != -9223372036854775808) = true := by simpa using hn
        simp [mayB, isV, a1, a2, hd']
      rw [e1]; clear e1
      have hn' : (n == -9223372036854775808) = false := by simpa using hn
      go_enter Tryd.func40, Tryd.ntmps40
      go_wp2_with fail
      go_quiet (first | (go_at_call 57; exact Calls.quiet_of_same (magnitude_any _ _ n1 n2)) | (go_at_call 58; exact Calls.quiet_of (divisor_any _ _ _ m1 m2 (by omega) (by omega))))
      go_wp2
      go_ret
      exact ⟨rfl, ((Up.refl _).alloc _ _).drewN _⟩
theorem rmay_any (n d : Int) (w : World) (n1 : -9223372036854775808 ≤ n) (n2 : n ≤ 9223372036854775807) (d1 : -9223372036854775808 ≤ d) (d2 : d ≤ 9223372036854775807) :
    Calls Tryd.prog 41 #[.agg #[.int .i64 n, .int .i64 d]] w fun e w' => e = .returned (.bool (mayB n d)) ∧ Up w w' := by
  obtain ⟨m1, m2⟩ := ab_bd n1 n2
  by_cases hz : n = 0 ∧ d = 0
  · obtain ⟨rfl, rfl⟩ := hz
    go_enter Tryd.func41, Tryd.ntmps41
    go_wp2
    go_ret
    exact ⟨rfl, (Up.refl _).alloc _ _⟩
  have z0 : (n == 0 && d == 0) = false := by
    rw [Bool.eq_false_iff]; intro h; simp at h; exact hz h
  by_cases hd : d < 1
  · have hd0 : decide (1 ≤ d) = false := by simp; omega
    have e1 : mayB n d = false := by simp only [mayB, isV, z0, hd0]; simp
    rw [e1]; clear e1
    by_cases hn : n = 0
    · have hn1 : (n == 0) = true := by simpa using hn
      have hd1 : (d == 0) = false := by simpa [hn1] using z0
      clear hz z0
      go_enter Tryd.func41, Tryd.ntmps41
      go_wp2
      go_quiet (fail)
      go_wp2
      go_ret
      exact ⟨rfl, ((Up.refl _).alloc _ _).drewN _⟩
    · have hn1 : (n == 0) = false := by simpa using hn
      clear hz z0
      go_enter Tryd.func41, Tryd.ntmps41
      go_wp2
      go_quiet (fail)
      go_wp2
      go_ret
      exact ⟨rfl, ((Up.refl _).alloc _ _).drewN _⟩
  have hd' : 1 ≤ d := by omega
  have hd0 : decide (1 ≤ d) = true := by simp; omega
  have hdz : (d == 0) = false := by simp; omega
  by_cases hn : n = -9223372036854775808
  · subst hn
    have e1 : mayB (-9223372036854775808) d = false := by simp [mayB, isV]
    rw [e1]; clear e1 hz z0
    go_enter Tryd.func41, Tryd.ntmps41
    go_wp2
    go_quiet (fail)
    go_wp2
    go_ret
    exact ⟨rfl, ((Up.refl _).alloc _ _).drewN _⟩
  have hn' : (n != -9223372036854775808) = true := by simpa using hn
  have e1 : mayB n d = (gc (ab n) d == 1) := by simp only [mayB, isV, z0, hd0, hn']; simp
  rw [e1]; clear e1 hz z0
  by_cases hn0 : n = 0
  · have hn1 : (n == 0) = true := by simpa using hn0
    clear hn0
    go_enter Tryd.func41, Tryd.ntmps41
    go_wp2_with fail
    go_quiet (first | (go_at_call 46; exact Calls.quiet_of_same (mag_any _ _ n1 n2)) | (go_at_call 62; exact Calls.quiet_of (small_any _ _ _ m1 m2 (by omega) (by omega))))
    go_wp2
    go_ret
    exact ⟨rfl, ((Up.refl _).alloc _ _).drewN _⟩
  · have hn1 : (n == 0) = false := by simpa using hn0
    clear hn0
    go_enter Tryd.func41, Tryd.ntmps41
    go_wp2_with fail
    go_quiet (first | (go_at_call 46; exact Calls.quiet_of_same (mag_any _ _ n1 n2)) | (go_at_call 62; exact Calls.quiet_of (small_any _ _ _ m1 m2 (by omega) (by omega))))
    go_wp2
    go_ret
    exact ⟨rfl, ((Up.refl _).alloc _ _).drewN _⟩

theorem isV_of_may {n d : Int} (h : mayB n d = true) : isV n d = !(n == 0 && d == 0) := by
  unfold mayB at h
  by_cases hz : (n == 0 && d == 0) = true
  · simp at hz; obtain ⟨rfl, rfl⟩ := hz; decide
  · simp only [Bool.not_eq_true] at hz; rw [hz] at h ⊢; simpa using h
theorem isV_of_not {n d : Int} (h : mayB n d = false) : isV n d = false := by
  unfold mayB at h; simp only [Bool.or_eq_false_iff] at h; exact h.2
theorem isV_of_may' {n d : Int} (h : mayB n d = true) : isV n d = decide (0 < d) := by
  rw [isV_of_may h]
  unfold mayB isV at h
  by_cases hd : 0 < d
  · have : (d == 0) = false := by simp; omega
    simp [this, hd]
  · have h1 : decide (1 ≤ d) = false := by simp; omega
    simp [h1] at h
    simp [h]
theorem isValue_any (n d : Int) (w : World) (n1 : -9223372036854775808 ≤ n) (n2 : n ≤ 9223372036854775807) (d1 : -9223372036854775808 ≤ d) (d2 : d ≤ 9223372036854775807) :
    Calls Tryd.prog 90 #[.agg #[.int .i64 n, .int .i64 d]] w fun e w' => e = .returned (.bool (isV n d)) ∧ Up w w' := by
  by_cases hm : mayB n d = true
  · rw [isV_of_may hm]
    go_enter Tryd.func90, Tryd.ntmps90
    go_wp2_with (first | (go_at_call 40; refine (may_any _ _ _ n1 n2 d1 d2).mono ?_; rintro e w1 ⟨rfl, h1⟩; have hc := h1.cell; simp only [hm]) | (go_at_call 61; refine (isOver_any _ _ _).mono ?_; rintro e w' ⟨rfl, c, rfl⟩))
    go_ret
    exact ⟨by simp [Bool.not_and], (((Up.refl _).alloc _ _).trans h1).alloc _ _⟩
  · have hm' : mayB n d = false := by simpa using hm
    rw [isV_of_not hm']
    go_enter Tryd.func90, Tryd.ntmps90
    go_wp2_with (go_at_call 40; refine (may_any _ _ _ n1 n2 d1 d2).mono ?_; rintro e w1 ⟨rfl, h1⟩; have hc := h1.cell; simp only [hm'])
    go_ret
    exact ⟨rfl, ((Up.refl _).alloc _ _).trans h1⟩
theorem is_any (n d : Int) (w : World) (n1 : -9223372036854775808 ≤ n) (n2 : n ≤ 9223372036854775807) (d1 : -9223372036854775808 ≤ d) (d2 : d ≤ 9223372036854775807) :
    Calls Tryd.prog 43 #[.agg #[.int .i64 n, .int .i64 d]] w fun e w' => e = .returned (.bool (isV n d)) ∧ Up w w' := by
  by_cases hm : mayB n d = true
  · rw [isV_of_may' hm]
    go_enter Tryd.func43, Tryd.ntmps43
    go_wp2_with (go_at_call 41; refine (rmay_any _ _ _ n1 n2 d1 d2).mono ?_; rintro e w1 ⟨rfl, h1⟩; have hc := h1.cell; simp only [hm])
    go_ret
    exact ⟨rfl, ((Up.refl _).alloc _ _).trans h1⟩
  · have hm' : mayB n d = false := by simpa using hm
    rw [isV_of_not hm']
    go_enter Tryd.func43, Tryd.ntmps43
    go_wp2_with (go_at_call 41; refine (rmay_any _ _ _ n1 n2 d1 d2).mono ?_; rintro e w1 ⟨rfl, h1⟩; have hc := h1.cell; simp only [hm'])
    go_ret
    exact ⟨rfl, ((Up.refl _).alloc _ _).trans h1⟩

end Go.Proofs.YtlhmecagijdinaaDoor
set_option linter.unusedVariables false
set_option linter.unusedSimpArgs false
namespace Go.Proofs.YtlhmecagijdinaaDoor
open Go.RowKit

/-- An expression. -/
inductive Ex where
  | mk (k n d u : Int) (kids : List Ex)
def Ex.k : Ex → Int | .mk k _ _ _ _ => k
def Ex.n : Ex → Int | .mk _ n _ _ _ => n
def Ex.d : Ex → Int | .mk _ _ d _ _ => d
def Ex.u : Ex → Int | .mk _ _ _ u _ => u
def Ex.ks : Ex → List Ex | .mk _ _ _ _ ks => ks
def i64 (n : Int) : Prop := -9223372036854775808 ≤ n ∧ n ≤ 9223372036854775807
/-- Its numbers are of 64 bits. -/
def Ex.Ok (e : Ex) : Prop := i64 e.k ∧ i64 e.n ∧ i64 e.d ∧ i64 e.u
mutual
/-- How many they are. -/
def szE : Ex → Nat
  | .mk _ _ _ _ ks => szEs ks + 1
def szEs : List Ex → Nat
  | [] => 0
  | e :: es => szE e + szEs es
end
theorem szEs_nil : szEs [] = 0 := by rw [szEs]
theorem szEs_cons (e : Ex) (es : List Ex) : szEs (e :: es) = szEs e.ks + 1 + szEs es := by
  cases e with | mk k n d u ks => rw [szEs, szE]; rfl
theorem szE_ks (e : Ex) : szE e = szEs e.ks + 1 := by cases e with | mk k n d u ks => rw [szE]; rfl
theorem szEs_at {l : List Ex} {k : Nat} {x : Ex} (h : l[k]? = some x) : szE x ≤ szEs l := by
  induction l generalizing k with
  | nil => simp at h
  | cons y r ih =>
    rw [szEs_cons]
    cases k with
    | zero => cases h; rw [szE_ks]; omega
    | succ k => have := ih (k := k) h; omega
/-- May so many kids be of an expression of this kind? -/
def cntM (k : Int) (n : Nat) : Bool :=
  if k = 2 ∨ k = 4 ∨ k = 6 ∨ k = 7 then decide (1 ≤ n) else if k = 3 ∨ k = 5 then decide (n = 1) else if k = 8 then decide (n = 3) else false
mutual
/-- May it be, at most so deep? -/
def exM : Ex → Nat → Bool
  | .mk k n d u ks, left => decide (0 < left) && (if k = 1 then mayB n d && (decide (0 ≤ u) && decide (u ≤ 7)) && ks.isEmpty else ((n == 0 && d == 0) && (u == 0) && cntM k ks.length) && exMs ks (left - 1))
def exMs : List Ex → Nat → Bool
  | [], _ => true
  | e :: es, left => exM e left && exMs es left
end
theorem exMs_nil (n : Nat) : exMs [] n = true := by rw [exMs]
theorem exMs_cons (e : Ex) (es : List Ex) (n : Nat) : exMs (e :: es) n = (exM e n && exMs es n) := by rw [exMs]
theorem exM_eq (e : Ex) (left : Nat) : exM e left = (decide (0 < left) && (if e.k = 1 then mayB e.n e.d && (decide (0 ≤ e.u) && decide (e.u ≤ 7)) && e.ks.isEmpty else ((e.n == 0 && e.d == 0) && (e.u == 0) && cntM e.k e.ks.length) && exMs e.ks (left - 1))) := by
  cases e with | mk k n d u ks => rw [exM]; rfl
/-- The five cells of an expression, but its kids. -/
def Fiv (w : World) (b o : Nat) (x : Ex) : Prop := w.cell? ⟨b, o, none⟩ = some (.int .i64 x.k) ∧ w.cell? ⟨b, o + 1, none⟩ = some (.int .i64 x.n) ∧ w.cell? ⟨b, o + 2, none⟩ = some (.int .i64 x.d) ∧ w.cell? ⟨b, o + 3, none⟩ = some (.int .i64 x.u)
theorem Fiv.below {w w' : World} {b o : Nat} {x : Ex} {m : Nat} (h : Fiv w b o x) (hw : Below m w w') (hb : b < m) : Fiv w' b o x :=
  ⟨(hw.cell (p := ⟨b, o, none⟩) hb).trans h.1, (hw.cell (p := ⟨b, o + 1, none⟩) hb).trans h.2.1, (hw.cell (p := ⟨b, o + 2, none⟩) hb).trans h.2.2.1, (hw.cell (p := ⟨b, o + 3, none⟩) hb).trans h.2.2.2⟩
/-- A slice of expressions in memory. -/
inductive EM (w : World) : Value → List Ex → Prop
  | nil (a : Option Addr) (c : Nat) : EM w (.slice a 0 c) []
  | row (b o c : Nat) (l : List Ex) (u : Nat → Value) (h0 : 0 < l.length) (hb : b < w.heap.size) (hc : l.length ≤ c) (hn : l.length ≤ 1000000000) (hm : c ≤ 9223372036854775807)
      (hx : ∀ (i : Nat) (v : Ex), l[i]? = some v → v.Ok) (ht : ∀ i v, l[i]? = some v → Fiv w b (o + i * 5) v) (hu : ∀ i v, l[i]? = some v → w.cell? ⟨b, o + i * 5 + 4, none⟩ = some (u i))
      (hk : ∀ i v, l[i]? = some v → EM w (u i) v.ks) : EM w (.slice (some ⟨b, o, none⟩) l.length c) l
theorem EM.low {w w' : World} {v : Value} {l : List Ex} (h : EM w v l) (hw : Below w.heap.size w w') : EM w' v l := by
  induction h with
  | nil a c => exact .nil a c
  | row b o c l u h0 hb hc hn hm hx ht hu _ ih => exact .row b o c l u h0 (Nat.lt_of_lt_of_le hb hw.size) hc hn hm hx (fun i v hi => (ht i v hi).below hw hb) (fun i v hi => (hw.cell (p := ⟨b, o + i * 5 + 4, none⟩) hb).trans (hu i v hi)) ih
theorem EM.shape {w : World} {v : Value} {l : List Ex} (h : EM w v l) : ∃ a c, v = .slice a l.length c ∧ l.length ≤ 1000000000 := by
  cases h with
  | nil a c => exact ⟨a, c, rfl, by simp⟩
  | row b o c l u h0 hb hc hn hm hx ht hu hk => exact ⟨_, _, rfl, hn⟩
/-- One expression of a slice. -/
theorem EM.at {w : World} {v : Value} {l : List Ex} (h : EM w v l) {i : Nat} {x : Ex} (hi : l[i]? = some x) : ∃ b o c u, v = .slice (some ⟨b, o, none⟩) l.length c ∧ b < w.heap.size ∧ l.length ≤ c ∧ c ≤ 9223372036854775807 ∧ x.Ok ∧ Fiv w b (o + i * 5) x ∧ w.cell? ⟨b, o + i * 5 + 4, none⟩ = some u ∧ EM w u x.ks := by
  cases h with
  | nil a c => simp at hi
  | row b o c l u h0 hb hc hn hm hx ht hu hk => exact ⟨b, o, c, u i, rfl, hb, hc, hm, hx i x hi, ht i x hi, hu i x hi, hk i x hi⟩
/-- The value that is an expression. -/
def exV (x : Ex) (u : Value) : Value := .agg #[.int .i64 x.k, .int .i64 x.n, .int .i64 x.d, .int .i64 x.u, u]
end Go.Proofs.YtlhmecagijdinaaDoor
