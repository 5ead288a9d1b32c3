/-
  Bytes of characters, by the program.
  Plain: there and back; how many come out; what goes on behind whole bytes.
  Magnitudes, greatest common divisors, which fractions may be: by the program and by the reference (beside the texts on bytes and decimals).
  Plain: tokens of characters, as lists of numbers; a decimal's fraction.
-/
import Derived.Test.YtmkbjcoagfnegaaGreatDoorZ03
import Derived.Test.YtmkbjcoagfnegaaGreatDoorZ02
import Derived.Test.YtmkbjcoagfnegaaGreatDoorZ01
set_option linter.unusedVariables false
set_option linter.unusedSimpArgs false
namespace Go.Proofs.YtmkbjcoagfnegaaGreatDoor
open Go.RowKit

theorem isC_cases (x : Int) : (x < 0 ∧ isC x = false) ∨ (1114111 < x ∧ isC x = false) ∨ (55296 ≤ x ∧ x ≤ 57343 ∧ isC x = false) ∨ (0 ≤ x ∧ x < 55296 ∧ isC x = true) ∨ (57343 < x ∧ x ≤ 1114111 ∧ isC x = true) := by
  have := isC_iff x
  by_cases h : isC x = true
  · have := this.1 h; rcases this with ⟨h1, h2, h3 | h3⟩
    · right; right; right; left; exact ⟨h1, h3, h⟩
    · right; right; right; right; exact ⟨h3, h2, h⟩
  · have h' : isC x = false := by simpa using h
    have : ¬ (0 ≤ x ∧ x ≤ 1114111 ∧ (x < 55296 ∨ 57343 < x)) := fun k => h (this.2 k)
    simp only [h', and_true]; omega
set_option maxRecDepth 100000 in
set_option maxHeartbeats 1000000 in
theorem isR_any (x : Int) (w : World) : Calls Tryz.prog 71 #[.int .i32 x] w fun e w' => e = .returned (.bool (isC x)) ∧ w' = w := by
  rcases isC_cases x with ⟨h, e⟩ | ⟨h, e⟩ | ⟨h, g, e⟩ | ⟨h, g, e⟩ | ⟨h, g, e⟩
  all_goals
    have E := hide e
    clear e
    go_enter Tryz.func71, Tryz.ntmps71
    go_wp2
    go_ret
    exact ⟨ret_bool (by first | (rw [E.out]; done) | (rw [E.out]; simp; omega)), rfl⟩
theorem newsL (w : World) (l : List Value) (t : TypeId) : ∀ j x, l[j]? = some x → (w.alloc (.cells l.toArray t)).cell? ((⟨w.heap.size, 0, none⟩ : Addr).add j) = some x := fun j x hx => by
  rw [Addr.add_lit, cell_of_row _ w.heap.size (0 + j) _ t (0, 0) (heap_alloc_new w _)]
  simpa using hx
theorem info8 : (Tryz.prog.info? 5).map (fun i => (i.zero, i.size, i.bytes)) = some (some (.int .u8 0), 1, 1) := by kernel_rfl
theorem enc1_1 {x : Int} (h : x ≤ 127) : enc1 x = [x] := by unfold enc1; rw [if_pos h]
theorem enc1_2 {x : Int} (h : 127 < x) (h2 : x ≤ 2047) : enc1 x = [192 + x / 64, 128 + x % 64] := by unfold enc1; rw [if_neg (by omega), if_pos h2]
theorem enc1_3 {x : Int} (h : 2047 < x) (h2 : x ≤ 65535) : enc1 x = [224 + x / 4096, 128 + x / 64 % 64, 128 + x % 64] := by unfold enc1; rw [if_neg (by omega), if_neg (by omega), if_pos h2]
theorem enc1_4 {x : Int} (h : 65535 < x) : enc1 x = [240 + x / 262144, 128 + x / 4096 % 64, 128 + x / 64 % 64, 128 + x % 64] := by unfold enc1; rw [if_neg (by omega), if_neg (by omega), if_neg (by omega)]
/-- The state of a loop that writes characters. -/
def RelEnc (W : World) (n : Nat) (ls : List Int) (b i : Value) (wr : World) : Prop :=
  ∃ k : Nat, k ≤ n ∧ i = .int .i64 k ∧ Own W .u8 5 wr b (enc (ls.take k))
theorem RelEnc.mk {W : World} {n : Nat} {ls : List Int} {b i : Value} {wr : World} (k : Nat) (h1 : k ≤ n) (h2 : i = .int .i64 k) (h3 : Own W .u8 5 wr b (enc (ls.take k))) : RelEnc W n ls b i wr := ⟨k, h1, h2, h3⟩
theorem take_gt {bs : List Int} {i : Nat} (h : i < bs.length) : bs.take (i + 1) = bs.take i ++ [gt bs i] := by
  rw [gt_eq h]; exact List.take_succ_eq_append_getElem h
theorem enc_take_len (ls : List Int) (k : Nat) : (enc (ls.take k)).length ≤ 4 * k := by
  have h1 := (enc_len (ls.take k)).2
  have h2 : (ls.take k).length ≤ k := List.length_take_le _ _
  omega
theorem chr_yes {x : Int} (h : isC x = true) : chr x = x := by unfold chr; rw [if_pos h]
theorem chr_no {x : Int} (h : isC x = false) : chr x = 65533 := by unfold chr; rw [h]; rfl
end Go.Proofs.YtmkbjcoagfnegaaGreatDoor
set_option linter.unusedVariables false
set_option linter.unusedSimpArgs false
namespace Go.Proofs.YtmkbjcoagfnegaaGreatDoor
open Go.RowKit

theorem raw_len (n : Nat) : ∀ bs : List Int, bs.length ≤ n → (raw bs).length ≤ bs.length ∧ bs.length ≤ 4 * (raw bs).length := by
  induction n with
  | zero => intro bs h; obtain rfl : bs = [] := List.eq_nil_of_length_eq_zero (by omega); rw [raw_nil]; simp
  | succ n ih =>
    intro bs h
    by_cases hne : bs = []
    · subst hne; rw [raw_nil]; simp
    · have hs := stp_len bs hne
      have := ih (bs.drop (stp bs).2.1) (by rw [List.length_drop]; omega)
      rw [raw_cut hne, List.length_cons]
      rw [List.length_drop] at this
      omega
theorem raw_le (bs : List Int) : (raw bs).length ≤ bs.length ∧ bs.length ≤ 4 * (raw bs).length := raw_len bs.length bs (Nat.le_refl _)
theorem By.app {a b : List Int} (ha : By a) (hb : By b) : By (a ++ b) := fun x hx => by
  rcases List.mem_append.1 hx with h | h
  · exact ha x h
  · exact hb x h
/-- A slice in memory, empty or not. -/
theorem Nums.form {k : IntKind} {w : World} {v : Value} {bs : List Int} (h : Nums k w v bs) :
    ∃ a n c, v = .slice a n c ∧ n = bs.length ∧ n ≤ 4611686018427387904 ∧ n ≤ c + 0 + n ∧ (0 < n → ∃ b o, a = some ⟨b, o, none⟩ ∧ b < w.heap.size ∧ n ≤ c ∧ c ≤ 9223372036854775807 ∧ ∀ i, i < n → w.cell? ⟨b, o + i, none⟩ = some (.int k (gt bs i))) := by
  rcases h with ⟨a, c, rfl, rfl⟩ | ⟨b, o, n, c, rfl, hn, h0, hbw, hl, hn9, hc9, hc⟩
  · exact ⟨a, 0, c, rfl, rfl, by omega, by omega, fun h => by omega⟩
  · exact ⟨_, n, c, rfl, hn, hn9, by omega, fun _ => ⟨b, o, rfl, hbw, hl, hc9, hc⟩⟩
end Go.Proofs.YtmkbjcoagfnegaaGreatDoor
set_option linter.unusedVariables false
namespace Go.Proofs.YtmkbjcoagfnegaaGreatDoor
open Go.RowKit

/-- The magnitude. -/
def ab (n : Int) : Int := if n < 0 then -n else n

theorem wrap_neg (n : Int) (h1 : -9223372036854775808 ≤ n) (h : n < 0) : IntKind.u64.wrap (-IntKind.u64.wrap n) = ab n := by
  simp only [ab, if_pos h, IntKind.wrap]
  simp [IntKind.bits, IntKind.signed]
  omega
theorem ab_neg {n : Int} (h : n < 0) : ab n = -n := if_pos h
theorem ab_pos {n : Int} (h : 0 ≤ n) : ab n = n := if_neg (by omega)
theorem gcd_step (p q : Int) (h0 : 0 ≤ p) (h : 0 < q) : Int.gcd q (p % q) = Int.gcd p q := by
  obtain ⟨p, rfl⟩ := Int.eq_ofNat_of_zero_le h0
  obtain ⟨q, rfl⟩ := Int.eq_ofNat_of_zero_le (Int.le_of_lt h)
  rw [← Int.natCast_emod]
  simp only [Int.gcd_natCast_natCast]
  rw [Nat.gcd_comm p q, Nat.gcd_rec q p, Nat.gcd_comm]

theorem magnitude_any (n : Int) (w : World) (h1 : -9223372036854775808 ≤ n) (h2 : n ≤ 9223372036854775807) :
    Calls Tryz.prog 239 #[.int .i64 n] w fun e w' => e = .returned (.int .u64 (ab n)) ∧ w' = w := by
  by_cases h : n < 0
  · go_enter Tryz.func239, Tryz.ntmps239
    go_wp2
    go_ret
    exact ⟨ret_int (wrap_neg n h1 h), rfl⟩
  · go_enter Tryz.func239, Tryz.ntmps239
    go_wp2
    go_ret
    exact ⟨ret_int (ab_pos h).symm, rfl⟩
theorem mag_any (n : Int) (w : World) (h1 : -9223372036854775808 ≤ n) (h2 : n ≤ 9223372036854775807) :
    Calls Tryz.prog 152 #[.int .i64 n] w fun e w' => e = .returned (.int .u64 (ab n)) ∧ w' = w := by
  by_cases h : n < 0
  · go_enter Tryz.func152, Tryz.ntmps152
    go_wp2
    go_ret
    exact ⟨ret_int (by rw [ab_neg h]; omega), rfl⟩
  · go_enter Tryz.func152, Tryz.ntmps152
    go_wp2
    go_ret
    exact ⟨ret_int (ab_pos h).symm, rfl⟩
def gc (a b : Int) : Int := (Int.gcd a b : Nat)
theorem divisor_any (a b : Int) (w : World) (h1 : 0 ≤ a) (h2 : a < 18446744073709551616) (h3 : 0 ≤ b) (h4 : b < 18446744073709551616) :
    Calls Tryz.prog 238 #[.int .u64 a, .int .u64 b] w fun e w' => e = .returned (.int .u64 (gc a b)) ∧ ∃ n, w' = w.drewN n := by
  go_enter Tryz.func238, Tryz.ntmps238
  go_wp2
  go_loopw [0, 1] (fun x y wr => ∃ p q : Int, x = .int .u64 p ∧ y = .int .u64 q ∧ 0 ≤ p ∧ p < 18446744073709551616 ∧ 0 ≤ q ∧ q < 18446744073709551616 ∧ Hid (Int.gcd p q = Int.gcd a b) ∧ ∃ n, wr = w.drewN n) (fun _ y _ => (intOf y).toNat)
  case atStart => exact ⟨a, b, rfl, rfl, h1, h2, h3, h4, rfl, 0, rfl⟩
  case round =>
    obtain ⟨p, q, rfl, rfl, p0, p1, q0, q1, hg, n, rfl⟩ := hrel
    by_cases hq : 0 < q
    · have hq' : (q != 0) = true := by simp; omega
      have hq2 : ¬ q = 0 := by omega
      have hm0 : 0 ≤ p % q := Int.emod_nonneg _ hq2
      have hm1 : p % q < q := Int.emod_lt_of_pos _ hq
      go_wp2
      go_quiet (fail)
      go_wp2
      exact ⟨⟨q, p % q, rfl, rfl, by omega, by omega, by omega, by omega, (gcd_step p q p0 hq).trans hg, n + nq, World.drewN_drewN _ _ _⟩, by simp [intOf]; omega⟩
    · have : q = 0 := by omega
      subst this
      go_wp2
      go_ret
      exact ⟨ret_int (by unfold gc; rw [← hg.out]; simp; omega), n, rfl⟩
theorem small_any (a b : Int) (w : World) (h1 : 0 ≤ a) (h2 : a < 18446744073709551616) (h3 : 0 ≤ b) (h4 : b < 18446744073709551616) :
    Calls Tryz.prog 170 #[.int .u64 a, .int .u64 b] w fun e w' => e = .returned (.int .u64 (gc a b)) ∧ ∃ n, w' = w.drewN n := by
  go_enter Tryz.func170, Tryz.ntmps170
  go_wp2
  go_loopw [0, 1] (fun x y wr => ∃ p q : Int, x = .int .u64 p ∧ y = .int .u64 q ∧ 0 ≤ p ∧ p < 18446744073709551616 ∧ 0 ≤ q ∧ q < 18446744073709551616 ∧ Hid (Int.gcd p q = Int.gcd a b) ∧ ∃ n, wr = w.drewN n) (fun _ y _ => (intOf y).toNat)
  case atStart => exact ⟨a, b, rfl, rfl, h1, h2, h3, h4, rfl, 0, rfl⟩
  case round =>
    obtain ⟨p, q, rfl, rfl, p0, p1, q0, q1, hg, n, rfl⟩ := hrel
    by_cases hq : 0 < q
    · have hq' : (q != 0) = true := by simp; omega
      have hq2 : ¬ q = 0 := by omega
      have hm0 : 0 ≤ p % q := Int.emod_nonneg _ hq2
      have hm1 : p % q < q := Int.emod_lt_of_pos _ hq
      go_wp2
      go_quiet (fail)
      go_wp2
      exact ⟨⟨q, p % q, rfl, rfl, by omega, by omega, by omega, by omega, (gcd_step p q p0 hq).trans hg, n + nq, World.drewN_drewN _ _ _⟩, by simp [intOf]; omega⟩
    · have : q = 0 := by omega
      subst this
      go_wp2
      go_ret
      exact ⟨ret_int (by unfold gc; rw [← hg.out]; simp; omega), n, rfl⟩
/-! ### What a call leaves: new blocks alone. -/
def Up (w w' : World) : Prop := Below w.heap.size w w' ∧ ∀ a, w'.frozen? a = w.frozen? a
theorem Up.refl (w : World) : Up w w := ⟨Below.refl _ _, fun _ => rfl⟩
theorem Up.size {w w' : World} (h : Up w w') : w.heap.size ≤ w'.heap.size := h.1.size
theorem Up.trans {a b c : World} (h : Up a b) (k : Up b c) : Up a c := ⟨h.1.trans (k.1.mono h.1.size), fun x => (k.2 x).trans (h.2 x)⟩
theorem Up.alloc {w w' : World} (h : Up w w') (c : Array Value) (t : TypeId) : Up w (w'.alloc (.cells c t)) :=
  ⟨h.1.alloc h.1.size _, fun a => (frozen?_alloc_cells _ _ _ _).trans (h.2 a)⟩
theorem Up.drewN {w w' : World} (h : Up w w') (n : Nat) : Up w (w'.drewN n) := ⟨below_drewN h.1 n, h.2⟩
theorem Up.drew {w w' : World} (h : Up w w') : Up w w'.drew := ⟨h.1.drew, h.2⟩
theorem Up.setCell {w w' : World} (h : Up w w') {p : Addr} (hp : w.heap.size ≤ p.block) (u : Value) : Up w (w'.setCell p u) :=
  ⟨h.1.setCell hp u, fun a => by rw [World.frozen?_setCell]; exact h.2 a⟩
theorem Up.cell {w w' : World} (h : Up w w') (b o : Nat) (hb : b < w.heap.size) : w'.cell? ⟨b, o, none⟩ = w.cell? ⟨b, o, none⟩ := h.1.cell (p := ⟨b, o, none⟩) hb
theorem Up.grown {w w' : World} (h : Up w w') : Grown w w' := ⟨h.1.frame _, h.2, h.1.size⟩

theorem isOver_any (n d : Int) (w : World) :
    Calls Tryz.prog 217 #[.agg #[.int .i64 n, .int .i64 d]] w fun e w' => e = .returned (.bool (n == 0 && d == 0)) ∧ ∃ c, w' = w.alloc (.cells c 71) := by
  by_cases hn : n = 0
  · by_cases hd : d = 0
    all_goals
      go_enter Tryz.func217, Tryz.ntmps217
      go_wp2
      go_ret
      exact ⟨by simp [hn, hd], _, rfl⟩
  · go_enter Tryz.func217, Tryz.ntmps217
    go_wp2
    go_ret
    exact ⟨by simp [hn], _, rfl⟩

/-- A fraction that is not over. -/
def isV (n d : Int) : Bool := decide (1 ≤ d) && (n != -9223372036854775808) && gc (ab n) d == 1
/-- A fraction that may be. -/
def mayB (n d : Int) : Bool := (n == 0 && d == 0) || isV n d
theorem ab_bd {n : Int} (h1 : -9223372036854775808 ≤ n) (h2 : n ≤ 9223372036854775807) : 0 ≤ ab n ∧ ab n < 18446744073709551616 := by
  unfold ab; split <;> omega

theorem may_any (n d : Int) (w : World) (n1 : -9223372036854775808 ≤ n) (n2 : n ≤ 9223372036854775807) (d1 : -9223372036854775808 ≤ d) (d2 : d ≤ 9223372036854775807) :
    Calls Tryz.prog 216 #[.agg #[.int .i64 n, .int .i64 d]] w fun e w' => e = .returned (.bool (mayB n d)) ∧ Up w w' := by
  obtain ⟨m1, m2⟩ := ab_bd n1 n2
  by_cases hd : d < 1
  · have e1 : mayB n d = (n == 0 && d == 0) := by
      have : decide (1 ≤ d) = false := by simp; omega
      simp [mayB, isV, this]
    rw [e1]; clear e1
    go_enter Tryz.func216, Tryz.ntmps216
    go_wp2_with (go_at_call 217; refine (isOver_any _ _ _).mono ?_; rintro e w' ⟨rfl, c, rfl⟩)
    go_ret
    exact ⟨rfl, ((Up.refl _).alloc _ _).alloc _ _⟩
  · have hd' : 1 ≤ d := by omega
    by_cases hn : n = -9223372036854775808
    · subst hn
      have e1 : mayB (-9223372036854775808) d = false := by
        have : (d == 0) = false := by simp; omega
        simp [mayB, isV]
      rw [e1]; clear e1
      go_enter Tryz.func216, Tryz.ntmps216
      go_wp2_with (go_at_call 217; refine (isOver_any _ _ _).mono ?_; rintro e w' ⟨rfl, c, rfl⟩)
      go_ret
      exact ⟨rfl, ((Up.refl _).alloc _ _).alloc _ _⟩
    · have e1 : mayB n d = (gc (ab n) d == 1) := by
        have a1 : (d == 0) = false := by simp; omega
        have a2 : (n != -9223372036854775808) = true := by simpa using hn
        simp [mayB, isV, a1, a2, hd']
      rw [e1]; clear e1
      have hn' : (n == -9223372036854775808) = false := by simpa using hn
      go_enter Tryz.func216, Tryz.ntmps216
      go_wp2_with fail
      go_quiet (first | (go_at_call 239; exact Calls.quiet_of_same (magnitude_any _ _ n1 n2)) | (go_at_call 238; exact Calls.quiet_of (divisor_any _ _ _ m1 m2 (by omega) (by omega))))
      go_wp2
      go_ret
      exact ⟨rfl, ((Up.refl _).alloc _ _).drewN _⟩
theorem rmay_any (n d : Int) (w : World) (n1 : -9223372036854775808 ≤ n) (n2 : n ≤ 9223372036854775807) (d1 : -9223372036854775808 ≤ d) (d2 : d ≤ 9223372036854775807) :
    Calls Tryz.prog 151 #[.agg #[.int .i64 n, .int .i64 d]] w fun e w' => e = .returned (.bool (mayB n d)) ∧ Up w w' := by
  obtain ⟨m1, m2⟩ := ab_bd n1 n2
  by_cases hz : n = 0 ∧ d = 0
  · obtain ⟨rfl, rfl⟩ := hz
    go_enter Tryz.func151, Tryz.ntmps151
    go_wp2
    go_ret
    exact ⟨rfl, (Up.refl _).alloc _ _⟩
  have z0 : (n == 0 && d == 0) = false := by
    rw [Bool.eq_false_iff]; intro h; simp at h; exact hz h
  by_cases hd : d < 1
  · have hd0 : decide (1 ≤ d) = false := by simp; omega
    have e1 : mayB n d = false := by simp only [mayB, isV, z0, hd0]; simp
    rw [e1]; clear e1
    by_cases hn : n = 0
    · have hn1 : (n == 0) = true := by simpa using hn
      have hd1 : (d == 0) = false := by simpa [hn1] using z0
      clear hz z0
      go_enter Tryz.func151, Tryz.ntmps151
      go_wp2
      go_quiet (fail)
      go_wp2
      go_ret
      exact ⟨rfl, ((Up.refl _).alloc _ _).drewN _⟩
    · have hn1 : (n == 0) = false := by simpa using hn
      clear hz z0
      go_enter Tryz.func151, Tryz.ntmps151
      go_wp2
      go_quiet (fail)
      go_wp2
      go_ret
      exact ⟨rfl, ((Up.refl _).alloc _ _).drewN _⟩
  have hd' : 1 ≤ d := by omega
  have hd0 : decide (1 ≤ d) = true := by simp; omega
  have hdz : (d == 0) = false := by simp; omega
  by_cases hn : n = -9223372036854775808
  · subst hn
    have e1 : mayB (-9223372036854775808) d = false := by simp [mayB, isV]
    rw [e1]; clear e1 hz z0
    go_enter Tryz.func151, Tryz.ntmps151
    go_wp2
    go_quiet (fail)
    go_wp2
    go_ret
    exact ⟨rfl, ((Up.refl _).alloc _ _).drewN _⟩
  have hn' : (n != -9223372036854775808) = true := by simpa using hn
  have e1 : mayB n d = (gc (ab n) d == 1) := by simp only [mayB, isV, z0, hd0, hn']; simp
  rw [e1]; clear e1 hz z0
  by_cases hn0 : n = 0
  · have hn1 : (n == 0) = true := by simpa using hn0
    clear hn0
    go_enter Tryz.func151, Tryz.ntmps151
    go_wp2_with fail
    go_quiet (first | (go_at_call 152; exact Calls.quiet_of_same (mag_any _ _ n1 n2)) | (go_at_call 170; exact Calls.quiet_of (small_any _ _ _ m1 m2 (by omega) (by omega))))
    go_wp2
    go_ret
    exact ⟨rfl, ((Up.refl _).alloc _ _).drewN _⟩
  · have hn1 : (n == 0) = false := by simpa using hn0
    clear hn0
    go_enter Tryz.func151, Tryz.ntmps151
    go_wp2_with fail
    go_quiet (first | (go_at_call 152; exact Calls.quiet_of_same (mag_any _ _ n1 n2)) | (go_at_call 170; exact Calls.quiet_of (small_any _ _ _ m1 m2 (by omega) (by omega))))
    go_wp2
    go_ret
    exact ⟨rfl, ((Up.refl _).alloc _ _).drewN _⟩

theorem isV_of_may {n d : Int} (h : mayB n d = true) : isV n d = !(n == 0 && d == 0) := by
  unfold mayB at h
  by_cases hz : (n == 0 && d == 0) = true
  · simp at hz; obtain ⟨rfl, rfl⟩ := hz; decide
  · simp only [Bool.not_eq_true] at hz; rw [hz] at h ⊢; simpa using h
end Go.Proofs.YtmkbjcoagfnegaaGreatDoor
set_option linter.unusedVariables false
namespace Go.Proofs.YtmkbjcoagfnegaaGreatDoor
open Go.RowKit

/-- What stands so many places on; the end: -1. -/
def nx (s : List Int) (k : Nat) : Int := s.getD k (-1)
def isDig (c : Int) : Bool := decide (48 ≤ c) && decide (c ≤ 57)
def isFst (c : Int) : Bool := (decide (97 ≤ c) && decide (c ≤ 122)) || (decide (65 ≤ c) && decide (c ≤ 90)) || (c == 95) || decide (128 ≤ c)
def isLet (c : Int) : Bool := isFst c || isDig c || (c == 45)
def isBl (c : Int) : Bool := (c == 10) || (c == 9) || (c == 32)
def isQ (c : Int) : Bool := (c == 34) || (c == 39)
def isSg (c : Int) : Bool := (c == 43) || (c == 45)
def isUn (c : Int) : Bool := (decide (0 ≤ c) && decide (c ≤ 8)) || (c == 11) || (decide (14 ≤ c) && decide (c ≤ 31)) || (c == 127)
def es2 (a b : Int) : Bool := (a == 92) && (b != 10)
def nmB (a b c : Int) : Bool := if a = 45 then isFst b || (b == 45) || es2 b c else isFst a || es2 a b
def nuB (a b c : Int) : Bool := if isSg a then isDig b || ((b == 46) && isDig c) else isDig a || ((a == 46) && isDig b)
def exB (a b c : Int) : Bool := ((a == 101) || (a == 69)) && (if isSg b then isDig c else isDig b)
/-- A digit to the base 16; -1: none. -/
def hexv (c : Int) : Int := if 48 ≤ c ∧ c ≤ 57 then c - 48 else if 97 ≤ c ∧ c ≤ 102 then c - 97 + 10 else if 65 ≤ c ∧ c ≤ 70 then c - 65 + 10 else -1
def hexs : Nat → Int → List Int → Int × List Int
  | 0, n, s => (n, s)
  | k + 1, n, s => if hexv (nx s 0) < 0 then (n, s) else hexs k (n * 16 + hexv (nx s 0)) (s.drop 1)
/-- An escape, behind its sign. -/
def tesc (s : List Int) : Int × List Int :=
  if nx s 0 = -1 then (65533, s)
  else if hexv (nx s 0) < 0 then (nx s 0, s.drop 1)
  else (if (hexs 6 0 s).1 = 0 then 65533 else chr (hexs 6 0 s).1, if isBl (nx (hexs 6 0 s).2 0) then (hexs 6 0 s).2.drop 1 else (hexs 6 0 s).2)

theorem nx_nil (k : Nat) : nx [] k = -1 := by simp [nx]
theorem nx_drop (s : List Int) (n k : Nat) : nx (s.drop n) k = nx s (n + k) := by simp [nx, List.getD_eq_getElem?_getD, List.getElem?_drop]
theorem nx_ne {s : List Int} (h : nx s 0 ≠ -1) : s ≠ [] := by rintro rfl; exact h (nx_nil 0)
theorem nx_pos {s : List Int} (h : nx s 0 ≠ -1) : 0 < s.length := List.length_pos_iff.2 (nx_ne h)
theorem hexs_len (k : Nat) : ∀ (n : Int) (s : List Int), (hexs k n s).2.length ≤ s.length := by
  induction k with
  | zero => intro n s; simp [hexs]
  | succ k ih =>
    intro n s
    simp only [hexs]
    split
    · simp
    · exact Nat.le_trans (ih _ _) (by simp)
theorem tesc_len (s : List Int) : (tesc s).2.length ≤ s.length := by
  unfold tesc
  have := hexs_len 6 0 s
  split
  · simp
  · split
    · simp
    · simp only
      split
      · rw [List.length_drop]; omega
      · exact this
theorem isLet_ne {s : List Int} (h : isLet (nx s 0) = true) : 0 < s.length := by
  refine nx_pos fun e => ?_
  rw [e] at h; exact absurd h (by decide)
theorem es2_ne {s : List Int} {b : Int} (h : es2 (nx s 0) b = true) : 0 < s.length := by
  refine nx_pos fun e => ?_
  rw [e] at h; simp [es2] at h
theorem isBl_ne {s : List Int} (h : isBl (nx s 0) = true) : 0 < s.length := by
  refine nx_pos fun e => ?_
  rw [e] at h; exact absurd h (by decide)
theorem isDig_ne {s : List Int} (h : isDig (nx s 0) = true) : 0 < s.length := by
  refine nx_pos fun e => ?_
  rw [e] at h; exact absurd h (by decide)
/-- A name. -/
def nam (acc s : List Int) : List Int × List Int :=
  if h1 : isLet (nx s 0) = true then nam (acc ++ [nx s 0]) (s.drop 1)
  else if h2 : es2 (nx s 0) (nx s 1) = true then nam (acc ++ [(tesc (s.drop 1)).1]) (tesc (s.drop 1)).2
  else (acc, s)
termination_by s.length
decreasing_by
  · have := isLet_ne h1; rw [List.length_drop]; omega
  · have := es2_ne h2; have := tesc_len (s.drop 1); rw [List.length_drop] at this; omega
theorem nam_let {acc s : List Int} (h : isLet (nx s 0) = true) : nam acc s = nam (acc ++ [nx s 0]) (s.drop 1) := by rw [nam, dif_pos h]
theorem nam_esc {acc s : List Int} (h : isLet (nx s 0) = false) (g : es2 (nx s 0) (nx s 1) = true) : nam acc s = nam (acc ++ [(tesc (s.drop 1)).1]) (tesc (s.drop 1)).2 := by
  rw [nam, dif_neg (by simp [h]), dif_pos g]
theorem nam_end {acc s : List Int} (h : isLet (nx s 0) = false) (g : es2 (nx s 0) (nx s 1) = false) : nam acc s = (acc, s) := by
  rw [nam, dif_neg (by simp [h]), dif_neg (by simp [g])]
def bls (s : List Int) : List Int := s.dropWhile isBl
def dgs (s : List Int) : List Int := s.dropWhile isDig
/-- All blanks but the last. -/
def sbl : List Int → List Int
  | [] => []
  | x :: r => if isBl x && isBl (nx r 0) then sbl r else x :: r
/-- Behind a remark's end. -/
def untl : List Int → List Int
  | [] => []
  | x :: r => if x = 42 ∧ nx r 0 = 47 then r.drop 1 else untl r
theorem untl_len (s : List Int) : (untl s).length ≤ s.length := by
  induction s with
  | nil => simp [untl]
  | cons x r ih =>
    simp only [untl]
    split
    · simp; omega
    · simp; omega
def rmk (s : List Int) : List Int :=
  if h : nx s 0 = 47 ∧ nx s 1 = 42 then rmk (untl (s.drop 2)) else s
termination_by s.length
decreasing_by
  have h0 : 0 < s.length := nx_pos (by omega)
  have := untl_len (s.drop 2)
  rw [List.length_drop] at this; omega
theorem rmk_go {s : List Int} (h0 : nx s 0 = 47) (h1 : nx s 1 = 42) : rmk s = rmk (untl (s.drop 2)) := by rw [rmk, dif_pos ⟨h0, h1⟩]
theorem rmk_end {s : List Int} (h : ¬ (nx s 0 = 47 ∧ nx s 1 = 42)) : rmk s = s := by rw [rmk, dif_neg h]
/-- What stands behind a number. -/
def nmS (s : List Int) : List Int := if isSg (nx s 0) then s.drop 1 else s
def nmP (s : List Int) : List Int := if (nx s 0 == 46) && isDig (nx s 1) then dgs (s.drop 1) else s
def nmE (s : List Int) : List Int := if exB (nx s 0) (nx s 1) (nx s 2) then dgs (nmS (s.drop 1)) else s
def nmZ (s : List Int) : List Int := nmE (nmP (dgs (nmS s)))
/-- A number's own characters. -/
def nmT (s : List Int) : List Int := s.take (s.length - (nmZ s).length)

/-! ### A decimal's fraction -/
def sgn (s : List Int) : Bool × List Int := if isSg (nx s 0) then (nx s 0 == 45, s.drop 1) else (false, s)
def tkd (s : List Int) : List Int := s.takeWhile isDig
def natOf (s : List Int) : Nat := s.foldl (fun n c => n * 10 + (c - 48).toNat) 0
/-- Of n over p^q: what is left of n, of q. -/
def strip (p : Nat) : Nat → Nat → Nat × Nat
  | n, 0 => (n, 0)
  | n, q + 1 => if n % p = 0 then strip p (n / p) q else (n, q + 1)
def fracUp (n q : Nat) : Int × Int := if n * 10 ^ q ≤ 9223372036854775807 then ((n * 10 ^ q : Nat), 1) else (0, 0)
def fracDn (n q : Nat) : Int × Int :=
  if 2 ^ (strip 2 n q).2 * 5 ^ (strip 5 (strip 2 n q).1 q).2 ≤ 9223372036854775807
  then (((strip 5 (strip 2 n q).1 q).1 : Nat), ((2 ^ (strip 2 n q).2 * 5 ^ (strip 5 (strip 2 n q).1 q).2 : Nat) : Int)) else (0, 0)
/-- The digits without noughts at both ends; how many went at the end. -/
def cut0 (ds : List Int) : List Int := ds.dropWhile (· == 48)
def cutR (ds : List Int) : List Int := (ds.reverse.dropWhile (· == 48)).reverse
def fr (n : Nat) (p : Int) : Int × Int := if 0 ≤ p then fracUp n p.toNat else fracDn n (-p).toNat
def sg (neg : Bool) (r : Int × Int) : Int × Int := (if neg then -r.1 else r.1, r.2)
/-- Digits times a power of ten. -/
def valOf (neg : Bool) (ds : List Int) (k : Int) : Int × Int :=
  if cutR (cut0 ds) = [] then (0, 1)
  else if 18 < (cutR (cut0 ds)).length then (0, 0)
  else sg neg (fr (natOf (cutR (cut0 ds))) (k + ((cut0 ds).length - (cutR (cut0 ds)).length : Nat)))
/-- What stands behind an e, to the end. -/
def expo (s : List Int) : Option Int :=
  if nx s 0 ≠ 101 ∧ nx s 0 ≠ 69 then none
  else if tkd (sgn (s.drop 1)).2 = [] ∨ dgs (sgn (s.drop 1)).2 ≠ [] then none
  else some (if (sgn (s.drop 1)).1 then -(natOf (tkd (sgn (s.drop 1)).2) : Int) else natOf (tkd (sgn (s.drop 1)).2))
def decE (neg : Bool) (ds : List Int) (k : Nat) (wh : Bool) (s : List Int) : Option ((Int × Int) × Bool) :=
  if ds = [] then none
  else if s = [] then some (valOf neg ds (-k), wh)
  else (expo s).map fun e => (valOf neg ds (e - k), false)
/-- A number of a stylesheet. -/
def dec (s : List Int) : Option ((Int × Int) × Bool) :=
  if nx (dgs (sgn s).2) 0 = 46 then
    if tkd ((dgs (sgn s).2).drop 1) = [] then none
    else decE (sgn s).1 (tkd (sgn s).2 ++ tkd ((dgs (sgn s).2).drop 1)) (tkd ((dgs (sgn s).2).drop 1)).length false (dgs ((dgs (sgn s).2).drop 1))
  else decE (sgn s).1 (tkd (sgn s).2) 0 true (dgs (sgn s).2)

/-! ### Tokens -/
structure Tk where
  kind : Int
  text : List Int
  num : Int
  den : Int
  whole : Bool
  id : Bool
def tk (k : Int) : Tk := ⟨k, [], 0, 0, false, false⟩
def tkt (k : Int) (l : List Int) : Tk := ⟨k, enc l, 0, 0, false, false⟩
/-- Behind a string's first sign. -/
def str (q : Int) (acc s : List Int) : Tk × List Int :=
  if h0 : nx s 0 = -1 ∨ nx s 0 = q then (tkt 5 acc, s.drop 1)
  else if h1 : nx s 0 = 10 then (tk 6, s)
  else if h2 : nx s 0 = 92 then
    if nx s 1 = -1 then str q acc (s.drop 1)
    else if nx s 1 = 10 then str q acc (s.drop 2)
    else str q (acc ++ [(tesc (s.drop 1)).1]) (tesc (s.drop 1)).2
  else str q (acc ++ [nx s 0]) (s.drop 1)
termination_by s.length
decreasing_by
  all_goals have hp := nx_pos (s := s) (fun e => h0 (.inl e))
  · rw [List.length_drop]; omega
  · rw [List.length_drop]; omega
  · have := tesc_len (s.drop 1); rw [List.length_drop] at this; omega
  · rw [List.length_drop]; omega
/-- Behind a bad url. -/
def bad (s : List Int) : List Int :=
  if h0 : nx s 0 = -1 ∨ nx s 0 = 41 then s.drop 1
  else if es2 (nx s 0) (nx s 1) then bad (tesc (s.drop 1)).2
  else bad (s.drop 1)
termination_by s.length
decreasing_by
  all_goals have hp := nx_pos (s := s) (fun e => h0 (.inl e))
  · have := tesc_len (s.drop 1); rw [List.length_drop] at this; omega
  · rw [List.length_drop]; omega
theorem bls_len (s : List Int) : (bls s).length ≤ s.length := (List.dropWhile_sublist _).length_le
theorem bls_lt {s : List Int} (h : isBl (nx s 0) = true) : (bls s).length < s.length := by
  cases s with
  | nil => exact absurd h (by decide)
  | cons x r =>
    have hx : isBl x = true := h
    show ((x :: r).dropWhile isBl).length < _
    rw [List.dropWhile_cons_of_pos hx]
    have := (List.dropWhile_sublist isBl (l := r)).length_le
    simp; omega
def isBar (c : Int) : Bool := isQ c || (c == 40) || (c == 92) || isUn c
def url (acc s : List Int) : Tk × List Int :=
  if h0 : nx s 0 = -1 ∨ nx s 0 = 41 then (tkt 7 acc, s.drop 1)
  else if h1 : isBl (nx s 0) = true then
    if nx (bls s) 0 = -1 ∨ nx (bls s) 0 = 41 then url acc (bls s) else (tk 8, bad (bls s))
  else if es2 (nx s 0) (nx s 1) then url (acc ++ [(tesc (s.drop 1)).1]) (tesc (s.drop 1)).2
  else if isBar (nx s 0) then (tk 8, bad s)
  else url (acc ++ [nx s 0]) (s.drop 1)
termination_by s.length
decreasing_by
  all_goals have hp := nx_pos (s := s) (fun e => h0 (.inl e))
  · exact bls_lt h1
  · have := tesc_len (s.drop 1); rw [List.length_drop] at this; omega
  · rw [List.length_drop]; omega
/-- Is it url, by letters alike? -/
def isUrlB (b : List Int) : Bool := (b.length == 3) && ((nx b 0 == 117) || (nx b 0 == 85)) && ((nx b 1 == 114) || (nx b 1 == 82)) && ((nx b 2 == 108) || (nx b 2 == 76))
def qut (s : List Int) : Bool := isQ (nx s 0) || (isBl (nx s 0) && isQ (nx s 1))
def word (s : List Int) : Tk × List Int :=
  if nx (nam [] s).2 0 ≠ 40 then (tkt 1 (nam [] s).1, (nam [] s).2)
  else if isUrlB (enc (nam [] s).1) then
    if qut (sbl ((nam [] s).2.drop 1)) then (tkt 2 (nam [] s).1, sbl ((nam [] s).2.drop 1)) else url [] (bls (sbl ((nam [] s).2.drop 1)))
  else (tkt 2 (nam [] s).1, (nam [] s).2.drop 1)
def dcT (s : List Int) : (Int × Int) × Bool := (dec s).getD ((0, 0), false)
def numb (s : List Int) : Tk × List Int :=
  if nmB (nx (nmZ s) 0) (nx (nmZ s) 1) (nx (nmZ s) 2) then (⟨12, enc (nam [] (nmZ s)).1, (dcT (enc (nmT s))).1.1, (dcT (enc (nmT s))).1.2, (dcT (enc (nmT s))).2, false⟩, (nam [] (nmZ s)).2)
  else if nx (nmZ s) 0 = 37 then (⟨11, [], (dcT (enc (nmT s))).1.1, (dcT (enc (nmT s))).1.2, (dcT (enc (nmT s))).2, false⟩, (nmZ s).drop 1)
  else (⟨10, [], (dcT (enc (nmT s))).1.1, (dcT (enc (nmT s))).1.2, (dcT (enc (nmT s))).2, false⟩, nmZ s)
def brk (c : Int) : Int := if c = 40 then 21 else if c = 41 then 22 else if c = 91 then 19 else if c = 93 then 20 else if c = 123 then 23 else if c = 125 then 24 else if c = 44 then 18 else if c = 58 then 16 else if c = 59 then 17 else 9
def one (s : List Int) : Tk × List Int := (if brk (nx s 0) = 9 then tkt 9 [nx s 0] else tk (brk (nx s 0)), s.drop 1)
def hash (s : List Int) : Tk × List Int := (⟨4, enc (nam [] (s.drop 1)).1, 0, 0, false, nmB (nx s 1) (nx s 2) (nx s 3)⟩, (nam [] (s.drop 1)).2)
/-- What begins with a sign. -/
def sgnT (s : List Int) : Tk × List Int :=
  if nx s 0 = 35 then if isLet (nx s 1) || es2 (nx s 1) (nx s 2) then hash s else one s
  else if nx s 0 = 43 ∨ nx s 0 = 46 then if nuB (nx s 0) (nx s 1) (nx s 2) then numb s else one s
  else if nx s 0 = 45 then
    if nuB (nx s 0) (nx s 1) (nx s 2) then numb s
    else if nx s 1 = 45 ∧ nx s 2 = 62 then (tk 15, s.drop 3)
    else if nmB (nx s 0) (nx s 1) (nx s 2) then word s else one s
  else if nx s 0 = 60 then if nx s 1 = 33 ∧ nx s 2 = 45 ∧ nx s 3 = 45 then (tk 14, s.drop 4) else one s
  else if nx s 0 = 64 then if nmB (nx s 1) (nx s 2) (nx s 3) then (tkt 3 (nam [] (s.drop 1)).1, (nam [] (s.drop 1)).2) else one s
  else if nx s 0 = 92 then if es2 (nx s 0) (nx s 1) then word s else one s
  else one s
/-- One token; the end is not next, nor a remark. -/
def tokn (s : List Int) : Tk × List Int :=
  if isBl (nx s 0) then (tk 13, bls s)
  else if isQ (nx s 0) then str (nx s 0) [] (s.drop 1)
  else if isDig (nx s 0) then numb s
  else if isFst (nx s 0) then word s
  else sgnT s
end Go.Proofs.YtmkbjcoagfnegaaGreatDoor

