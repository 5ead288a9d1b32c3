/-
  Powers: what the program multiplies and divides for a decimal.
-/
import Derived.Test.YtfadjpebniebaaaGreatDoorDecA
set_option linter.unusedVariables false
set_option linter.unusedSimpArgs false
namespace Go.Proofs.YtfadjpebniebaaaGreatDoor
open Go.RowKit

theorem pow_over {m b k : Nat} (h : 9223372036854775807 < m * b) (hb : 1 ≤ b) (hk : 1 ≤ k) : ¬ m * b ^ k ≤ 9223372036854775807 := by
  obtain ⟨j, rfl⟩ : ∃ j, k = j + 1 := ⟨k - 1, by omega⟩
  have h1 : 1 ≤ b ^ j := Nat.pow_pos (by omega)
  have h2 : m * b * 1 ≤ m * b * b ^ j := Nat.mul_le_mul_left _ h1
  rw [Nat.pow_succ, Nat.mul_comm (b ^ j), ← Nat.mul_assoc]
  omega
theorem pow_go {m b k P : Nat} (h : m * b ^ k = P) (hk : 1 ≤ k) : m * b * b ^ (k - 1) = P := by
  obtain ⟨j, rfl⟩ : ∃ j, k = j + 1 := ⟨k - 1, by omega⟩
  rw [Nat.add_sub_cancel, ← h, Nat.pow_succ, Nat.mul_assoc, Nat.mul_comm b]
/-- What the program multiplies: the product, or too great. -/
def mulV (P : Nat) : Nat := if P ≤ 9223372036854775807 then P else 0
def mulB (P : Nat) : Bool := decide (P ≤ 9223372036854775807)
def mulR (P : Nat) : Value := .tuple #[.int .u64 (mulV P), .bool (mulB P)]
theorem mulV_no {P : Nat} (h : ¬ P ≤ 9223372036854775807) : mulV P = 0 := if_neg h
theorem mulV_yes {P : Nat} (h : P ≤ 9223372036854775807) : mulV P = P := if_pos h
theorem mulB_no {P : Nat} (h : ¬ P ≤ 9223372036854775807) : mulB P = false := decide_eq_false h
theorem mulB_yes {P : Nat} (h : P ≤ 9223372036854775807) : mulB P = true := decide_eq_true h
theorem mulR_no {P : Nat} (h : ¬ P ≤ 9223372036854775807) : mulR P = .tuple #[.int .u64 0, .bool false] := by unfold mulR; rw [mulV_no h, mulB_no h]; rfl
theorem mulR_yes {P : Nat} (h : P ≤ 9223372036854775807) : mulR P = .tuple #[.int .u64 (P : Int), .bool true] := by unfold mulR; rw [mulV_yes h, mulB_yes h]
/-- The state of the loop. -/
def RelMul (b P : Nat) (n t : Value) : Prop := ∃ m k : Nat, n = .int .u64 m ∧ t = .int .i64 k ∧ 1 ≤ m ∧ m ≤ 9223372036854775807 ∧ k ≤ 1152921504606846976 ∧ Hid (m * b ^ k = P)
theorem RelMul.mk {b P : Nat} {n t : Value} (m k : Nat) (h1 : n = .int .u64 m) (h2 : t = .int .i64 k) (h3 : 1 ≤ m) (h4 : m ≤ 9223372036854775807) (h5 : k ≤ 1152921504606846976) (h6 : m * b ^ k = P) : RelMul b P n t := ⟨m, k, h1, h2, h3, h4, h5, h6⟩
theorem ret_of {a b : Value} (h : b = a) : Ending.returned a = .returned b := by rw [h]
set_option maxHeartbeats 1000000 in
theorem multiplied10_any (n t : Nat) (w : World) (n1 : 1 ≤ n) (n2 : n ≤ 9223372036854775807) (ht : t ≤ 1152921504606846976) :
    Calls Tryz.prog 143 #[.int .u64 n, .int .u64 10, .int .i64 t] w fun e w' => e = .returned (mulR (n * 10 ^ t)) ∧ w' = w := by
  obtain ⟨P, hP⟩ : ∃ P, n * 10 ^ t = P := ⟨_, rfl⟩
  rw [hP]
  have HP := hide hP
  clear hP
  go_enter Tryz.func143, Tryz.ntmps143
  go_wp2
  go_loop [0, 2] (fun a b => RelMul 10 P a b) (fun _ b => (intOf b).toNat)
  case atStart => exact .mk n t rfl rfl n1 n2 ht HP.out
  case round =>
    obtain ⟨m, k, rfl, rfl, m1, m2, k1, R⟩ := hrel
    by_cases hk : 0 < k
    · by_cases hm : m ≤ 922337203685477580
      · have R2 := hide (pow_go R.out hk)
        have hm2 : (m : Int) ≤ 922337203685477580 := by omega
        have hk2 : (0 : Int) < k := by omega
        go_wp2
        go_round
        case rel => exact .mk (m * 10) (k - 1) (by go_num) (by go_num) (by omega) (by omega) (by omega) R2.out
        case measure => simp [intOf]; omega
      · have F := hide (mulR_no (show ¬ P ≤ 9223372036854775807 by rw [← R.out]; exact pow_over (by omega) (by omega) hk))
        have hm2 : 922337203685477580 < (m : Int) := by omega
        have hk2 : (0 : Int) < k := by omega
        go_wp2
        go_ret2
        exact ⟨ret_of F.out, rfl⟩
    · obtain rfl : k = 0 := by omega
      have F := hide (show mulR P = .tuple #[.int .u64 (m : Int), .bool true] by have := R.out; rw [Nat.pow_zero, Nat.mul_one] at this; rw [← this]; exact mulR_yes m2)
      go_wp2
      go_ret2
      exact ⟨ret_of F.out, rfl⟩
set_option maxHeartbeats 1000000 in
theorem multiplied5_any (n t : Nat) (w : World) (n1 : 1 ≤ n) (n2 : n ≤ 9223372036854775807) (ht : t ≤ 1152921504606846976) :
    Calls Tryz.prog 143 #[.int .u64 n, .int .u64 5, .int .i64 t] w fun e w' => e = .returned (mulR (n * 5 ^ t)) ∧ w' = w := by
  obtain ⟨P, hP⟩ : ∃ P, n * 5 ^ t = P := ⟨_, rfl⟩
  rw [hP]
  have HP := hide hP
  clear hP
  go_enter Tryz.func143, Tryz.ntmps143
  go_wp2
  go_loop [0, 2] (fun a b => RelMul 5 P a b) (fun _ b => (intOf b).toNat)
  case atStart => exact .mk n t rfl rfl n1 n2 ht HP.out
  case round =>
    obtain ⟨m, k, rfl, rfl, m1, m2, k1, R⟩ := hrel
    by_cases hk : 0 < k
    · by_cases hm : m ≤ 1844674407370955161
      · have R2 := hide (pow_go R.out hk)
        have hm2 : (m : Int) ≤ 1844674407370955161 := by omega
        have hk2 : (0 : Int) < k := by omega
        go_wp2
        go_round
        case rel => exact .mk (m * 5) (k - 1) (by go_num) (by go_num) (by omega) (by omega) (by omega) R2.out
        case measure => simp [intOf]; omega
      · have F := hide (mulR_no (show ¬ P ≤ 9223372036854775807 by rw [← R.out]; exact pow_over (by omega) (by omega) hk))
        have hm2 : 1844674407370955161 < (m : Int) := by omega
        have hk2 : (0 : Int) < k := by omega
        go_wp2
        go_ret2
        exact ⟨ret_of F.out, rfl⟩
    · obtain rfl : k = 0 := by omega
      have F := hide (show mulR P = .tuple #[.int .u64 (m : Int), .bool true] by have := R.out; rw [Nat.pow_zero, Nat.mul_one] at this; rw [← this]; exact mulR_yes m2)
      go_wp2
      go_ret2
      exact ⟨ret_of F.out, rfl⟩
set_option maxHeartbeats 1000000 in
theorem multiplied2_any (n t : Nat) (w : World) (n1 : 1 ≤ n) (n2 : n ≤ 9223372036854775807) (ht : t ≤ 1152921504606846976) :
    Calls Tryz.prog 143 #[.int .u64 n, .int .u64 2, .int .i64 t] w fun e w' => e = .returned (mulR (n * 2 ^ t)) ∧ w' = w := by
  obtain ⟨P, hP⟩ : ∃ P, n * 2 ^ t = P := ⟨_, rfl⟩
  rw [hP]
  have HP := hide hP
  clear hP
  go_enter Tryz.func143, Tryz.ntmps143
  go_wp2
  go_loop [0, 2] (fun a b => RelMul 2 P a b) (fun _ b => (intOf b).toNat)
  case atStart => exact .mk n t rfl rfl n1 n2 ht HP.out
  case round =>
    obtain ⟨m, k, rfl, rfl, m1, m2, k1, R⟩ := hrel
    by_cases hk : 0 < k
    · by_cases hm : m ≤ 4611686018427387903
      · have R2 := hide (pow_go R.out hk)
        have hm2 : (m : Int) ≤ 4611686018427387903 := by omega
        have hk2 : (0 : Int) < k := by omega
        go_wp2
        go_round
        case rel => exact .mk (m * 2) (k - 1) (by go_num) (by go_num) (by omega) (by omega) (by omega) R2.out
        case measure => simp [intOf]; omega
      · have F := hide (mulR_no (show ¬ P ≤ 9223372036854775807 by rw [← R.out]; exact pow_over (by omega) (by omega) hk))
        have hm2 : 4611686018427387903 < (m : Int) := by omega
        have hk2 : (0 : Int) < k := by omega
        go_wp2
        go_ret2
        exact ⟨ret_of F.out, rfl⟩
    · obtain rfl : k = 0 := by omega
      have F := hide (show mulR P = .tuple #[.int .u64 (m : Int), .bool true] by have := R.out; rw [Nat.pow_zero, Nat.mul_one] at this; rw [← this]; exact mulR_yes m2)
      go_wp2
      go_ret2
      exact ⟨ret_of F.out, rfl⟩
/-- What is left of n over p^q. -/
theorem strip_go {p n q : Nat} (h : n % p = 0) : strip p n (q + 1) = strip p (n / p) q := by simp only [strip]; rw [if_pos h]
theorem strip_stop {p n q : Nat} (h : n % p ≠ 0) : strip p n q = (n, q) := by
  cases q with
  | zero => rfl
  | succ q => simp only [strip]; rw [if_neg h]
theorem strip_zero (p n : Nat) : strip p n 0 = (n, 0) := rfl
theorem strip_le (p : Nat) (q : Nat) : ∀ n, (strip p n q).1 ≤ n ∧ (strip p n q).2 ≤ q := by
  induction q with
  | zero => intro n; simp [strip]
  | succ q ih =>
    intro n
    simp only [strip]
    split
    · have := ih (n / p)
      have := Nat.div_le_self n p
      omega
    · simp
theorem strip_pos (p : Nat) (hp : 2 ≤ p) (q : Nat) : ∀ n, 1 ≤ n → 1 ≤ (strip p n q).1 := by
  induction q with
  | zero => intro n h; simpa [strip] using h
  | succ q ih =>
    intro n h
    simp only [strip]
    split
    · rename_i g
      refine ih (n / p) ?_
      have : p ≤ n := Nat.le_of_dvd (by omega) (Nat.dvd_of_mod_eq_zero g)
      exact Nat.div_pos this (by omega)
    · exact h
/-- The state of the loop that divides. -/
def RelDiv (p n0 q0 : Nat) (n t : Value) : Prop := ∃ m k : Nat, n = .int .u64 m ∧ t = .int .i64 k ∧ 1 ≤ m ∧ m ≤ 9223372036854775807 ∧ k ≤ 1152921504606846976 ∧ Hid (strip p n0 q0 = strip p m k)
theorem RelDiv.mk {p n0 q0 : Nat} {n t : Value} (m k : Nat) (h1 : n = .int .u64 m) (h2 : t = .int .i64 k) (h3 : 1 ≤ m) (h4 : m ≤ 9223372036854775807) (h5 : k ≤ 1152921504606846976) (h6 : strip p n0 q0 = strip p m k) : RelDiv p n0 q0 n t := ⟨m, k, h1, h2, h3, h4, h5, h6⟩
/-- What the program divides: what is left of the upper part, the lower part, or too great. -/
def divR (n P : Nat) : Value := .tuple #[.int .u64 n, .int .u64 (mulV P), .bool (mulB P)]
theorem rem_nat (m p : Nat) : ((m : Int) % p = 0) ↔ m % p = 0 := by omega
end Go.Proofs.YtfadjpebniebaaaGreatDoor
