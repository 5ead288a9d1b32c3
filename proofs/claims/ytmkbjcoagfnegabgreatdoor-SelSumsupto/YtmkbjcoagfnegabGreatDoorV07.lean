/-
  Texts as lists of numbers; signs and digits of a text, by the program and by the reference.
  Powers: what the program multiplies and divides for a decimal.
  A number times a power of ten, in lowest terms, by the program; what stands behind an e.
  A fraction put together; what stands behind an e, by the program.
-/
import Derived.Test.YtmkbjcoagfnegabGreatDoorV02
import Derived.Test.YtmkbjcoagfnegabGreatDoorV04
import Derived.Lib.Strings
import Derived.Lib.IndexBytes
import Derived.Deep.RegionWith
set_option linter.unusedVariables false
set_option linter.unusedSimpArgs false
namespace Go.Proofs.YtmkbjcoagfnegabGreatDoor
open Go.RowKit

/-- A text's bytes. -/
def bl (s : ByteArray) : List Int := s.data.toList.map fun b => (b.toNat : Int)
theorem bl_len (s : ByteArray) : (bl s).length = s.size := by
  unfold bl
  rw [List.length_map, Array.length_toList]
  rfl
theorem bl_inj {s t : ByteArray} (h : bl s = bl t) : s = t := by
  have : s.data.toList = t.data.toList := by
    refine List.map_inj_right (f := fun b : UInt8 => (b.toNat : Int)) ?_ |>.1 h
    intro x y e
    exact UInt8.toNat_inj.1 (Int.ofNat.inj e)
  cases s; cases t
  congr
  exact Array.toList_inj.1 this
theorem bl_by (s : ByteArray) : By (bl s) := by
  intro x hx
  simp only [bl, List.mem_map] at hx
  obtain ⟨b, _, rfl⟩ := hx
  have := b.toNat_lt
  omega
theorem bl_at (s : ByteArray) (i : Nat) (h : i < s.size) : (s[i].toNat : Int) = gt (bl s) i := by
  rw [gt_eq (by rw [bl_len]; exact h)]
  simp [bl, ByteArray.getElem_eq_getElem_data]
theorem bl_nx (s : ByteArray) (i : Nat) (h : i < s.size) : nx (bl s) i = (s[i].toNat : Int) := by
  rw [bl_at s i h]
  simp [nx, gt, List.getD_eq_getElem?_getD, List.getElem?_eq_getElem (show i < (bl s).length by rw [bl_len]; exact h)]
theorem bl_out (s : ByteArray) (i : Nat) (h : s.size ≤ i) : nx (bl s) i = -1 := by
  simp [nx, List.getD_eq_getElem?_getD, List.getElem?_eq_none (show (bl s).length ≤ i by rw [bl_len]; exact h)]
theorem bl_drop (s : ByteArray) (a : Nat) : bl (s.extract a s.size) = (bl s).drop a := by
  unfold bl
  rw [Lib.extract_data, List.map_take, List.map_drop]
  exact List.take_of_length_le (by rw [List.length_drop, List.length_map, Array.length_toList]; exact Nat.le_refl _)
theorem bl_take (s : ByteArray) (n : Nat) : bl (s.extract 0 n) = (bl s).take n := by
  unfold bl
  rw [Lib.extract_data, List.map_take, List.map_drop]
  simp
theorem bl_mid (s : ByteArray) (a b : Nat) : bl (s.extract a b) = ((bl s).drop a).take (b - a) := by
  unfold bl
  rw [Lib.extract_data, List.map_take, List.map_drop]
theorem bl_app (s t : ByteArray) : bl (s ++ t) = bl s ++ bl t := by
  unfold bl
  rw [ByteArray.data_append, Array.toList_append, List.map_append]
theorem bl_nil {s : ByteArray} (h : s.size = 0) : bl s = [] := List.eq_nil_of_length_eq_zero (by rw [bl_len]; exact h)
theorem bl_size0 {s : ByteArray} : bl s = [] ↔ s.size = 0 := by
  rw [← bl_len]; exact ⟨fun h => by rw [h]; rfl, fun h => List.eq_nil_of_length_eq_zero h⟩
theorem nx_cons {s : List Int} {k : Nat} (h : nx s k ≠ -1) : s.drop k = nx s k :: s.drop (k + 1) := by
  have hk : k < s.length := Nat.lt_of_not_le fun g => h (by simp [nx, List.getD_eq_getElem?_getD, List.getElem?_eq_none g])
  rw [List.drop_eq_getElem_cons hk]
  congr 1
  simp [nx, List.getD_eq_getElem?_getD, List.getElem?_eq_getElem hk]
theorem nx_take {s : List Int} {k : Nat} (h : nx s k ≠ -1) : s.take (k + 1) = s.take k ++ [nx s k] := by
  have hk : k < s.length := Nat.lt_of_not_le fun g => h (by simp [nx, List.getD_eq_getElem?_getD, List.getElem?_eq_none g])
  rw [List.take_succ_eq_append_getElem hk]
  congr 2
  simp [nx, List.getD_eq_getElem?_getD, List.getElem?_eq_getElem hk]
theorem isDig_ne1 {c : Int} (h : isDig c = true) : c ≠ -1 := by rintro rfl; exact absurd h (by decide)
theorem dgs_step {s : List Int} {k : Nat} (h : isDig (nx s k) = true) : dgs (s.drop k) = dgs (s.drop (k + 1)) ∧ s.take k ++ tkd (s.drop k) = s.take (k + 1) ++ tkd (s.drop (k + 1)) := by
  have hn := isDig_ne1 h
  rw [nx_cons hn, nx_take hn]
  unfold dgs tkd
  rw [List.dropWhile_cons_of_pos h, List.takeWhile_cons_of_pos h]
  exact ⟨rfl, by simp⟩
theorem dgs_stop {s : List Int} {k : Nat} (h : isDig (nx s k) = false) : dgs (s.drop k) = s.drop k ∧ tkd (s.drop k) = [] := by
  by_cases hn : nx s k = -1
  · by_cases hk : k < s.length
    · have e : s.drop k = nx s k :: s.drop (k + 1) := by
        rw [List.drop_eq_getElem_cons hk]
        congr 1
        simp [nx, List.getD_eq_getElem?_getD, List.getElem?_eq_getElem hk]
      rw [e]; unfold dgs tkd
      rw [List.dropWhile_cons_of_neg (by simp [h]), List.takeWhile_cons_of_neg (by simp [h])]
      exact ⟨rfl, rfl⟩
    · rw [List.drop_of_length_le (by omega)]; exact ⟨rfl, rfl⟩
  · rw [nx_cons hn]; unfold dgs tkd
    rw [List.dropWhile_cons_of_neg (by simp [h]), List.takeWhile_cons_of_neg (by simp [h])]
    exact ⟨rfl, rfl⟩
theorem byte3 (s : ByteArray) (k : Nat) (h : k < s.size) : ((s[k].toNat : Int) < 48 ∧ isDig (nx (bl s) k) = false) ∨ (48 ≤ (s[k].toNat : Int) ∧ (s[k].toNat : Int) ≤ 57 ∧ isDig (nx (bl s) k) = true) ∨ (57 < (s[k].toNat : Int) ∧ isDig (nx (bl s) k) = false) := by
  rw [bl_nx s k h]
  generalize (s[k].toNat : Int) = x
  simp [isDig]; omega
/-- The state of a loop over digits. -/
def RelDg (s : ByteArray) (i : Value) : Prop := ∃ k : Nat, k ≤ s.size ∧ i = .int .i64 k ∧ Hid (dgs (bl s) = dgs ((bl s).drop k) ∧ tkd (bl s) = (bl s).take k ++ tkd ((bl s).drop k))
theorem RelDg.mk {s : ByteArray} {i : Value} (k : Nat) (h1 : k ≤ s.size) (h2 : i = .int .i64 k) (h3 : dgs (bl s) = dgs ((bl s).drop k) ∧ tkd (bl s) = (bl s).take k ++ tkd ((bl s).drop k)) : RelDg s i := ⟨k, h1, h2, h3⟩
theorem sgn_cases (s : ByteArray) : (s.size = 0 ∧ sgn (bl s) = (false, bl s)) ∨ ∃ h : 0 < s.size, ((s[0].toNat : Int) = 43 ∧ sgn (bl s) = (false, (bl s).drop 1)) ∨ ((s[0].toNat : Int) = 45 ∧ sgn (bl s) = (true, (bl s).drop 1)) ∨ ((s[0].toNat : Int) ≠ 43 ∧ (s[0].toNat : Int) ≠ 45 ∧ sgn (bl s) = (false, bl s)) := by
  by_cases h : 0 < s.size
  · right
    refine ⟨h, ?_⟩
    unfold sgn
    rw [bl_nx s 0 h]
    generalize (s[0].toNat : Int) = x
    rcases (show x = 43 ∨ x = 45 ∨ (x ≠ 43 ∧ x ≠ 45) by omega) with rfl | rfl | ⟨h1, h2⟩
    · left; exact ⟨rfl, rfl⟩
    · right; left; exact ⟨rfl, rfl⟩
    · right; right; refine ⟨h1, h2, ?_⟩; rw [if_neg (by simp [isSg, h1, h2])]
  · left
    refine ⟨by omega, ?_⟩
    unfold sgn
    rw [bl_out s 0 (by omega)]; rfl
theorem emp_t {s : ByteArray} (h : s.size = 0) : s.toList.isEmpty = true := by
  rw [Lib.toList_data, List.isEmpty_iff]
  exact List.eq_nil_of_length_eq_zero (by rw [Array.length_toList]; exact h)
theorem emp_f {s : ByteArray} (h : 0 < s.size) : s.toList.isEmpty = false := by
  rw [Lib.toList_data]
  cases hl : s.data.toList with
  | nil =>
    have : s.data.toList.length = 0 := by rw [hl]; rfl
    rw [Array.length_toList] at this
    have h' : 0 < s.data.size := h
    omega
  | cons a r => rfl
theorem isDig1_any (c : Int) (w : World) : Calls Tryz.prog 108 #[.int .u8 c] w fun e w' => e = .returned (.bool (isDig c)) ∧ w' = w := by
  rcases (show c < 48 ∨ (48 ≤ c ∧ c ≤ 57) ∨ 57 < c by omega) with h | ⟨h, g⟩ | h
  all_goals
    go_enter Tryz.func108, Tryz.ntmps108
    go_wp2
    go_ret
    exact ⟨ret_bool (by simp [isDig]; omega), rfl⟩
/-- The state of the reference's loop over digits. -/
def RelRun (s : ByteArray) (i0 : Nat) (i : Value) : Prop := ∃ k : Nat, i0 ≤ k ∧ k ≤ s.size ∧ i = .int .i64 k ∧ Hid (dgs ((bl s).drop i0) = dgs ((bl s).drop k) ∧ (tkd ((bl s).drop i0)).length = k - i0 + (tkd ((bl s).drop k)).length)
theorem RelRun.mk {s : ByteArray} {i0 : Nat} {i : Value} (k : Nat) (h0 : i0 ≤ k) (h1 : k ≤ s.size) (h2 : i = .int .i64 k) (h3 : dgs ((bl s).drop i0) = dgs ((bl s).drop k) ∧ (tkd ((bl s).drop i0)).length = k - i0 + (tkd ((bl s).drop k)).length) : RelRun s i0 i := ⟨k, h0, h1, h2, h3⟩
theorem tkd_step {s : List Int} {k : Nat} (h : isDig (nx s k) = true) : (tkd (s.drop k)).length = 1 + (tkd (s.drop (k + 1))).length := by
  rw [nx_cons (isDig_ne1 h)]
  unfold tkd
  rw [List.takeWhile_cons_of_pos h]
  simp; omega
set_option maxHeartbeats 1000000 in
theorem run_any (s : ByteArray) (i : Nat) (w : World) (hs : s.size ≤ 140737488355328) (hi : i ≤ s.size) :
    Calls Tryz.prog 96 #[.string s, .int .i64 i] w fun e w' => e = .returned (.int .i64 ((i + (tkd ((bl s).drop i)).length : Nat) : Int)) ∧ w' = w := by
  go_enter Tryz.func96, Tryz.ntmps96
  go_wp2
  go_loop [1] (fun a => RelRun s i a) (fun a => s.size - (intOf a).toNat)
  case atStart => exact .mk i (Nat.le_refl _) hi rfl (by simp)
  case round =>
    obtain ⟨k, hk0, hk, rfl, R⟩ := hrel
    have fin : isDig (nx (bl s) k) = false → (k : Int) = ((i + (tkd ((bl s).drop i)).length : Nat) : Int) := fun h => by
      have := R.out.2
      rw [(dgs_stop h).2] at this
      simp at this
      omega
    by_cases hlt : k < s.size
    · have cx := bl_nx s k hlt
      cases hd : isDig (nx (bl s) k)
      · have D := hide (show isDig (s[k].toNat : Int) = false by rw [← cx]; exact hd)
        have F := hide (fin hd)
        clear cx hd fin
        go_wp2_with (go_at_call 108; refine (isDig1_any _ _).mono ?_; rintro e w' ⟨rfl, rfl⟩; rw [D.out])
        go_ret
        exact ⟨ret_int F.out, rfl⟩
      · have D := hide (show isDig (s[k].toNat : Int) = true by rw [← cx]; exact hd)
        have S := hide (dgs_step hd)
        have S2 := hide (tkd_step hd)
        clear cx hd fin
        go_wp2_with (go_at_call 108; refine (isDig1_any _ _).mono ?_; rintro e w' ⟨rfl, rfl⟩; rw [D.out])
        go_round
        case rel => exact .mk (k + 1) (by omega) (by omega) (by go_num) ⟨R.out.1.trans S.out.1, by have := R.out.2; have := S2.out; omega⟩
        case measure => simp [intOf]; omega
    · have F := hide (fin (by rw [bl_out s k (by omega)]; decide))
      clear fin
      go_wp2
      go_ret
      exact ⟨ret_int F.out, rfl⟩
end Go.Proofs.YtmkbjcoagfnegabGreatDoor
set_option linter.unusedVariables false
set_option linter.unusedSimpArgs false
namespace Go.Proofs.YtmkbjcoagfnegabGreatDoor
open Go.RowKit

theorem pow_over {m b k : Nat} (h : 9223372036854775807 < m * b) (hb : 1 ≤ b) (hk : 1 ≤ k) : ¬ m * b ^ k ≤ 9223372036854775807 := by
  obtain ⟨j, rfl⟩ : ∃ j, k = j + 1 := ⟨k - 1, by omega⟩
  have h1 : 1 ≤ b ^ j := Nat.pow_pos (by omega)
  have h2 : m * b * 1 ≤ m * b * b ^ j := Nat.mul_le_mul_left _ h1
  rw [Nat.pow_succ, Nat.mul_comm (b ^ j), ← Nat.mul_assoc]
  omega
theorem pow_go {m b k P : Nat} (h : m * b ^ k = P) (hk : 1 ≤ k) : m * b * b ^ (k - 1) = P := by
  obtain ⟨j, rfl⟩ : ∃ j, k = j + 1 := ⟨k - 1, by omega⟩
  rw [Nat.add_sub_cancel, ← h, Nat.pow_succ, Nat.mul_assoc, Nat.mul_comm b]
/-- What the program multiplies: the product, or too great. -/
def mulV (P : Nat) : Nat := if P ≤ 9223372036854775807 then P else 0
def mulB (P : Nat) : Bool := decide (P ≤ 9223372036854775807)
def mulR (P : Nat) : Value := .tuple #[.int .u64 (mulV P), .bool (mulB P)]
theorem mulV_no {P : Nat} (h : ¬ P ≤ 9223372036854775807) : mulV P = 0 := if_neg h
theorem mulV_yes {P : Nat} (h : P ≤ 9223372036854775807) : mulV P = P := if_pos h
theorem mulB_no {P : Nat} (h : ¬ P ≤ 9223372036854775807) : mulB P = false := decide_eq_false h
theorem mulB_yes {P : Nat} (h : P ≤ 9223372036854775807) : mulB P = true := decide_eq_true h
theorem mulR_no {P : Nat} (h : ¬ P ≤ 9223372036854775807) : mulR P = .tuple #[.int .u64 0, .bool false] := by unfold mulR; rw [mulV_no h, mulB_no h]; rfl
theorem mulR_yes {P : Nat} (h : P ≤ 9223372036854775807) : mulR P = .tuple #[.int .u64 (P : Int), .bool true] := by unfold mulR; rw [mulV_yes h, mulB_yes h]
/-- The state of the loop. -/
def RelMul (b P : Nat) (n t : Value) : Prop := ∃ m k : Nat, n = .int .u64 m ∧ t = .int .i64 k ∧ 1 ≤ m ∧ m ≤ 9223372036854775807 ∧ k ≤ 1152921504606846976 ∧ Hid (m * b ^ k = P)
theorem RelMul.mk {b P : Nat} {n t : Value} (m k : Nat) (h1 : n = .int .u64 m) (h2 : t = .int .i64 k) (h3 : 1 ≤ m) (h4 : m ≤ 9223372036854775807) (h5 : k ≤ 1152921504606846976) (h6 : m * b ^ k = P) : RelMul b P n t := ⟨m, k, h1, h2, h3, h4, h5, h6⟩
theorem ret_of {a b : Value} (h : b = a) : Ending.returned a = .returned b := by rw [h]
set_option maxHeartbeats 1000000 in
theorem multiplied10_any (n t : Nat) (w : World) (n1 : 1 ≤ n) (n2 : n ≤ 9223372036854775807) (ht : t ≤ 1152921504606846976) :
    Calls Tryz.prog 138 #[.int .u64 n, .int .u64 10, .int .i64 t] w fun e w' => e = .returned (mulR (n * 10 ^ t)) ∧ w' = w := by
  obtain ⟨P, hP⟩ : ∃ P, n * 10 ^ t = P := ⟨_, rfl⟩
  rw [hP]
  have HP := hide hP
  clear hP
  go_enter Tryz.func138, Tryz.ntmps138
  go_wp2
  go_loop [0, 2] (fun a b => RelMul 10 P a b) (fun _ b => (intOf b).toNat)
  case atStart => exact .mk n t rfl rfl n1 n2 ht HP.out
  case round =>
    obtain ⟨m, k, rfl, rfl, m1, m2, k1, R⟩ := hrel
    by_cases hk : 0 < k
    · by_cases hm : m ≤ 922337203685477580
      · have R2 := hide (pow_go R.out hk)
        have hm2 : (m : Int) ≤ 922337203685477580 := by omega
        have hk2 : (0 : Int) < k := by omega
        go_wp2
        go_round
        case rel => exact .mk (m * 10) (k - 1) (by go_num) (by go_num) (by omega) (by omega) (by omega) R2.out
        case measure => simp [intOf]; omega
      · have F := hide (mulR_no (show ¬ P ≤ 9223372036854775807 by rw [← R.out]; exact pow_over (by omega) (by omega) hk))
        have hm2 : 922337203685477580 < (m : Int) := by omega
        have hk2 : (0 : Int) < k := by omega
        go_wp2
        go_ret2
        exact ⟨ret_of F.out, rfl⟩
    · obtain rfl : k = 0 := by omega
      have F := hide (show mulR P = .tuple #[.int .u64 (m : Int), .bool true] by have := R.out; rw [Nat.pow_zero, Nat.mul_one] at this; rw [← this]; exact mulR_yes m2)
      go_wp2
      go_ret2
      exact ⟨ret_of F.out, rfl⟩
set_option maxHeartbeats 1000000 in
theorem multiplied5_any (n t : Nat) (w : World) (n1 : 1 ≤ n) (n2 : n ≤ 9223372036854775807) (ht : t ≤ 1152921504606846976) :
    Calls Tryz.prog 138 #[.int .u64 n, .int .u64 5, .int .i64 t] w fun e w' => e = .returned (mulR (n * 5 ^ t)) ∧ w' = w := by
  obtain ⟨P, hP⟩ : ∃ P, n * 5 ^ t = P := ⟨_, rfl⟩
  rw [hP]
  have HP := hide hP
  clear hP
  go_enter Tryz.func138, Tryz.ntmps138
  go_wp2
  go_loop [0, 2] (fun a b => RelMul 5 P a b) (fun _ b => (intOf b).toNat)
  case atStart => exact .mk n t rfl rfl n1 n2 ht HP.out
  case round =>
    obtain ⟨m, k, rfl, rfl, m1, m2, k1, R⟩ := hrel
    by_cases hk : 0 < k
    · by_cases hm : m ≤ 1844674407370955161
      · have R2 := hide (pow_go R.out hk)
        have hm2 : (m : Int) ≤ 1844674407370955161 := by omega
        have hk2 : (0 : Int) < k := by omega
        go_wp2
        go_round
        case rel => exact .mk (m * 5) (k - 1) (by go_num) (by go_num) (by omega) (by omega) (by omega) R2.out
        case measure => simp [intOf]; omega
      · have F := hide (mulR_no (show ¬ P ≤ 9223372036854775807 by rw [← R.out]; exact pow_over (by omega) (by omega) hk))
        have hm2 : 1844674407370955161 < (m : Int) := by omega
        have hk2 : (0 : Int) < k := by omega
        go_wp2
        go_ret2
        exact ⟨ret_of F.out, rfl⟩
    · obtain rfl : k = 0 := by omega
      have F := hide (show mulR P = .tuple #[.int .u64 (m : Int), .bool true] by have := R.out; rw [Nat.pow_zero, Nat.mul_one] at this; rw [← this]; exact mulR_yes m2)
      go_wp2
      go_ret2
      exact ⟨ret_of F.out, rfl⟩
set_option maxHeartbeats 1000000 in
theorem multiplied2_any (n t : Nat) (w : World) (n1 : 1 ≤ n) (n2 : n ≤ 9223372036854775807) (ht : t ≤ 1152921504606846976) :
    Calls Tryz.prog 138 #[.int .u64 n, .int .u64 2, .int .i64 t] w fun e w' => e = .returned (mulR (n * 2 ^ t)) ∧ w' = w := by
  obtain ⟨P, hP⟩ : ∃ P, n * 2 ^ t = P := ⟨_, rfl⟩
  rw [hP]
  have HP := hide hP
  clear hP
  go_enter Tryz.func138, Tryz.ntmps138
  go_wp2
  go_loop [0, 2] (fun a b => RelMul 2 P a b) (fun _ b => (intOf b).toNat)
  case atStart => exact .mk n t rfl rfl n1 n2 ht HP.out
  case round =>
    obtain ⟨m, k, rfl, rfl, m1, m2, k1, R⟩ := hrel
    by_cases hk : 0 < k
    · by_cases hm : m ≤ 4611686018427387903
      · have R2 := hide (pow_go R.out hk)
        have hm2 : (m : Int) ≤ 4611686018427387903 := by omega
        have hk2 : (0 : Int) < k := by omega
        go_wp2
        go_round
        case rel => exact .mk (m * 2) (k - 1) (by go_num) (by go_num) (by omega) (by omega) (by omega) R2.out
        case measure => simp [intOf]; omega
      · have F := hide (mulR_no (show ¬ P ≤ 9223372036854775807 by rw [← R.out]; exact pow_over (by omega) (by omega) hk))
        have hm2 : 4611686018427387903 < (m : Int) := by omega
        have hk2 : (0 : Int) < k := by omega
        go_wp2
        go_ret2
        exact ⟨ret_of F.out, rfl⟩
    · obtain rfl : k = 0 := by omega
      have F := hide (show mulR P = .tuple #[.int .u64 (m : Int), .bool true] by have := R.out; rw [Nat.pow_zero, Nat.mul_one] at this; rw [← this]; exact mulR_yes m2)
      go_wp2
      go_ret2
      exact ⟨ret_of F.out, rfl⟩
/-- What is left of n over p^q. -/
theorem strip_go {p n q : Nat} (h : n % p = 0) : strip p n (q + 1) = strip p (n / p) q := by simp only [strip]; rw [if_pos h]
theorem strip_stop {p n q : Nat} (h : n % p ≠ 0) : strip p n q = (n, q) := by
  cases q with
  | zero => rfl
  | succ q => simp only [strip]; rw [if_neg h]
theorem strip_zero (p n : Nat) : strip p n 0 = (n, 0) := rfl
theorem strip_le (p : Nat) (q : Nat) : ∀ n, (strip p n q).1 ≤ n ∧ (strip p n q).2 ≤ q := by
  induction q with
  | zero => intro n; simp [strip]
  | succ q ih =>
    intro n
    simp only [strip]
    split
    · have := ih (n / p)
      have := Nat.div_le_self n p
      omega
    · simp
theorem strip_pos (p : Nat) (hp : 2 ≤ p) (q : Nat) : ∀ n, 1 ≤ n → 1 ≤ (strip p n q).1 := by
  induction q with
  | zero => intro n h; simpa [strip] using h
  | succ q ih =>
    intro n h
    simp only [strip]
    split
    · rename_i g
      refine ih (n / p) ?_
      have : p ≤ n := Nat.le_of_dvd (by omega) (Nat.dvd_of_mod_eq_zero g)
      exact Nat.div_pos this (by omega)
    · exact h
/-- The state of the loop that divides. -/
def RelDiv (p n0 q0 : Nat) (n t : Value) : Prop := ∃ m k : Nat, n = .int .u64 m ∧ t = .int .i64 k ∧ 1 ≤ m ∧ m ≤ 9223372036854775807 ∧ k ≤ 1152921504606846976 ∧ Hid (strip p n0 q0 = strip p m k)
theorem RelDiv.mk {p n0 q0 : Nat} {n t : Value} (m k : Nat) (h1 : n = .int .u64 m) (h2 : t = .int .i64 k) (h3 : 1 ≤ m) (h4 : m ≤ 9223372036854775807) (h5 : k ≤ 1152921504606846976) (h6 : strip p n0 q0 = strip p m k) : RelDiv p n0 q0 n t := ⟨m, k, h1, h2, h3, h4, h5, h6⟩
/-- What the program divides: what is left of the upper part, the lower part, or too great. -/
def divR (n P : Nat) : Value := .tuple #[.int .u64 n, .int .u64 (mulV P), .bool (mulB P)]
theorem rem_nat (m p : Nat) : ((m : Int) % p = 0) ↔ m % p = 0 := by omega
end Go.Proofs.YtmkbjcoagfnegabGreatDoor
set_option linter.unusedVariables false
set_option linter.unusedSimpArgs false
namespace Go.Proofs.YtmkbjcoagfnegabGreatDoor
open Go.RowKit

/-- A number times a power of ten, as the program tells it. -/
def shN (n : Nat) (p : Int) : Nat := if 0 ≤ p then mulV (n * 10 ^ p.toNat) else if mulB (2 ^ (strip 2 n (-p).toNat).2) then (strip 5 (strip 2 n (-p).toNat).1 (-p).toNat).1 else 0
def shD (n : Nat) (p : Int) : Nat := if 0 ≤ p then 1 else if mulB (2 ^ (strip 2 n (-p).toNat).2) then mulV (mulV (2 ^ (strip 2 n (-p).toNat).2) * 5 ^ (strip 5 (strip 2 n (-p).toNat).1 (-p).toNat).2) else 0
def shB (n : Nat) (p : Int) : Bool := if 0 ≤ p then mulB (n * 10 ^ p.toNat) else if mulB (2 ^ (strip 2 n (-p).toNat).2) then mulB (mulV (2 ^ (strip 2 n (-p).toNat).2) * 5 ^ (strip 5 (strip 2 n (-p).toNat).1 (-p).toNat).2) else false
theorem mulB_iff (P : Nat) : mulB P = true ↔ P ≤ 9223372036854775807 := by simp [mulB]
end Go.Proofs.YtmkbjcoagfnegabGreatDoor
set_option linter.unusedVariables false
set_option linter.unusedSimpArgs false
namespace Go.Proofs.YtmkbjcoagfnegabGreatDoor
open Go.RowKit

/-- A fraction as a value. -/
def ratV (n d : Int) : Value := .agg #[.int .i64 n, .int .i64 d]
theorem natOf_snoc (l : List Int) (c : Int) : natOf (l ++ [c]) = natOf l * 10 + (c - 48).toNat := by simp [natOf, List.foldl_append]
theorem natOf_app (l : List Int) (r : List Int) : natOf l ≤ natOf (l ++ r) := by
  induction r generalizing l with
  | nil => simp
  | cons c r ih =>
    have := ih (l ++ [c])
    rw [natOf_snoc] at this
    simp only [List.append_assoc, List.singleton_append] at this
    omega
theorem natOf_take (l : List Int) (k : Nat) : natOf (l.take k) ≤ natOf l := by
  have := natOf_app (l.take k) (l.drop k)
  rwa [List.take_append_drop] at this
/-- All of these are digits. -/
def Digs (l : List Int) : Prop := ∀ x ∈ l, isDig x = true
theorem tkd_digs (l : List Int) : Digs (tkd l) := fun x hx => by
  have h := List.all_takeWhile (p := isDig) (l := l)
  exact List.all_eq_true.1 h x hx
theorem Digs.nx {l : List Int} (h : Digs l) {k : Nat} (hk : k < l.length) : isDig (nx l k) = true := by
  simp only [Proofs.YtmkbjcoagfnegabGreatDoor.nx, List.getD_eq_getElem?_getD, List.getElem?_eq_getElem hk]
  exact h _ (List.getElem_mem hk)
theorem natOf_step {l : List Int} {k : Nat} (h : Digs l) (hk : k < l.length) : natOf (l.take (k + 1)) = natOf (l.take k) * 10 + (nx l k - 48).toNat ∧ 48 ≤ nx l k ∧ nx l k ≤ 57 := by
  have hd := h.nx hk
  rw [nx_take (isDig_ne1 hd), natOf_snoc]
  simp [isDig] at hd
  exact ⟨rfl, hd.1, hd.2⟩
/-- As great as it is, or both very great, or both very small. -/
def Near (e E : Int) : Prop := e = E ∨ (1099511627776 ≤ e ∧ e ≤ 18014398509481984 ∧ 1099511627776 ≤ E) ∨ (e ≤ -1099511627776 ∧ -18014398509481984 ≤ e ∧ E ≤ -1099511627776)
theorem Near.neg {e E : Int} (h : Near e E) : Near (-e) (-E) := by unfold Near at *; omega
theorem Near.bd {e E : Int} (h : Near e E) (hE : -1099511627776 ≤ E ∧ E ≤ 1099511627776 ∨ True) : e = E ∨ (-18014398509481984 ≤ e ∧ e ≤ 18014398509481984) := by unfold Near at h; omega
/-- The state of the loop over an exponent's digits. -/
def RelEx (ds : List Int) (e i : Value) : Prop := ∃ k m : Nat, k ≤ ds.length ∧ i = .int .i64 k ∧ e = .int .i64 m ∧ m ≤ 11258999068426249 ∧ Hid (m = natOf (ds.take k))
theorem RelEx.mk {ds : List Int} {e i : Value} (k m : Nat) (h1 : k ≤ ds.length) (h2 : i = .int .i64 k) (h3 : e = .int .i64 m) (h4 : m ≤ 11258999068426249) (h5 : m = natOf (ds.take k)) : RelEx ds e i := ⟨k, m, h1, h2, h3, h4, h5⟩
/-- What is told of an exponent. -/
def ExR (s : List Int) (e : Int) (ok : Bool) : Prop := match expo s with | none => e = 0 ∧ ok = false | some E => ok = true ∧ Near e E ∧ -18014398509481984 ≤ e ∧ e ≤ 18014398509481984
theorem expo_no {s : List Int} (h1 : nx s 0 ≠ 101) (h2 : nx s 0 ≠ 69) : expo s = none := by unfold expo; rw [if_pos ⟨h1, h2⟩]
theorem expo_no2 {s : List Int} (h1 : nx s 0 = 101 ∨ nx s 0 = 69) (h2 : tkd (sgn (s.drop 1)).2 = [] ∨ dgs (sgn (s.drop 1)).2 ≠ []) : expo s = none := by
  unfold expo; rw [if_neg (by omega), if_pos h2]
theorem expo_yes {s : List Int} (h1 : nx s 0 = 101 ∨ nx s 0 = 69) (h2 : tkd (sgn (s.drop 1)).2 ≠ []) (h3 : dgs (sgn (s.drop 1)).2 = []) :
    expo s = some (if (sgn (s.drop 1)).1 then -(natOf (tkd (sgn (s.drop 1)).2) : Int) else natOf (tkd (sgn (s.drop 1)).2)) := by
  unfold expo; rw [if_neg (by omega), if_neg (by rintro (h | h); exact h2 h; exact h h3)]
theorem sgn_len (s : List Int) : (sgn s).2.length ≤ s.length := by unfold sgn; split <;> simp
theorem tkd_len (s : List Int) : (tkd s).length ≤ s.length := (List.takeWhile_sublist _).length_le
theorem ext_size (s : ByteArray) (a : Nat) : (s.extract a s.size).size = s.size - a := by rw [← bl_len, bl_drop, List.length_drop, bl_len]
theorem near_of {m N : Nat} (h : m = N ∨ (1125899906842624 ≤ m ∧ m ≤ N)) (hm : m ≤ 11258999068426249) : Near (m : Int) (N : Int) ∧ -18014398509481984 ≤ (m : Int) ∧ (m : Int) ≤ 18014398509481984 := by
  unfold Near; omega
theorem exR_yes {s : List Int} {m : Nat} (h1 : nx s 0 = 101 ∨ nx s 0 = 69) (h2 : tkd (sgn (s.drop 1)).2 ≠ []) (h3 : dgs (sgn (s.drop 1)).2 = [])
    (h : m = natOf (tkd (sgn (s.drop 1)).2) ∨ (1125899906842624 ≤ m ∧ m ≤ natOf (tkd (sgn (s.drop 1)).2))) (hm : m ≤ 11258999068426249) :
    ((sgn (s.drop 1)).1 = true → ExR s (-(m : Int)) true) ∧ ((sgn (s.drop 1)).1 = false → ExR s (m : Int) true) := by
  obtain ⟨a, b, c⟩ := near_of h hm
  refine ⟨fun hb => ?_, fun hb => ?_⟩
  · unfold ExR; rw [expo_yes h1 h2 h3, hb]
    exact ⟨rfl, a.neg, by omega, by omega⟩
  · unfold ExR; rw [expo_yes h1 h2 h3, hb]
    exact ⟨rfl, a, by omega, by omega⟩
def PostEx (s : ByteArray) (w : World) (e : Ending) (w' : World) : Prop := ∃ (x : Int) (ok : Bool), e = .returned (.tuple #[.int .i64 x, .bool ok]) ∧ ExR (bl s) x ok ∧ ∃ q, w' = w.drewN q
theorem PostEx.mk {s : ByteArray} {w w' : World} {e : Ending} (x : Int) (ok : Bool) (h1 : e = .returned (.tuple #[.int .i64 x, .bool ok])) (h2 : ExR (bl s) x ok) (q : Nat) (h3 : w' = w.drewN q) : PostEx s w e w' := ⟨x, ok, h1, h2, q, h3⟩
end Go.Proofs.YtmkbjcoagfnegabGreatDoor
