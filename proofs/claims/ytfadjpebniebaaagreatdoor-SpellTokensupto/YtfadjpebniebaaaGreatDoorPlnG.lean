/-
  A fraction as a number of a stylesheet, by the reference.
-/
import Derived.Test.YtfadjpebniebaaaGreatDoorPlnF
set_option linter.unusedVariables false
set_option linter.unusedSimpArgs false
namespace Go.Proofs.YtfadjpebniebaaaGreatDoor
open Go.RowKit

/-! ### Plain -/
def RelRp (N D : Nat) (a b c : Value) : Prop := ∃ m x q : Nat, a = .int .u64 m ∧ b = .int .u64 x ∧ c = .int .i64 q ∧ m ≤ 9223372036854775807 ∧ 1 ≤ x ∧ x ≤ 9223372036854775807 ∧ q ≤ 63 ∧ Hid (fin N D 0 = fin m x q ∧ x * 2 ^ q ≤ D)
theorem RelRp.mk {N D : Nat} {a b c : Value} (m x q : Nat) (h1 : a = .int .u64 m) (h2 : b = .int .u64 x) (h3 : c = .int .i64 q) (h4 : m ≤ 9223372036854775807) (h5 : 1 ≤ x) (h6 : x ≤ 9223372036854775807) (h7 : q ≤ 63) (h8 : fin N D 0 = fin m x q ∧ x * 2 ^ q ≤ D) : RelRp N D a b c := ⟨m, x, q, h1, h2, h3, h4, h5, h6, h7, h8⟩
theorem rp_q {x q D : Nat} (h : x * 2 ^ q ≤ D) (hx : 1 ≤ x) (hD : D ≤ 9223372036854775807) : q ≤ 62 := by
  refine Nat.le_of_not_lt fun hq => ?_
  have h1 : 2 ^ 63 ≤ 2 ^ q := Nat.pow_le_pow_right (by omega) hq
  have h2 : 1 * 2 ^ q ≤ x * 2 ^ q := Nat.mul_le_mul_right _ hx
  have h3 : (2 : Nat) ^ 63 = 9223372036854775808 := by decide
  omega
theorem rp_half {x y q D : Nat} (h : x * 2 ^ q ≤ D) (hy : 2 * y ≤ x) : y * 2 ^ (q + 1) ≤ D := by
  rw [Nat.pow_succ]
  have h1 : 2 * y * 2 ^ q ≤ x * 2 ^ q := Nat.mul_le_mul_right _ hy
  have e : y * (2 ^ q * 2) = 2 * y * 2 ^ q := by grind
  omega
theorem rp_one {x q D : Nat} (h : x * 2 ^ q ≤ D) : x ≤ D := by
  have : x * 1 ≤ x * 2 ^ q := Nat.mul_le_mul_left _ (Nat.pow_pos (by omega))
  omega
/-- Too many digits, ahead of the end. -/
theorem rp_no {n : Int} {D m x q : Nat} {wh : Bool} (hv : isV n D = true) (hx : 1 < x) (hr : fin (ab n).toNat D 0 = fin m x q ∧ x * 2 ^ q ≤ D) (hm : 1000000000000000000 ≤ m ∨ (x % 2 ≠ 0 ∧ x % 5 ≠ 0)) : plV n D wh = none := by
  obtain ⟨hd, hmin, hg⟩ := isV_out hv
  unfold plV
  rw [Int.toNat_natCast] at *
  have hD : 1 < D := Nat.lt_of_lt_of_le hx (rp_one hr.2)
  cases hf : fin (ab n).toNat D 0 with
  | none => rfl
  | some r =>
    obtain ⟨M, p⟩ := r
    simp only
    rw [if_pos]
    rw [cutR_dgt (fin_ten_no hf hD hg)]
    rw [hr.1] at hf
    rcases hm with hm | ⟨h2, h5⟩
    · have := fin_ge hf
      exact dgt_len18.2 (by omega)
    · rw [fin_none hx h5 h2] at hf; cases hf
/-! ### The digits that count -/
def RelCt (ds : List Int) (c : Value) : Prop := ∃ k : Nat, c = .int .i64 k ∧ 1 ≤ k ∧ k ≤ ds.length ∧ Hid (cutR ds = cutR (ds.take k))
theorem RelCt.mk {ds : List Int} {c : Value} (k : Nat) (h1 : c = .int .i64 k) (h2 : 1 ≤ k) (h3 : k ≤ ds.length) (h4 : cutR ds = cutR (ds.take k)) : RelCt ds c := ⟨k, h1, h2, h3, h4⟩
theorem ct_take {ds : List Int} {k : Nat} (h : k < ds.length) : ds.take (k + 1) = ds.take k ++ [nx ds k] := by
  rw [List.take_succ_eq_append_getElem h]
  congr 2
  simp [nx, List.getD_eq_getElem?_getD, List.getElem?_eq_getElem h]
theorem ct_step {ds : List Int} {k : Nat} (h : k < ds.length) (h0 : nx ds k = 48) (hr : cutR ds = cutR (ds.take (k + 1))) : cutR ds = cutR (ds.take k) := by
  rw [hr, ct_take h, h0, cutR_zero]
theorem ct_len (l : List Int) : (cutR l).length ≤ l.length := by
  have := congrArg List.length (cutR_ends l)
  rw [List.length_append] at this; omega
theorem ct_end {ds : List Int} {k : Nat} (hk : 1 ≤ k) (hl : k ≤ ds.length) (hr : cutR ds = cutR (ds.take k)) (h : k = 1 ∨ nx ds (k - 1) ≠ 48) : 18 < (cutR ds).length ↔ 18 < k := by
  rcases h with rfl | h
  · have := ct_len (ds.take 1)
    rw [← hr, List.length_take] at this
    omega
  · obtain ⟨j, rfl⟩ : ∃ j, k = j + 1 := ⟨k - 1, by omega⟩
    rw [Nat.add_sub_cancel] at h
    rw [hr, ct_take (by omega), cutR_snoc h, List.length_append, List.length_take]
    simp; omega
/-! ### Noughts ahead -/
def RelPd (ds : List Int) (p : Nat) (v : Value) : Prop := ∃ s : ByteArray, v = .string s ∧ s.size ≤ 100 ∧ 1 ≤ s.size ∧ Hid (∃ j, bl s = List.replicate j 48 ++ ds ∧ j ≤ p + 1 - ds.length)
theorem RelPd.mk {ds : List Int} {p : Nat} {v : Value} (s : ByteArray) (h1 : v = .string s) (h2 : s.size ≤ 100) (h3 : 1 ≤ s.size) (j : Nat) (h4 : bl s = List.replicate j 48 ++ ds) (h5 : j ≤ p + 1 - ds.length) : RelPd ds p v := ⟨s, h1, h2, h3, j, h4, h5⟩
theorem pd_end {ds : List Int} {p j : Nat} {s : ByteArray} (h : bl s = List.replicate j 48 ++ ds) (hj : j ≤ p + 1 - ds.length) (hs : p < s.size) : bl s = pad ds p := by
  have hl := congrArg List.length h
  rw [bl_len, List.length_append, List.length_replicate] at hl
  unfold pad
  rw [h, show j = p + 1 - ds.length by omega]
theorem pd_step {ds : List Int} {j : Nat} {s : ByteArray} (h : bl s = List.replicate j 48 ++ ds) : bl ((⟨#[48]⟩ : ByteArray) ++ s) = List.replicate (j + 1) 48 ++ ds := by
  rw [bl_app, h, List.replicate_succ]; rfl
theorem pd_len {ds : List Int} {j : Nat} {s : ByteArray} (h : bl s = List.replicate j 48 ++ ds) : s.size = j + ds.length := by
  rw [← bl_len, h, List.length_append, List.length_replicate]
/-- The text, put together. -/
theorem rp_text {ds : List Int} {p : Nat} {s : ByteArray} (h : bl s = pad ds p) (hl : 0 < ds.length) (n : Int) :
    (p ≠ 0 → (n < 0 → bl ((⟨#[45]⟩ : ByteArray) ++ (s.extract 0 (s.size - p) ++ ⟨#[46]⟩ ++ s.extract (s.size - p) s.size)) = neg1 n ++ ptd ds p) ∧ (¬ n < 0 → bl (s.extract 0 (s.size - p) ++ ⟨#[46]⟩ ++ s.extract (s.size - p) s.size) = neg1 n ++ ptd ds p)) ∧
    (p = 0 → (n < 0 → bl ((⟨#[45]⟩ : ByteArray) ++ (s.extract 0 (s.size - p) ++ ⟨#[46]⟩ ++ ⟨#[48]⟩ ++ s.extract (s.size - p) s.size)) = neg1 n ++ ptd ds p) ∧ (¬ n < 0 → bl (s.extract 0 (s.size - p) ++ ⟨#[46]⟩ ++ ⟨#[48]⟩ ++ s.extract (s.size - p) s.size) = neg1 n ++ ptd ds p)) ∧
    (p = 0 → (n < 0 → bl ((⟨#[45]⟩ : ByteArray) ++ s.extract 0 (s.size - p)) = neg1 n ++ ds) ∧ (¬ n < 0 → bl (s.extract 0 (s.size - p)) = neg1 n ++ ds)) := by
  refine ⟨fun hp => ?_, fun hp => ?_, fun hp => ?_⟩
  · have := ptd_any hp h
    exact ⟨(neg_bl this).1, (neg_bl this).2⟩
  · subst hp
    have e : bl (s.extract 0 (s.size - 0) ++ ⟨#[46]⟩ ++ ⟨#[48]⟩ ++ s.extract (s.size - 0) s.size) = ptd ds 0 := by
      rw [bl_app, bl_app, bl_app, bl_take, bl_drop, h]
      unfold ptd
      rw [if_pos rfl, Nat.sub_zero, Nat.sub_zero, ← bl_len, h, List.drop_length, List.take_length, List.append_nil, List.append_assoc]
      rfl
    exact ⟨(neg_bl e).1, (neg_bl e).2⟩
  · subst hp
    have e : bl (s.extract 0 (s.size - 0)) = ds := by
      rw [bl_take, Nat.sub_zero, ← bl_len, List.take_length, h, pad_none hl]
    exact ⟨(neg_bl e).1, (neg_bl e).2⟩
end Go.Proofs.YtfadjpebniebaaaGreatDoor
