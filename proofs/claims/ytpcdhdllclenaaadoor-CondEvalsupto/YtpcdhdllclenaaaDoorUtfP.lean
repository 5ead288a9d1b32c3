/-
  Plain: characters and their bytes, as lists of numbers; what the two programs compute, and what follows.
-/
import Derived.Test.YtpcdhdllclenaaaDoorRows
import Derived.Laws.DeepBits32
import Derived.RowKit3
import Derived.Below
set_option linter.unusedVariables false
namespace Go.Proofs.YtpcdhdllclenaaaDoor
open Go.RowKit

/-- How many bytes a character has that begins so; none: 0. -/
def szOf (a : Int) : Nat := if a ≤ 127 then 1 else if a ≤ 193 then 0 else if a ≤ 223 then 2 else if a ≤ 239 then 3 else if a ≤ 244 then 4 else 0
def loOf (a : Int) : Int := if a ≤ 193 then 0 else if a = 224 then 160 else if a = 240 then 144 else if a ≤ 244 then 128 else 0
def hiOf (a : Int) : Int := if a ≤ 193 then 0 else if a = 237 then 159 else if a = 244 then 143 else if a ≤ 244 then 191 else 0
def ldOf (a : Int) : Int := if a ≤ 127 then a else if a ≤ 223 then a % 32 else if a ≤ 239 then a % 16 else a % 8
/-- The followers: so many are wanted, so many bytes are gone. -/
def fol : Nat → Int → Int → Int → Nat → List Int → Int × Nat × Bool
  | 0, c, _, _, k, _ => (c, k, true)
  | _ + 1, _, _, _, k, [] => (65533, k, false)
  | m + 1, c, lo, hi, k, b :: r => if b < lo ∨ hi < b then (65533, k, false) else fol m (c * 64 + b % 64) 128 191 (k + 1) r
/-- What stands at the front. -/
def stp : List Int → Int × Nat × Bool
  | [] => (65533, 1, false)
  | a :: r => if szOf a = 0 then (65533, 1, false) else fol (szOf a - 1) (ldOf a) (loOf a) (hiOf a) 1 r

theorem fol_len (m : Nat) : ∀ (c lo hi : Int) (k : Nat) (r : List Int), k ≤ (fol m c lo hi k r).2.1 ∧ (fol m c lo hi k r).2.1 ≤ k + m ∧ (fol m c lo hi k r).2.1 ≤ k + r.length := by
  induction m with
  | zero => intro c lo hi k r; simp [fol]
  | succ m ih =>
    intro c lo hi k r
    cases r with
    | nil => simp [fol]
    | cons b r =>
      simp only [fol]
      split
      · simp
      · have := ih (c * 64 + b % 64) 128 191 (k + 1) r
        simp only [List.length_cons]
        omega
theorem szOf_le (a : Int) : szOf a ≤ 4 := by unfold szOf; split <;> (try split) <;> (try split) <;> (try split) <;> (try split) <;> omega
theorem stp_len (bs : List Int) (h : bs ≠ []) : 1 ≤ (stp bs).2.1 ∧ (stp bs).2.1 ≤ 4 ∧ (stp bs).2.1 ≤ bs.length := by
  cases bs with
  | nil => exact absurd rfl h
  | cons a r =>
    simp only [stp]
    split
    · simp
    · have := fol_len (szOf a - 1) (ldOf a) (loOf a) (hiOf a) 1 r
      have := szOf_le a
      simp only [List.length_cons]
      omega
theorem stp_one (bs : List Int) : 1 ≤ (stp bs).2.1 := by
  by_cases h : bs = []
  · subst h; simp [stp]
  · exact (stp_len bs h).1

def raw (bs : List Int) : List Int := if h : bs = [] then [] else (stp bs).1 :: raw (bs.drop (stp bs).2.1)
termination_by bs.length
decreasing_by
  have h1 := stp_one bs
  have h2 : 0 < bs.length := List.length_pos_iff.2 h
  simp only [List.length_drop]; omega
def whole (bs : List Int) : Bool := if h : bs = [] then true else (stp bs).2.2 && whole (bs.drop (stp bs).2.1)
termination_by bs.length
decreasing_by
  have h1 := stp_one bs
  have h2 : 0 < bs.length := List.length_pos_iff.2 h
  simp only [List.length_drop]; omega
theorem raw_nil : raw [] = [] := by rw [raw]; simp
theorem whole_nil : whole [] = true := by rw [whole]; simp
theorem raw_cut {bs : List Int} (h : bs ≠ []) : raw bs = (stp bs).1 :: raw (bs.drop (stp bs).2.1) := by rw [raw]; simp [h]
theorem whole_cut {bs : List Int} (h : bs ≠ []) : whole bs = ((stp bs).2.2 && whole (bs.drop (stp bs).2.1)) := by rw [whole]; simp [h]

/-- A character. -/
def isC (x : Int) : Bool := decide (0 ≤ x) && (decide (x ≤ 1114111) && (decide (x < 55296) || decide (57343 < x)))
def chr (x : Int) : Int := if isC x then x else 65533
def enc1 (x : Int) : List Int :=
  if x ≤ 127 then [x] else if x ≤ 2047 then [192 + x / 64, 128 + x % 64]
  else if x ≤ 65535 then [224 + x / 4096, 128 + x / 64 % 64, 128 + x % 64]
  else [240 + x / 262144, 128 + x / 4096 % 64, 128 + x / 64 % 64, 128 + x % 64]
def enc (l : List Int) : List Int := l.flatMap fun x => enc1 (chr x)
theorem isC_iff (x : Int) : isC x = true ↔ 0 ≤ x ∧ x ≤ 1114111 ∧ (x < 55296 ∨ 57343 < x) := by simp [isC]
theorem isC_chr (x : Int) : isC (chr x) = true := by
  unfold chr; split
  · assumption
  · rw [isC_iff]; omega
theorem enc1_len (x : Int) : 1 ≤ (enc1 x).length ∧ (enc1 x).length ≤ 4 := by
  unfold enc1; split <;> (try split) <;> (try split) <;> simp
theorem enc_len (l : List Int) : l.length ≤ (enc l).length ∧ (enc l).length ≤ 4 * l.length := by
  induction l with
  | nil => simp [enc]
  | cons x l ih =>
    have := enc1_len (chr x)
    simp only [enc, List.flatMap_cons, List.length_append, List.length_cons] at ih ⊢
    omega
theorem enc_snoc (l : List Int) (x : Int) : enc (l ++ [x]) = enc l ++ enc1 (chr x) := by simp [enc]

/-- A character's bytes, read. -/
theorem stp_enc (x : Int) (r : List Int) (h : isC x = true) : stp (enc1 x ++ r) = (x, (enc1 x).length, true) := by
  rw [isC_iff] at h
  unfold enc1
  by_cases h1 : x ≤ 127
  · simp [h1, stp, szOf, fol, ldOf]
  by_cases h2 : x ≤ 2047
  · have e1 : szOf (192 + x / 64) = 2 := by unfold szOf; rw [if_neg (by omega), if_neg (by omega), if_pos (by omega)]
    have e2 : loOf (192 + x / 64) = 128 := by unfold loOf; rw [if_neg (by omega), if_neg (by omega), if_neg (by omega), if_pos (by omega)]
    have e3 : hiOf (192 + x / 64) = 191 := by unfold hiOf; rw [if_neg (by omega), if_neg (by omega), if_neg (by omega), if_pos (by omega)]
    have e4 : ldOf (192 + x / 64) = x / 64 := by unfold ldOf; rw [if_neg (by omega), if_pos (by omega)]; omega
    rw [if_neg h1, if_pos h2]
    simp only [List.cons_append, List.nil_append, stp, e1, e2, e3, e4, fol, List.length_cons, List.length_nil]
    rw [if_neg (by omega), if_neg (by omega)]
    simp only [Prod.mk.injEq, and_true]
    omega
  by_cases h3 : x ≤ 65535
  · have e1 : szOf (224 + x / 4096) = 3 := by unfold szOf; rw [if_neg (by omega), if_neg (by omega), if_neg (by omega), if_pos (by omega)]
    have e2 : loOf (224 + x / 4096) = if x / 4096 = 0 then 160 else 128 := by
      unfold loOf; rw [if_neg (by omega)]
      by_cases h : x / 4096 = 0
      · rw [if_pos (by omega), if_pos h]
      · rw [if_neg (by omega), if_neg (by omega), if_pos (by omega), if_neg h]
    have e3 : hiOf (224 + x / 4096) = if x / 4096 = 13 then 159 else 191 := by
      unfold hiOf; rw [if_neg (by omega)]
      by_cases h : x / 4096 = 13
      · rw [if_pos (by omega), if_pos h]
      · rw [if_neg (by omega), if_neg (by omega), if_pos (by omega), if_neg h]
    have e4 : ldOf (224 + x / 4096) = x / 4096 := by unfold ldOf; rw [if_neg (by omega), if_neg (by omega), if_pos (by omega)]; omega
    rw [if_neg h1, if_neg h2, if_pos h3]
    simp only [List.cons_append, List.nil_append, stp, e1, e2, e3, e4, fol, List.length_cons, List.length_nil]
    rw [if_neg (by omega), if_neg (by split <;> split <;> omega), if_neg (by omega)]
    simp only [Prod.mk.injEq, and_true]
    omega
  · have e1 : szOf (240 + x / 262144) = 4 := by unfold szOf; rw [if_neg (by omega), if_neg (by omega), if_neg (by omega), if_neg (by omega), if_pos (by omega)]
    have e2 : loOf (240 + x / 262144) = if x / 262144 = 0 then 144 else 128 := by
      unfold loOf; rw [if_neg (by omega), if_neg (by omega)]
      by_cases h : x / 262144 = 0
      · rw [if_pos (by omega), if_pos h]
      · rw [if_neg (by omega), if_pos (by omega), if_neg h]
    have e3 : hiOf (240 + x / 262144) = if x / 262144 = 4 then 143 else 191 := by
      unfold hiOf; rw [if_neg (by omega), if_neg (by omega)]
      by_cases h : x / 262144 = 4
      · rw [if_pos (by omega), if_pos h]
      · rw [if_neg (by omega), if_pos (by omega), if_neg h]
    have e4 : ldOf (240 + x / 262144) = x / 262144 := by unfold ldOf; rw [if_neg (by omega), if_neg (by omega), if_neg (by omega)]; omega
    rw [if_neg h1, if_neg h2, if_neg h3]
    simp only [List.cons_append, List.nil_append, stp, e1, e2, e3, e4, fol, List.length_cons, List.length_nil]
    rw [if_neg (by omega), if_neg (by split <;> split <;> omega), if_neg (by omega), if_neg (by omega)]
    simp only [Prod.mk.injEq, and_true]
    omega

/-- Bytes. -/
def By (bs : List Int) : Prop := ∀ x ∈ bs, 0 ≤ x ∧ x ≤ 255
theorem By.drop {bs : List Int} (h : By bs) (n : Nat) : By (bs.drop n) := fun x hx => h x (List.mem_of_mem_drop hx)
theorem By.at {bs : List Int} (h : By bs) {i : Nat} (hi : i < bs.length) : 0 ≤ bs.getD i 0 ∧ bs.getD i 0 ≤ 255 := by
  rw [List.getD_eq_getElem?_getD, List.getElem?_eq_getElem hi]
  exact h _ (List.getElem_mem hi)

/-- What is told to be a character is one, and its bytes stood there. -/
theorem stp_back (bs : List Int) (hb : By bs) (h : bs ≠ []) (ht : (stp bs).2.2 = true) :
    isC (stp bs).1 = true ∧ bs = enc1 (stp bs).1 ++ bs.drop (stp bs).2.1 := by
  cases bs with
  | nil => exact absurd rfl h
  | cons a r =>
    have ha : 0 ≤ a ∧ a ≤ 255 := hb a (by simp)
    have hr : ∀ x ∈ r, 0 ≤ x ∧ x ≤ 255 := fun x hx => hb x (by simp [hx])
    simp only [stp] at ht ⊢
    by_cases z : szOf a = 0
    · rw [if_pos z] at ht; simp at ht
    rw [if_neg z] at ht ⊢
    have key : (a ≤ 127 ∧ szOf a = 1) ∨ (194 ≤ a ∧ a ≤ 223 ∧ szOf a = 2) ∨ (224 ≤ a ∧ a ≤ 239 ∧ szOf a = 3) ∨ (240 ≤ a ∧ a ≤ 244 ∧ szOf a = 4) := by
      unfold szOf at z ⊢
      by_cases g1 : a ≤ 127
      · left; rw [if_pos g1]; omega
      rw [if_neg g1] at z ⊢
      by_cases g2 : a ≤ 193
      · rw [if_pos g2] at z; omega
      rw [if_neg g2] at z ⊢
      by_cases g3 : a ≤ 223
      · right; left; rw [if_pos g3]; omega
      rw [if_neg g3] at z ⊢
      by_cases g4 : a ≤ 239
      · right; right; left; rw [if_pos g4]; omega
      rw [if_neg g4] at z ⊢
      by_cases g5 : a ≤ 244
      · right; right; right; rw [if_pos g5]; omega
      rw [if_neg g5] at z; omega
    rcases key with ⟨g, e⟩ | ⟨g1, g2, e⟩ | ⟨g1, g2, e⟩ | ⟨g1, g2, e⟩
    · have e4 : ldOf a = a := by unfold ldOf; rw [if_pos g]
      rw [e, e4]
      show isC a = true ∧ a :: r = enc1 a ++ (a :: r).drop 1
      refine ⟨by rw [isC_iff]; omega, by unfold enc1; rw [if_pos g]; simp⟩
    · have e4 : ldOf a = a - 192 := by unfold ldOf; rw [if_neg (by omega), if_pos (by omega)]; omega
      have e2 : loOf a = 128 := by unfold loOf; rw [if_neg (by omega), if_neg (by omega), if_neg (by omega), if_pos (by omega)]
      have e3 : hiOf a = 191 := by unfold hiOf; rw [if_neg (by omega), if_neg (by omega), if_neg (by omega), if_pos (by omega)]
      rw [e, e4, e2, e3] at ht ⊢
      cases r with
      | nil => simp [fol] at ht
      | cons b r =>
        have hbb := hr b (by simp)
        simp only [fol] at ht ⊢
        by_cases q : b < 128 ∨ 191 < b
        · rw [if_pos q] at ht; simp at ht
        rw [if_neg q] at ht ⊢
        simp only [isC_iff]
        refine ⟨by omega, ?_⟩
        unfold enc1
        rw [if_neg (by omega), if_pos (by omega)]
        simp
        omega
    · have e4 : ldOf a = a - 224 := by unfold ldOf; rw [if_neg (by omega), if_neg (by omega), if_pos (by omega)]; omega
      have e2 : loOf a = if a = 224 then 160 else 128 := by
        unfold loOf; rw [if_neg (by omega)]
        by_cases h : a = 224
        · rw [if_pos h, if_pos h]
        · rw [if_neg h, if_neg (by omega), if_pos (by omega), if_neg h]
      have e3 : hiOf a = if a = 237 then 159 else 191 := by
        unfold hiOf; rw [if_neg (by omega)]
        by_cases h : a = 237
        · rw [if_pos h, if_pos h]
        · rw [if_neg h, if_neg (by omega), if_pos (by omega), if_neg h]
      rw [e, e4, e2, e3] at ht ⊢
      cases r with
      | nil => simp [fol] at ht
      | cons b r =>
        have hbb := hr b (by simp)
        simp only [fol] at ht ⊢
        by_cases q : b < (if a = 224 then 160 else 128) ∨ (if a = 237 then 159 else 191) < b
        · rw [if_pos q] at ht; simp at ht
        rw [if_neg q] at ht ⊢
        have q1 : a = 224 → 160 ≤ b := fun h => by rw [if_pos h] at q; omega
        have q2 : a = 237 → b ≤ 159 := fun h => by rw [if_pos h] at q; omega
        have q3 : 128 ≤ b ∧ b ≤ 191 := by split at q <;> split at q <;> omega
        cases r with
        | nil => simp [fol] at ht
        | cons c r =>
          have hcc := hr c (by simp)
          simp only [fol] at ht ⊢
          by_cases p : c < 128 ∨ 191 < c
          · rw [if_pos p] at ht; simp at ht
          rw [if_neg p] at ht ⊢
          simp only [isC_iff]
          refine ⟨by omega, ?_⟩
          unfold enc1
          rw [if_neg (by omega), if_neg (by omega), if_pos (by omega)]
          simp
          omega
    · have e4 : ldOf a = a - 240 := by unfold ldOf; rw [if_neg (by omega), if_neg (by omega), if_neg (by omega)]; omega
      have e2 : loOf a = if a = 240 then 144 else 128 := by
        unfold loOf; rw [if_neg (by omega), if_neg (by omega)]
        by_cases h : a = 240
        · rw [if_pos h, if_pos h]
        · rw [if_neg h, if_pos (by omega), if_neg h]
      have e3 : hiOf a = if a = 244 then 143 else 191 := by
        unfold hiOf; rw [if_neg (by omega), if_neg (by omega)]
        by_cases h : a = 244
        · rw [if_pos h, if_pos h]
        · rw [if_neg h, if_pos (by omega), if_neg h]
      rw [e, e4, e2, e3] at ht ⊢
      cases r with
      | nil => simp [fol] at ht
      | cons b r =>
        have hbb := hr b (by simp)
        simp only [fol] at ht ⊢
        by_cases q : b < (if a = 240 then 144 else 128) ∨ (if a = 244 then 143 else 191) < b
        · rw [if_pos q] at ht; simp at ht
        rw [if_neg q] at ht ⊢
        have q1 : a = 240 → 144 ≤ b := fun h => by rw [if_pos h] at q; omega
        have q2 : a = 244 → b ≤ 143 := fun h => by rw [if_pos h] at q; omega
        have q3 : 128 ≤ b ∧ b ≤ 191 := by split at q <;> split at q <;> omega
        cases r with
        | nil => simp [fol] at ht
        | cons c r =>
          have hcc := hr c (by simp)
          simp only [fol] at ht ⊢
          by_cases p : c < 128 ∨ 191 < c
          · rw [if_pos p] at ht; simp at ht
          rw [if_neg p] at ht ⊢
          cases r with
          | nil => simp [fol] at ht
          | cons d r =>
            have hdd := hr d (by simp)
            simp only [fol] at ht ⊢
            by_cases p' : d < 128 ∨ 191 < d
            · rw [if_pos p'] at ht; simp at ht
            rw [if_neg p'] at ht ⊢
            simp only [isC_iff]
            refine ⟨by omega, ?_⟩
            unfold enc1
            rw [if_neg (by omega), if_neg (by omega), if_neg (by omega)]
            simp
            omega

/-! the bits -/
theorem ofInt32 (a : Nat) (ha : a < 4294967296) : (BitVec.ofInt 32 (a : Int)).toNat = a := by
  rw [BitVec.ofInt_natCast, BitVec.toNat_ofNat]; exact Nat.mod_eq_of_lt (by omega)
theorem i32_and_nat (a b : Nat) (ha : a < 2147483648) (hb : b < 2147483648) : bits .and .i32 (a : Int) (b : Int) = ((a &&& b : Nat) : Int) := by
  have hx : a &&& b < 2 ^ 31 := Nat.and_lt_two_pow _ (by omega)
  show IntKind.i32.wrap ((BitVec.ofInt 32 (a : Int) &&& BitVec.ofInt 32 (b : Int)).toNat : Int) = _
  rw [BitVec.toNat_and, ofInt32 a (by omega), ofInt32 b (by omega)]
  exact wrap_i32_small _ (by omega) (by omega)
theorem i32_or_nat (a b : Nat) (ha : a < 2147483648) (hb : b < 2147483648) : bits .or .i32 (a : Int) (b : Int) = ((a ||| b : Nat) : Int) := by
  have hx : a ||| b < 2 ^ 31 := Nat.or_lt_two_pow (by omega) (by omega)
  show IntKind.i32.wrap ((BitVec.ofInt 32 (a : Int) ||| BitVec.ofInt 32 (b : Int)).toNat : Int) = _
  rw [BitVec.toNat_or, ofInt32 a (by omega), ofInt32 b (by omega)]
  exact wrap_i32_small _ (by omega) (by omega)
theorem and_mask (a n : Nat) : a &&& (2 ^ n - 1) = a % 2 ^ n := Nat.and_two_pow_sub_one_eq_mod a n
theorem or_add (a b n : Nat) (h : b < 2 ^ n) : (a * 2 ^ n) ||| b = a * 2 ^ n + b := by
  rw [Nat.mul_comm]; exact (Nat.two_pow_add_eq_or_of_lt h a).symm
theorem u8_and63 (x : Int) (h0 : 0 ≤ x) (h1 : x ≤ 255) : bits .and .u8 x 63 = x % 64 := by
  obtain ⟨n, rfl⟩ := Int.eq_ofNat_of_zero_le h0
  rw [show (63 : Int) = ((63 : Nat) : Int) from rfl, u8_and_nat _ _ (by omega) (by omega), show (63 : Nat) = 2 ^ 6 - 1 from rfl, and_mask]; omega
theorem u8_and31 (x : Int) (h0 : 0 ≤ x) (h1 : x ≤ 255) : bits .and .u8 x 31 = x % 32 := by
  obtain ⟨n, rfl⟩ := Int.eq_ofNat_of_zero_le h0
  rw [show (31 : Int) = ((31 : Nat) : Int) from rfl, u8_and_nat _ _ (by omega) (by omega), show (31 : Nat) = 2 ^ 5 - 1 from rfl, and_mask]; omega
theorem u8_and15 (x : Int) (h0 : 0 ≤ x) (h1 : x ≤ 255) : bits .and .u8 x 15 = x % 16 := by
  obtain ⟨n, rfl⟩ := Int.eq_ofNat_of_zero_le h0
  rw [show (15 : Int) = ((15 : Nat) : Int) from rfl, u8_and_nat _ _ (by omega) (by omega), show (15 : Nat) = 2 ^ 4 - 1 from rfl, and_mask]; omega
theorem u8_and7 (x : Int) (h0 : 0 ≤ x) (h1 : x ≤ 255) : bits .and .u8 x 7 = x % 8 := by
  obtain ⟨n, rfl⟩ := Int.eq_ofNat_of_zero_le h0
  rw [show (7 : Int) = ((7 : Nat) : Int) from rfl, u8_and_nat _ _ (by omega) (by omega), show (7 : Nat) = 2 ^ 3 - 1 from rfl, and_mask]; omega
theorem i32_andm (x : Int) (n : Nat) (hn : n < 31) (h0 : 0 ≤ x) (h1 : x < 2147483648) : bits .and .i32 x ((2 ^ n - 1 : Nat) : Int) = x % (2 ^ n : Nat) := by
  obtain ⟨a, rfl⟩ := Int.eq_ofNat_of_zero_le h0
  have hp : 2 ^ n ≤ 2 ^ 30 := Nat.pow_le_pow_right (by omega) (by omega)
  rw [i32_and_nat _ _ (by omega) (by omega), and_mask]
  exact Int.natCast_emod _ _
theorem i32_orm (a b : Int) (n : Nat) (h0 : 0 ≤ a) (h1 : a * (2 ^ n : Nat) < 2147483648) (h2 : 0 ≤ b) (h3 : b < (2 ^ n : Nat)) (h4 : b < 2147483648) : bits .or .i32 (a * (2 ^ n : Nat)) b = a * (2 ^ n : Nat) + b := by
  obtain ⟨a, rfl⟩ := Int.eq_ofNat_of_zero_le h0
  obtain ⟨b, rfl⟩ := Int.eq_ofNat_of_zero_le h2
  rw [← Int.natCast_mul, i32_or_nat _ _ (by rw [← Int.natCast_mul] at h1; omega) (by omega), or_add _ _ _ (by omega)]
  exact Int.natCast_add _ _
theorem i32_or64 (c b : Int) (h0 : 0 ≤ c) (h1 : c < 16777216) (h2 : 0 ≤ b) (h3 : b < 64) : bits .or .i32 (c * 64) b = c * 64 + b :=
  i32_orm c b 6 h0 (by simp; omega) h2 (by simpa using h3) (by omega)
theorem i32_and63 (x : Int) (h0 : 0 ≤ x) (h1 : x < 2147483648) : bits .and .i32 x 63 = x % 64 := i32_andm x 6 (by omega) h0 h1
theorem i32_and31 (x : Int) (h0 : 0 ≤ x) (h1 : x < 2147483648) : bits .and .i32 x 31 = x % 32 := i32_andm x 5 (by omega) h0 h1
theorem i32_and15 (x : Int) (h0 : 0 ≤ x) (h1 : x < 2147483648) : bits .and .i32 x 15 = x % 16 := i32_andm x 4 (by omega) h0 h1
theorem i32_and7 (x : Int) (h0 : 0 ≤ x) (h1 : x < 2147483648) : bits .and .i32 x 7 = x % 8 := i32_andm x 3 (by omega) h0 h1
theorem i32_or128 (x : Int) (h0 : 0 ≤ x) (h1 : x < 64) : bits .or .i32 128 x = 128 + x := i32_orm 1 x 7 (by omega) (by decide) h0 (by simp; omega) (by omega)
theorem i32_or192 (x : Int) (h0 : 0 ≤ x) (h1 : x < 64) : bits .or .i32 192 x = 192 + x := i32_orm 3 x 6 (by omega) (by decide) h0 (by simpa using h1) (by omega)
theorem i32_or224 (x : Int) (h0 : 0 ≤ x) (h1 : x < 32) : bits .or .i32 224 x = 224 + x := i32_orm 7 x 5 (by omega) (by decide) h0 (by simpa using h1) (by omega)
theorem i32_or240 (x : Int) (h0 : 0 ≤ x) (h1 : x < 16) : bits .or .i32 240 x = 240 + x := i32_orm 15 x 4 (by omega) (by decide) h0 (by simpa using h1) (by omega)
end Go.Proofs.YtpcdhdllclenaaaDoor
