/-
  Plain: a fraction as a decimal, and back.
-/
import Derived.Test.YtfadjpebniebaaaGreatDoorPlnA
import Derived.Test.YtfadjpebniebaaaGreatDoorDecG
import Derived.Lib.ItoaNum
set_option linter.unusedVariables false
set_option linter.unusedSimpArgs false
namespace Go.Proofs.YtfadjpebniebaaaGreatDoor
open Go.RowKit

/-! ### A fraction as a decimal -/
/-- The upper part and the places of a decimal, of n over d, p places on; none: it has no end. -/
def fin (n d p : Nat) : Option (Nat × Nat) :=
  if h1 : d ≤ 1 then some (n, p)
  else if h2 : d % 10 = 0 then fin n (d / 10) (p + 1)
  else if h3 : d % 5 = 0 then fin (n * 2) (d / 5) (p + 1)
  else if h4 : d % 2 = 0 then fin (n * 5) (d / 2) (p + 1)
  else none
termination_by d
decreasing_by all_goals omega
theorem fin_one {n d p : Nat} (h : d ≤ 1) : fin n d p = some (n, p) := by rw [fin, dif_pos h]
theorem fin_ten {n d p : Nat} (h1 : 1 < d) (h : d % 10 = 0) : fin n d p = fin n (d / 10) (p + 1) := by rw [fin, dif_neg (by omega), dif_pos h]
theorem fin_five {n d p : Nat} (h1 : 1 < d) (h2 : d % 10 ≠ 0) (h : d % 5 = 0) : fin n d p = fin (n * 2) (d / 5) (p + 1) := by rw [fin, dif_neg (by omega), dif_neg h2, dif_pos h]
theorem fin_two {n d p : Nat} (h1 : 1 < d) (h2 : d % 5 ≠ 0) (h : d % 2 = 0) : fin n d p = fin (n * 5) (d / 2) (p + 1) := by rw [fin, dif_neg (by omega), dif_neg (by omega), dif_neg h2, dif_pos h]
theorem fin_none {n d p : Nat} (h1 : 1 < d) (h2 : d % 5 ≠ 0) (h : d % 2 ≠ 0) : fin n d p = none := by rw [fin, dif_neg (by omega), dif_neg (by omega), dif_neg h2, dif_neg h]
theorem fin_eq (a b m : Nat) (hm2 : m % 2 ≠ 0) (hm5 : m % 5 ≠ 0) : ∀ n p, fin n (2 ^ a * 5 ^ b * m) p = if m = 1 then some (n * 2 ^ (max a b - a) * 5 ^ (max a b - b), p + max a b) else none := by
  have key : ∀ k a b, a + b = k → ∀ n p, fin n (2 ^ a * 5 ^ b * m) p = if m = 1 then some (n * 2 ^ (max a b - a) * 5 ^ (max a b - b), p + max a b) else none := by
    intro k
    induction k using Nat.strongRecOn with
    | _ k ih =>
      intro a b hk n p
      have hm0 : 0 < m := by omega
      cases a with
      | zero =>
        cases b with
        | zero =>
          by_cases h : m = 1
          · subst h; rw [fin_one (by simp)]; simp
          · rw [fin_none (by simp; omega) (by simpa using hm5) (by simpa using hm2), if_neg h]
        | succ b =>
          have e : 2 ^ 0 * 5 ^ (b + 1) * m = 5 * (5 ^ b * m) := by rw [Nat.pow_succ, Nat.pow_zero, Nat.one_mul, Nat.mul_comm (5 ^ b), Nat.mul_assoc]
          have hp : 0 < 5 ^ b := Nat.pow_pos (by omega)
          have hq : 0 < 5 ^ b * m := Nat.mul_pos hp hm0
          have ho : (5 ^ b * m) % 2 = 1 := by
            rw [Nat.mul_mod, Nat.pow_mod]; simp; omega
          rw [e, fin_five (by omega) (by omega) (by omega), show 5 * (5 ^ b * m) / 5 = 2 ^ 0 * 5 ^ b * m by simp, ih b (by omega) 0 b (by omega)]
          by_cases h : m = 1
          · rw [if_pos h, if_pos h]
            simp
            constructor
            · rw [Nat.pow_succ, Nat.mul_assoc, Nat.mul_comm 2]
            · omega
          · rw [if_neg h, if_neg h]
      | succ a =>
        cases b with
        | zero =>
          have e : 2 ^ (a + 1) * 5 ^ 0 * m = 2 * (2 ^ a * m) := by rw [Nat.pow_succ, Nat.pow_zero, Nat.mul_one, Nat.mul_comm (2 ^ a), Nat.mul_assoc]
          have hp : 0 < 2 ^ a := Nat.pow_pos (by omega)
          have hq : 0 < 2 ^ a * m := Nat.mul_pos hp hm0
          have ho : (2 * (2 ^ a * m)) % 5 ≠ 0 := by
            intro h
            have h5 : 5 ∣ 2 ^ a * m := (Nat.Coprime.dvd_of_dvd_mul_left (by decide) (Nat.dvd_of_mod_eq_zero h))
            have h6 : 5 ∣ m := Nat.Coprime.dvd_of_dvd_mul_left (Nat.Coprime.pow_right a (by decide)) h5
            omega
          rw [e, fin_two (by omega) ho (by omega), show 2 * (2 ^ a * m) / 2 = 2 ^ a * 5 ^ 0 * m by simp, ih a (by omega) a 0 (by omega)]
          by_cases h : m = 1
          · rw [if_pos h, if_pos h]
            simp
            constructor
            · rw [Nat.pow_succ, Nat.mul_assoc, Nat.mul_comm 5]
            · omega
          · rw [if_neg h, if_neg h]
        | succ b =>
          have e : 2 ^ (a + 1) * 5 ^ (b + 1) * m = 10 * (2 ^ a * 5 ^ b * m) := by
            rw [Nat.pow_succ, Nat.pow_succ, show 2 ^ a * 2 * (5 ^ b * 5) = 10 * (2 ^ a * 5 ^ b) by grind, Nat.mul_assoc]
          have hp : 0 < 2 ^ a * 5 ^ b * m := Nat.mul_pos (Nat.mul_pos (Nat.pow_pos (by omega)) (Nat.pow_pos (by omega))) hm0
          rw [e, fin_ten (by omega) (by omega), show 10 * (2 ^ a * 5 ^ b * m) / 10 = 2 ^ a * 5 ^ b * m by omega, ih (a + b) (by omega) a b rfl]
          rw [show max (a + 1) (b + 1) = max a b + 1 by omega, show max a b + 1 - (a + 1) = max a b - a by omega, show max a b + 1 - (b + 1) = max a b - b by omega, show p + 1 + max a b = p + (max a b + 1) by omega]
  exact key _ a b rfl
theorem fin_ge {d : Nat} : ∀ {n p M q : Nat}, fin n d p = some (M, q) → n ≤ M := by
  induction d using Nat.strongRecOn with
  | _ d ih =>
    intro n p M q h
    by_cases h1 : d ≤ 1
    · rw [fin_one h1] at h; cases h; exact Nat.le_refl _
    by_cases h2 : d % 10 = 0
    · rw [fin_ten (by omega) h2] at h; exact ih _ (by omega) h
    by_cases h3 : d % 5 = 0
    · rw [fin_five (by omega) h2 h3] at h; have := ih _ (by omega) h; omega
    by_cases h4 : d % 2 = 0
    · rw [fin_two (by omega) h3 h4] at h; have := ih _ (by omega) h; omega
    · rw [fin_none (by omega) h3 h4] at h; cases h
theorem cop_mul {n d f : Nat} (h : Nat.gcd n d = 1) (hf : Nat.gcd f d = 1) : Nat.gcd (n * f) d = 1 := Nat.Coprime.mul_left h hf
theorem cop_dvd {n d e : Nat} (h : Nat.gcd n d = 1) (he : e ∣ d) : Nat.gcd n e = 1 := Nat.Coprime.coprime_dvd_right he h
theorem fin_ten_no {d : Nat} : ∀ {n p M q : Nat}, fin n d p = some (M, q) → 1 < d → Nat.gcd n d = 1 → M % 10 ≠ 0 := by
  induction d using Nat.strongRecOn with
  | _ d ih =>
    intro n p M q h h1 hg
    have co : ∀ k, 1 < k → k ∣ d → n % k ≠ 0 := fun k hk hd h0 => by
      have : k ∣ Nat.gcd n d := Nat.dvd_gcd (Nat.dvd_of_mod_eq_zero h0) hd
      rw [hg] at this
      have := Nat.le_of_dvd (by omega) this
      omega
    by_cases h2 : d % 10 = 0
    · rw [fin_ten (by omega) h2] at h
      have hd : d / 10 ∣ d := ⟨10, by omega⟩
      by_cases e : d / 10 = 1
      · rw [fin_one (by omega)] at h
        cases h
        exact co 10 (by omega) (Nat.dvd_of_mod_eq_zero h2)
      · exact ih _ (by omega) h (by omega) (cop_dvd hg hd)
    by_cases h3 : d % 5 = 0
    · rw [fin_five (by omega) h2 h3] at h
      have hd : d / 5 ∣ d := ⟨5, by omega⟩
      have n5 := co 5 (by omega) (Nat.dvd_of_mod_eq_zero h3)
      by_cases e : d / 5 = 1
      · rw [fin_one (by omega)] at h
        cases h
        omega
      · refine ih _ (by omega) h (by omega) (cop_mul (cop_dvd hg hd) ?_)
        have hodd : (d / 5) % 2 = 1 := by omega
        rw [Nat.gcd_rec, hodd]; rfl
    by_cases h4 : d % 2 = 0
    · rw [fin_two (by omega) h3 h4] at h
      have hd : d / 2 ∣ d := ⟨2, by omega⟩
      have n2 := co 2 (by omega) (Nat.dvd_of_mod_eq_zero h4)
      by_cases e : d / 2 = 1
      · rw [fin_one (by omega)] at h
        cases h
        omega
      · refine ih _ (by omega) h (by omega) (cop_mul (cop_dvd hg hd) ?_)
        have h5 : (d / 2) % 5 = 1 ∨ (d / 2) % 5 = 2 ∨ (d / 2) % 5 = 3 ∨ (d / 2) % 5 = 4 := by omega
        rw [Nat.gcd_rec]
        rcases h5 with h | h | h | h <;> rw [h] <;> rfl
    · rw [fin_none (by omega) h3 h4] at h; cases h
theorem split10 (d : Nat) (hd : 0 < d) : ∃ a b m, d = 2 ^ a * 5 ^ b * m ∧ m % 2 ≠ 0 ∧ m % 5 ≠ 0 := by
  induction d using Nat.strongRecOn with
  | _ d ih =>
    by_cases h2 : d % 2 = 0
    · obtain ⟨a, b, m, e, h⟩ := ih (d / 2) (by omega) (by omega)
      exact ⟨a + 1, b, m, by rw [Nat.pow_succ, show 2 ^ a * 2 * 5 ^ b * m = 2 * (2 ^ a * 5 ^ b * m) by grind, ← e]; omega, h⟩
    by_cases h5 : d % 5 = 0
    · obtain ⟨a, b, m, e, h⟩ := ih (d / 5) (by omega) (by omega)
      exact ⟨a, b + 1, m, by rw [Nat.pow_succ, show 2 ^ a * (5 ^ b * 5) * m = 5 * (2 ^ a * 5 ^ b * m) by grind, ← e]; omega, h⟩
    exact ⟨0, 0, d, by simp, h2, h5⟩
/-- A number's digits. -/
def dgt (u : Nat) : List Int := (Lib.decDigits u).map fun b => (b.toNat : Int)
theorem dgt_small {u : Nat} (h : u < 10) : dgt u = [48 + (u : Int)] := by
  unfold dgt; rw [Lib.decDigits_one h]
  simp [UInt8.toNat_ofNat]; omega
theorem dgt_big {u : Nat} (h : ¬ u < 10) : dgt u = dgt (u / 10) ++ [48 + ((u % 10 : Nat) : Int)] := by
  unfold dgt; rw [Lib.decDigits, dif_neg h, List.map_append]
  simp [UInt8.toNat_ofNat]; omega
theorem dgt_len (u : Nat) : (dgt u).length = Lib.nDigits u := by unfold dgt; rw [List.length_map, Lib.decDigits_length]
theorem dgt_digs (u : Nat) : Digs (dgt u) := by
  induction u using Nat.strongRecOn with
  | _ u ih =>
    by_cases h : u < 10
    · rw [dgt_small h]; intro x hx; simp at hx; subst hx; simp [isDig]; omega
    · rw [dgt_big h]
      intro x hx
      rcases List.mem_append.1 hx with hx | hx
      · exact ih _ (by omega) x hx
      · simp at hx; subst hx; simp [isDig]; omega
theorem natOf_dgt (u : Nat) : natOf (dgt u) = u := by
  induction u using Nat.strongRecOn with
  | _ u ih =>
    by_cases h : u < 10
    · rw [dgt_small h]; simp [natOf]; omega
    · rw [dgt_big h, natOf_snoc, ih _ (by omega)]; omega
theorem dgt_ne (u : Nat) : dgt u ≠ [] := by
  intro h
  have := dgt_len u
  rw [h] at this
  have := Lib.nDigits_pos u
  simp at *; omega
theorem cutR_snoc {l : List Int} {c : Int} (h : c ≠ 48) : cutR (l ++ [c]) = l ++ [c] := by
  unfold cutR
  rw [List.reverse_append, List.reverse_singleton, List.singleton_append, List.dropWhile_cons_of_neg (by simpa using h)]
  simp
theorem cutR_zero (l : List Int) : cutR (l ++ [48]) = cutR l := by
  unfold cutR
  rw [List.reverse_append, List.reverse_singleton, List.singleton_append, List.dropWhile_cons_of_pos (by simp)]
theorem cutR_dgt {u : Nat} (h : u % 10 ≠ 0) : cutR (dgt u) = dgt u := by
  by_cases g : u < 10
  · rw [dgt_small g]; exact cutR_snoc (l := []) (by omega)
  · rw [dgt_big g]; exact cutR_snoc (by omega)
theorem dgt_len18 {u : Nat} : 18 < (dgt u).length ↔ 1000000000000000000 ≤ u := by
  rw [dgt_len]
  constructor
  · intro h
    refine Nat.le_of_not_lt fun g => ?_
    have : Lib.nDigits u ≤ 18 := by
      have key : ∀ k u, u < 10 ^ (k + 1) → Lib.nDigits u ≤ k + 1 := by
        intro k
        induction k with
        | zero => intro u hu; rw [Lib.nDigits_small (by simpa using hu)]; omega
        | succ k ih =>
          intro u hu
          by_cases h : u < 10
          · rw [Lib.nDigits_small h]; omega
          · rw [Lib.nDigits_big h]
            have := ih (u / 10) (by rw [Nat.pow_succ] at hu; omega)
            omega
      exact key 17 u (by simpa using g)
    omega
  · intro h
    refine Nat.lt_of_not_le fun g => ?_
    have h1 := Lib.lt_pow_nDigits u
    have h2 : 10 ^ Lib.nDigits u ≤ 10 ^ 18 := Nat.pow_le_pow_right (by omega) g
    have e : (10 : Nat) ^ 18 = 1000000000000000000 := by decide
    omega
/-- The point ahead of the last p digits, one at least on each side. -/
def pad (ds : List Int) (p : Nat) : List Int := List.replicate (p + 1 - ds.length) 48 ++ ds
def ptd (ds : List Int) (p : Nat) : List Int := (pad ds p).take ((pad ds p).length - p) ++ 46 :: (if p = 0 then [48] else (pad ds p).drop ((pad ds p).length - p))
def neg1 (n : Int) : List Int := if n < 0 then [45] else []
/-- A value's decimal. -/
def plV (n d : Int) (wh : Bool) : Option (List Int) :=
  match fin (ab n).toNat d.toNat 0 with
  | none => none
  | some (M, p) => if 18 < (cutR (dgt M)).length then none else some (neg1 n ++ if wh then dgt M else ptd (dgt M) p)
def plO (wh : Bool) : List Int := if wh then [57, 57, 57, 57, 57, 57, 57, 57, 57, 57, 57, 57, 57, 57, 57, 57, 57, 57, 57, 57] else [49, 101, 57, 57]
/-- A fraction as a number of a stylesheet. -/
def plT (n d : Int) (wh : Bool) : Option (List Int) :=
  if mayB n d = false ∨ (wh = true ∧ 1 < d) then none
  else if d = 0 then some (plO wh) else plV n d wh
theorem natOf_zeros (k : Nat) (l : List Int) : natOf (List.replicate k 48 ++ l) = natOf l := by
  induction k with
  | zero => simp
  | succ k ih =>
    rw [List.replicate_succ, List.cons_append]
    show List.foldl _ (0 * 10 + ((48 : Int) - 48).toNat) _ = _
    exact ih
theorem natOf_ends (l : List Int) (k : Nat) : natOf (l ++ List.replicate k 48) = natOf l * 10 ^ k := by
  induction k with
  | zero => simp
  | succ k ih =>
    rw [List.replicate_succ', ← List.append_assoc, natOf_snoc, ih, Nat.pow_succ]
    simp; exact Nat.mul_assoc _ _ _
theorem cutR_ends (l : List Int) : l = cutR l ++ List.replicate (l.length - (cutR l).length) 48 := by
  have key : ∀ n (l : List Int), l.length = n → l = cutR l ++ List.replicate (l.length - (cutR l).length) 48 := by
    intro n
    induction n with
    | zero => intro l h; rw [List.eq_nil_of_length_eq_zero h]; rfl
    | succ n ih =>
      intro l h
      rcases List.eq_nil_or_concat l with rfl | ⟨r, c, rfl⟩
      · simp at h
      · rw [List.concat_eq_append] at *
        have hr : r.length = n := by simpa using h
        by_cases hc : c = 48
        · subst hc
          have e := ih r hr
          have hle : (cutR r).length ≤ r.length := by
            have := congrArg List.length e
            rw [List.length_append] at this
            omega
          rw [cutR_zero]
          rw [show (r ++ [(48 : Int)]).length - (cutR r).length = r.length - (cutR r).length + 1 by simp; omega, List.replicate_succ', ← List.append_assoc, ← e]
        · rw [cutR_snoc hc]; simp
  exact key _ l rfl
theorem cut0_zeros (k : Nat) {l : List Int} (h : nx l 0 ≠ 48) : cut0 (List.replicate k 48 ++ l) = l := by
  induction k with
  | zero =>
    cases l with
    | nil => rfl
    | cons c r => exact List.dropWhile_cons_of_neg (by simpa [nx] using h)
  | succ k ih =>
    rw [List.replicate_succ, List.cons_append]
    show List.dropWhile _ _ = _
    rw [List.dropWhile_cons_of_pos (by simp)]
    exact ih
theorem dgt_head {u : Nat} (h : 0 < u) : nx (dgt u) 0 ≠ 48 := by
  induction u using Nat.strongRecOn with
  | _ u ih =>
    by_cases g : u < 10
    · rw [dgt_small g]; simp [nx]; omega
    · rw [dgt_big g]
      have := ih (u / 10) (by omega) (by omega)
      have hne := dgt_ne (u / 10)
      cases hd : dgt (u / 10) with
      | nil => exact absurd hd hne
      | cons c r => rw [hd] at this; simpa [nx] using this
theorem cut0_dgt0 (k : Nat) : cut0 (List.replicate k 48 ++ dgt 0) = [] := by
  rw [dgt_small (by omega)]
  have : List.replicate k (48 : Int) ++ [48 + ((0 : Nat) : Int)] = List.replicate (k + 1) 48 := by rw [List.replicate_succ']; rfl
  rw [this]
  unfold cut0
  rw [List.dropWhile_replicate]; simp
theorem strip_pows (p : Nat) (hp : 0 < p) (n a : Nat) : ∀ j, strip p (n * p ^ j) (j + a) = strip p n a := by
  intro j
  induction j with
  | zero => simp
  | succ j ih =>
    rw [show j + 1 + a = (j + a) + 1 by omega, strip_go (by rw [Nat.pow_succ, ← Nat.mul_assoc]; exact Nat.mul_mod_left _ _), Nat.pow_succ, ← Nat.mul_assoc, Nat.mul_div_cancel _ hp]
    exact ih
theorem strip_end {p n a : Nat} (h : a = 0 ∨ n % p ≠ 0) : strip p n a = (n, a) := by
  rcases h with rfl | h
  · rfl
  · exact strip_stop h
theorem fracDn_back (N a b : Nat) (h2 : a = 0 ∨ N % 2 ≠ 0) (h5 : b = 0 ∨ N % 5 ≠ 0) (hd : 2 ^ a * 5 ^ b ≤ 9223372036854775807) :
    fracDn (N * 2 ^ (max a b - a) * 5 ^ (max a b - b)) (max a b) = ((N : Int), ((2 ^ a * 5 ^ b : Nat) : Int)) := by
  have h2' : a = 0 ∨ (N * 5 ^ (max a b - b)) % 2 ≠ 0 := by
    rcases h2 with h | h
    · exact .inl h
    · right
      rw [Nat.mul_mod, Nat.pow_mod]; simp; omega
  have s2 : strip 2 (N * 2 ^ (max a b - a) * 5 ^ (max a b - b)) (max a b) = (N * 5 ^ (max a b - b), a) := by
    have := strip_pows 2 (by omega) (N * 5 ^ (max a b - b)) a (max a b - a)
    rw [show max a b - a + a = max a b by omega, strip_end h2'] at this
    rw [← this]; congr 1; grind
  have s5 : strip 5 (N * 5 ^ (max a b - b)) (max a b) = (N, b) := by
    have := strip_pows 5 (by omega) N b (max a b - b)
    rw [show max a b - b + b = max a b by omega, strip_end h5] at this
    exact this
  unfold fracDn
  rw [s2]
  simp only
  rw [s5]
  simp only
  rw [if_pos hd]
/-! ### There and back -/
theorem Digs.app {a b : List Int} (h : Digs a) (g : Digs b) : Digs (a ++ b) := fun x hx => by
  rcases List.mem_append.1 hx with hx | hx
  · exact h x hx
  · exact g x hx
theorem Digs.zeros (k : Nat) : Digs (List.replicate k 48) := fun x hx => by
  rw [List.mem_replicate] at hx; rw [hx.2]; rfl
theorem tkd_app {a r : List Int} (h : Digs a) (hr : isDig (nx r 0) = false) : tkd (a ++ r) = a ∧ dgs (a ++ r) = r := by
  have h0 : tkd r = [] ∧ dgs r = r := by
    cases r with
    | nil => exact ⟨rfl, rfl⟩
    | cons c t =>
      have hc : ¬ isDig c = true := by simpa [nx] using hr
      exact ⟨List.takeWhile_cons_of_neg hc, List.dropWhile_cons_of_neg hc⟩
  unfold tkd dgs at *
  rw [List.takeWhile_append_of_pos (fun x hx => h x hx), List.dropWhile_append_of_pos (fun x hx => h x hx), h0.1, h0.2]
  simp
theorem sgn_neg1 (n : Int) {x : List Int} (h : isDig (nx x 0) = true) : sgn (neg1 n ++ x) = (decide (n < 0), x) := by
  unfold sgn neg1
  by_cases hn : n < 0
  · rw [if_pos hn]; simp [nx, isSg, hn]
  · rw [if_neg hn]
    have : isSg (nx x 0) = false := by
      simp [isDig] at h
      simp [isSg]; omega
    rw [List.nil_append, if_neg (by simp [this])]
    simp [hn]
theorem digs_head {l : List Int} (h : Digs l) (hn : l ≠ []) : isDig (nx l 0) = true := by
  cases l with
  | nil => exact absurd rfl hn
  | cons c r => exact h c (by simp)
theorem dec_whole (n : Int) {A : List Int} (hA : Digs A) (hn : A ≠ []) : dec (neg1 n ++ A) = some (valOf (decide (n < 0)) A 0, true) := by
  have h0 := digs_head hA hn
  have ht := tkd_app (r := []) hA (by decide)
  rw [List.append_nil] at ht
  unfold dec
  rw [sgn_neg1 n h0]
  simp only
  rw [ht.1, ht.2, if_neg (by decide)]
  unfold decE
  rw [if_neg hn, if_pos rfl]
  rfl
theorem dec_point (n : Int) {A B : List Int} (hA : Digs A) (hn : A ≠ []) (hB : Digs B) (gn : B ≠ []) : dec (neg1 n ++ (A ++ 46 :: B)) = some (valOf (decide (n < 0)) (A ++ B) (-(B.length : Nat)), false) := by
  have h0 : isDig (nx (A ++ 46 :: B) 0) = true := by
    have := digs_head hA hn
    cases A with
    | nil => exact absurd rfl hn
    | cons c r => simpa [nx] using this
  have ht := tkd_app (a := A) (r := 46 :: B) hA (by rfl)
  have hu := tkd_app (a := B) (r := []) hB (by decide)
  rw [List.append_nil] at hu
  unfold dec
  rw [sgn_neg1 n h0]
  simp only
  rw [ht.1, ht.2, if_pos (by rfl)]
  simp only [List.drop_one, List.tail_cons]
  rw [hu.1, hu.2, if_neg gn]
  unfold decE
  rw [if_neg (by simp [hn]), if_pos rfl]
theorem nx_app {l r : List Int} (h : l ≠ []) : nx (l ++ r) 0 = nx l 0 := by
  cases l with
  | nil => exact absurd rfl h
  | cons c t => simp [nx]
theorem cutR_reps (l : List Int) (e : Nat) : cutR (l ++ List.replicate e 48) = cutR l := by
  induction e with
  | zero => simp
  | succ e ih => rw [List.replicate_succ', ← List.append_assoc, cutR_zero, ih]
theorem cutR_nil_zero {l : List Int} (h : cutR l = []) : natOf l = 0 := by
  have := cutR_ends l
  rw [h, List.nil_append] at this
  rw [this]
  have := natOf_zeros (l.length - ([] : List Int).length) []
  rw [List.append_nil] at this
  rw [this]; rfl
theorem val_dgt (b : Bool) {M : Nat} (hM : 0 < M) (z e : Nat) (k : Int) (hl : ¬ 18 < (cutR (dgt M)).length) :
    valOf b (List.replicate z 48 ++ (dgt M ++ List.replicate e 48)) k = sg b (fr (natOf (cutR (dgt M))) (k + (((dgt M).length - (cutR (dgt M)).length + e : Nat) : Int))) := by
  have hx : nx (dgt M ++ List.replicate e 48) 0 ≠ 48 := by rw [nx_app (dgt_ne M)]; exact dgt_head hM
  have c0 := cut0_zeros z hx
  have cR := cutR_reps (dgt M) e
  have hn : cutR (dgt M) ≠ [] := fun h => by
    have := cutR_nil_zero h
    rw [natOf_dgt] at this; omega
  have hle : (cutR (dgt M)).length ≤ (dgt M).length := by
    have := congrArg List.length (cutR_ends (dgt M))
    rw [List.length_append] at this; omega
  unfold valOf
  rw [c0, cR, if_neg hn, if_neg hl]
  congr 3
  rw [List.length_append, List.length_replicate]
  omega
theorem core_pow (M : Nat) : natOf (cutR (dgt M)) * 10 ^ ((dgt M).length - (cutR (dgt M)).length) = M := by
  rw [← natOf_ends, ← cutR_ends, natOf_dgt]
theorem ab_nat (n : Int) : ((ab n).toNat : Int) = ab n := by unfold ab; split <;> omega
theorem sg_ab {n d : Int} : sg (decide (n < 0)) (ab n, d) = (n, d) := by
  unfold sg ab
  by_cases h : n < 0
  · simp [h]
  · simp [h]
theorem isV_out {n d : Int} (h : isV n d = true) : 1 ≤ d ∧ n ≠ -9223372036854775808 ∧ Nat.gcd (ab n).toNat d.toNat = 1 := by
  unfold isV gc at h
  simp at h
  refine ⟨h.1.1, h.1.2, ?_⟩
  have hg := h.2
  have ha := ab_nat n
  obtain ⟨N, hN⟩ : ∃ N : Nat, ab n = N := ⟨_, ha.symm⟩
  obtain ⟨D, hD⟩ : ∃ D : Nat, d = D := ⟨d.toNat, by omega⟩
  rw [hN, hD, Int.gcd_natCast_natCast] at hg
  rw [hN, hD]
  simp
  omega
theorem gcd_zero {D : Nat} (h : Nat.gcd 0 D = 1) : D = 1 := by simpa using h
/-- The value of a decimal, with noughts ahead and behind: it is the fraction. -/
theorem val_back {n d : Int} {M p : Nat} (hv : isV n d = true) (n1 : -9223372036854775808 ≤ n) (n2 : n ≤ 9223372036854775807) (d2 : d ≤ 9223372036854775807) (hf : fin (ab n).toNat d.toNat 0 = some (M, p)) (hl : ¬ 18 < (cutR (dgt M)).length) (z e : Nat) :
    valOf (decide (n < 0)) (List.replicate z 48 ++ (dgt M ++ List.replicate e 48)) (-((p + e : Nat) : Int)) = (n, d) := by
  obtain ⟨hd, hm, hg⟩ := isV_out hv
  have ha := ab_nat n
  obtain ⟨N, hN⟩ : ∃ N, (ab n).toNat = N := ⟨_, rfl⟩
  obtain ⟨D, hD⟩ : ∃ D : Nat, d = D := ⟨d.toNat, by omega⟩
  have hab : ab n = N := by omega
  rw [hN] at hf hg
  rw [hD] at hf hg hd d2
  simp only [Int.toNat_natCast] at hf hg
  have hNm : N ≤ 9223372036854775807 := by have : ab n ≤ 9223372036854775807 := by unfold ab; split <;> omega
                                           omega
  by_cases h1 : D = 1
  · subst h1
    rw [fin_one (by omega)] at hf
    cases hf
    by_cases h0 : M = 0
    · subst h0
      have hn0 : n = 0 := by unfold ab at hab; split at hab <;> omega
      unfold valOf
      have : cut0 (List.replicate z 48 ++ (dgt 0 ++ List.replicate e 48)) = [] := by
        rw [dgt_small (by omega)]
        have : List.replicate z (48 : Int) ++ ([48 + ((0 : Nat) : Int)] ++ List.replicate e 48) = List.replicate (z + (1 + e)) 48 := by
          rw [← List.replicate_append_replicate, ← List.replicate_append_replicate]; rfl
        rw [this]; unfold cut0; rw [List.dropWhile_replicate]; simp
      rw [this, if_pos (by rfl), hn0, hD]; rfl
    · rw [val_dgt _ (by omega) z e _ hl]
      have hc := core_pow M
      have hle : (cutR (dgt M)).length ≤ (dgt M).length := by
        have := congrArg List.length (cutR_ends (dgt M))
        rw [List.length_append] at this; omega
      unfold fr
      rw [if_pos (by omega)]
      unfold fracUp
      rw [show (-((0 + e : Nat) : Int) + (((dgt M).length - (cutR (dgt M)).length + e : Nat) : Int)).toNat = (dgt M).length - (cutR (dgt M)).length by omega, hc, if_pos hNm, ← hab, hD]
      exact sg_ab
  · have hM10 := fin_ten_no hf (by omega) hg
    have hM0 : 0 < M := by omega
    rw [val_dgt _ hM0 z e _ hl, cutR_dgt hM10, natOf_dgt]
    obtain ⟨a, b, m, hs, m2, m5⟩ := split10 D (by omega)
    rw [hs, fin_eq a b m m2 m5] at hf
    by_cases hm1 : m = 1
    · rw [if_pos hm1] at hf
      cases hf
      subst hm1
      rw [Nat.mul_one] at hs
      have hp : 0 < max a b := by
        refine Nat.pos_of_ne_zero fun h => ?_
        have ha0 : a = 0 := by omega
        have hb0 : b = 0 := by omega
        subst ha0; subst hb0; simp at hs; exact h1 hs
      have c2 : a = 0 ∨ N % 2 ≠ 0 := by
        by_cases h : a = 0
        · exact .inl h
        · right; intro h0
          have : 2 ∣ Nat.gcd N D := Nat.dvd_gcd (Nat.dvd_of_mod_eq_zero h0) (by
            rw [hs]; exact Nat.dvd_trans (Nat.dvd_trans (by simp) (Nat.pow_dvd_pow 2 (show 1 ≤ a by omega))) (Nat.dvd_mul_right _ _))
          rw [hg] at this; omega
      have c5 : b = 0 ∨ N % 5 ≠ 0 := by
        by_cases h : b = 0
        · exact .inl h
        · right; intro h0
          have : 5 ∣ Nat.gcd N D := Nat.dvd_gcd (Nat.dvd_of_mod_eq_zero h0) (by
            rw [hs]; exact Nat.dvd_trans (Nat.dvd_trans (by simp) (Nat.pow_dvd_pow 5 (show 1 ≤ b by omega))) (Nat.dvd_mul_left _ _))
          rw [hg] at this; omega
      unfold fr
      rw [if_neg (by omega), show (-(-((0 + max a b + e : Nat) : Int) + (((dgt (N * 2 ^ (max a b - a) * 5 ^ (max a b - b))).length - (dgt (N * 2 ^ (max a b - a) * 5 ^ (max a b - b))).length + e : Nat) : Int))).toNat = max a b by omega]
      rw [fracDn_back N a b c2 c5 (by omega), ← hs, ← hab, hD]
      exact sg_ab
    · rw [if_neg hm1] at hf; cases hf
theorem pad_len (ds : List Int) (p : Nat) : (pad ds p).length = max (p + 1) ds.length := by unfold pad; rw [List.length_append, List.length_replicate]; omega
/-- What is written is read again. -/
theorem pl_back {n d : Int} {wh : Bool} {t : List Int} (n1 : -9223372036854775808 ≤ n) (n2 : n ≤ 9223372036854775807) (d2 : d ≤ 9223372036854775807) (h : plT n d wh = some t) : dec t = some ((n, d), wh) := by
  unfold plT at h
  by_cases h1 : mayB n d = false ∨ (wh = true ∧ 1 < d)
  · rw [if_pos h1] at h; cases h
  rw [if_neg h1] at h
  have hm : mayB n d = true := by
    cases hb : mayB n d with
    | true => rfl
    | false => exact absurd (.inl hb) h1
  by_cases h0 : d = 0
  · rw [if_pos h0] at h
    subst h0
    have hn : n = 0 := by
      unfold mayB isV at hm
      simp at hm; exact hm
    subst hn
    cases h
    cases wh
    · decide +kernel
    · decide +kernel
  rw [if_neg h0] at h
  have hv : isV n d = true := by
    unfold mayB at hm
    simp [h0] at hm; exact hm
  unfold plV at h
  cases hf : fin (ab n).toNat d.toNat 0 with
  | none => rw [hf] at h; cases h
  | some r =>
    obtain ⟨M, p⟩ := r
    rw [hf] at h
    simp only at h
    by_cases hl : 18 < (cutR (dgt M)).length
    · rw [if_pos hl] at h; cases h
    rw [if_neg hl] at h
    cases h
    have vb := val_back hv n1 n2 d2 hf hl
    cases wh with
    | true =>
      have hd1 : d = 1 := by
        have := (isV_out hv).1
        have : ¬ 1 < d := fun g => h1 (.inr ⟨rfl, g⟩)
        omega
      have hp : p = 0 := by
        rw [hd1, show (1 : Int).toNat = 1 by rfl, fin_one (by omega)] at hf
        cases hf; rfl
      simp only [if_true]
      rw [dec_whole n (dgt_digs M) (dgt_ne M)]
      have := vb 0 0
      rw [hp] at this
      simp at this
      rw [this]
    | false =>
      simp only [Bool.false_eq_true, if_false]
      have hpd : Digs (pad (dgt M) p) := (Digs.zeros _).app (dgt_digs M)
      have hpl := pad_len (dgt M) p
      unfold ptd
      have hA : Digs ((pad (dgt M) p).take ((pad (dgt M) p).length - p)) := fun x hx => hpd x (List.mem_of_mem_take hx)
      have hAn : (pad (dgt M) p).take ((pad (dgt M) p).length - p) ≠ [] := by
        intro h
        have := congrArg List.length h
        rw [List.length_take] at this
        simp at this; omega
      by_cases hp : p = 0
      · subst hp
        rw [if_pos rfl]
        rw [dec_point n hA hAn (fun x hx => by simp at hx; subst hx; rfl) (by simp)]
        have := vb (0 + 1 - (dgt M).length) 1
        rw [Nat.sub_zero, List.take_length]
        unfold pad
        rw [List.append_assoc]
        simp only [List.length_singleton]
        rw [show (-((1 : Nat) : Int)) = -((0 + 1 : Nat) : Int) by rfl]
        rw [show ([48] : List Int) = List.replicate 1 48 by rfl, this]
      · rw [if_neg hp]
        rw [dec_point n hA hAn (fun x hx => hpd x (List.mem_of_mem_drop hx)) (fun h => by
          have := congrArg List.length h
          rw [List.length_drop] at this
          simp at this; omega)]
        rw [List.take_append_drop, List.length_drop]
        have := vb (p + 1 - (dgt M).length) 0
        simp only [List.replicate_zero, List.append_nil, Nat.add_zero] at this
        rw [show (pad (dgt M) p).length - ((pad (dgt M) p).length - p) = p by omega]
        exact congrArg (fun x => some (x, false)) this
end Go.Proofs.YtfadjpebniebaaaGreatDoor
