/-
  A number of a stylesheet taken apart, by the program: the walk.
  Plain: a decimal's digits, counted; exponents that are very great.
  A number of a stylesheet, by the program.
  A number of a stylesheet, by the program: the whole.
-/
import Derived.Test.YtbdacepomdlcbaaGreatDoorJe
import Derived.Lib.ParseIntB
import Derived.Lib.SmallJoins
import Derived.Deep.RegionHeld3
set_option linter.unusedVariables false
set_option linter.unusedSimpArgs false
namespace Go.Proofs.YtbdacepomdlcbaaGreatDoor
open Go.RowKit

theorem emp_of {s : ByteArray} {l : List Int} (h : bl s = l) (hl : l = []) : s.toList.isEmpty = true := emp_t (bl_size0.1 (h.trans hl))
theorem full_of {s : ByteArray} {l : List Int} (h : bl s = l) (hl : l ≠ []) : s.toList.isEmpty = false := emp_f (Nat.pos_of_ne_zero fun g => hl (h.symm.trans (bl_size0.2 g)))
theorem pos_of {s : ByteArray} {l : List Int} (h : bl s = l) (hl : l ≠ []) : 0 < s.size := Nat.pos_of_ne_zero fun g => hl (h.symm.trans (bl_size0.2 g))
theorem size_of {s : ByteArray} {l : List Int} (h : bl s = l) {n : Nat} (hl : l.length ≤ n) : s.size ≤ n := by rw [← bl_len, h]; exact hl
theorem dot_ne {l : List Int} (h : nx l 0 = 46) : l ≠ [] := by rintro rfl; simp [nx] at h
end Go.Proofs.YtbdacepomdlcbaaGreatDoor
set_option linter.unusedVariables false
set_option linter.unusedSimpArgs false
namespace Go.Proofs.YtbdacepomdlcbaaGreatDoor
open Go.RowKit

def natF (a : Nat) (l : List Int) : Nat := l.foldl (fun n c => n * 10 + (c - 48).toNat) a
theorem natOf_F (l : List Int) : natOf l = natF 0 l := rfl
theorem natF_ge (l : List Int) : ∀ a, a ≤ natF a l := by
  induction l with
  | nil => intro a; exact Nat.le_refl _
  | cons c l ih =>
    intro a
    have := ih (a * 10 + (c - 48).toNat)
    show a ≤ natF (a * 10 + (c - 48).toNat) l
    omega
def bi (l : List UInt8) : List Int := l.map fun b => (b.toNat : Int)
theorem parse_ok (l : List UInt8) : ∀ a : Nat, Digs (bi l) → l.length ≤ 18 → a < 10 ^ (18 - l.length) → Lib.parseUintM (2 ^ 64 - 1) a l = .ok (natF a (bi l)) := by
  induction l with
  | nil => intro a _ _ _; rfl
  | cons c l ih =>
    intro a hd hl ha
    have hc : isDig (c.toNat : Int) = true := hd _ (by simp [bi])
    simp [isDig] at hc
    have hc' : 48 ≤ c.toNat ∧ c.toNat ≤ 57 := by omega
    simp only [List.length_cons] at hl ha
    have e1 : 10 ^ (18 - l.length) = 10 ^ (18 - (l.length + 1)) * 10 := by rw [← Nat.pow_succ]; congr 1; omega
    have e2 : 10 ^ (18 - (l.length + 1)) ≤ 10 ^ 17 := Nat.pow_le_pow_right (by omega) (by omega)
    have e3 : (10 : Nat) ^ 17 = 100000000000000000 := by decide
    have e4 : (2 : Nat) ^ 64 - 1 = 18446744073709551615 := by decide
    simp only [Lib.parseUintM]
    rw [if_pos hc', if_neg (by omega), if_neg (by omega)]
    rw [ih (a * 10 + (c.toNat - 48)) (fun x hx => hd x (by simp [bi] at hx ⊢; right; exact hx)) (by omega) (by omega)]
    show _ = Lib.NumEnd.ok (natF (a * 10 + ((c.toNat : Int) - 48).toNat) (bi l))
    rw [show ((c.toNat : Int) - 48).toNat = c.toNat - 48 by omega]
theorem parse_str (s : ByteArray) (h1 : bl s ≠ []) (h2 : (bl s).length ≤ 18) (h3 : Digs (bl s)) : Lib.parseUintB 64 s.data.toList = .ok (natOf (bl s)) := by
  unfold Lib.parseUintB
  have hn : s.data.toList ≠ [] := fun e => h1 (by unfold bl; rw [e]; rfl)
  have hl : s.data.toList.length ≤ 18 := by simpa [bl] using h2
  rw [if_neg hn]
  exact parse_ok s.data.toList 0 h3 hl (Nat.pow_pos (by omega))
theorem natF_lt (l : List Int) : ∀ a : Nat, Digs l → natF a l < (a + 1) * 10 ^ l.length := by
  induction l with
  | nil => intro a _; show a < (a + 1) * 1; omega
  | cons c l ih =>
    intro a hd
    have hc : isDig c = true := hd _ (by simp)
    simp [isDig] at hc
    have := ih (a * 10 + (c - 48).toNat) (fun x hx => hd x (by simp [hx]))
    show natF (a * 10 + (c - 48).toNat) l < _
    have e : (a + 1) * 10 ^ (c :: l).length = ((a + 1) * 10) * 10 ^ l.length := by rw [List.length_cons, Nat.pow_succ, Nat.mul_comm (10 ^ l.length), Nat.mul_assoc]
    rw [e]
    have h2 : (a * 10 + (c - 48).toNat + 1) * 10 ^ l.length ≤ ((a + 1) * 10) * 10 ^ l.length := Nat.mul_le_mul_right _ (by omega)
    omega
theorem natOf_lt {l : List Int} (h : Digs l) (hl : l.length ≤ 18) : natOf l < 1000000000000000000 := by
  have h1 := natF_lt l 0 h
  have h2 : 10 ^ l.length ≤ 10 ^ 18 := Nat.pow_le_pow_right (by omega) hl
  have e : (10 : Nat) ^ 18 = 1000000000000000000 := by decide
  rw [natOf_F]
  omega
theorem cutR_pre (l : List Int) : ∃ t, l = cutR l ++ t := by
  obtain ⟨t, ht⟩ := List.dropWhile_suffix (fun x : Int => x == 48) (l := l.reverse)
  refine ⟨t.reverse, ?_⟩
  unfold cutR
  rw [← List.reverse_append, ht, List.reverse_reverse]
theorem cut0_head {l : List Int} {c : Int} {r : List Int} (h : cut0 l = c :: r) : c ≠ 48 := by
  intro e
  have := List.head?_dropWhile_not (fun x : Int => x == 48) l
  rw [show l.dropWhile (fun x => x == 48) = c :: r from h] at this
  simp [e] at this
theorem cut0_suf (l : List Int) : ∃ t, l = t ++ cut0 l := by
  obtain ⟨t, ht⟩ := List.dropWhile_suffix (fun x : Int => x == 48) (l := l)
  exact ⟨t, ht.symm⟩
theorem Digs.cut {l : List Int} (h : Digs l) : Digs (cut0 l) ∧ Digs (cutR (cut0 l)) := by
  have h1 : Digs (cut0 l) := by
    obtain ⟨t, ht⟩ := cut0_suf l
    intro x hx; exact h x (by rw [ht]; simp [hx])
  refine ⟨h1, ?_⟩
  obtain ⟨t, ht⟩ := cutR_pre (cut0 l)
  intro x hx; exact h1 x (by rw [ht]; simp [hx])
theorem cut_len (l : List Int) : (cutR (cut0 l)).length ≤ (cut0 l).length ∧ (cut0 l).length ≤ l.length := by
  obtain ⟨t, ht⟩ := cutR_pre (cut0 l)
  obtain ⟨u, hu⟩ := cut0_suf l
  have h1 := congrArg List.length ht
  have h2 := congrArg List.length hu
  rw [List.length_append] at h1 h2
  omega
theorem cnt_pos {l : List Int} (h : Digs l) (hn : cutR (cut0 l) ≠ []) : 1 ≤ natOf (cutR (cut0 l)) := by
  obtain ⟨t, ht⟩ := cutR_pre (cut0 l)
  have hd := h.cut.2
  cases hc : cutR (cut0 l) with
  | nil => exact absurd hc hn
  | cons c r =>
    rw [hc] at ht hd
    have h48 := cut0_head ht
    have hc : isDig c = true := hd c (by simp)
    simp [isDig] at hc
    rw [natOf_F]
    have := natF_ge r (0 * 10 + (c - 48).toNat)
    show 1 ≤ natF (0 * 10 + (c - 48).toNat) r
    omega
/-! ### Very great exponents -/
theorem fracUp_over {n q : Nat} (hn : 1 ≤ n) (hq : 64 ≤ q) : fracUp n q = (0, 0) := by
  unfold fracUp
  have h1 : 10 ^ 64 ≤ 10 ^ q := Nat.pow_le_pow_right (by omega) hq
  have h2 : 1 * 10 ^ q ≤ n * 10 ^ q := Nat.mul_le_mul_right _ hn
  have h3 : (9223372036854775807 : Nat) < 10 ^ 64 := by decide
  rw [if_neg (by omega)]
theorem strip_pow (p : Nat) (hp : 2 ≤ p) (q : Nat) : ∀ n, 1 ≤ n → p ^ (q - (strip p n q).2) ≤ n := by
  induction q with
  | zero => intro n h; simpa [strip] using h
  | succ q ih =>
    intro n h
    simp only [strip]
    split
    · rename_i g
      have hpn : p ≤ n := Nat.le_of_dvd (by omega) (Nat.dvd_of_mod_eq_zero g)
      have h1 := ih (n / p) (Nat.div_pos hpn (by omega))
      have h2 := (strip_le p q (n / p)).2
      rw [show q + 1 - (strip p (n / p) q).2 = (q - (strip p (n / p) q).2) + 1 by omega, Nat.pow_succ]
      have h3 : n / p * p ≤ n := Nat.div_mul_le_self n p
      exact Nat.le_trans (Nat.mul_le_mul_right p h1) h3
    · simpa using h
theorem fracDn_over {n q : Nat} (hn : 1 ≤ n) (hn2 : n < 1000000000000000000) (hq : 200 ≤ q) : fracDn n q = (0, 0) := by
  unfold fracDn
  have h1 := strip_pow 2 (by omega) q n hn
  have h2 := (strip_le 2 q n).2
  have h3 : 100 ≤ (strip 2 n q).2 := by
    refine Nat.le_of_not_lt fun h => ?_
    have : 2 ^ 100 ≤ 2 ^ (q - (strip 2 n q).2) := Nat.pow_le_pow_right (by omega) (by omega)
    have : (1000000000000000000 : Nat) < 2 ^ 100 := by decide
    omega
  have h4 : 2 ^ 100 ≤ 2 ^ (strip 2 n q).2 := Nat.pow_le_pow_right (by omega) h3
  have h5 : (9223372036854775807 : Nat) < 2 ^ 100 := by decide
  have h6 : 2 ^ (strip 2 n q).2 * 1 ≤ 2 ^ (strip 2 n q).2 * 5 ^ (strip 5 (strip 2 n q).1 q).2 := Nat.mul_le_mul_left _ (Nat.pow_pos (by omega))
  rw [if_neg (by omega)]
theorem fr_near {n : Nat} {e E : Int} {a : Int} (hn : 1 ≤ n) (hn2 : n < 1000000000000000000) (h : Near e E) (ha : -1000000000000 ≤ a ∧ a ≤ 1000000000000) : fr n (e + a) = fr n (E + a) := by
  rcases h with rfl | ⟨h1, h2, h3⟩ | ⟨h1, h2, h3⟩
  · rfl
  · unfold fr
    rw [if_pos (by omega), if_pos (by omega), fracUp_over hn (by omega), fracUp_over hn (by omega)]
  · unfold fr
    rw [if_neg (by omega), if_neg (by omega), fracDn_over hn hn2 (by omega), fracDn_over hn hn2 (by omega)]
theorem val_near {neg : Bool} {ds : List Int} {e E : Int} {k : Nat} (hd : Digs ds) (hl : ds.length ≤ 1000000000) (hk : k ≤ 1000000000) (h : Near e E) : valOf neg ds (e - k) = valOf neg ds (E - k) := by
  have hc := cut_len ds
  unfold valOf
  by_cases h1 : cutR (cut0 ds) = []
  · rw [if_pos h1, if_pos h1]
  rw [if_neg h1, if_neg h1]
  by_cases h2 : 18 < (cutR (cut0 ds)).length
  · rw [if_pos h2, if_pos h2]
  rw [if_neg h2, if_neg h2]
  have := fr_near (n := natOf (cutR (cut0 ds))) (a := -(k : Int) + (((cut0 ds).length - (cutR (cut0 ds)).length : Nat) : Int)) (cnt_pos hd h1) (natOf_lt hd.cut.2 (by omega)) h (by omega)
  rw [show e - (k : Int) + (((cut0 ds).length - (cutR (cut0 ds)).length : Nat) : Int) = e + (-(k : Int) + (((cut0 ds).length - (cutR (cut0 ds)).length : Nat) : Int)) by omega, this]
  rw [show E - (k : Int) + (((cut0 ds).length - (cutR (cut0 ds)).length : Nat) : Int) = E + (-(k : Int) + (((cut0 ds).length - (cutR (cut0 ds)).length : Nat) : Int)) by omega]
theorem val_zero {b : Bool} {D : List Int} {k : Int} (h : cutR (cut0 D) = []) : valOf b D k = (0, 1) := by unfold valOf; rw [if_pos h]
theorem val_over {b : Bool} {D : List Int} {k : Int} (h : cutR (cut0 D) ≠ []) (g : 18 < (cutR (cut0 D)).length) : valOf b D k = (0, 0) := by unfold valOf; rw [if_neg h, if_pos g]
theorem val_fr {b : Bool} {D : List Int} {k : Int} (h : cutR (cut0 D) ≠ []) (g : (cutR (cut0 D)).length ≤ 18) : valOf b D k = sg b (fr (natOf (cutR (cut0 D))) (k + ((cut0 D).length - (cutR (cut0 D)).length : Nat))) := by
  unfold valOf; rw [if_neg h, if_neg (by omega)]
/-- The program's shift is the fraction. -/
theorem fr_sh {n : Nat} (p : Int) : fr n p = if shB n p then ((shN n p : Int), (shD n p : Int)) else (0, 0) := by
  unfold fr
  by_cases hp : 0 ≤ p
  · rw [if_pos hp]
    unfold fracUp shB shN shD
    rw [if_pos hp, if_pos hp, if_pos hp]
    by_cases h : n * 10 ^ p.toNat ≤ 9223372036854775807
    · rw [if_pos h, mulB_yes h, mulV_yes h]; rfl
    · rw [if_neg h, mulB_no h]; rfl
  · rw [if_neg hp]
    unfold fracDn shB shN shD
    rw [if_neg hp, if_neg hp, if_neg hp]
    generalize (-p).toNat = q
    by_cases h : 2 ^ (strip 2 n q).2 ≤ 9223372036854775807
    · rw [mulB_yes h, mulV_yes h]
      by_cases g : 2 ^ (strip 2 n q).2 * 5 ^ (strip 5 (strip 2 n q).1 q).2 ≤ 9223372036854775807
      · rw [if_pos g, mulB_yes g, mulV_yes g]; rfl
      · rw [if_neg g, mulB_no g]; rfl
    · rw [mulB_no h]
      have h6 : 2 ^ (strip 2 n q).2 * 1 ≤ 2 ^ (strip 2 n q).2 * 5 ^ (strip 5 (strip 2 n q).1 q).2 := Nat.mul_le_mul_left _ (Nat.pow_pos (by omega))
      rw [if_neg (by omega)]; rfl
theorem sh_le {n : Nat} {p : Int} (hn : n ≤ 9223372036854775807) : shN n p ≤ 9223372036854775807 ∧ shD n p ≤ 9223372036854775807 := by
  have hv : ∀ P, mulV P ≤ 9223372036854775807 := fun P => by unfold mulV; split <;> omega
  unfold shN shD
  constructor
  · split
    · exact hv _
    · split
      · have h1 := (strip_le 2 (-p).toNat n).1
        have h2 := (strip_le 5 (-p).toNat (strip 2 n (-p).toNat).1).1
        omega
      · omega
  · split
    · omega
    · split
      · exact hv _
      · omega
end Go.Proofs.YtbdacepomdlcbaaGreatDoor
set_option linter.unusedVariables false
set_option linter.unusedSimpArgs false
namespace Go.Proofs.YtbdacepomdlcbaaGreatDoor
open Go.RowKit

theorem trimL_bl (s : ByteArray) : bl ⟨(Lib.trimLeftB s.data.toList 48).toArray⟩ = cut0 (bl s) := by
  unfold bl Lib.trimLeftB cut0
  simp only
  generalize s.data.toList = l
  induction l with
  | nil => rfl
  | cons c l ih =>
    by_cases h : c = 48
    · subst h
      rw [List.dropWhile_cons_of_pos (by rfl), List.map_cons, List.dropWhile_cons_of_pos (by rfl)]
      exact ih
    · have h1 : ((c.toNat : Int) == 48) = false := by
        simp only [beq_eq_false_iff_ne]
        intro e
        exact h (UInt8.toNat_inj.1 (by show c.toNat = 48; omega))
      rw [List.dropWhile_cons_of_neg (by simpa using h), List.map_cons, List.dropWhile_cons_of_neg (by simp [h1])]
theorem dropW_map (l : List UInt8) : (l.dropWhile (· == 48)).map (fun b => (b.toNat : Int)) = (l.map fun b => (b.toNat : Int)).dropWhile (· == 48) := by
  induction l with
  | nil => rfl
  | cons c l ih =>
    by_cases h : c = 48
    · subst h
      rw [List.dropWhile_cons_of_pos (by rfl), List.map_cons, List.dropWhile_cons_of_pos (by rfl)]
      exact ih
    · have h1 : ((c.toNat : Int) == 48) = false := by
        simp only [beq_eq_false_iff_ne]
        intro e
        exact h (UInt8.toNat_inj.1 (by show c.toNat = 48; omega))
      rw [List.dropWhile_cons_of_neg (by simpa using h), List.map_cons, List.dropWhile_cons_of_neg (by simp [h1])]
theorem trimR_bl (s : ByteArray) : bl ⟨(Lib.trimRightB s.data.toList 48).toArray⟩ = cutR (bl s) := by
  unfold bl Lib.trimRightB cutR
  show ((s.data.toList.reverse.dropWhile (· == 48)).reverse.toArray.toList.map _) = _
  rw [List.map_reverse]
  rw [dropW_map, List.map_reverse]
/-- A value's post. -/
def PostV (b : Bool) (D : List Int) (k : Int) (w : World) (e : Ending) (w' : World) : Prop := e = .returned (ratV (valOf b D k).1 (valOf b D k).2) ∧ Below w.heap.size w w'
theorem trimR_any (s : ByteArray) (w : World) (hs : s.size ≤ 9223372036854775807) : Calls Tryz.prog 120 #[.string s, .string ⟨#[48]⟩] w fun e w' => ∃ t, e = .returned (.string t) ∧ bl t = cutR (bl s) ∧ w' = w :=
  (sh_strings_TrimRight_one s 48 (by decide) w hs).mono fun _ _ ⟨h1, h2⟩ => ⟨_, h1, trimR_bl s, h2⟩
theorem PostV.mk {b : Bool} {D : List Int} {k : Int} {w w' : World} {e : Ending} {n d : Int} (hv : valOf b D k = (n, d)) (h1 : e = .returned (ratV n d)) (h2 : Below w.heap.size w w') : PostV b D k w e w' := by
  unfold PostV; rw [hv]; exact ⟨h1, h2⟩
end Go.Proofs.YtbdacepomdlcbaaGreatDoor
set_option linter.unusedVariables false
set_option linter.unusedSimpArgs false
namespace Go.Proofs.YtbdacepomdlcbaaGreatDoor
open Go.RowKit

/-- What is told of a text as a number. -/
def dN (S : List Int) : Int := ((dec S).getD ((0, 0), false)).1.1
def dD (S : List Int) : Int := ((dec S).getD ((0, 0), false)).1.2
def dW (S : List Int) : Bool := ((dec S).getD ((0, 0), false)).2
def dE (S : List Int) : Int := if (dec S).isSome then 0 else 3
def decV (S : List Int) : Value := .tuple #[ratV (dN S) (dD S), .bool (dW S), .int .i64 (dE S)]
theorem decV_none {S : List Int} (h : dec S = none) : decV S = .tuple #[ratV 0 0, .bool false, .int .i64 3] := by unfold decV dN dD dW dE; rw [h]; rfl
theorem decV_some {S : List Int} {r : Int × Int} {b : Bool} (h : dec S = some (r, b)) : decV S = .tuple #[ratV r.1 r.2, .bool b, .int .i64 0] := by unfold decV dN dD dW dE; rw [h]; rfl
end Go.Proofs.YtbdacepomdlcbaaGreatDoor
