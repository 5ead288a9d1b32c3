/-
  A number of a stylesheet taken apart, by the program.
  A number of a stylesheet taken apart, by the program: the walk.
  Plain: a decimal's digits, counted; exponents that are very great.
  Plain: a fraction as a decimal, and back.
-/
import Derived.Test.YtmkbjcoagfnegabGreatDoorV07
import Derived.Test.YtmkbjcoagfnegabGreatDoorShelfD
import Derived.Lib.ParseIntB
import Derived.Test.YtmkbjcoagfnegabGreatDoorV06
import Derived.Lib.ItoaNum
set_option linter.unusedVariables false
set_option linter.unusedSimpArgs false
namespace Go.Proofs.YtmkbjcoagfnegabGreatDoor
open Go.RowKit

theorem hasPre (t : ByteArray) : Lib.hasPrefix t.data.toList (⟨#[46]⟩ : ByteArray).data.toList = (nx (bl t) 0 == 46) := by
  show List.isPrefixOf [46] t.data.toList = _
  unfold bl nx
  cases t.data.toList with
  | nil => rfl
  | cons x r =>
    simp only [List.isPrefixOf, List.map_cons, List.getD_cons_zero, Bool.and_true]
    rw [Bool.eq_iff_iff]
    simp only [beq_iff_eq]
    constructor
    · rintro rfl; rfl
    · intro h
      have : x.toNat = 46 := by omega
      exact (UInt8.toNat_inj.1 this).symm
/-- A number, taken apart. -/
def numV (b : Bool) (x y : ByteArray) (e : Int) (h : Bool) : Value := .agg #[.bool b, .string x, .string y, .int .i64 e, .bool h]
/-- What is told of a number taken apart. -/
def TA (S : List Int) (b : Bool) (x y : ByteArray) (e : Int) (h ok : Bool) : Prop :=
  (ok = false ∧ dec S = none) ∨ (ok = true ∧ ∃ E, Near e E ∧ -18014398509481984 ≤ e ∧ e ≤ 18014398509481984 ∧ (bl x ++ bl y).length ≤ S.length ∧ Digs (bl x ++ bl y) ∧ dec S = some (valOf b (bl x ++ bl y) (E - (bl y).length), h))
def PostTA (s : ByteArray) (w : World) (e : Ending) (w' : World) : Prop :=
  ∃ b x y i h ok, e = .returned (.tuple #[numV b x y i h, .bool ok]) ∧ TA (bl s) b x y i h ok ∧ Below w.heap.size w w'
theorem PostTA.mk {s : ByteArray} {w w' : World} {e : Ending} (b : Bool) (x y : ByteArray) (i : Int) (h ok : Bool) (h1 : e = .returned (.tuple #[numV b x y i h, .bool ok])) (h2 : TA (bl s) b x y i h ok) (h3 : Below w.heap.size w w') : PostTA s w e w' := ⟨b, x, y, i, h, ok, h1, h2, h3⟩
/-! The pieces of a text -/
def p0 (S : List Int) : List Int := (sgn S).2
def p1 (S : List Int) : List Int := dgs (p0 S)
def pA (S : List Int) : List Int := tkd (p0 S)
def pB (S : List Int) : List Int := tkd ((p1 S).drop 1)
def p2 (S : List Int) : List Int := dgs ((p1 S).drop 1)
theorem dec_dot {S : List Int} (h : nx (p1 S) 0 = 46) : dec S = if pB S = [] then none else decE (sgn S).1 (pA S ++ pB S) (pB S).length false (p2 S) := by
  unfold dec
  rw [if_pos (show nx (dgs (sgn S).2) 0 = 46 from h)]
  rfl
theorem dec_nodot {S : List Int} (h : nx (p1 S) 0 ≠ 46) : dec S = decE (sgn S).1 (pA S) 0 true (p1 S) := by
  unfold dec
  rw [if_neg (show ¬ nx (dgs (sgn S).2) 0 = 46 from h)]
  rfl
theorem p_len (S : List Int) : (p0 S).length ≤ S.length ∧ (p1 S).length ≤ S.length ∧ (pA S).length + (p1 S).length ≤ S.length ∧ (pA S).length + (pB S).length ≤ S.length ∧ (p2 S).length ≤ S.length := by
  have h0 := sgn_len S
  have h1 : (pA S).length + (p1 S).length = (p0 S).length := by
    unfold pA p1 tkd dgs
    rw [← List.length_append, List.takeWhile_append_dropWhile]
  have h2 := tkd_len ((p1 S).drop 1)
  have h3 := dgs_len ((p1 S).drop 1)
  rw [List.length_drop] at h2 h3
  have h0' : (p0 S).length ≤ S.length := h0
  have h2' : (pB S).length ≤ (p1 S).length - 1 := h2
  have h3' : (p2 S).length ≤ (p1 S).length - 1 := h3
  omega
theorem digs_ab (S : List Int) : Digs (pA S ++ pB S) := by
  intro x hx
  rcases List.mem_append.1 hx with h | h
  · exact tkd_digs _ x h
  · exact tkd_digs _ x h
theorem decE_none {neg : Bool} {k : Nat} {wh : Bool} {s : List Int} : decE neg [] k wh s = none := by unfold decE; rw [if_pos rfl]
theorem decE_end {neg : Bool} {ds : List Int} {k : Nat} {wh : Bool} (h : ds ≠ []) : decE neg ds k wh [] = some (valOf neg ds (-k), wh) := by unfold decE; rw [if_neg h, if_pos rfl]
theorem decE_exp {neg : Bool} {ds : List Int} {k : Nat} {wh : Bool} {s : List Int} (h : ds ≠ []) (g : s ≠ []) : decE neg ds k wh s = (expo s).map fun e => (valOf neg ds (e - k), false) := by unfold decE; rw [if_neg h, if_neg g]
/-- From an exponent's answer to the number's. -/
theorem ta_exp {S s : List Int} {b : Bool} {x y : ByteArray} {e : Int} {ok : Bool} (h : ExR s e ok) (hd : dec S = (expo s).map fun E => (valOf b (bl x ++ bl y) (E - (bl y).length), false)) (hl : (bl x ++ bl y).length ≤ S.length) (hg : Digs (bl x ++ bl y)) : TA S b x y e false ok := by
  unfold ExR at h
  cases hx : expo s with
  | none =>
    rw [hx] at h hd
    exact .inl ⟨h.2, hd⟩
  | some E =>
    rw [hx] at h hd
    obtain ⟨h1, h2, h3, h4⟩ := h
    exact .inr ⟨h1, E, h2, h3, h4, hl, hg, hd⟩
theorem ta_end {S : List Int} {b : Bool} {x y : ByteArray} {h : Bool} (hd : dec S = some (valOf b (bl x ++ bl y) (-((bl y).length : Nat)), h)) (hl : (bl x ++ bl y).length ≤ S.length) (hg : Digs (bl x ++ bl y)) : TA S b x y 0 h true :=
  .inr ⟨rfl, 0, .inl rfl, by omega, by omega, hl, hg, by rw [hd]; congr 3; omega⟩
end Go.Proofs.YtmkbjcoagfnegabGreatDoor
set_option linter.unusedVariables false
set_option linter.unusedSimpArgs false
namespace Go.Proofs.YtmkbjcoagfnegabGreatDoor
open Go.RowKit

theorem emp_of {s : ByteArray} {l : List Int} (h : bl s = l) (hl : l = []) : s.toList.isEmpty = true := emp_t (bl_size0.1 (h.trans hl))
theorem full_of {s : ByteArray} {l : List Int} (h : bl s = l) (hl : l ≠ []) : s.toList.isEmpty = false := emp_f (Nat.pos_of_ne_zero fun g => hl (h.symm.trans (bl_size0.2 g)))
theorem pos_of {s : ByteArray} {l : List Int} (h : bl s = l) (hl : l ≠ []) : 0 < s.size := Nat.pos_of_ne_zero fun g => hl (h.symm.trans (bl_size0.2 g))
theorem size_of {s : ByteArray} {l : List Int} (h : bl s = l) {n : Nat} (hl : l.length ≤ n) : s.size ≤ n := by rw [← bl_len, h]; exact hl
theorem dot_ne {l : List Int} (h : nx l 0 = 46) : l ≠ [] := by rintro rfl; simp [nx] at h
end Go.Proofs.YtmkbjcoagfnegabGreatDoor
set_option linter.unusedVariables false
set_option linter.unusedSimpArgs false
namespace Go.Proofs.YtmkbjcoagfnegabGreatDoor
open Go.RowKit

def natF (a : Nat) (l : List Int) : Nat := l.foldl (fun n c => n * 10 + (c - 48).toNat) a
theorem natOf_F (l : List Int) : natOf l = natF 0 l := rfl
theorem natF_ge (l : List Int) : ∀ a, a ≤ natF a l := by
  induction l with
  | nil => intro a; exact Nat.le_refl _
  | cons c l ih =>
    intro a
    have := ih (a * 10 + (c - 48).toNat)
    show a ≤ natF (a * 10 + (c - 48).toNat) l
    omega
def bi (l : List UInt8) : List Int := l.map fun b => (b.toNat : Int)
theorem parse_ok (l : List UInt8) : ∀ a : Nat, Digs (bi l) → l.length ≤ 18 → a < 10 ^ (18 - l.length) → Lib.parseUintM (2 ^ 64 - 1) a l = .ok (natF a (bi l)) := by
  induction l with
  | nil => intro a _ _ _; rfl
  | cons c l ih =>
    intro a hd hl ha
    have hc : isDig (c.toNat : Int) = true := hd _ (by simp [bi])
    simp [isDig] at hc
    have hc' : 48 ≤ c.toNat ∧ c.toNat ≤ 57 := by omega
    simp only [List.length_cons] at hl ha
    have e1 : 10 ^ (18 - l.length) = 10 ^ (18 - (l.length + 1)) * 10 := by rw [← Nat.pow_succ]; congr 1; omega
    have e2 : 10 ^ (18 - (l.length + 1)) ≤ 10 ^ 17 := Nat.pow_le_pow_right (by omega) (by omega)
    have e3 : (10 : Nat) ^ 17 = 100000000000000000 := by decide
    have e4 : (2 : Nat) ^ 64 - 1 = 18446744073709551615 := by decide
    simp only [Lib.parseUintM]
    rw [if_pos hc', if_neg (by omega), if_neg (by omega)]
    rw [ih (a * 10 + (c.toNat - 48)) (fun x hx => hd x (by simp [bi] at hx ⊢; right; exact hx)) (by omega) (by omega)]
    show _ = Lib.NumEnd.ok (natF (a * 10 + ((c.toNat : Int) - 48).toNat) (bi l))
    rw [show ((c.toNat : Int) - 48).toNat = c.toNat - 48 by omega]
theorem parse_str (s : ByteArray) (h1 : bl s ≠ []) (h2 : (bl s).length ≤ 18) (h3 : Digs (bl s)) : Lib.parseUintB 64 s.data.toList = .ok (natOf (bl s)) := by
  unfold Lib.parseUintB
  have hn : s.data.toList ≠ [] := fun e => h1 (by unfold bl; rw [e]; rfl)
  have hl : s.data.toList.length ≤ 18 := by simpa [bl] using h2
  rw [if_neg hn]
  exact parse_ok s.data.toList 0 h3 hl (Nat.pow_pos (by omega))
theorem natF_lt (l : List Int) : ∀ a : Nat, Digs l → natF a l < (a + 1) * 10 ^ l.length := by
  induction l with
  | nil => intro a _; show a < (a + 1) * 1; omega
  | cons c l ih =>
    intro a hd
    have hc : isDig c = true := hd _ (by simp)
    simp [isDig] at hc
    have := ih (a * 10 + (c - 48).toNat) (fun x hx => hd x (by simp [hx]))
    show natF (a * 10 + (c - 48).toNat) l < _
    have e : (a + 1) * 10 ^ (c :: l).length = ((a + 1) * 10) * 10 ^ l.length := by rw [List.length_cons, Nat.pow_succ, Nat.mul_comm (10 ^ l.length), Nat.mul_assoc]
    rw [e]
    have h2 : (a * 10 + (c - 48).toNat + 1) * 10 ^ l.length ≤ ((a + 1) * 10) * 10 ^ l.length := Nat.mul_le_mul_right _ (by omega)
    omega
theorem natOf_lt {l : List Int} (h : Digs l) (hl : l.length ≤ 18) : natOf l < 1000000000000000000 := by
  have h1 := natF_lt l 0 h
  have h2 : 10 ^ l.length ≤ 10 ^ 18 := Nat.pow_le_pow_right (by omega) hl
  have e : (10 : Nat) ^ 18 = 1000000000000000000 := by decide
  rw [natOf_F]
  omega
theorem cutR_pre (l : List Int) : ∃ t, l = cutR l ++ t := by
  obtain ⟨t, ht⟩ := List.dropWhile_suffix (fun x : Int => x == 48) (l := l.reverse)
  refine ⟨t.reverse, ?_⟩
  unfold cutR
  rw [← List.reverse_append, ht, List.reverse_reverse]
theorem cut0_head {l : List Int} {c : Int} {r : List Int} (h : cut0 l = c :: r) : c ≠ 48 := by
  intro e
  have := List.head?_dropWhile_not (fun x : Int => x == 48) l
  rw [show l.dropWhile (fun x => x == 48) = c :: r from h] at this
  simp [e] at this
theorem cut0_suf (l : List Int) : ∃ t, l = t ++ cut0 l := by
  obtain ⟨t, ht⟩ := List.dropWhile_suffix (fun x : Int => x == 48) (l := l)
  exact ⟨t, ht.symm⟩
theorem Digs.cut {l : List Int} (h : Digs l) : Digs (cut0 l) ∧ Digs (cutR (cut0 l)) := by
  have h1 : Digs (cut0 l) := by
    obtain ⟨t, ht⟩ := cut0_suf l
    intro x hx; exact h x (by rw [ht]; simp [hx])
  refine ⟨h1, ?_⟩
  obtain ⟨t, ht⟩ := cutR_pre (cut0 l)
  intro x hx; exact h1 x (by rw [ht]; simp [hx])
theorem cut_len (l : List Int) : (cutR (cut0 l)).length ≤ (cut0 l).length ∧ (cut0 l).length ≤ l.length := by
  obtain ⟨t, ht⟩ := cutR_pre (cut0 l)
  obtain ⟨u, hu⟩ := cut0_suf l
  have h1 := congrArg List.length ht
  have h2 := congrArg List.length hu
  rw [List.length_append] at h1 h2
  omega
theorem cnt_pos {l : List Int} (h : Digs l) (hn : cutR (cut0 l) ≠ []) : 1 ≤ natOf (cutR (cut0 l)) := by
  obtain ⟨t, ht⟩ := cutR_pre (cut0 l)
  have hd := h.cut.2
  cases hc : cutR (cut0 l) with
  | nil => exact absurd hc hn
  | cons c r =>
    rw [hc] at ht hd
    have h48 := cut0_head ht
    have hc : isDig c = true := hd c (by simp)
    simp [isDig] at hc
    rw [natOf_F]
    have := natF_ge r (0 * 10 + (c - 48).toNat)
    show 1 ≤ natF (0 * 10 + (c - 48).toNat) r
    omega
/-! ### Very great exponents -/
theorem fracUp_over {n q : Nat} (hn : 1 ≤ n) (hq : 64 ≤ q) : fracUp n q = (0, 0) := by
  unfold fracUp
  have h1 : 10 ^ 64 ≤ 10 ^ q := Nat.pow_le_pow_right (by omega) hq
  have h2 : 1 * 10 ^ q ≤ n * 10 ^ q := Nat.mul_le_mul_right _ hn
  have h3 : (9223372036854775807 : Nat) < 10 ^ 64 := by decide
  rw [if_neg (by omega)]
theorem strip_pow (p : Nat) (hp : 2 ≤ p) (q : Nat) : ∀ n, 1 ≤ n → p ^ (q - (strip p n q).2) ≤ n := by
  induction q with
  | zero => intro n h; simpa [strip] using h
  | succ q ih =>
    intro n h
    simp only [strip]
    split
    · rename_i g
      have hpn : p ≤ n := Nat.le_of_dvd (by omega) (Nat.dvd_of_mod_eq_zero g)
      have h1 := ih (n / p) (Nat.div_pos hpn (by omega))
      have h2 := (strip_le p q (n / p)).2
      rw [show q + 1 - (strip p (n / p) q).2 = (q - (strip p (n / p) q).2) + 1 by omega, Nat.pow_succ]
      have h3 : n / p * p ≤ n := Nat.div_mul_le_self n p
      exact Nat.le_trans (Nat.mul_le_mul_right p h1) h3
    · simpa using h
theorem fracDn_over {n q : Nat} (hn : 1 ≤ n) (hn2 : n < 1000000000000000000) (hq : 200 ≤ q) : fracDn n q = (0, 0) := by
  unfold fracDn
  have h1 := strip_pow 2 (by omega) q n hn
  have h2 := (strip_le 2 q n).2
  have h3 : 100 ≤ (strip 2 n q).2 := by
    refine Nat.le_of_not_lt fun h => ?_
    have : 2 ^ 100 ≤ 2 ^ (q - (strip 2 n q).2) := Nat.pow_le_pow_right (by omega) (by omega)
    have : (1000000000000000000 : Nat) < 2 ^ 100 := by decide
    omega
  have h4 : 2 ^ 100 ≤ 2 ^ (strip 2 n q).2 := Nat.pow_le_pow_right (by omega) h3
  have h5 : (9223372036854775807 : Nat) < 2 ^ 100 := by decide
  have h6 : 2 ^ (strip 2 n q).2 * 1 ≤ 2 ^ (strip 2 n q).2 * 5 ^ (strip 5 (strip 2 n q).1 q).2 := Nat.mul_le_mul_left _ (Nat.pow_pos (by omega))
  rw [if_neg (by omega)]
theorem fr_near {n : Nat} {e E : Int} {a : Int} (hn : 1 ≤ n) (hn2 : n < 1000000000000000000) (h : Near e E) (ha : -1000000000000 ≤ a ∧ a ≤ 1000000000000) : fr n (e + a) = fr n (E + a) := by
  rcases h with rfl | ⟨h1, h2, h3⟩ | ⟨h1, h2, h3⟩
  · rfl
  · unfold fr
    rw [if_pos (by omega), if_pos (by omega), fracUp_over hn (by omega), fracUp_over hn (by omega)]
  · unfold fr
    rw [if_neg (by omega), if_neg (by omega), fracDn_over hn hn2 (by omega), fracDn_over hn hn2 (by omega)]
theorem val_near {neg : Bool} {ds : List Int} {e E : Int} {k : Nat} (hd : Digs ds) (hl : ds.length ≤ 1000000000) (hk : k ≤ 1000000000) (h : Near e E) : valOf neg ds (e - k) = valOf neg ds (E - k) := by
  have hc := cut_len ds
  unfold valOf
  by_cases h1 : cutR (cut0 ds) = []
  · rw [if_pos h1, if_pos h1]
  rw [if_neg h1, if_neg h1]
  by_cases h2 : 18 < (cutR (cut0 ds)).length
  · rw [if_pos h2, if_pos h2]
  rw [if_neg h2, if_neg h2]
  have := fr_near (n := natOf (cutR (cut0 ds))) (a := -(k : Int) + (((cut0 ds).length - (cutR (cut0 ds)).length : Nat) : Int)) (cnt_pos hd h1) (natOf_lt hd.cut.2 (by omega)) h (by omega)
  rw [show e - (k : Int) + (((cut0 ds).length - (cutR (cut0 ds)).length : Nat) : Int) = e + (-(k : Int) + (((cut0 ds).length - (cutR (cut0 ds)).length : Nat) : Int)) by omega, this]
  rw [show E - (k : Int) + (((cut0 ds).length - (cutR (cut0 ds)).length : Nat) : Int) = E + (-(k : Int) + (((cut0 ds).length - (cutR (cut0 ds)).length : Nat) : Int)) by omega]
theorem val_zero {b : Bool} {D : List Int} {k : Int} (h : cutR (cut0 D) = []) : valOf b D k = (0, 1) := by unfold valOf; rw [if_pos h]
theorem val_over {b : Bool} {D : List Int} {k : Int} (h : cutR (cut0 D) ≠ []) (g : 18 < (cutR (cut0 D)).length) : valOf b D k = (0, 0) := by unfold valOf; rw [if_neg h, if_pos g]
theorem val_fr {b : Bool} {D : List Int} {k : Int} (h : cutR (cut0 D) ≠ []) (g : (cutR (cut0 D)).length ≤ 18) : valOf b D k = sg b (fr (natOf (cutR (cut0 D))) (k + ((cut0 D).length - (cutR (cut0 D)).length : Nat))) := by
  unfold valOf; rw [if_neg h, if_neg (by omega)]
/-- The program's shift is the fraction. -/
theorem fr_sh {n : Nat} (p : Int) : fr n p = if shB n p then ((shN n p : Int), (shD n p : Int)) else (0, 0) := by
  unfold fr
  by_cases hp : 0 ≤ p
  · rw [if_pos hp]
    unfold fracUp shB shN shD
    rw [if_pos hp, if_pos hp, if_pos hp]
    by_cases h : n * 10 ^ p.toNat ≤ 9223372036854775807
    · rw [if_pos h, mulB_yes h, mulV_yes h]; rfl
    · rw [if_neg h, mulB_no h]; rfl
  · rw [if_neg hp]
    unfold fracDn shB shN shD
    rw [if_neg hp, if_neg hp, if_neg hp]
    generalize (-p).toNat = q
    by_cases h : 2 ^ (strip 2 n q).2 ≤ 9223372036854775807
    · rw [mulB_yes h, mulV_yes h]
      by_cases g : 2 ^ (strip 2 n q).2 * 5 ^ (strip 5 (strip 2 n q).1 q).2 ≤ 9223372036854775807
      · rw [if_pos g, mulB_yes g, mulV_yes g]; rfl
      · rw [if_neg g, mulB_no g]; rfl
    · rw [mulB_no h]
      have h6 : 2 ^ (strip 2 n q).2 * 1 ≤ 2 ^ (strip 2 n q).2 * 5 ^ (strip 5 (strip 2 n q).1 q).2 := Nat.mul_le_mul_left _ (Nat.pow_pos (by omega))
      rw [if_neg (by omega)]; rfl
theorem sh_le {n : Nat} {p : Int} (hn : n ≤ 9223372036854775807) : shN n p ≤ 9223372036854775807 ∧ shD n p ≤ 9223372036854775807 := by
  have hv : ∀ P, mulV P ≤ 9223372036854775807 := fun P => by unfold mulV; split <;> omega
  unfold shN shD
  constructor
  · split
    · exact hv _
    · split
      · have h1 := (strip_le 2 (-p).toNat n).1
        have h2 := (strip_le 5 (-p).toNat (strip 2 n (-p).toNat).1).1
        omega
      · omega
  · split
    · omega
    · split
      · exact hv _
      · omega
end Go.Proofs.YtmkbjcoagfnegabGreatDoor
set_option linter.unusedVariables false
set_option linter.unusedSimpArgs false
namespace Go.Proofs.YtmkbjcoagfnegabGreatDoor
open Go.RowKit

/-! ### A fraction as a decimal -/
/-- The upper part and the places of a decimal, of n over d, p places on; none: it has no end. -/
def fin (n d p : Nat) : Option (Nat × Nat) :=
  if h1 : d ≤ 1 then some (n, p)
  else if h2 : d % 10 = 0 then fin n (d / 10) (p + 1)
  else if h3 : d % 5 = 0 then fin (n * 2) (d / 5) (p + 1)
  else if h4 : d % 2 = 0 then fin (n * 5) (d / 2) (p + 1)
  else none
termination_by d
decreasing_by all_goals omega
theorem fin_one {n d p : Nat} (h : d ≤ 1) : fin n d p = some (n, p) := by rw [fin, dif_pos h]
theorem fin_ten {n d p : Nat} (h1 : 1 < d) (h : d % 10 = 0) : fin n d p = fin n (d / 10) (p + 1) := by rw [fin, dif_neg (by omega), dif_pos h]
theorem fin_five {n d p : Nat} (h1 : 1 < d) (h2 : d % 10 ≠ 0) (h : d % 5 = 0) : fin n d p = fin (n * 2) (d / 5) (p + 1) := by rw [fin, dif_neg (by omega), dif_neg h2, dif_pos h]
theorem fin_two {n d p : Nat} (h1 : 1 < d) (h2 : d % 5 ≠ 0) (h : d % 2 = 0) : fin n d p = fin (n * 5) (d / 2) (p + 1) := by rw [fin, dif_neg (by omega), dif_neg (by omega), dif_neg h2, dif_pos h]
theorem fin_none {n d p : Nat} (h1 : 1 < d) (h2 : d % 5 ≠ 0) (h : d % 2 ≠ 0) : fin n d p = none := by rw [fin, dif_neg (by omega), dif_neg (by omega), dif_neg h2, dif_neg h]
theorem fin_eq (a b m : Nat) (hm2 : m % 2 ≠ 0) (hm5 : m % 5 ≠ 0) : ∀ n p, fin n (2 ^ a * 5 ^ b * m) p = if m = 1 then some (n * 2 ^ (max a b - a) * 5 ^ (max a b - b), p + max a b) else none := by
  have key : ∀ k a b, a + b = k → ∀ n p, fin n (2 ^ a * 5 ^ b * m) p = if m = 1 then some (n * 2 ^ (max a b - a) * 5 ^ (max a b - b), p + max a b) else none := by
    intro k
    induction k using Nat.strongRecOn with
    | _ k ih =>
      intro a b hk n p
      have hm0 : 0 < m := by omega
      cases a with
      | zero =>
        cases b with
        | zero =>
          by_cases h : m = 1
          · subst h; rw [fin_one (by simp)]; simp
          · rw [fin_none (by simp; omega) (by simpa using hm5) (by simpa using hm2), if_neg h]
        | succ b =>
          have e : 2 ^ 0 * 5 ^ (b + 1) * m = 5 * (5 ^ b * m) := by rw [Nat.pow_succ, Nat.pow_zero, Nat.one_mul, Nat.mul_comm (5 ^ b), Nat.mul_assoc]
          have hp : 0 < 5 ^ b := Nat.pow_pos (by omega)
          have hq : 0 < 5 ^ b * m := Nat.mul_pos hp hm0
          have ho : (5 ^ b * m) % 2 = 1 := by
            rw [Nat.mul_mod, Nat.pow_mod]; simp; omega
          rw [e, fin_five (by omega) (by omega) (by omega), show 5 * (5 ^ b * m) / 5 = 2 ^ 0 * 5 ^ b * m by simp, ih b (by omega) 0 b (by omega)]
          by_cases h : m = 1
          · rw [if_pos h, if_pos h]
            simp
            constructor
            · rw [Nat.pow_succ, Nat.mul_assoc, Nat.mul_comm 2]
            · omega
          · rw [if_neg h, if_neg h]
      | succ a =>
        cases b with
        | zero =>
          have e : 2 ^ (a + 1) * 5 ^ 0 * m = 2 * (2 ^ a * m) := by rw [Nat.pow_succ, Nat.pow_zero, Nat.mul_one, Nat.mul_comm (2 ^ a), Nat.mul_assoc]
          have hp : 0 < 2 ^ a := Nat.pow_pos (by omega)
          have hq : 0 < 2 ^ a * m := Nat.mul_pos hp hm0
          have ho : (2 * (2 ^ a * m)) % 5 ≠ 0 := by
            intro h
            have h5 : 5 ∣ 2 ^ a * m := (Nat.Coprime.dvd_of_dvd_mul_left (by decide) (Nat.dvd_of_mod_eq_zero h))
            have h6 : 5 ∣ m := Nat.Coprime.dvd_of_dvd_mul_left (Nat.Coprime.pow_right a (by decide)) h5
            omega
          rw [e, fin_two (by omega) ho (by omega), show 2 * (2 ^ a * m) / 2 = 2 ^ a * 5 ^ 0 * m by simp, ih a (by omega) a 0 (by omega)]
          by_cases h : m = 1
          · rw [if_pos h, if_pos h]
            simp
            constructor
            · rw [Nat.pow_succ, Nat.mul_assoc, Nat.mul_comm 5]
            · omega
          · rw [if_neg h, if_neg h]
        | succ b =>
          have e : 2 ^ (a + 1) * 5 ^ (b + 1) * m = 10 * (2 ^ a * 5 ^ b * m) := by
            rw [Nat.pow_succ, Nat.pow_succ, show 2 ^ a * 2 * (5 ^ b * 5) = 10 * (2 ^ a * 5 ^ b) by grind, Nat.mul_assoc]
          have hp : 0 < 2 ^ a * 5 ^ b * m := Nat.mul_pos (Nat.mul_pos (Nat.pow_pos (by omega)) (Nat.pow_pos (by omega))) hm0
          rw [e, fin_ten (by omega) (by omega), show 10 * (2 ^ a * 5 ^ b * m) / 10 = 2 ^ a * 5 ^ b * m by omega, ih (a + b) (by omega) a b rfl]
          rw [show max (a + 1) (b + 1) = max a b + 1 by omega, show max a b + 1 - (a + 1) = max a b - a by omega, show max a b + 1 - (b + 1) = max a b - b by omega, show p + 1 + max a b = p + (max a b + 1) by omega]
  exact key _ a b rfl
theorem fin_ge {d : Nat} : ∀ {n p M q : Nat}, fin n d p = some (M, q) → n ≤ M := by
  induction d using Nat.strongRecOn with
  | _ d ih =>
    intro n p M q h
    by_cases h1 : d ≤ 1
    · rw [fin_one h1] at h; cases h; exact Nat.le_refl _
    by_cases h2 : d % 10 = 0
    · rw [fin_ten (by omega) h2] at h; exact ih _ (by omega) h
    by_cases h3 : d % 5 = 0
    · rw [fin_five (by omega) h2 h3] at h; have := ih _ (by omega) h; omega
    by_cases h4 : d % 2 = 0
    · rw [fin_two (by omega) h3 h4] at h; have := ih _ (by omega) h; omega
    · rw [fin_none (by omega) h3 h4] at h; cases h
theorem cop_mul {n d f : Nat} (h : Nat.gcd n d = 1) (hf : Nat.gcd f d = 1) : Nat.gcd (n * f) d = 1 := Nat.Coprime.mul_left h hf
theorem cop_dvd {n d e : Nat} (h : Nat.gcd n d = 1) (he : e ∣ d) : Nat.gcd n e = 1 := Nat.Coprime.coprime_dvd_right he h
theorem fin_ten_no {d : Nat} : ∀ {n p M q : Nat}, fin n d p = some (M, q) → 1 < d → Nat.gcd n d = 1 → M % 10 ≠ 0 := by
  induction d using Nat.strongRecOn with
  | _ d ih =>
    intro n p M q h h1 hg
    have co : ∀ k, 1 < k → k ∣ d → n % k ≠ 0 := fun k hk hd h0 => by
      have : k ∣ Nat.gcd n d := Nat.dvd_gcd (Nat.dvd_of_mod_eq_zero h0) hd
      rw [hg] at this
      have := Nat.le_of_dvd (by omega) this
      omega
    by_cases h2 : d % 10 = 0
    · rw [fin_ten (by omega) h2] at h
      have hd : d / 10 ∣ d := ⟨10, by omega⟩
      by_cases e : d / 10 = 1
      · rw [fin_one (by omega)] at h
        cases h
        exact co 10 (by omega) (Nat.dvd_of_mod_eq_zero h2)
      · exact ih _ (by omega) h (by omega) (cop_dvd hg hd)
    by_cases h3 : d % 5 = 0
    · rw [fin_five (by omega) h2 h3] at h
      have hd : d / 5 ∣ d := ⟨5, by omega⟩
      have n5 := co 5 (by omega) (Nat.dvd_of_mod_eq_zero h3)
      by_cases e : d / 5 = 1
      · rw [fin_one (by omega)] at h
        cases h
        omega
      · refine ih _ (by omega) h (by omega) (cop_mul (cop_dvd hg hd) ?_)
        have hodd : (d / 5) % 2 = 1 := by omega
        rw [Nat.gcd_rec, hodd]; rfl
    by_cases h4 : d % 2 = 0
    · rw [fin_two (by omega) h3 h4] at h
      have hd : d / 2 ∣ d := ⟨2, by omega⟩
      have n2 := co 2 (by omega) (Nat.dvd_of_mod_eq_zero h4)
      by_cases e : d / 2 = 1
      · rw [fin_one (by omega)] at h
        cases h
        omega
      · refine ih _ (by omega) h (by omega) (cop_mul (cop_dvd hg hd) ?_)
        have h5 : (d / 2) % 5 = 1 ∨ (d / 2) % 5 = 2 ∨ (d / 2) % 5 = 3 ∨ (d / 2) % 5 = 4 := by omega
        rw [Nat.gcd_rec]
        rcases h5 with h | h | h | h <;> rw [h] <;> rfl
    · rw [fin_none (by omega) h3 h4] at h; cases h
theorem split10 (d : Nat) (hd : 0 < d) : ∃ a b m, d = 2 ^ a * 5 ^ b * m ∧ m % 2 ≠ 0 ∧ m % 5 ≠ 0 := by
  induction d using Nat.strongRecOn with
  | _ d ih =>
    by_cases h2 : d % 2 = 0
    · obtain ⟨a, b, m, e, h⟩ := ih (d / 2) (by omega) (by omega)
      exact ⟨a + 1, b, m, by rw [Nat.pow_succ, show 2 ^ a * 2 * 5 ^ b * m = 2 * (2 ^ a * 5 ^ b * m) by grind, ← e]; omega, h⟩
    by_cases h5 : d % 5 = 0
    · obtain ⟨a, b, m, e, h⟩ := ih (d / 5) (by omega) (by omega)
      exact ⟨a, b + 1, m, by rw [Nat.pow_succ, show 2 ^ a * (5 ^ b * 5) * m = 5 * (2 ^ a * 5 ^ b * m) by grind, ← e]; omega, h⟩
    exact ⟨0, 0, d, by simp, h2, h5⟩
/-- A number's digits. -/
def dgt (u : Nat) : List Int := (Lib.decDigits u).map fun b => (b.toNat : Int)
theorem dgt_small {u : Nat} (h : u < 10) : dgt u = [48 + (u : Int)] := by
  unfold dgt; rw [Lib.decDigits_one h]
  simp [UInt8.toNat_ofNat]; omega
theorem dgt_big {u : Nat} (h : ¬ u < 10) : dgt u = dgt (u / 10) ++ [48 + ((u % 10 : Nat) : Int)] := by
  unfold dgt; rw [Lib.decDigits, dif_neg h, List.map_append]
  simp [UInt8.toNat_ofNat]; omega
theorem dgt_len (u : Nat) : (dgt u).length = Lib.nDigits u := by unfold dgt; rw [List.length_map, Lib.decDigits_length]
theorem dgt_digs (u : Nat) : Digs (dgt u) := by
  induction u using Nat.strongRecOn with
  | _ u ih =>
    by_cases h : u < 10
    · rw [dgt_small h]; intro x hx; simp at hx; subst hx; simp [isDig]; omega
    · rw [dgt_big h]
      intro x hx
      rcases List.mem_append.1 hx with hx | hx
      · exact ih _ (by omega) x hx
      · simp at hx; subst hx; simp [isDig]; omega
theorem natOf_dgt (u : Nat) : natOf (dgt u) = u := by
  induction u using Nat.strongRecOn with
  | _ u ih =>
    by_cases h : u < 10
    · rw [dgt_small h]; simp [natOf]; omega
    · rw [dgt_big h, natOf_snoc, ih _ (by omega)]; omega
theorem dgt_ne (u : Nat) : dgt u ≠ [] := by
  intro h
  have := dgt_len u
  rw [h] at this
  have := Lib.nDigits_pos u
  simp at *; omega
theorem cutR_snoc {l : List Int} {c : Int} (h : c ≠ 48) : cutR (l ++ [c]) = l ++ [c] := by
  unfold cutR
  rw [List.reverse_append, List.reverse_singleton, List.singleton_append, List.dropWhile_cons_of_neg (by simpa using h)]
  simp
theorem cutR_zero (l : List Int) : cutR (l ++ [48]) = cutR l := by
  unfold cutR
  rw [List.reverse_append, List.reverse_singleton, List.singleton_append, List.dropWhile_cons_of_pos (by simp)]
theorem cutR_dgt {u : Nat} (h : u % 10 ≠ 0) : cutR (dgt u) = dgt u := by
  by_cases g : u < 10
  · rw [dgt_small g]; exact cutR_snoc (l := []) (by omega)
  · rw [dgt_big g]; exact cutR_snoc (by omega)
theorem dgt_len18 {u : Nat} : 18 < (dgt u).length ↔ 1000000000000000000 ≤ u := by
  rw [dgt_len]
  constructor
  · intro h
    refine Nat.le_of_not_lt fun g => ?_
    have : Lib.nDigits u ≤ 18 := by
      have key : ∀ k u, u < 10 ^ (k + 1) → Lib.nDigits u ≤ k + 1 := by
        intro k
        induction k with
        | zero => intro u hu; rw [Lib.nDigits_small (by simpa using hu)]; omega
        | succ k ih =>
          intro u hu
          by_cases h : u < 10
          · rw [Lib.nDigits_small h]; omega
          · rw [Lib.nDigits_big h]
            have := ih (u / 10) (by rw [Nat.pow_succ] at hu; omega)
            omega
      exact key 17 u (by simpa using g)
    omega
  · intro h
    refine Nat.lt_of_not_le fun g => ?_
    have h1 := Lib.lt_pow_nDigits u
    have h2 : 10 ^ Lib.nDigits u ≤ 10 ^ 18 := Nat.pow_le_pow_right (by omega) g
    have e : (10 : Nat) ^ 18 = 1000000000000000000 := by decide
    omega
/-- The point ahead of the last p digits, one at least on each side. -/
def pad (ds : List Int) (p : Nat) : List Int := List.replicate (p + 1 - ds.length) 48 ++ ds
def ptd (ds : List Int) (p : Nat) : List Int := (pad ds p).take ((pad ds p).length - p) ++ 46 :: (if p = 0 then [48] else (pad ds p).drop ((pad ds p).length - p))
def neg1 (n : Int) : List Int := if n < 0 then [45] else []
/-- A value's decimal. -/
def plV (n d : Int) (wh : Bool) : Option (List Int) :=
  match fin (ab n).toNat d.toNat 0 with
  | none => none
  | some (M, p) => if 18 < (cutR (dgt M)).length then none else some (neg1 n ++ if wh then dgt M else ptd (dgt M) p)
def plO (wh : Bool) : List Int := if wh then [57, 57, 57, 57, 57, 57, 57, 57, 57, 57, 57, 57, 57, 57, 57, 57, 57, 57, 57, 57] else [49, 101, 57, 57]
/-- A fraction as a number of a stylesheet. -/
def plT (n d : Int) (wh : Bool) : Option (List Int) :=
  if mayB n d = false ∨ (wh = true ∧ 1 < d) then none
  else if d = 0 then some (plO wh) else plV n d wh
theorem natOf_zeros (k : Nat) (l : List Int) : natOf (List.replicate k 48 ++ l) = natOf l := by
  induction k with
  | zero => simp
  | succ k ih =>
    rw [List.replicate_succ, List.cons_append]
    show List.foldl _ (0 * 10 + ((48 : Int) - 48).toNat) _ = _
    exact ih
theorem natOf_ends (l : List Int) (k : Nat) : natOf (l ++ List.replicate k 48) = natOf l * 10 ^ k := by
  induction k with
  | zero => simp
  | succ k ih =>
    rw [List.replicate_succ', ← List.append_assoc, natOf_snoc, ih, Nat.pow_succ]
    simp; exact Nat.mul_assoc _ _ _
theorem cutR_ends (l : List Int) : l = cutR l ++ List.replicate (l.length - (cutR l).length) 48 := by
  have key : ∀ n (l : List Int), l.length = n → l = cutR l ++ List.replicate (l.length - (cutR l).length) 48 := by
    intro n
    induction n with
    | zero => intro l h; rw [List.eq_nil_of_length_eq_zero h]; rfl
    | succ n ih =>
      intro l h
      rcases List.eq_nil_or_concat l with rfl | ⟨r, c, rfl⟩
      · simp at h
      · rw [List.concat_eq_append] at *
        have hr : r.length = n := by simpa using h
        by_cases hc : c = 48
        · subst hc
          have e := ih r hr
          have hle : (cutR r).length ≤ r.length := by
            have := congrArg List.length e
            rw [List.length_append] at this
            omega
          rw [cutR_zero]
          rw [show (r ++ [(48 : Int)]).length - (cutR r).length = r.length - (cutR r).length + 1 by simp; omega, List.replicate_succ', ← List.append_assoc, ← e]
        · rw [cutR_snoc hc]; simp
  exact key _ l rfl
theorem cut0_zeros (k : Nat) {l : List Int} (h : nx l 0 ≠ 48) : cut0 (List.replicate k 48 ++ l) = l := by
  induction k with
  | zero =>
    cases l with
    | nil => rfl
    | cons c r => exact List.dropWhile_cons_of_neg (by simpa [nx] using h)
  | succ k ih =>
    rw [List.replicate_succ, List.cons_append]
    show List.dropWhile _ _ = _
    rw [List.dropWhile_cons_of_pos (by simp)]
    exact ih
theorem dgt_head {u : Nat} (h : 0 < u) : nx (dgt u) 0 ≠ 48 := by
  induction u using Nat.strongRecOn with
  | _ u ih =>
    by_cases g : u < 10
    · rw [dgt_small g]; simp [nx]; omega
    · rw [dgt_big g]
      have := ih (u / 10) (by omega) (by omega)
      have hne := dgt_ne (u / 10)
      cases hd : dgt (u / 10) with
      | nil => exact absurd hd hne
      | cons c r => rw [hd] at this; simpa [nx] using this
theorem cut0_dgt0 (k : Nat) : cut0 (List.replicate k 48 ++ dgt 0) = [] := by
  rw [dgt_small (by omega)]
  have : List.replicate k (48 : Int) ++ [48 + ((0 : Nat) : Int)] = List.replicate (k + 1) 48 := by rw [List.replicate_succ']; rfl
  rw [this]
  unfold cut0
  rw [List.dropWhile_replicate]; simp
theorem strip_pows (p : Nat) (hp : 0 < p) (n a : Nat) : ∀ j, strip p (n * p ^ j) (j + a) = strip p n a := by
  intro j
  induction j with
  | zero => simp
  | succ j ih =>
    rw [show j + 1 + a = (j + a) + 1 by omega, strip_go (by rw [Nat.pow_succ, ← Nat.mul_assoc]; exact Nat.mul_mod_left _ _), Nat.pow_succ, ← Nat.mul_assoc, Nat.mul_div_cancel _ hp]
    exact ih
theorem strip_end {p n a : Nat} (h : a = 0 ∨ n % p ≠ 0) : strip p n a = (n, a) := by
  rcases h with rfl | h
  · rfl
  · exact strip_stop h
theorem fracDn_back (N a b : Nat) (h2 : a = 0 ∨ N % 2 ≠ 0) (h5 : b = 0 ∨ N % 5 ≠ 0) (hd : 2 ^ a * 5 ^ b ≤ 9223372036854775807) :
    fracDn (N * 2 ^ (max a b - a) * 5 ^ (max a b - b)) (max a b) = ((N : Int), ((2 ^ a * 5 ^ b : Nat) : Int)) := by
  have h2' : a = 0 ∨ (N * 5 ^ (max a b - b)) % 2 ≠ 0 := by
    rcases h2 with h | h
    · exact .inl h
    · right
      rw [Nat.mul_mod, Nat.pow_mod]; simp; omega
  have s2 : strip 2 (N * 2 ^ (max a b - a) * 5 ^ (max a b - b)) (max a b) = (N * 5 ^ (max a b - b), a) := by
    have := strip_pows 2 (by omega) (N * 5 ^ (max a b - b)) a (max a b - a)
    rw [show max a b - a + a = max a b by omega, strip_end h2'] at this
    rw [← this]; congr 1; grind
  have s5 : strip 5 (N * 5 ^ (max a b - b)) (max a b) = (N, b) := by
    have := strip_pows 5 (by omega) N b (max a b - b)
    rw [show max a b - b + b = max a b by omega, strip_end h5] at this
    exact this
  unfold fracDn
  rw [s2]
  simp only
  rw [s5]
  simp only
  rw [if_pos hd]
/-! ### There and back -/
theorem Digs.app {a b : List Int} (h : Digs a) (g : Digs b) : Digs (a ++ b) := fun x hx => by
  rcases List.mem_append.1 hx with hx | hx
  · exact h x hx
  · exact g x hx
theorem Digs.zeros (k : Nat) : Digs (List.replicate k 48) := fun x hx => by
  rw [List.mem_replicate] at hx; rw [hx.2]; rfl
theorem tkd_app {a r : List Int} (h : Digs a) (hr : isDig (nx r 0) = false) : tkd (a ++ r) = a ∧ dgs (a ++ r) = r := by
  have h0 : tkd r = [] ∧ dgs r = r := by
    cases r with
    | nil => exact ⟨rfl, rfl⟩
    | cons c t =>
      have hc : ¬ isDig c = true := by simpa [nx] using hr
      exact ⟨List.takeWhile_cons_of_neg hc, List.dropWhile_cons_of_neg hc⟩
  unfold tkd dgs at *
  rw [List.takeWhile_append_of_pos (fun x hx => h x hx), List.dropWhile_append_of_pos (fun x hx => h x hx), h0.1, h0.2]
  simp
theorem sgn_neg1 (n : Int) {x : List Int} (h : isDig (nx x 0) = true) : sgn (neg1 n ++ x) = (decide (n < 0), x) := by
  unfold sgn neg1
  by_cases hn : n < 0
  · rw [if_pos hn]; simp [nx, isSg, hn]
  · rw [if_neg hn]
    have : isSg (nx x 0) = false := by
      simp [isDig] at h
      simp [isSg]; omega
    rw [List.nil_append, if_neg (by simp [this])]
    simp [hn]
theorem digs_head {l : List Int} (h : Digs l) (hn : l ≠ []) : isDig (nx l 0) = true := by
  cases l with
  | nil => exact absurd rfl hn
  | cons c r => exact h c (by simp)
theorem dec_whole (n : Int) {A : List Int} (hA : Digs A) (hn : A ≠ []) : dec (neg1 n ++ A) = some (valOf (decide (n < 0)) A 0, true) := by
  have h0 := digs_head hA hn
  have ht := tkd_app (r := []) hA (by decide)
  rw [List.append_nil] at ht
  unfold dec
  rw [sgn_neg1 n h0]
  simp only
  rw [ht.1, ht.2, if_neg (by decide)]
  unfold decE
  rw [if_neg hn, if_pos rfl]
  rfl
theorem dec_point (n : Int) {A B : List Int} (hA : Digs A) (hn : A ≠ []) (hB : Digs B) (gn : B ≠ []) : dec (neg1 n ++ (A ++ 46 :: B)) = some (valOf (decide (n < 0)) (A ++ B) (-(B.length : Nat)), false) := by
  have h0 : isDig (nx (A ++ 46 :: B) 0) = true := by
    have := digs_head hA hn
    cases A with
    | nil => exact absurd rfl hn
    | cons c r => simpa [nx] using this
  have ht := tkd_app (a := A) (r := 46 :: B) hA (by rfl)
  have hu := tkd_app (a := B) (r := []) hB (by decide)
  rw [List.append_nil] at hu
  unfold dec
  rw [sgn_neg1 n h0]
  simp only
  rw [ht.1, ht.2, if_pos (by rfl)]
  simp only [List.drop_one, List.tail_cons]
  rw [hu.1, hu.2, if_neg gn]
  unfold decE
  rw [if_neg (by simp [hn]), if_pos rfl]
theorem nx_app {l r : List Int} (h : l ≠ []) : nx (l ++ r) 0 = nx l 0 := by
  cases l with
  | nil => exact absurd rfl h
  | cons c t => simp [nx]
theorem cutR_reps (l : List Int) (e : Nat) : cutR (l ++ List.replicate e 48) = cutR l := by
  induction e with
  | zero => simp
  | succ e ih => rw [List.replicate_succ', ← List.append_assoc, cutR_zero, ih]
theorem cutR_nil_zero {l : List Int} (h : cutR l = []) : natOf l = 0 := by
  have := cutR_ends l
  rw [h, List.nil_append] at this
  rw [this]
  have := natOf_zeros (l.length - ([] : List Int).length) []
  rw [List.append_nil] at this
  rw [this]; rfl
theorem val_dgt (b : Bool) {M : Nat} (hM : 0 < M) (z e : Nat) (k : Int) (hl : ¬ 18 < (cutR (dgt M)).length) :
    valOf b (List.replicate z 48 ++ (dgt M ++ List.replicate e 48)) k = sg b (fr (natOf (cutR (dgt M))) (k + (((dgt M).length - (cutR (dgt M)).length + e : Nat) : Int))) := by
  have hx : nx (dgt M ++ List.replicate e 48) 0 ≠ 48 := by rw [nx_app (dgt_ne M)]; exact dgt_head hM
  have c0 := cut0_zeros z hx
  have cR := cutR_reps (dgt M) e
  have hn : cutR (dgt M) ≠ [] := fun h => by
    have := cutR_nil_zero h
    rw [natOf_dgt] at this; omega
  have hle : (cutR (dgt M)).length ≤ (dgt M).length := by
    have := congrArg List.length (cutR_ends (dgt M))
    rw [List.length_append] at this; omega
  unfold valOf
  rw [c0, cR, if_neg hn, if_neg hl]
  congr 3
  rw [List.length_append, List.length_replicate]
  omega
theorem core_pow (M : Nat) : natOf (cutR (dgt M)) * 10 ^ ((dgt M).length - (cutR (dgt M)).length) = M := by
  rw [← natOf_ends, ← cutR_ends, natOf_dgt]
theorem ab_nat (n : Int) : ((ab n).toNat : Int) = ab n := by unfold ab; split <;> omega
theorem sg_ab {n d : Int} : sg (decide (n < 0)) (ab n, d) = (n, d) := by
  unfold sg ab
  by_cases h : n < 0
  · simp [h]
  · simp [h]
theorem isV_out {n d : Int} (h : isV n d = true) : 1 ≤ d ∧ n ≠ -9223372036854775808 ∧ Nat.gcd (ab n).toNat d.toNat = 1 := by
  unfold isV gc at h
  simp at h
  refine ⟨h.1.1, h.1.2, ?_⟩
  have hg := h.2
  have ha := ab_nat n
  obtain ⟨N, hN⟩ : ∃ N : Nat, ab n = N := ⟨_, ha.symm⟩
  obtain ⟨D, hD⟩ : ∃ D : Nat, d = D := ⟨d.toNat, by omega⟩
  rw [hN, hD, Int.gcd_natCast_natCast] at hg
  rw [hN, hD]
  simp
  omega
theorem gcd_zero {D : Nat} (h : Nat.gcd 0 D = 1) : D = 1 := by simpa using h
/-- The value of a decimal, with noughts ahead and behind: it is the fraction. -/
theorem val_back {n d : Int} {M p : Nat} (hv : isV n d = true) (n1 : -9223372036854775808 ≤ n) (n2 : n ≤ 9223372036854775807) (d2 : d ≤ 9223372036854775807) (hf : fin (ab n).toNat d.toNat 0 = some (M, p)) (hl : ¬ 18 < (cutR (dgt M)).length) (z e : Nat) :
    valOf (decide (n < 0)) (List.replicate z 48 ++ (dgt M ++ List.replicate e 48)) (-((p + e : Nat) : Int)) = (n, d) := by
  obtain ⟨hd, hm, hg⟩ := isV_out hv
  have ha := ab_nat n
  obtain ⟨N, hN⟩ : ∃ N, (ab n).toNat = N := ⟨_, rfl⟩
  obtain ⟨D, hD⟩ : ∃ D : Nat, d = D := ⟨d.toNat, by omega⟩
  have hab : ab n = N := by omega
  rw [hN] at hf hg
  rw [hD] at hf hg hd d2
  simp only [Int.toNat_natCast] at hf hg
  have hNm : N ≤ 9223372036854775807 := by have : ab n ≤ 9223372036854775807 := by unfold ab; split <;> omega
                                           omega
  by_cases h1 : D = 1
  · subst h1
    rw [fin_one (by omega)] at hf
    cases hf
    by_cases h0 : M = 0
    · subst h0
      have hn0 : n = 0 := by unfold ab at hab; split at hab <;> omega
      unfold valOf
      have : cut0 (List.replicate z 48 ++ (dgt 0 ++ List.replicate e 48)) = [] := by
        rw [dgt_small (by omega)]
        have : List.replicate z (48 : Int) ++ ([48 + ((0 : Nat) : Int)] ++ List.replicate e 48) = List.replicate (z + (1 + e)) 48 := by
          rw [← List.replicate_append_replicate, ← List.replicate_append_replicate]; rfl
        rw [this]; unfold cut0; rw [List.dropWhile_replicate]; simp
      rw [this, if_pos (by rfl), hn0, hD]; rfl
    · rw [val_dgt _ (by omega) z e _ hl]
      have hc := core_pow M
      have hle : (cutR (dgt M)).length ≤ (dgt M).length := by
        have := congrArg List.length (cutR_ends (dgt M))
        rw [List.length_append] at this; omega
      unfold fr
      rw [if_pos (by omega)]
      unfold fracUp
      rw [show (-((0 + e : Nat) : Int) + (((dgt M).length - (cutR (dgt M)).length + e : Nat) : Int)).toNat = (dgt M).length - (cutR (dgt M)).length by omega, hc, if_pos hNm, ← hab, hD]
      exact sg_ab
  · have hM10 := fin_ten_no hf (by omega) hg
    have hM0 : 0 < M := by omega
    rw [val_dgt _ hM0 z e _ hl, cutR_dgt hM10, natOf_dgt]
    obtain ⟨a, b, m, hs, m2, m5⟩ := split10 D (by omega)
    rw [hs, fin_eq a b m m2 m5] at hf
    by_cases hm1 : m = 1
    · rw [if_pos hm1] at hf
      cases hf
      subst hm1
      rw [Nat.mul_one] at hs
      have hp : 0 < max a b := by
        refine Nat.pos_of_ne_zero fun h => ?_
        have ha0 : a = 0 := by omega
        have hb0 : b = 0 := by omega
        subst ha0; subst hb0; simp at hs; exact h1 hs
      have c2 : a = 0 ∨ N % 2 ≠ 0 := by
        by_cases h : a = 0
        · exact .inl h
        · right; intro h0
          have : 2 ∣ Nat.gcd N D := Nat.dvd_gcd (Nat.dvd_of_mod_eq_zero h0) (by
            rw [hs]; exact Nat.dvd_trans (Nat.dvd_trans (by simp) (Nat.pow_dvd_pow 2 (show 1 ≤ a by omega))) (Nat.dvd_mul_right _ _))
          rw [hg] at this; omega
      have c5 : b = 0 ∨ N % 5 ≠ 0 := by
        by_cases h : b = 0
        · exact .inl h
        · right; intro h0
          have : 5 ∣ Nat.gcd N D := Nat.dvd_gcd (Nat.dvd_of_mod_eq_zero h0) (by
            rw [hs]; exact Nat.dvd_trans (Nat.dvd_trans (by simp) (Nat.pow_dvd_pow 5 (show 1 ≤ b by omega))) (Nat.dvd_mul_left _ _))
          rw [hg] at this; omega
      unfold fr
      rw [if_neg (by omega), show (-(-((0 + max a b + e : Nat) : Int) + (((dgt (N * 2 ^ (max a b - a) * 5 ^ (max a b - b))).length - (dgt (N * 2 ^ (max a b - a) * 5 ^ (max a b - b))).length + e : Nat) : Int))).toNat = max a b by omega]
      rw [fracDn_back N a b c2 c5 (by omega), ← hs, ← hab, hD]
      exact sg_ab
    · rw [if_neg hm1] at hf; cases hf
theorem pad_len (ds : List Int) (p : Nat) : (pad ds p).length = max (p + 1) ds.length := by unfold pad; rw [List.length_append, List.length_replicate]; omega
/-- What is written is read again. -/
theorem pl_back {n d : Int} {wh : Bool} {t : List Int} (n1 : -9223372036854775808 ≤ n) (n2 : n ≤ 9223372036854775807) (d2 : d ≤ 9223372036854775807) (h : plT n d wh = some t) : dec t = some ((n, d), wh) := by
  unfold plT at h
  by_cases h1 : mayB n d = false ∨ (wh = true ∧ 1 < d)
  · rw [if_pos h1] at h; cases h
  rw [if_neg h1] at h
  have hm : mayB n d = true := by
    cases hb : mayB n d with
    | true => rfl
    | false => exact absurd (.inl hb) h1
  by_cases h0 : d = 0
  · rw [if_pos h0] at h
    subst h0
    have hn : n = 0 := by
      unfold mayB isV at hm
      simp at hm; exact hm
    subst hn
    cases h
    cases wh
    · decide +kernel
    · decide +kernel
  rw [if_neg h0] at h
  have hv : isV n d = true := by
    unfold mayB at hm
    simp [h0] at hm; exact hm
  unfold plV at h
  cases hf : fin (ab n).toNat d.toNat 0 with
  | none => rw [hf] at h; cases h
  | some r =>
    obtain ⟨M, p⟩ := r
    rw [hf] at h
    simp only at h
    by_cases hl : 18 < (cutR (dgt M)).length
    · rw [if_pos hl] at h; cases h
    rw [if_neg hl] at h
    cases h
    have vb := val_back hv n1 n2 d2 hf hl
    cases wh with
    | true =>
      have hd1 : d = 1 := by
        have := (isV_out hv).1
        have : ¬ 1 < d := fun g => h1 (.inr ⟨rfl, g⟩)
        omega
      have hp : p = 0 := by
        rw [hd1, show (1 : Int).toNat = 1 by rfl, fin_one (by omega)] at hf
        cases hf; rfl
      simp only [if_true]
      rw [dec_whole n (dgt_digs M) (dgt_ne M)]
      have := vb 0 0
      rw [hp] at this
      simp at this
      rw [this]
    | false =>
      simp only [Bool.false_eq_true, if_false]
      have hpd : Digs (pad (dgt M) p) := (Digs.zeros _).app (dgt_digs M)
      have hpl := pad_len (dgt M) p
      unfold ptd
      have hA : Digs ((pad (dgt M) p).take ((pad (dgt M) p).length - p)) := fun x hx => hpd x (List.mem_of_mem_take hx)
      have hAn : (pad (dgt M) p).take ((pad (dgt M) p).length - p) ≠ [] := by
        intro h
        have := congrArg List.length h
        rw [List.length_take] at this
        simp at this; omega
      by_cases hp : p = 0
      · subst hp
        rw [if_pos rfl]
        rw [dec_point n hA hAn (fun x hx => by simp at hx; subst hx; rfl) (by simp)]
        have := vb (0 + 1 - (dgt M).length) 1
        rw [Nat.sub_zero, List.take_length]
        unfold pad
        rw [List.append_assoc]
        simp only [List.length_singleton]
        rw [show (-((1 : Nat) : Int)) = -((0 + 1 : Nat) : Int) by rfl]
        rw [show ([48] : List Int) = List.replicate 1 48 by rfl, this]
      · rw [if_neg hp]
        rw [dec_point n hA hAn (fun x hx => hpd x (List.mem_of_mem_drop hx)) (fun h => by
          have := congrArg List.length h
          rw [List.length_drop] at this
          simp at this; omega)]
        rw [List.take_append_drop, List.length_drop]
        have := vb (p + 1 - (dgt M).length) 0
        simp only [List.replicate_zero, List.append_nil, Nat.add_zero] at this
        rw [show (pad (dgt M) p).length - ((pad (dgt M) p).length - p) = p by omega]
        exact congrArg (fun x => some (x, false)) this
end Go.Proofs.YtmkbjcoagfnegabGreatDoor
