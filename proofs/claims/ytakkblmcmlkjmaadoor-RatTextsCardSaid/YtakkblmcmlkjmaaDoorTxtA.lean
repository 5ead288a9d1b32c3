/-
  Plain: fractions as texts, and back.
-/
import Derived.Test.YtakkblmcmlkjmaaDoorPlnA
import Derived.Lib.ItoaNum
import Derived.Lib.ParseIntB
import Derived.Lib.IndexMore
set_option linter.unusedVariables false
set_option linter.unusedSimpArgs false
namespace Go.Proofs.YtakkblmcmlkjmaaDoor
open Go.RowKit Go.Lib

def I64 (n : Int) : Prop := -9223372036854775808 ≤ n ∧ n ≤ 9223372036854775807
/-! ### Numerals -/
theorem pu_snoc (M : Nat) (c : UInt8) : ∀ (l : List UInt8) (acc : Nat), parseUintM M acc (l ++ [c]) = match parseUintM M acc l with
    | .ok a => parseUintM M a [c]
    | .range => .range
    | .syntax => .syntax := by
  intro l
  induction l with
  | nil => intro acc; rfl
  | cons x r ih =>
    intro acc
    rw [List.cons_append]
    simp only [parseUintM]
    split
    · split
      · rfl
      split
      · rfl
      · exact ih _
    · rfl
theorem dec_big {u : Nat} (h : ¬ u < 10) : decDigits u = decDigits (u / 10) ++ [UInt8.ofNat (48 + u % 10)] := by rw [decDigits, dif_neg h]
theorem dig_nat {k : Nat} (h : k < 10) : (UInt8.ofNat (48 + k)).toNat = 48 + k := by simp; omega
theorem pu_dec (M : Nat) (hM : M ≤ 18446744073709551615) (u : Nat) (hu : u ≤ M) : parseUintM M 0 (decDigits u) = .ok u := by
  induction u using Nat.strongRecOn with
  | _ u ih =>
    by_cases h : u < 10
    · rw [decDigits_one h]
      simp only [parseUintM, dig_nat h]
      rw [if_pos (by omega), if_neg (by omega), if_neg (by omega)]
      congr 1; omega
    · rw [dec_big h, pu_snoc, ih (u / 10) (by omega) (by omega)]
      simp only [parseUintM, dig_nat (Nat.mod_lt u (by omega : 0 < 10))]
      rw [if_pos (by omega), if_neg (by omega), if_neg (by omega)]
      congr 1; omega
theorem dec_ne (u : Nat) : decDigits u ≠ [] := by
  intro h
  have := decDigits_length u
  rw [h] at this
  have := nDigits_pos u
  simp at *; omega
theorem dec_dig (u : Nat) : ∀ c ∈ decDigits u, 48 ≤ c.toNat ∧ c.toNat ≤ 57 := by
  induction u using Nat.strongRecOn with
  | _ u ih =>
    intro c hc
    by_cases h : u < 10
    · rw [decDigits_one h, List.mem_singleton] at hc
      rw [hc, dig_nat h]; omega
    · rw [dec_big h] at hc
      rcases List.mem_append.1 hc with hc | hc
      · exact ih _ (by omega) c hc
      · rw [List.mem_singleton] at hc
        rw [hc, dig_nat (Nat.mod_lt u (by omega))]; omega
theorem pB_dec (B u : Nat) (hB : 2 ^ B - 1 ≤ 18446744073709551615) (hu : u ≤ 2 ^ B - 1) : parseUintB B (decDigits u) = .ok u := by
  unfold parseUintB
  rw [if_neg (dec_ne u), pu_dec _ hB u hu]
theorem pi_itoa (n : Int) (h0 : -9223372036854775808 ≤ n) (h1 : n ≤ 9223372036854775807) : parseIntB 64 (itoa n) = .ok n := by
  unfold itoa
  have e64 : (2 : Nat) ^ 64 - 1 = 18446744073709551615 := by decide
  have e63 : (2 : Nat) ^ (64 - 1) = 9223372036854775808 := by decide
  by_cases h : n < 0
  · rw [if_pos h]
    simp only [parseIntB]
    have c45 : (45 : UInt8).toNat = 45 := by decide
    rw [if_pos (Or.inr c45), pB_dec 64 n.natAbs (by omega) (by omega)]
    simp only [c45, e63]
    rw [if_neg (by simp), if_neg (by omega)]
    simp only [if_true]
    congr 1; omega
  · rw [if_neg h]
    cases hd : decDigits n.toNat with
    | nil => exact absurd hd (dec_ne _)
    | cons c r =>
      have hc := dec_dig n.toNat c (by rw [hd]; simp)
      simp only [parseIntB]
      rw [if_neg (by omega), ← hd, pB_dec 64 n.toNat (by omega) (by omega)]
      have hn : ¬ c.toNat = 45 := by omega
      simp only [e63, hn, not_false_eq_true, true_and, false_and, if_false]
      rw [if_neg (by omega)]
      congr 1; omega
/-! ### A text cut at its slash -/
theorem index_no (l : List UInt8) (h : (47 : UInt8) ∉ l) : index l [47] = -1 := by
  induction l with
  | nil => rfl
  | cons b r ih =>
    have hb : ([47] : List UInt8).isPrefixOf (b :: r) = false := by
      simp [List.isPrefixOf]
      intro e; exact h (by rw [← e]; simp)
    unfold index
    rw [hb, ih fun g => h (by simp [g])]
    rfl
theorem index_at (a b : List UInt8) (h : (47 : UInt8) ∉ a) : index (a ++ 47 :: b) [47] = a.length := by
  induction a with
  | nil => simp [index, List.isPrefixOf]
  | cons x r ih =>
    have hb : ([47] : List UInt8).isPrefixOf (x :: (r ++ 47 :: b)) = false := by
      simp [List.isPrefixOf]
      intro e; exact h (by rw [← e]; simp)
    rw [List.cons_append]
    unfold index
    rw [hb, ih fun g => h (by simp [g])]
    have : ((r.length : Int) == -1) = false := by rw [beq_eq_false_iff_ne]; omega
    simp [this]
theorem cut_no (l : List UInt8) (h : (47 : UInt8) ∉ l) : cut l [47] = (l, [], false) := by
  unfold cut; rw [index_no l h]; rfl
theorem cut_at (a b : List UInt8) (h : (47 : UInt8) ∉ a) : cut (a ++ 47 :: b) [47] = (a, b, true) := by
  unfold cut
  rw [index_at a b h, if_pos (by omega)]
  simp
/-- A value's text. -/
def txV (n d : Int) : List UInt8 := if d = 1 then itoa n else itoa n ++ 47 :: itoa d
def ovr : List UInt8 := [111, 118, 101, 114]
theorem itoa_no47 (n : Int) : (47 : UInt8) ∉ itoa n := by
  unfold itoa
  have key : ∀ u, (47 : UInt8) ∉ decDigits u := fun u h => by have := dec_dig u _ h; simp at this
  split
  · intro h
    rcases List.mem_cons.1 h with h | h
    · cases h
    · exact key _ h
  · exact key _
/-- The fraction that a text spells, if it spells one. -/
def pf (l : List UInt8) : Option (Int × Int) :=
  match parseIntB 64 (cut l [47]).1 with
  | .ok n => match parseIntB 64 (if (cut l [47]).2.2 = true then (cut l [47]).2.1 else [49]) with
    | .ok d => some (n, d)
    | _ => none
  | _ => none
theorem pf_tx {n d : Int} (h0 : -9223372036854775808 ≤ n) (h1 : n ≤ 9223372036854775807) (g0 : -9223372036854775808 ≤ d) (g1 : d ≤ 9223372036854775807) : pf (txV n d) = some (n, d) := by
  unfold txV
  split
  · rename_i h
    unfold pf
    rw [cut_no _ (itoa_no47 n)]
    simp only [pi_itoa n h0 h1]
    rw [if_neg (by decide), show ([49] : List UInt8) = itoa 1 by unfold itoa; rw [if_neg (by omega), show (1 : Int).toNat = 1 from rfl, decDigits_one (by omega)]; decide, pi_itoa 1 (by omega) (by omega), h]
  · unfold pf
    rw [cut_at _ _ (itoa_no47 n)]
    simp only [pi_itoa n h0 h1, if_true, pi_itoa d g0 g1]
theorem itoa_head (n : Int) : ∃ c r, itoa n = c :: r ∧ c ≠ 111 := by
  unfold itoa
  split
  · exact ⟨_, _, rfl, by decide⟩
  · cases hd : decDigits n.toNat with
    | nil => exact absurd hd (dec_ne _)
    | cons c r =>
      have hc := dec_dig n.toNat c (by rw [hd]; simp)
      exact ⟨c, r, rfl, fun e => by rw [e] at hc; simp at hc⟩
theorem tx_ovr (n d : Int) : txV n d ≠ ovr := by
  obtain ⟨c, r, h1, h2⟩ := itoa_head n
  unfold txV ovr
  rw [h1]
  split
  · intro h; cases h; exact h2 rfl
  · intro h; simp at h; exact h2 h.1
/-- What is told of a text. -/
def PS (l : List UInt8) (n d c : Int) : Prop :=
  (l = ovr ∧ n = 0 ∧ d = 0 ∧ c = 0) ∨ (l = txV n d ∧ isV n d = true ∧ I64 n ∧ I64 d ∧ c = 0) ∨
  (l ≠ ovr ∧ (∀ n d, I64 n → I64 d → isV n d = true → l ≠ txV n d) ∧ n = 0 ∧ d = 0 ∧ c = 3)
theorem PS.one {l : List UInt8} {n d c n' d' c' : Int} (h : PS l n d c) (k : PS l n' d' c') : n' = n ∧ d' = d ∧ c' = c := by
  rcases h with ⟨h1, h2, h3, h4⟩ | ⟨h1, h2, h3, h4, h5⟩ | ⟨h1, h2, h3, h4, h5⟩ <;> rcases k with ⟨k1, k2, k3, k4⟩ | ⟨k1, k2, k3, k4, k5⟩ | ⟨k1, k2, k3, k4, k5⟩
  · omega
  · exact absurd (k1.symm.trans h1) (tx_ovr _ _)
  · exact absurd h1 k1
  · exact absurd (h1.symm.trans k1) (tx_ovr _ _)
  · unfold I64 at *
    have e1 := pf_tx (n := n) (d := d) (by omega) (by omega) (by omega) (by omega)
    have e2 := pf_tx (n := n') (d := d') (by omega) (by omega) (by omega) (by omega)
    rw [← h1] at e1
    rw [← k1, e1] at e2
    cases e2
    omega
  · exact absurd h1 (k2 n d h3 h4 h2)
  · exact absurd k1 h1
  · exact absurd k1 (h2 n' d' k3 k4 k2)
  · omega
/-! ### The reference's numerals -/
def isD8 (c : UInt8) : Bool := decide (48 ≤ c.toNat) && decide (c.toNat ≤ 57)
def val8 (l : List UInt8) : Nat := l.foldl (fun a c => a * 10 + (c.toNat - 48)) 0
theorem val8_snoc (l : List UInt8) (c : UInt8) : val8 (l ++ [c]) = val8 l * 10 + (c.toNat - 48) := by unfold val8; rw [List.foldl_append]; rfl
theorem val8_dec (u : Nat) : val8 (decDigits u) = u := by
  induction u using Nat.strongRecOn with
  | _ u ih =>
    by_cases h : u < 10
    · rw [decDigits_one h]; show 0 * 10 + ((UInt8.ofNat (48 + u)).toNat - 48) = u; rw [dig_nat h]; omega
    · rw [dec_big h, val8_snoc, ih _ (by omega), dig_nat (Nat.mod_lt u (by omega))]; omega
/-- How a numeral must look. -/
def shp (l : List UInt8) : Bool := !l.isEmpty && decide (l.length ≤ 19) && !((l.head? == some 48) && decide (1 < l.length)) && l.all isD8
def cnt (l : List UInt8) : Option Nat := if shp l = true ∧ val8 l ≤ 9223372036854775807 then some (val8 l) else none
theorem list_snoc {α : Type} (l : List α) (h : l ≠ []) : ∃ r c, l = r ++ [c] := ⟨l.dropLast, l.getLast h, (List.dropLast_concat_getLast h).symm⟩
theorem canon (k : Nat) : ∀ l : List UInt8, l.length ≤ k → l ≠ [] → (∀ c ∈ l, isD8 c = true) → (l.head? = some 48 → l.length ≤ 1) → l = decDigits (val8 l) ∧ (l.head? ≠ some 48 → 0 < val8 l) := by
  induction k with
  | zero => intro l h hn; exact absurd (List.eq_nil_of_length_eq_zero (by omega)) hn
  | succ k ih =>
    intro l h hn hd h0
    obtain ⟨r, c, rfl⟩ := list_snoc l hn
    have hc : isD8 c = true := hd c (by simp)
    simp [isD8] at hc
    by_cases hr : r = []
    · subst hr
      have e : val8 ([] ++ [c]) = c.toNat - 48 := by show 0 * 10 + (c.toNat - 48) = _; omega
      rw [e]
      refine ⟨?_, fun hh => ?_⟩
      · rw [decDigits_one (by omega)]
        show [c] = _
        congr 1
        exact UInt8.toNat_inj.1 (by rw [dig_nat (by omega)]; omega)
      · refine Nat.pos_of_ne_zero fun g => hh ?_
        show some c = some 48
        congr 1
        exact UInt8.toNat_inj.1 (by show c.toNat = 48; omega)
    · have hl : (r ++ [c]).length = r.length + 1 := by simp
      have hp := List.length_pos_iff.2 hr
      have hh : (r ++ [c]).head? = r.head? := by cases r with | nil => exact absurd rfl hr | cons x y => rfl
      rw [hh] at h0 ⊢
      have hne : r.head? ≠ some 48 := fun g => by have := h0 g; omega
      obtain ⟨e1, e2⟩ := ih r (by omega) hr (fun x hx => hd x (by simp [hx])) (fun g => absurd g hne)
      have hv := e2 hne
      rw [val8_snoc]
      refine ⟨?_, fun _ => by omega⟩
      rw [dec_big (by omega), show (val8 r * 10 + (c.toNat - 48)) / 10 = val8 r by omega, show (val8 r * 10 + (c.toNat - 48)) % 10 = c.toNat - 48 by omega, ← e1]
      congr 2
      exact UInt8.toNat_inj.1 (by rw [dig_nat (by omega)]; omega)
theorem cnt_canon {l : List UInt8} {u : Nat} (h : cnt l = some u) : l = decDigits u ∧ u ≤ 9223372036854775807 := by
  unfold cnt at h
  split at h
  · rename_i g
    cases h
    obtain ⟨g1, g2⟩ := g
    unfold shp at g1
    simp at g1
    obtain ⟨⟨⟨a1, a2⟩, a3⟩, a4⟩ := g1
    exact ⟨(canon _ l (Nat.le_refl _) a1 (fun c hc => by simpa using a4 c hc) (fun e => by rcases a3 with g | g; exact absurd e g; exact g)).1, g2⟩
  · cases h
theorem dec_head {u : Nat} (h : 0 < u) : (decDigits u).head? ≠ some 48 := by
  induction u using Nat.strongRecOn with
  | _ u ih =>
    by_cases g : u < 10
    · rw [decDigits_one g]
      intro e
      have e' := Option.some.inj e
      have := congrArg UInt8.toNat e'
      rw [dig_nat g] at this
      have : (48 : UInt8).toNat = 48 := by decide
      omega
    · rw [dec_big g]
      have := ih (u / 10) (by omega) (by omega)
      cases hd : decDigits (u / 10) with
      | nil => exact absurd hd (dec_ne _)
      | cons x y => rw [hd] at this; exact this
theorem nd_le (k : Nat) : ∀ u, u < 10 ^ (k + 1) → nDigits u ≤ k + 1 := by
  induction k with
  | zero => intro u hu; rw [nDigits_small (by simpa using hu)]; omega
  | succ k ih =>
    intro u hu
    by_cases h : u < 10
    · rw [nDigits_small h]; omega
    · rw [nDigits_big h]
      have := ih (u / 10) (by rw [Nat.pow_succ] at hu; omega)
      omega
theorem cnt_dec {u : Nat} (h : u ≤ 9223372036854775807) : cnt (decDigits u) = some u := by
  unfold cnt
  rw [val8_dec, if_pos]
  refine ⟨?_, h⟩
  unfold shp
  simp only [Bool.and_eq_true, Bool.not_eq_true', decide_eq_true_eq, List.all_eq_true]
  refine ⟨⟨⟨by cases hd : decDigits u with | nil => exact absurd hd (dec_ne _) | cons x y => rfl, ?_⟩, ?_⟩, fun c hc => ?_⟩
  · rw [decDigits_length]
    have e : (10 : Nat) ^ (18 + 1) = 10000000000000000000 := by decide
    exact nd_le 18 u (by omega)
  · by_cases h0 : 0 < u
    · have := dec_head h0
      have : ((decDigits u).head? == some 48) = false := by simpa using this
      rw [this]; rfl
    · obtain rfl : u = 0 := by omega
      rw [decDigits_one (by omega)]
      decide
  · have := dec_dig u c hc
    unfold isD8
    simp; omega
/-! ### The reference's fraction of a text -/
def ngt (l : List UInt8) : Bool := l.head? == some 45
def bdy (l : List UInt8) : List UInt8 := if ngt l = true then l.drop 1 else l
def lowT (l : List UInt8) : List UInt8 := if (cut l [47]).2.2 = true then (cut l [47]).2.1 else [49]
def sgd (b : Bool) (u : Nat) : Int := if b = true then -(u : Int) else u
/-- What the reference takes a text for. -/
def rp (l : List UInt8) : Option (Int × Int) :=
  match cnt (cut (bdy l) [47]).1, cnt (lowT (bdy l)) with
  | some n, some d => if ((cut (bdy l) [47]).2.2 = true ∧ d < 2) ∨ (ngt l = true ∧ n = 0) then none else if isV (sgd (ngt l) n) d = true then some (sgd (ngt l) n, (d : Int)) else none
  | _, _ => none
theorem split47 (l : List UInt8) (h : (47 : UInt8) ∈ l) : ∃ a b, l = a ++ 47 :: b ∧ (47 : UInt8) ∉ a := by
  induction l with
  | nil => cases h
  | cons x r ih =>
    by_cases hx : x = 47
    · exact ⟨[], r, by rw [hx]; rfl, by simp⟩
    · obtain ⟨a, b, e, ha⟩ := ih (by
        rcases List.mem_cons.1 h with g | g
        · exact absurd g.symm hx
        · exact g)
      exact ⟨x :: a, b, by rw [e]; rfl, by simp [ha]; exact fun g => hx g.symm⟩
theorem cut_back (l : List UInt8) : l = if (cut l [47]).2.2 = true then (cut l [47]).1 ++ 47 :: (cut l [47]).2.1 else (cut l [47]).1 := by
  by_cases h : (47 : UInt8) ∈ l
  · obtain ⟨a, b, rfl, ha⟩ := split47 l h
    rw [cut_at a b ha]; rfl
  · rw [cut_no l h]; rfl
theorem itoa_sgd (b : Bool) (u : Nat) (h : ¬ (b = true ∧ u = 0)) : itoa (sgd b u) = if b = true then 45 :: decDigits u else decDigits u := by
  unfold itoa sgd
  cases b with
  | true =>
    have : u ≠ 0 := fun g => h ⟨rfl, g⟩
    simp only [if_true]
    rw [if_pos (by omega)]
    congr 2; omega
  | false =>
    simp only [Bool.false_eq_true, if_false]
    rw [if_neg (by omega)]
    congr 1
theorem ngt_back (l : List UInt8) : l = if ngt l = true then 45 :: bdy l else bdy l := by
  unfold bdy ngt
  cases l with
  | nil => rfl
  | cons x r =>
    by_cases h : x = 45
    · subst h; simp
    · have : ((x :: r).head? == some 45) = false := by simpa using h
      rw [this]; rfl
theorem rp_some {l : List UInt8} {n d : Int} (h : rp l = some (n, d)) : l = txV n d ∧ isV n d = true ∧ I64 n ∧ I64 d := by
  unfold rp at h
  split at h
  · rename_i u v hu hv
    split at h
    · cases h
    rename_i hno
    split at h
    · rename_i hV
      cases h
      obtain ⟨c1, c2⟩ := cnt_canon hu
      obtain ⟨c3, c4⟩ := cnt_canon hv
      have hz : ¬ (ngt l = true ∧ u = 0) := fun g => hno (.inr g)
      have ei := itoa_sgd (ngt l) u hz
      refine ⟨?_, hV, ?_, ?_⟩
      · have e1 := ngt_back l
        have e2 := cut_back (bdy l)
        have e3 : itoa (v : Int) = decDigits v := by unfold itoa; rw [if_neg (by omega)]; congr 1
        unfold lowT at c3
        unfold txV
        by_cases hp : (cut (bdy l) [47]).2.2 = true
        · rw [if_pos hp] at e2 c3
          have hv2 : ¬ v < 2 := fun g => hno (.inl ⟨hp, g⟩)
          rw [if_neg (by omega), ei, e3, ← c1, ← c3]
          refine e1.trans ?_
          split
          · exact (congrArg (45 :: ·) e2)
          · exact e2
        · rw [if_neg hp] at e2 c3
          have hv1 : v = 1 := by
            have := val8_dec v
            rw [← c3] at this
            have e : val8 [49] = 1 := by decide
            omega
          rw [if_pos (by omega), ei, ← c1]
          refine e1.trans ?_
          split
          · exact (congrArg (45 :: ·) e2)
          · exact e2
      · unfold I64 sgd; split <;> omega
      · unfold I64; omega
    · cases h
  · cases h
theorem isV_pos {n d : Int} (h : isV n d = true) : 1 ≤ d ∧ n ≠ -9223372036854775808 := by
  unfold isV at h
  simp at h
  exact h.1
theorem rp_tx {n d : Int} (hV : isV n d = true) (hn : I64 n) (hd : I64 d) : rp (txV n d) = some (n, d) := by
  obtain ⟨hd1, hn1⟩ := isV_pos hV
  unfold I64 at hn hd
  have key : ∃ (b : Bool) (u : Nat), n = sgd b u ∧ ¬ (b = true ∧ u = 0) ∧ u ≤ 9223372036854775807 := by
    by_cases h : n < 0
    · exact ⟨true, n.natAbs, by unfold sgd; simp; omega, by simp; omega, by omega⟩
    · exact ⟨false, n.toNat, by unfold sgd; simp; omega, by simp, by omega⟩
  obtain ⟨b, u, rfl, hz, hu⟩ := key
  have ei := itoa_sgd b u hz
  have no47 : ∀ u, (47 : UInt8) ∉ decDigits u := fun u h => by have := dec_dig u _ h; simp at this
  have hdd : itoa d = decDigits d.toNat := by unfold itoa; rw [if_neg (by omega)]
  have hb1 : ∀ r, ngt ((if b = true then 45 :: decDigits u else decDigits u) ++ r) = b ∧ bdy ((if b = true then 45 :: decDigits u else decDigits u) ++ r) = decDigits u ++ r := by
    intro r
    cases b with
    | true => exact ⟨rfl, rfl⟩
    | false =>
      simp only [Bool.false_eq_true, if_false]
      have hng : ngt (decDigits u ++ r) = false := by
        cases hd' : decDigits u with
        | nil => exact absurd hd' (dec_ne _)
        | cons c t =>
          have hc := dec_dig u c (by rw [hd']; simp)
          have : ¬ c = 45 := fun e => by rw [e] at hc; simp at hc
          unfold ngt
          simpa using this
      exact ⟨hng, by unfold bdy; rw [hng]; rfl⟩
  unfold txV
  rw [ei]
  by_cases h1 : d = 1
  · subst h1
    rw [if_pos rfl]
    have hb := hb1 []
    rw [List.append_nil, List.append_nil] at hb
    unfold rp lowT
    rw [hb.1, hb.2, cut_no _ (no47 u)]
    simp only [cnt_dec hu, Bool.false_eq_true, if_false, false_and, false_or]
    rw [show cnt [49] = some 1 from by decide]
    simp only
    rw [if_neg hz]
    have : isV (sgd b u) ((1 : Nat) : Int) = true := hV
    rw [if_pos this]
    rfl
  · rw [if_neg h1]
    have hb := hb1 (47 :: itoa d)
    unfold rp lowT
    rw [hb.1, hb.2, hdd, cut_at _ _ (no47 u)]
    simp only [cnt_dec hu, if_true, cnt_dec (u := d.toNat) (by omega), true_and]
    rw [if_neg (by rintro (g | g); omega; exact hz g)]
    have e : ((d.toNat : Nat) : Int) = d := by omega
    rw [e, if_pos hV]
/-- The reference's answer is the one. -/
theorem ps_rp (l : List UInt8) (h : l ≠ ovr) : match rp l with
    | some (n, d) => PS l n d 0
    | none => PS l 0 0 3 := by
  cases hr : rp l with
  | some r =>
    obtain ⟨n, d⟩ := r
    obtain ⟨h1, h2, h3, h4⟩ := rp_some hr
    exact .inr (.inl ⟨h1, h2, h3, h4, rfl⟩)
  | none =>
    refine .inr (.inr ⟨h, fun n d hn hd hV e => ?_, rfl, rfl, rfl⟩)
    rw [e, rp_tx hV hn hd] at hr
    cases hr
/-- The program's answer is the one. -/
theorem ps_pf (l : List UInt8) (h : l ≠ ovr) : match pf l with
    | some (n, d) => if isV n d = true ∧ l = txV n d then (I64 n → I64 d → PS l n d 0) else PS l 0 0 3
    | none => PS l 0 0 3 := by
  have no : ∀ n d, pf l ≠ some (n, d) → ¬ (I64 n ∧ I64 d ∧ isV n d = true ∧ l = txV n d) := fun n d hp ⟨h1, h2, h3, h4⟩ => hp (by
    unfold I64 at h1 h2
    rw [h4]; exact pf_tx (by omega) (by omega) (by omega) (by omega))
  cases hp : pf l with
  | none => exact .inr (.inr ⟨h, fun n d hn hd hV e => no n d (by rw [hp]; simp) ⟨hn, hd, hV, e⟩, rfl, rfl, rfl⟩)
  | some r =>
    obtain ⟨n, d⟩ := r
    simp only
    split
    · rename_i g
      exact fun hn hd => .inr (.inl ⟨g.2, g.1, hn, hd, rfl⟩)
    · rename_i g
      refine .inr (.inr ⟨h, fun n' d' hn hd hV e => ?_, rfl, rfl, rfl⟩)
      by_cases hq : n' = n ∧ d' = d
      · obtain ⟨rfl, rfl⟩ := hq
        exact g ⟨hV, e⟩
      · refine no n' d' ?_ ⟨hn, hd, hV, e⟩
        rw [hp]
        intro k
        cases k
        exact hq ⟨rfl, rfl⟩
end Go.Proofs.YtakkblmcmlkjmaaDoor
