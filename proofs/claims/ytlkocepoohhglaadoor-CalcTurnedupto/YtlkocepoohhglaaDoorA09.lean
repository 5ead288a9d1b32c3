/-
  Plain: tokens of characters, as lists of numbers; a decimal's fraction.
  Plain: each token takes something; all tokens of some characters.
  Characters by places: the program's looks.
  Where a name, a number, an escape begins, by the program.
-/
import Derived.Test.YtlkocepoohhglaaDoorA01
import Derived.Test.YtlkocepoohhglaaDoorA02
import Derived.Shelf.Abstract
set_option linter.unusedVariables false
namespace Go.Proofs.YtlkocepoohhglaaDoor
open Go.RowKit

/-- What stands so many places on; the end: -1. -/
def nx (s : List Int) (k : Nat) : Int := s.getD k (-1)
def isDig (c : Int) : Bool := decide (48 ≤ c) && decide (c ≤ 57)
def isFst (c : Int) : Bool := (decide (97 ≤ c) && decide (c ≤ 122)) || (decide (65 ≤ c) && decide (c ≤ 90)) || (c == 95) || decide (128 ≤ c)
def isLet (c : Int) : Bool := isFst c || isDig c || (c == 45)
def isBl (c : Int) : Bool := (c == 10) || (c == 9) || (c == 32)
def isQ (c : Int) : Bool := (c == 34) || (c == 39)
def isSg (c : Int) : Bool := (c == 43) || (c == 45)
def isUn (c : Int) : Bool := (decide (0 ≤ c) && decide (c ≤ 8)) || (c == 11) || (decide (14 ≤ c) && decide (c ≤ 31)) || (c == 127)
def es2 (a b : Int) : Bool := (a == 92) && (b != 10)
def nmB (a b c : Int) : Bool := if a = 45 then isFst b || (b == 45) || es2 b c else isFst a || es2 a b
def nuB (a b c : Int) : Bool := if isSg a then isDig b || ((b == 46) && isDig c) else isDig a || ((a == 46) && isDig b)
def exB (a b c : Int) : Bool := ((a == 101) || (a == 69)) && (if isSg b then isDig c else isDig b)
/-- A digit to the base 16; -1: none. -/
def hexv (c : Int) : Int := if 48 ≤ c ∧ c ≤ 57 then c - 48 else if 97 ≤ c ∧ c ≤ 102 then c - 97 + 10 else if 65 ≤ c ∧ c ≤ 70 then c - 65 + 10 else -1
def hexs : Nat → Int → List Int → Int × List Int
  | 0, n, s => (n, s)
  | k + 1, n, s => if hexv (nx s 0) < 0 then (n, s) else hexs k (n * 16 + hexv (nx s 0)) (s.drop 1)
/-- An escape, behind its sign. -/
def tesc (s : List Int) : Int × List Int :=
  if nx s 0 = -1 then (65533, s)
  else if hexv (nx s 0) < 0 then (nx s 0, s.drop 1)
  else (if (hexs 6 0 s).1 = 0 then 65533 else chr (hexs 6 0 s).1, if isBl (nx (hexs 6 0 s).2 0) then (hexs 6 0 s).2.drop 1 else (hexs 6 0 s).2)

theorem nx_nil (k : Nat) : nx [] k = -1 := by simp [nx]
theorem nx_drop (s : List Int) (n k : Nat) : nx (s.drop n) k = nx s (n + k) := by simp [nx, List.getD_eq_getElem?_getD, List.getElem?_drop]
theorem nx_ne {s : List Int} (h : nx s 0 ≠ -1) : s ≠ [] := by rintro rfl; exact h (nx_nil 0)
theorem nx_pos {s : List Int} (h : nx s 0 ≠ -1) : 0 < s.length := List.length_pos_iff.2 (nx_ne h)
theorem hexs_len (k : Nat) : ∀ (n : Int) (s : List Int), (hexs k n s).2.length ≤ s.length := by
  induction k with
  | zero => intro n s; simp [hexs]
  | succ k ih =>
    intro n s
    simp only [hexs]
    split
    · simp
    · exact Nat.le_trans (ih _ _) (by simp)
theorem tesc_len (s : List Int) : (tesc s).2.length ≤ s.length := by
  unfold tesc
  have := hexs_len 6 0 s
  split
  · simp
  · split
    · simp
    · simp only
      split
      · rw [List.length_drop]; omega
      · exact this
theorem isLet_ne {s : List Int} (h : isLet (nx s 0) = true) : 0 < s.length := by
  refine nx_pos fun e => ?_
  rw [e] at h; exact absurd h (by decide)
theorem es2_ne {s : List Int} {b : Int} (h : es2 (nx s 0) b = true) : 0 < s.length := by
  refine nx_pos fun e => ?_
  rw [e] at h; simp [es2] at h
theorem isBl_ne {s : List Int} (h : isBl (nx s 0) = true) : 0 < s.length := by
  refine nx_pos fun e => ?_
  rw [e] at h; exact absurd h (by decide)
theorem isDig_ne {s : List Int} (h : isDig (nx s 0) = true) : 0 < s.length := by
  refine nx_pos fun e => ?_
  rw [e] at h; exact absurd h (by decide)
/-- A name. -/
def nam (acc s : List Int) : List Int × List Int :=
  if h1 : isLet (nx s 0) = true then nam (acc ++ [nx s 0]) (s.drop 1)
  else if h2 : es2 (nx s 0) (nx s 1) = true then nam (acc ++ [(tesc (s.drop 1)).1]) (tesc (s.drop 1)).2
  else (acc, s)
termination_by s.length
decreasing_by
  · have := isLet_ne h1; rw [List.length_drop]; omega
  · have := es2_ne h2; have := tesc_len (s.drop 1); rw [List.length_drop] at this; omega
theorem nam_let {acc s : List Int} (h : isLet (nx s 0) = true) : nam acc s = nam (acc ++ [nx s 0]) (s.drop 1) := by rw [nam, dif_pos h]
theorem nam_esc {acc s : List Int} (h : isLet (nx s 0) = false) (g : es2 (nx s 0) (nx s 1) = true) : nam acc s = nam (acc ++ [(tesc (s.drop 1)).1]) (tesc (s.drop 1)).2 := by
  rw [nam, dif_neg (by simp [h]), dif_pos g]
theorem nam_end {acc s : List Int} (h : isLet (nx s 0) = false) (g : es2 (nx s 0) (nx s 1) = false) : nam acc s = (acc, s) := by
  rw [nam, dif_neg (by simp [h]), dif_neg (by simp [g])]
def bls (s : List Int) : List Int := s.dropWhile isBl
def dgs (s : List Int) : List Int := s.dropWhile isDig
/-- All blanks but the last. -/
def sbl : List Int → List Int
  | [] => []
  | x :: r => if isBl x && isBl (nx r 0) then sbl r else x :: r
/-- Behind a remark's end. -/
def untl : List Int → List Int
  | [] => []
  | x :: r => if x = 42 ∧ nx r 0 = 47 then r.drop 1 else untl r
theorem untl_len (s : List Int) : (untl s).length ≤ s.length := by
  induction s with
  | nil => simp [untl]
  | cons x r ih =>
    simp only [untl]
    split
    · simp; omega
    · simp; omega
def rmk (s : List Int) : List Int :=
  if h : nx s 0 = 47 ∧ nx s 1 = 42 then rmk (untl (s.drop 2)) else s
termination_by s.length
decreasing_by
  have h0 : 0 < s.length := nx_pos (by omega)
  have := untl_len (s.drop 2)
  rw [List.length_drop] at this; omega
theorem rmk_go {s : List Int} (h0 : nx s 0 = 47) (h1 : nx s 1 = 42) : rmk s = rmk (untl (s.drop 2)) := by rw [rmk, dif_pos ⟨h0, h1⟩]
theorem rmk_end {s : List Int} (h : ¬ (nx s 0 = 47 ∧ nx s 1 = 42)) : rmk s = s := by rw [rmk, dif_neg h]
/-- What stands behind a number. -/
def nmS (s : List Int) : List Int := if isSg (nx s 0) then s.drop 1 else s
def nmP (s : List Int) : List Int := if (nx s 0 == 46) && isDig (nx s 1) then dgs (s.drop 1) else s
def nmE (s : List Int) : List Int := if exB (nx s 0) (nx s 1) (nx s 2) then dgs (nmS (s.drop 1)) else s
def nmZ (s : List Int) : List Int := nmE (nmP (dgs (nmS s)))
/-- A number's own characters. -/
def nmT (s : List Int) : List Int := s.take (s.length - (nmZ s).length)

/-! ### A decimal's fraction -/
def sgn (s : List Int) : Bool × List Int := if isSg (nx s 0) then (nx s 0 == 45, s.drop 1) else (false, s)
def tkd (s : List Int) : List Int := s.takeWhile isDig
def natOf (s : List Int) : Nat := s.foldl (fun n c => n * 10 + (c - 48).toNat) 0
/-- Of n over p^q: what is left of n, of q. -/
def strip (p : Nat) : Nat → Nat → Nat × Nat
  | n, 0 => (n, 0)
  | n, q + 1 => if n % p = 0 then strip p (n / p) q else (n, q + 1)
def fracUp (n q : Nat) : Int × Int := if n * 10 ^ q ≤ 9223372036854775807 then ((n * 10 ^ q : Nat), 1) else (0, 0)
def fracDn (n q : Nat) : Int × Int :=
  if 2 ^ (strip 2 n q).2 * 5 ^ (strip 5 (strip 2 n q).1 q).2 ≤ 9223372036854775807
  then (((strip 5 (strip 2 n q).1 q).1 : Nat), ((2 ^ (strip 2 n q).2 * 5 ^ (strip 5 (strip 2 n q).1 q).2 : Nat) : Int)) else (0, 0)
/-- The digits without noughts at both ends; how many went at the end. -/
def cut0 (ds : List Int) : List Int := ds.dropWhile (· == 48)
def cutR (ds : List Int) : List Int := (ds.reverse.dropWhile (· == 48)).reverse
def fr (n : Nat) (p : Int) : Int × Int := if 0 ≤ p then fracUp n p.toNat else fracDn n (-p).toNat
def sg (neg : Bool) (r : Int × Int) : Int × Int := (if neg then -r.1 else r.1, r.2)
/-- Digits times a power of ten. -/
def valOf (neg : Bool) (ds : List Int) (k : Int) : Int × Int :=
  if cutR (cut0 ds) = [] then (0, 1)
  else if 18 < (cutR (cut0 ds)).length then (0, 0)
  else sg neg (fr (natOf (cutR (cut0 ds))) (k + ((cut0 ds).length - (cutR (cut0 ds)).length : Nat)))
/-- What stands behind an e, to the end. -/
def expo (s : List Int) : Option Int :=
  if nx s 0 ≠ 101 ∧ nx s 0 ≠ 69 then none
  else if tkd (sgn (s.drop 1)).2 = [] ∨ dgs (sgn (s.drop 1)).2 ≠ [] then none
  else some (if (sgn (s.drop 1)).1 then -(natOf (tkd (sgn (s.drop 1)).2) : Int) else natOf (tkd (sgn (s.drop 1)).2))
def decE (neg : Bool) (ds : List Int) (k : Nat) (wh : Bool) (s : List Int) : Option ((Int × Int) × Bool) :=
  if ds = [] then none
  else if s = [] then some (valOf neg ds (-k), wh)
  else (expo s).map fun e => (valOf neg ds (e - k), false)
/-- A number of a stylesheet. -/
def dec (s : List Int) : Option ((Int × Int) × Bool) :=
  if nx (dgs (sgn s).2) 0 = 46 then
    if tkd ((dgs (sgn s).2).drop 1) = [] then none
    else decE (sgn s).1 (tkd (sgn s).2 ++ tkd ((dgs (sgn s).2).drop 1)) (tkd ((dgs (sgn s).2).drop 1)).length false (dgs ((dgs (sgn s).2).drop 1))
  else decE (sgn s).1 (tkd (sgn s).2) 0 true (dgs (sgn s).2)

/-! ### Tokens -/
structure Tk where
  kind : Int
  text : List Int
  num : Int
  den : Int
  whole : Bool
  id : Bool
def tk (k : Int) : Tk := ⟨k, [], 0, 0, false, false⟩
def tkt (k : Int) (l : List Int) : Tk := ⟨k, enc l, 0, 0, false, false⟩
/-- Behind a string's first sign. -/
def str (q : Int) (acc s : List Int) : Tk × List Int :=
  if h0 : nx s 0 = -1 ∨ nx s 0 = q then (tkt 5 acc, s.drop 1)
  else if h1 : nx s 0 = 10 then (tk 6, s)
  else if h2 : nx s 0 = 92 then
    if nx s 1 = -1 then str q acc (s.drop 1)
    else if nx s 1 = 10 then str q acc (s.drop 2)
    else str q (acc ++ [(tesc (s.drop 1)).1]) (tesc (s.drop 1)).2
  else str q (acc ++ [nx s 0]) (s.drop 1)
termination_by s.length
decreasing_by
  all_goals have hp := nx_pos (s := s) (fun e => h0 (.inl e))
  · rw [List.length_drop]; omega
  · rw [List.length_drop]; omega
  · have := tesc_len (s.drop 1); rw [List.length_drop] at this; omega
  · rw [List.length_drop]; omega
/-- Behind a bad url. -/
def bad (s : List Int) : List Int :=
  if h0 : nx s 0 = -1 ∨ nx s 0 = 41 then s.drop 1
  else if es2 (nx s 0) (nx s 1) then bad (tesc (s.drop 1)).2
  else bad (s.drop 1)
termination_by s.length
decreasing_by
  all_goals have hp := nx_pos (s := s) (fun e => h0 (.inl e))
  · have := tesc_len (s.drop 1); rw [List.length_drop] at this; omega
  · rw [List.length_drop]; omega
theorem bls_len (s : List Int) : (bls s).length ≤ s.length := (List.dropWhile_sublist _).length_le
theorem bls_lt {s : List Int} (h : isBl (nx s 0) = true) : (bls s).length < s.length := by
  cases s with
  | nil => exact absurd h (by decide)
  | cons x r =>
    have hx : isBl x = true := h
    show ((x :: r).dropWhile isBl).length < _
    rw [List.dropWhile_cons_of_pos hx]
    have := (List.dropWhile_sublist isBl (l := r)).length_le
    simp; omega
def isBar (c : Int) : Bool := isQ c || (c == 40) || (c == 92) || isUn c
def url (acc s : List Int) : Tk × List Int :=
  if h0 : nx s 0 = -1 ∨ nx s 0 = 41 then (tkt 7 acc, s.drop 1)
  else if h1 : isBl (nx s 0) = true then
    if nx (bls s) 0 = -1 ∨ nx (bls s) 0 = 41 then url acc (bls s) else (tk 8, bad (bls s))
  else if es2 (nx s 0) (nx s 1) then url (acc ++ [(tesc (s.drop 1)).1]) (tesc (s.drop 1)).2
  else if isBar (nx s 0) then (tk 8, bad s)
  else url (acc ++ [nx s 0]) (s.drop 1)
termination_by s.length
decreasing_by
  all_goals have hp := nx_pos (s := s) (fun e => h0 (.inl e))
  · exact bls_lt h1
  · have := tesc_len (s.drop 1); rw [List.length_drop] at this; omega
  · rw [List.length_drop]; omega
/-- Is it url, by letters alike? -/
def isUrlB (b : List Int) : Bool := (b.length == 3) && ((nx b 0 == 117) || (nx b 0 == 85)) && ((nx b 1 == 114) || (nx b 1 == 82)) && ((nx b 2 == 108) || (nx b 2 == 76))
def qut (s : List Int) : Bool := isQ (nx s 0) || (isBl (nx s 0) && isQ (nx s 1))
def word (s : List Int) : Tk × List Int :=
  if nx (nam [] s).2 0 ≠ 40 then (tkt 1 (nam [] s).1, (nam [] s).2)
  else if isUrlB (enc (nam [] s).1) then
    if qut (sbl ((nam [] s).2.drop 1)) then (tkt 2 (nam [] s).1, sbl ((nam [] s).2.drop 1)) else url [] (bls (sbl ((nam [] s).2.drop 1)))
  else (tkt 2 (nam [] s).1, (nam [] s).2.drop 1)
def dcT (s : List Int) : (Int × Int) × Bool := (dec s).getD ((0, 0), false)
def numb (s : List Int) : Tk × List Int :=
  if nmB (nx (nmZ s) 0) (nx (nmZ s) 1) (nx (nmZ s) 2) then (⟨12, enc (nam [] (nmZ s)).1, (dcT (enc (nmT s))).1.1, (dcT (enc (nmT s))).1.2, (dcT (enc (nmT s))).2, false⟩, (nam [] (nmZ s)).2)
  else if nx (nmZ s) 0 = 37 then (⟨11, [], (dcT (enc (nmT s))).1.1, (dcT (enc (nmT s))).1.2, (dcT (enc (nmT s))).2, false⟩, (nmZ s).drop 1)
  else (⟨10, [], (dcT (enc (nmT s))).1.1, (dcT (enc (nmT s))).1.2, (dcT (enc (nmT s))).2, false⟩, nmZ s)
def brk (c : Int) : Int := if c = 40 then 21 else if c = 41 then 22 else if c = 91 then 19 else if c = 93 then 20 else if c = 123 then 23 else if c = 125 then 24 else if c = 44 then 18 else if c = 58 then 16 else if c = 59 then 17 else 9
def one (s : List Int) : Tk × List Int := (if brk (nx s 0) = 9 then tkt 9 [nx s 0] else tk (brk (nx s 0)), s.drop 1)
def hash (s : List Int) : Tk × List Int := (⟨4, enc (nam [] (s.drop 1)).1, 0, 0, false, nmB (nx s 1) (nx s 2) (nx s 3)⟩, (nam [] (s.drop 1)).2)
/-- What begins with a sign. -/
def sgnT (s : List Int) : Tk × List Int :=
  if nx s 0 = 35 then if isLet (nx s 1) || es2 (nx s 1) (nx s 2) then hash s else one s
  else if nx s 0 = 43 ∨ nx s 0 = 46 then if nuB (nx s 0) (nx s 1) (nx s 2) then numb s else one s
  else if nx s 0 = 45 then
    if nuB (nx s 0) (nx s 1) (nx s 2) then numb s
    else if nx s 1 = 45 ∧ nx s 2 = 62 then (tk 15, s.drop 3)
    else if nmB (nx s 0) (nx s 1) (nx s 2) then word s else one s
  else if nx s 0 = 60 then if nx s 1 = 33 ∧ nx s 2 = 45 ∧ nx s 3 = 45 then (tk 14, s.drop 4) else one s
  else if nx s 0 = 64 then if nmB (nx s 1) (nx s 2) (nx s 3) then (tkt 3 (nam [] (s.drop 1)).1, (nam [] (s.drop 1)).2) else one s
  else if nx s 0 = 92 then if es2 (nx s 0) (nx s 1) then word s else one s
  else one s
/-- One token; the end is not next, nor a remark. -/
def tokn (s : List Int) : Tk × List Int :=
  if isBl (nx s 0) then (tk 13, bls s)
  else if isQ (nx s 0) then str (nx s 0) [] (s.drop 1)
  else if isDig (nx s 0) then numb s
  else if isFst (nx s 0) then word s
  else sgnT s
end Go.Proofs.YtlkocepoohhglaaDoor
set_option linter.unusedVariables false
namespace Go.Proofs.YtlkocepoohhglaaDoor
open Go.RowKit

theorem nam_len (n : Nat) : ∀ acc s : List Int, s.length ≤ n → (nam acc s).2.length ≤ s.length := by
  induction n with
  | zero =>
    intro acc s h
    obtain rfl : s = [] := List.eq_nil_of_length_eq_zero (by omega)
    rw [nam_end (by decide) (by decide)]; simp
  | succ n ih =>
    intro acc s h
    by_cases h1 : isLet (nx s 0) = true
    · have := isLet_ne h1
      rw [nam_let h1]
      have := ih (acc ++ [nx s 0]) (s.drop 1) (by rw [List.length_drop]; omega)
      rw [List.length_drop] at this; omega
    · have h1' : isLet (nx s 0) = false := by simpa using h1
      by_cases h2 : es2 (nx s 0) (nx s 1) = true
      · have := es2_ne h2
        have q := tesc_len (s.drop 1)
        rw [List.length_drop] at q
        rw [nam_esc h1' h2]
        have := ih (acc ++ [(tesc (s.drop 1)).1]) (tesc (s.drop 1)).2 (by omega)
        omega
      · rw [nam_end h1' (by simpa using h2)]; simp
theorem nam_le (acc s : List Int) : (nam acc s).2.length ≤ s.length := nam_len s.length acc s (Nat.le_refl _)
theorem nam_lt {acc s : List Int} (h : isLet (nx s 0) = true ∨ es2 (nx s 0) (nx s 1) = true) : (nam acc s).2.length < s.length := by
  by_cases h1 : isLet (nx s 0) = true
  · have := isLet_ne h1
    rw [nam_let h1]
    have := nam_le (acc ++ [nx s 0]) (s.drop 1)
    rw [List.length_drop] at this; omega
  · have h2 : es2 (nx s 0) (nx s 1) = true := by rcases h with h | h; exact absurd h h1; exact h
    have := es2_ne h2
    have q := tesc_len (s.drop 1)
    rw [List.length_drop] at q
    rw [nam_esc (by simpa using h1) h2]
    have := nam_le (acc ++ [(tesc (s.drop 1)).1]) (tesc (s.drop 1)).2
    omega
theorem nmB_lt {acc s : List Int} (h : nmB (nx s 0) (nx s 1) (nx s 2) = true) : (nam acc s).2.length < s.length := by
  refine nam_lt ?_
  unfold nmB at h
  by_cases g : nx s 0 = 45
  · left; rw [g]; decide
  · rw [if_neg g] at h
    rcases Bool.or_eq_true_iff.1 h with h | h
    · left; unfold isLet; rw [h]; rfl
    · right; exact h
theorem dgs_len (s : List Int) : (dgs s).length ≤ s.length := (List.dropWhile_sublist _).length_le
theorem dgs_lt {s : List Int} (h : isDig (nx s 0) = true) : (dgs s).length < s.length := by
  cases s with
  | nil => exact absurd h (by decide)
  | cons x r =>
    have hx : isDig x = true := h
    show ((x :: r).dropWhile isDig).length < _
    rw [List.dropWhile_cons_of_pos hx]
    have := (List.dropWhile_sublist isDig (l := r)).length_le
    simp; omega
theorem dgs_no {s : List Int} (h : isDig (nx s 0) = false) : dgs s = s := by
  cases s with
  | nil => rfl
  | cons x r =>
    have hx : isDig x = false := h
    show (x :: r).dropWhile isDig = _
    rw [List.dropWhile_cons_of_neg (by simp [hx])]
theorem nmS_len (s : List Int) : (nmS s).length ≤ s.length := by unfold nmS; split <;> simp
theorem nmP_len (s : List Int) : (nmP s).length ≤ s.length := by
  unfold nmP; split
  · have := dgs_len (s.drop 1); rw [List.length_drop] at this; omega
  · simp
theorem nmE_len (s : List Int) : (nmE s).length ≤ s.length := by
  unfold nmE; split
  · have := dgs_len (nmS (s.drop 1)); have := nmS_len (s.drop 1); rw [List.length_drop] at this; omega
  · simp
theorem nmZ_len (s : List Int) : (nmZ s).length ≤ s.length := by
  unfold nmZ
  have h1 := nmE_len (nmP (dgs (nmS s))); have h2 := nmP_len (dgs (nmS s)); have h3 := dgs_len (nmS s); have h4 := nmS_len s
  omega
theorem nmZ_lt {s : List Int} (h : nuB (nx s 0) (nx s 1) (nx s 2) = true) : (nmZ s).length < s.length := by
  have h1 := nmE_len (nmP (dgs (nmS s))); have h2 := nmP_len (dgs (nmS s)); have h3 := dgs_len (nmS s); have h4 := nmS_len s
  unfold nuB at h
  unfold nmZ
  by_cases g : isSg (nx s 0) = true
  · have hp : 0 < s.length := nx_pos fun e => by rw [e] at g; exact absurd g (by decide)
    have : (nmS s).length < s.length := by unfold nmS; rw [if_pos g, List.length_drop]; omega
    omega
  · rw [if_neg g] at h
    have e : nmS s = s := by unfold nmS; rw [if_neg g]
    rcases Bool.or_eq_true_iff.1 h with h | h
    · have := dgs_lt h
      rw [e] at h1 h2 h3 ⊢
      omega
    · rw [e] at h1 h2 h3 ⊢
      have hd : isDig (nx s 0) = false := by
        have : nx s 0 = 46 := by simp at h; exact h.1
        rw [this]; decide
      rw [dgs_no hd] at h1 h2 ⊢
      have hp : 0 < s.length := nx_pos fun q => by rw [q] at h; simp at h
      have : (nmP s).length < s.length := by
        unfold nmP; rw [if_pos h]
        have := dgs_len (s.drop 1); rw [List.length_drop] at this; omega
      omega
theorem bad_len (n : Nat) : ∀ s : List Int, s.length ≤ n → (bad s).length ≤ s.length := by
  induction n with
  | zero =>
    intro s h
    obtain rfl : s = [] := List.eq_nil_of_length_eq_zero (by omega)
    rw [bad]; simp [nx_nil]
  | succ n ih =>
    intro s h
    rw [bad]
    by_cases h0 : nx s 0 = -1 ∨ nx s 0 = 41
    · rw [dif_pos h0]; simp
    · have hp := nx_pos (s := s) (fun e => h0 (.inl e))
      rw [dif_neg h0]
      by_cases h1 : es2 (nx s 0) (nx s 1) = true
      · rw [if_pos h1]
        have q := tesc_len (s.drop 1)
        rw [List.length_drop] at q
        have := ih (tesc (s.drop 1)).2 (by omega)
        omega
      · rw [if_neg h1]
        have := ih (s.drop 1) (by rw [List.length_drop]; omega)
        rw [List.length_drop] at this; omega
theorem bad_le (s : List Int) : (bad s).length ≤ s.length := bad_len s.length s (Nat.le_refl _)
theorem url_len (n : Nat) : ∀ acc s : List Int, s.length ≤ n → (url acc s).2.length ≤ s.length := by
  induction n with
  | zero =>
    intro acc s h
    obtain rfl : s = [] := List.eq_nil_of_length_eq_zero (by omega)
    rw [url]; simp [nx_nil]
  | succ n ih =>
    intro acc s h
    rw [url]
    by_cases h0 : nx s 0 = -1 ∨ nx s 0 = 41
    · rw [dif_pos h0]; simp
    · have hp := nx_pos (s := s) (fun e => h0 (.inl e))
      rw [dif_neg h0]
      by_cases h1 : isBl (nx s 0) = true
      · rw [dif_pos h1]
        have q := bls_lt h1
        split
        · have := ih acc (bls s) (by omega); omega
        · have := bad_le (bls s); simp only; omega
      · rw [dif_neg h1]
        split
        · have q := tesc_len (s.drop 1)
          rw [List.length_drop] at q
          have := ih (acc ++ [(tesc (s.drop 1)).1]) (tesc (s.drop 1)).2 (by omega)
          omega
        · split
          · exact bad_le s
          · have := ih (acc ++ [nx s 0]) (s.drop 1) (by rw [List.length_drop]; omega)
            rw [List.length_drop] at this; omega
theorem url_le (acc s : List Int) : (url acc s).2.length ≤ s.length := url_len s.length acc s (Nat.le_refl _)
theorem str_len (n : Nat) : ∀ (q : Int) (acc s : List Int), s.length ≤ n → (str q acc s).2.length ≤ s.length := by
  induction n with
  | zero =>
    intro q acc s h
    obtain rfl : s = [] := List.eq_nil_of_length_eq_zero (by omega)
    rw [str]; simp [nx_nil]
  | succ n ih =>
    intro q acc s h
    rw [str]
    by_cases h0 : nx s 0 = -1 ∨ nx s 0 = q
    · rw [dif_pos h0]; simp
    · have hp := nx_pos (s := s) (fun e => h0 (.inl e))
      rw [dif_neg h0]
      by_cases h1 : nx s 0 = 10
      · rw [dif_pos h1]; simp
      · rw [dif_neg h1]
        by_cases h2 : nx s 0 = 92
        · rw [dif_pos h2]
          split
          · have := ih q acc (s.drop 1) (by rw [List.length_drop]; omega)
            rw [List.length_drop] at this; omega
          · split
            · have := ih q acc (s.drop 2) (by rw [List.length_drop]; omega)
              rw [List.length_drop] at this; omega
            · have r := tesc_len (s.drop 1)
              rw [List.length_drop] at r
              have := ih q (acc ++ [(tesc (s.drop 1)).1]) (tesc (s.drop 1)).2 (by omega)
              omega
        · rw [dif_neg h2]
          have := ih q (acc ++ [nx s 0]) (s.drop 1) (by rw [List.length_drop]; omega)
          rw [List.length_drop] at this; omega
theorem str_le (q : Int) (acc s : List Int) : (str q acc s).2.length ≤ s.length := str_len s.length q acc s (Nat.le_refl _)
theorem sbl_len (s : List Int) : (sbl s).length ≤ s.length := by
  induction s with
  | nil => simp [sbl]
  | cons x r ih => simp only [sbl]; split <;> simp; omega
theorem word_lt {s : List Int} (h : (nam [] s).2.length < s.length) : (word s).2.length < s.length := by
  unfold word
  have h1 := sbl_len ((nam [] s).2.drop 1)
  have h2 := bls_len (sbl ((nam [] s).2.drop 1))
  have h3 := url_le [] (bls (sbl ((nam [] s).2.drop 1)))
  rw [List.length_drop] at h1
  split
  · exact h
  · split
    · split
      · simp only; omega
      · omega
    · simp only [List.length_drop]; omega
theorem numb_lt {s : List Int} (h : nuB (nx s 0) (nx s 1) (nx s 2) = true) : (numb s).2.length < s.length := by
  have h1 := nmZ_lt h
  have h2 := nam_le [] (nmZ s)
  unfold numb
  split
  · simp only; omega
  · split
    · simp only [List.length_drop]; omega
    · exact h1
theorem one_lt {s : List Int} (h : nx s 0 ≠ -1) : (one s).2.length < s.length := by
  have := nx_pos h
  unfold one; simp only [List.length_drop]; omega
theorem sgnT_lt {s : List Int} (h : nx s 0 ≠ -1) : (sgnT s).2.length < s.length := by
  have hp := nx_pos h
  have ho := one_lt h
  have hn := nam_le [] (s.drop 1)
  rw [List.length_drop] at hn
  unfold sgnT
  split
  · split
    · unfold hash; simp only; omega
    · exact ho
  · split
    · split
      · rename_i g; exact numb_lt g
      · exact ho
    · split
      · split
        · rename_i g; exact numb_lt g
        · split
          · simp only [List.length_drop]; omega
          · split
            · rename_i g; exact word_lt (nmB_lt g)
            · exact ho
      · split
        · split
          · simp only [List.length_drop]; omega
          · exact ho
        · split
          · split
            · simp only; omega
            · exact ho
          · split
            · split
              · rename_i g; exact word_lt (nam_lt (.inr g))
              · exact ho
            · exact ho
theorem isFst_let {c : Int} (h : isFst c = true) : isLet c = true := by unfold isLet; rw [h]; rfl
theorem isDig_nu {s : List Int} (h : isDig (nx s 0) = true) : nuB (nx s 0) (nx s 1) (nx s 2) = true := by
  have hs : isSg (nx s 0) = false := by
    generalize nx s 0 = c at *
    simp [isDig] at h
    simp [isSg]; omega
  unfold nuB; rw [hs, h]; rfl
theorem tokn_lt {s : List Int} (h : nx s 0 ≠ -1) : (tokn s).2.length < s.length := by
  have hp := nx_pos h
  unfold tokn
  split
  · rename_i g; exact bls_lt g
  · split
    · have := str_le (nx s 0) [] (s.drop 1)
      rw [List.length_drop] at this; omega
    · split
      · rename_i g; exact numb_lt (isDig_nu g)
      · split
        · rename_i g; exact word_lt (nam_lt (.inl (isFst_let g)))
        · exact sgnT_lt h
theorem rmk_len (n : Nat) : ∀ s : List Int, s.length ≤ n → (rmk s).length ≤ s.length := by
  induction n with
  | zero =>
    intro s h
    obtain rfl : s = [] := List.eq_nil_of_length_eq_zero (by omega)
    rw [rmk_end (by simp [nx_nil])]; simp
  | succ n ih =>
    intro s h
    by_cases g : nx s 0 = 47 ∧ nx s 1 = 42
    · have hp : 0 < s.length := nx_pos (by omega)
      rw [rmk_go g.1 g.2]
      have q := untl_len (s.drop 2)
      rw [List.length_drop] at q
      have := ih (untl (s.drop 2)) (by omega)
      omega
    · rw [rmk_end g]; simp
theorem rmk_le (s : List Int) : (rmk s).length ≤ s.length := rmk_len s.length s (Nat.le_refl _)
/-- The tokens of these characters. -/
def toks (s : List Int) : List Tk :=
  if h : nx (rmk s) 0 = -1 then [] else (tokn (rmk s)).1 :: toks (tokn (rmk s)).2
termination_by s.length
decreasing_by
  have := tokn_lt h
  have := rmk_le s
  omega
theorem toks_end {s : List Int} (h : nx (rmk s) 0 = -1) : toks s = [] := by rw [toks, dif_pos h]
theorem toks_go {s : List Int} (h : nx (rmk s) 0 ≠ -1) : toks s = (tokn (rmk s)).1 :: toks (tokn (rmk s)).2 := by rw [toks, dif_neg h]
end Go.Proofs.YtlkocepoohhglaaDoor
set_option linter.unusedVariables false
set_option linter.unusedSimpArgs false
namespace Go.Proofs.YtlkocepoohhglaaDoor
open Go.RowKit

theorem isC5 (x : Int) : (x < 0 ∧ isC x = false) ∨ (1114111 < x ∧ isC x = false) ∨ (55296 ≤ x ∧ x ≤ 57343 ∧ isC x = false) ∨ (0 ≤ x ∧ x < 55296 ∧ isC x = true) ∨ (57343 < x ∧ x ≤ 1114111 ∧ isC x = true) := by
  have := isC_iff x
  by_cases h : isC x = true
  · have := this.1 h; rcases this with ⟨h1, h2, h3 | h3⟩
    · right; right; right; left; exact ⟨h1, h3, h⟩
    · right; right; right; right; exact ⟨h3, h2, h⟩
  · have h' : isC x = false := by simpa using h
    have : ¬ (0 ≤ x ∧ x ≤ 1114111 ∧ (x < 55296 ∨ 57343 < x)) := fun k => h (this.2 k)
    simp only [h', and_true]; omega
theorem chrT {x : Int} (h : isC x = true) : chr x = x := by unfold chr; rw [if_pos h]
theorem chrF {x : Int} (h : isC x = false) : chr x = 65533 := by unfold chr; rw [h]; rfl
/-- The characters of some numbers. -/
def chs (l : List Int) : List Int := l.map chr
theorem chs_len (l : List Int) : (chs l).length = l.length := by simp [chs]
theorem nx_in {l : List Int} {p k : Nat} (h : p + k < l.length) : nx ((chs l).drop p) k = chr (gt l (p + k)) := by
  rw [nx_drop]
  simp [nx, chs, gt, List.getD_eq_getElem?_getD, List.getElem?_map, List.getElem?_eq_getElem h]
theorem nx_out {l : List Int} {p k : Nat} (h : l.length ≤ p + k) : nx ((chs l).drop p) k = -1 := by
  rw [nx_drop]
  simp [nx, chs, List.getD_eq_getElem?_getD, List.getElem?_map, List.getElem?_eq_none h]
/-- A function that tells what stands so many places on, in every later world. -/
def Look (d : Nat) (w : World) (v : Value) (s : List Int) : Prop :=
  ∃ (g : Nat) (lb : Array Value), v = .func (.func g) #[] lb ∧ (∀ args w, (callFunc g args).run Tryd.prog w = .ok (.enter g args) w) ∧
    ∀ (k : Int) (W : World), 0 ≤ k → k ≤ d → Below w.heap.size w W → Calls Tryd.prog g (#[.int .i64 k] ++ lb) W fun e W' => e = .returned (.int .i32 (nx s k.toNat)) ∧ Below W.heap.size W W'
theorem Look.below {d : Nat} {w w' : World} {v : Value} {s : List Int} (h : Look d w v s) (hw : Below w.heap.size w w') : Look d w' v s := by
  obtain ⟨g, lb, h1, h2, h3⟩ := h
  exact ⟨g, lb, h1, h2, fun k W h0 hk hW => h3 k W h0 hk (bto hw hW)⟩
theorem Nums.shape {k : IntKind} {w : World} {v : Value} {bs : List Int} (h : Nums k w v bs) : ∃ a n c, v = .slice a n c := by
  rcases h with ⟨a, c, rfl, rfl⟩ | ⟨b, o, n, c, rfl, _⟩
  · exact ⟨_, _, _, rfl⟩
  · exact ⟨_, _, _, rfl⟩
end Go.Proofs.YtlkocepoohhglaaDoor
set_option linter.unusedVariables false
set_option linter.unusedSimpArgs false
namespace Go.Proofs.YtlkocepoohhglaaDoor
open Go.RowKit

theorem fst_cases (c : Int) : (c < 65 ∧ isFst c = false) ∨ (65 ≤ c ∧ c ≤ 90 ∧ isFst c = true) ∨ (90 < c ∧ c < 95 ∧ isFst c = false) ∨ (c = 95 ∧ isFst c = true) ∨ (c = 96 ∧ isFst c = false) ∨ (97 ≤ c ∧ c ≤ 122 ∧ isFst c = true) ∨ (122 < c ∧ c < 128 ∧ isFst c = false) ∨ (128 ≤ c ∧ isFst c = true) := by
  have : isFst c = true ↔ (97 ≤ c ∧ c ≤ 122) ∨ (65 ≤ c ∧ c ≤ 90) ∨ c = 95 ∨ 128 ≤ c := by simp [isFst]; omega
  by_cases h : isFst c = true
  · have := this.1 h; simp only [h, and_true]; simp; omega
  · have h' : isFst c = false := by simpa using h
    have : ¬ ((97 ≤ c ∧ c ≤ 122) ∨ (65 ≤ c ∧ c ≤ 90) ∨ c = 95 ∨ 128 ≤ c) := fun k => h (this.2 k)
    simp only [h', and_true]; simp; omega
theorem Look.shape {d : Nat} {w : World} {v : Value} {s : List Int} (h : Look d w v s) : ∃ g lb, v = .func (.func g) #[] lb := by
  obtain ⟨g, lb, h1, _⟩ := h; exact ⟨g, lb, h1⟩
theorem Look.le {d e : Nat} {w : World} {v : Value} {s : List Int} (h : Look d w v s) (hd : e ≤ d) : Look e w v s := by
  obtain ⟨g, lb, h1, h2, h3⟩ := h
  exact ⟨g, lb, h1, h2, fun k W h0 hk hW => h3 k W h0 (by omega) hW⟩
/-- A number begins, as it is behind the sign. -/
theorem nuB_s (s : List Int) : nuB (nx s 0) (nx s 1) (nx s 2) = (isDig (nx (nmS s) 0) || ((nx (nmS s) 0 == 46) && isDig (nx (nmS s) 1))) := by
  unfold nuB nmS
  split
  · rw [nx_drop, nx_drop]
  · rfl
end Go.Proofs.YtlkocepoohhglaaDoor
