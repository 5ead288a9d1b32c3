/-
  Plain: each token takes something; all tokens of some characters.
-/
import Derived.Test.YtdmijejcifjaoaaTokP
set_option linter.unusedVariables false
namespace Go.Proofs.Ytdmijejcifjaoaa
open Go.RowKit

theorem nam_len (n : Nat) : ∀ acc s : List Int, s.length ≤ n → (nam acc s).2.length ≤ s.length := by
  induction n with
  | zero =>
    intro acc s h
    obtain rfl : s = [] := List.eq_nil_of_length_eq_zero (by omega)
    rw [nam_end (by decide) (by decide)]; simp
  | succ n ih =>
    intro acc s h
    by_cases h1 : isLet (nx s 0) = true
    · have := isLet_ne h1
      rw [nam_let h1]
      have := ih (acc ++ [nx s 0]) (s.drop 1) (by rw [List.length_drop]; omega)
      rw [List.length_drop] at this; omega
    · have h1' : isLet (nx s 0) = false := by simpa using h1
      by_cases h2 : es2 (nx s 0) (nx s 1) = true
      · have := es2_ne h2
        have q := tesc_len (s.drop 1)
        rw [List.length_drop] at q
        rw [nam_esc h1' h2]
        have := ih (acc ++ [(tesc (s.drop 1)).1]) (tesc (s.drop 1)).2 (by omega)
        omega
      · rw [nam_end h1' (by simpa using h2)]; simp
theorem nam_le (acc s : List Int) : (nam acc s).2.length ≤ s.length := nam_len s.length acc s (Nat.le_refl _)
theorem nam_lt {acc s : List Int} (h : isLet (nx s 0) = true ∨ es2 (nx s 0) (nx s 1) = true) : (nam acc s).2.length < s.length := by
  by_cases h1 : isLet (nx s 0) = true
  · have := isLet_ne h1
    rw [nam_let h1]
    have := nam_le (acc ++ [nx s 0]) (s.drop 1)
    rw [List.length_drop] at this; omega
  · have h2 : es2 (nx s 0) (nx s 1) = true := by rcases h with h | h; exact absurd h h1; exact h
    have := es2_ne h2
    have q := tesc_len (s.drop 1)
    rw [List.length_drop] at q
    rw [nam_esc (by simpa using h1) h2]
    have := nam_le (acc ++ [(tesc (s.drop 1)).1]) (tesc (s.drop 1)).2
    omega
theorem nmB_lt {acc s : List Int} (h : nmB (nx s 0) (nx s 1) (nx s 2) = true) : (nam acc s).2.length < s.length := by
  refine nam_lt ?_
  unfold nmB at h
  by_cases g : nx s 0 = 45
  · left; rw [g]; decide
  · rw [if_neg g] at h
    rcases Bool.or_eq_true_iff.1 h with h | h
    · left; unfold isLet; rw [h]; rfl
    · right; exact h
theorem dgs_len (s : List Int) : (dgs s).length ≤ s.length := (List.dropWhile_sublist _).length_le
theorem dgs_lt {s : List Int} (h : isDig (nx s 0) = true) : (dgs s).length < s.length := by
  cases s with
  | nil => exact absurd h (by decide)
  | cons x r =>
    have hx : isDig x = true := h
    show ((x :: r).dropWhile isDig).length < _
    rw [List.dropWhile_cons_of_pos hx]
    have := (List.dropWhile_sublist isDig (l := r)).length_le
    simp; omega
theorem dgs_no {s : List Int} (h : isDig (nx s 0) = false) : dgs s = s := by
  cases s with
  | nil => rfl
  | cons x r =>
    have hx : isDig x = false := h
    show (x :: r).dropWhile isDig = _
    rw [List.dropWhile_cons_of_neg (by simp [hx])]
theorem nmS_len (s : List Int) : (nmS s).length ≤ s.length := by unfold nmS; split <;> simp
theorem nmP_len (s : List Int) : (nmP s).length ≤ s.length := by
  unfold nmP; split
  · have := dgs_len (s.drop 1); rw [List.length_drop] at this; omega
  · simp
theorem nmE_len (s : List Int) : (nmE s).length ≤ s.length := by
  unfold nmE; split
  · have := dgs_len (nmS (s.drop 1)); have := nmS_len (s.drop 1); rw [List.length_drop] at this; omega
  · simp
theorem nmZ_len (s : List Int) : (nmZ s).length ≤ s.length := by
  unfold nmZ
  have h1 := nmE_len (nmP (dgs (nmS s))); have h2 := nmP_len (dgs (nmS s)); have h3 := dgs_len (nmS s); have h4 := nmS_len s
  omega
theorem nmZ_lt {s : List Int} (h : nuB (nx s 0) (nx s 1) (nx s 2) = true) : (nmZ s).length < s.length := by
  have h1 := nmE_len (nmP (dgs (nmS s))); have h2 := nmP_len (dgs (nmS s)); have h3 := dgs_len (nmS s); have h4 := nmS_len s
  unfold nuB at h
  unfold nmZ
  by_cases g : isSg (nx s 0) = true
  · have hp : 0 < s.length := nx_pos fun e => by rw [e] at g; exact absurd g (by decide)
    have : (nmS s).length < s.length := by unfold nmS; rw [if_pos g, List.length_drop]; omega
    omega
  · rw [if_neg g] at h
    have e : nmS s = s := by unfold nmS; rw [if_neg g]
    rcases Bool.or_eq_true_iff.1 h with h | h
    · have := dgs_lt h
      rw [e] at h1 h2 h3 ⊢
      omega
    · rw [e] at h1 h2 h3 ⊢
      have hd : isDig (nx s 0) = false := by
        have : nx s 0 = 46 := by simp at h; exact h.1
        rw [this]; decide
      rw [dgs_no hd] at h1 h2 ⊢
      have hp : 0 < s.length := nx_pos fun q => by rw [q] at h; simp at h
      have : (nmP s).length < s.length := by
        unfold nmP; rw [if_pos h]
        have := dgs_len (s.drop 1); rw [List.length_drop] at this; omega
      omega
theorem bad_len (n : Nat) : ∀ s : List Int, s.length ≤ n → (bad s).length ≤ s.length := by
  induction n with
  | zero =>
    intro s h
    obtain rfl : s = [] := List.eq_nil_of_length_eq_zero (by omega)
    rw [bad]; simp [nx_nil]
  | succ n ih =>
    intro s h
    rw [bad]
    by_cases h0 : nx s 0 = -1 ∨ nx s 0 = 41
    · rw [dif_pos h0]; simp
    · have hp := nx_pos (s := s) (fun e => h0 (.inl e))
      rw [dif_neg h0]
      by_cases h1 : es2 (nx s 0) (nx s 1) = true
      · rw [if_pos h1]
        have q := tesc_len (s.drop 1)
        rw [List.length_drop] at q
        have := ih (tesc (s.drop 1)).2 (by omega)
        omega
      · rw [if_neg h1]
        have := ih (s.drop 1) (by rw [List.length_drop]; omega)
        rw [List.length_drop] at this; omega
theorem bad_le (s : List Int) : (bad s).length ≤ s.length := bad_len s.length s (Nat.le_refl _)
theorem url_len (n : Nat) : ∀ acc s : List Int, s.length ≤ n → (url acc s).2.length ≤ s.length := by
  induction n with
  | zero =>
    intro acc s h
    obtain rfl : s = [] := List.eq_nil_of_length_eq_zero (by omega)
    rw [url]; simp [nx_nil]
  | succ n ih =>
    intro acc s h
    rw [url]
    by_cases h0 : nx s 0 = -1 ∨ nx s 0 = 41
    · rw [dif_pos h0]; simp
    · have hp := nx_pos (s := s) (fun e => h0 (.inl e))
      rw [dif_neg h0]
      by_cases h1 : isBl (nx s 0) = true
      · rw [dif_pos h1]
        have q := bls_lt h1
        split
        · have := ih acc (bls s) (by omega); omega
        · have := bad_le (bls s); simp only; omega
      · rw [dif_neg h1]
        split
        · have q := tesc_len (s.drop 1)
          rw [List.length_drop] at q
          have := ih (acc ++ [(tesc (s.drop 1)).1]) (tesc (s.drop 1)).2 (by omega)
          omega
        · split
          · exact bad_le s
          · have := ih (acc ++ [nx s 0]) (s.drop 1) (by rw [List.length_drop]; omega)
            rw [List.length_drop] at this; omega
theorem url_le (acc s : List Int) : (url acc s).2.length ≤ s.length := url_len s.length acc s (Nat.le_refl _)
theorem str_len (n : Nat) : ∀ (q : Int) (acc s : List Int), s.length ≤ n → (str q acc s).2.length ≤ s.length := by
  induction n with
  | zero =>
    intro q acc s h
    obtain rfl : s = [] := List.eq_nil_of_length_eq_zero (by omega)
    rw [str]; simp [nx_nil]
  | succ n ih =>
    intro q acc s h
    rw [str]
    by_cases h0 : nx s 0 = -1 ∨ nx s 0 = q
    · rw [dif_pos h0]; simp
    · have hp := nx_pos (s := s) (fun e => h0 (.inl e))
      rw [dif_neg h0]
      by_cases h1 : nx s 0 = 10
      · rw [dif_pos h1]; simp
      · rw [dif_neg h1]
        by_cases h2 : nx s 0 = 92
        · rw [dif_pos h2]
          split
          · have := ih q acc (s.drop 1) (by rw [List.length_drop]; omega)
            rw [List.length_drop] at this; omega
          · split
            · have := ih q acc (s.drop 2) (by rw [List.length_drop]; omega)
              rw [List.length_drop] at this; omega
            · have r := tesc_len (s.drop 1)
              rw [List.length_drop] at r
              have := ih q (acc ++ [(tesc (s.drop 1)).1]) (tesc (s.drop 1)).2 (by omega)
              omega
        · rw [dif_neg h2]
          have := ih q (acc ++ [nx s 0]) (s.drop 1) (by rw [List.length_drop]; omega)
          rw [List.length_drop] at this; omega
theorem str_le (q : Int) (acc s : List Int) : (str q acc s).2.length ≤ s.length := str_len s.length q acc s (Nat.le_refl _)
theorem sbl_len (s : List Int) : (sbl s).length ≤ s.length := by
  induction s with
  | nil => simp [sbl]
  | cons x r ih => simp only [sbl]; split <;> simp; omega
theorem word_lt {s : List Int} (h : (nam [] s).2.length < s.length) : (word s).2.length < s.length := by
  unfold word
  have h1 := sbl_len ((nam [] s).2.drop 1)
  have h2 := bls_len (sbl ((nam [] s).2.drop 1))
  have h3 := url_le [] (bls (sbl ((nam [] s).2.drop 1)))
  rw [List.length_drop] at h1
  split
  · exact h
  · split
    · split
      · simp only; omega
      · omega
    · simp only [List.length_drop]; omega
theorem numb_lt {s : List Int} (h : nuB (nx s 0) (nx s 1) (nx s 2) = true) : (numb s).2.length < s.length := by
  have h1 := nmZ_lt h
  have h2 := nam_le [] (nmZ s)
  unfold numb
  split
  · simp only; omega
  · split
    · simp only [List.length_drop]; omega
    · exact h1
theorem one_lt {s : List Int} (h : nx s 0 ≠ -1) : (one s).2.length < s.length := by
  have := nx_pos h
  unfold one; simp only [List.length_drop]; omega
theorem sgnT_lt {s : List Int} (h : nx s 0 ≠ -1) : (sgnT s).2.length < s.length := by
  have hp := nx_pos h
  have ho := one_lt h
  have hn := nam_le [] (s.drop 1)
  rw [List.length_drop] at hn
  unfold sgnT
  split
  · split
    · unfold hash; simp only; omega
    · exact ho
  · split
    · split
      · rename_i g; exact numb_lt g
      · exact ho
    · split
      · split
        · rename_i g; exact numb_lt g
        · split
          · simp only [List.length_drop]; omega
          · split
            · rename_i g; exact word_lt (nmB_lt g)
            · exact ho
      · split
        · split
          · simp only [List.length_drop]; omega
          · exact ho
        · split
          · split
            · simp only; omega
            · exact ho
          · split
            · split
              · rename_i g; exact word_lt (nam_lt (.inr g))
              · exact ho
            · exact ho
theorem isFst_let {c : Int} (h : isFst c = true) : isLet c = true := by unfold isLet; rw [h]; rfl
theorem isDig_nu {s : List Int} (h : isDig (nx s 0) = true) : nuB (nx s 0) (nx s 1) (nx s 2) = true := by
  have hs : isSg (nx s 0) = false := by
    generalize nx s 0 = c at *
    simp [isDig] at h
    simp [isSg]; omega
  unfold nuB; rw [hs, h]; rfl
theorem tokn_lt {s : List Int} (h : nx s 0 ≠ -1) : (tokn s).2.length < s.length := by
  have hp := nx_pos h
  unfold tokn
  split
  · rename_i g; exact bls_lt g
  · split
    · have := str_le (nx s 0) [] (s.drop 1)
      rw [List.length_drop] at this; omega
    · split
      · rename_i g; exact numb_lt (isDig_nu g)
      · split
        · rename_i g; exact word_lt (nam_lt (.inl (isFst_let g)))
        · exact sgnT_lt h
theorem rmk_len (n : Nat) : ∀ s : List Int, s.length ≤ n → (rmk s).length ≤ s.length := by
  induction n with
  | zero =>
    intro s h
    obtain rfl : s = [] := List.eq_nil_of_length_eq_zero (by omega)
    rw [rmk_end (by simp [nx_nil])]; simp
  | succ n ih =>
    intro s h
    by_cases g : nx s 0 = 47 ∧ nx s 1 = 42
    · have hp : 0 < s.length := nx_pos (by omega)
      rw [rmk_go g.1 g.2]
      have q := untl_len (s.drop 2)
      rw [List.length_drop] at q
      have := ih (untl (s.drop 2)) (by omega)
      omega
    · rw [rmk_end g]; simp
theorem rmk_le (s : List Int) : (rmk s).length ≤ s.length := rmk_len s.length s (Nat.le_refl _)
/-- The tokens of these characters. -/
def toks (s : List Int) : List Tk :=
  if h : nx (rmk s) 0 = -1 then [] else (tokn (rmk s)).1 :: toks (tokn (rmk s)).2
termination_by s.length
decreasing_by
  have := tokn_lt h
  have := rmk_le s
  omega
theorem toks_end {s : List Int} (h : nx (rmk s) 0 = -1) : toks s = [] := by rw [toks, dif_pos h]
theorem toks_go {s : List Int} (h : nx (rmk s) 0 ≠ -1) : toks s = (tokn (rmk s)).1 :: toks (tokn (rmk s)).2 := by rw [toks, dif_neg h]
end Go.Proofs.Ytdmijejcifjaoaa
