/-
  Plain: one token, in the order in which the reference looks.
-/
import Derived.Test.YtckefmhleklciaaGreatDoorMd
set_option linter.unusedVariables false
set_option linter.unusedSimpArgs false
namespace Go.Proofs.YtckefmhleklciaaGreatDoor
open Go.RowKit
/-- One token, in the order in which the reference looks. -/
def nextR (s : List Int) : Tk × List Int :=
  if brk (nx s 0) ≠ 9 then (tk (brk (nx s 0)), s.drop 1)
  else if isBl (nx s 0) then (tk 13, bls s)
  else if isQ (nx s 0) then str (nx s 0) [] (s.drop 1)
  else if nx s 0 = 35 ∧ (isLet (nx s 1) || es2 (nx s 1) (nx s 2)) = true then hash s
  else if nuB (nx s 0) (nx s 1) (nx s 2) then numb s
  else if nx s 0 = 45 ∧ nx s 1 = 45 ∧ nx s 2 = 62 then (tk 15, s.drop 3)
  else if nx s 0 = 60 ∧ nx s 1 = 33 ∧ nx s 2 = 45 ∧ nx s 3 = 45 then (tk 14, s.drop 4)
  else if nx s 0 = 64 ∧ nmB (nx s 1) (nx s 2) (nx s 3) = true then (tkt 3 (nam [] (s.drop 1)).1, (nam [] (s.drop 1)).2)
  else if nmB (nx s 0) (nx s 1) (nx s 2) then word s
  else (tkt 9 [nx s 0], s.drop 1)
theorem brk_iff (c : Int) : brk c ≠ 9 ↔ c = 40 ∨ c = 41 ∨ c = 91 ∨ c = 93 ∨ c = 123 ∨ c = 125 ∨ c = 44 ∨ c = 58 ∨ c = 59 := by unfold brk; omega
theorem isBl_iff (c : Int) : isBl c = true ↔ c = 10 ∨ c = 9 ∨ c = 32 := by simp [isBl, or_assoc]
theorem isQ_iff (c : Int) : isQ c = true ↔ c = 34 ∨ c = 39 := by simp [isQ]
theorem isDig_iff (c : Int) : isDig c = true ↔ 48 ≤ c ∧ c ≤ 57 := by simp [isDig]
theorem isFst_iff (c : Int) : isFst c = true ↔ (97 ≤ c ∧ c ≤ 122) ∨ (65 ≤ c ∧ c ≤ 90) ∨ c = 95 ∨ 128 ≤ c := by simp [isFst, or_assoc]
theorem isSg_iff (c : Int) : isSg c = true ↔ c = 43 ∨ c = 45 := by simp [isSg]
theorem es2_iff (a b : Int) : es2 a b = true ↔ a = 92 ∧ b ≠ 10 := by simp [es2]
theorem nuB_iff (a b c : Int) : nuB a b c = true ↔ ((a = 43 ∨ a = 45) ∧ (isDig b = true ∨ (b = 46 ∧ isDig c = true))) ∨ (¬ (a = 43 ∨ a = 45) ∧ (isDig a = true ∨ (a = 46 ∧ isDig b = true))) := by
  unfold nuB
  by_cases h : isSg a = true
  · rw [if_pos h]; have := (isSg_iff a).1 h; simp [this]
  · rw [if_neg h]; have : ¬ (a = 43 ∨ a = 45) := fun k => h ((isSg_iff a).2 k); simp [this]
theorem nmB_iff (a b c : Int) : nmB a b c = true ↔ (a = 45 ∧ (isFst b = true ∨ b = 45 ∨ es2 b c = true)) ∨ (a ≠ 45 ∧ (isFst a = true ∨ es2 a b = true)) := by
  unfold nmB
  by_cases h : a = 45
  · simp [h, or_assoc]
  · simp [h]
theorem one_br {s : List Int} (h : brk (nx s 0) ≠ 9) : one s = (tk (brk (nx s 0)), s.drop 1) := by unfold one; rw [if_neg h]
theorem one_nb {s : List Int} (h : ¬ brk (nx s 0) ≠ 9) : one s = (tkt 9 [nx s 0], s.drop 1) := by unfold one; rw [if_pos (by omega)]
theorem tokn_next (s : List Int) : tokn s = nextR s := by
  unfold tokn nextR
  by_cases hb : brk (nx s 0) ≠ 9
  · rw [if_pos hb]
    have hc := (brk_iff _).1 hb
    rw [if_neg (by rw [isBl_iff]; omega), if_neg (by rw [isQ_iff]; omega), if_neg (by rw [isDig_iff]; omega), if_neg (by rw [isFst_iff]; omega)]
    unfold sgnT
    rw [if_neg (by omega), if_neg (by omega), if_neg (by omega), if_neg (by omega), if_neg (by omega), if_neg (by omega), one_br hb]
  · rw [if_neg hb]
    by_cases h1 : isBl (nx s 0) = true
    · rw [if_pos h1, if_pos h1]
    rw [if_neg h1, if_neg h1]
    by_cases h2 : isQ (nx s 0) = true
    · rw [if_pos h2, if_pos h2]
    rw [if_neg h2, if_neg h2]
    have h1' : ¬ (nx s 0 = 10 ∨ nx s 0 = 9 ∨ nx s 0 = 32) := fun k => h1 ((isBl_iff _).2 k)
    have h2' : ¬ (nx s 0 = 34 ∨ nx s 0 = 39) := fun k => h2 ((isQ_iff _).2 k)
    have NU := nuB_iff (nx s 0) (nx s 1) (nx s 2)
    have NM := nmB_iff (nx s 0) (nx s 1) (nx s 2)
    have E0 := es2_iff (nx s 0) (nx s 1)
    have D0 := isDig_iff (nx s 0)
    have F0 := isFst_iff (nx s 0)
    have o := one_nb hb
    by_cases h3 : isDig (nx s 0) = true
    · have d := D0.1 h3
      rw [if_pos h3, if_neg (by omega), if_pos (NU.2 (.inr ⟨by omega, .inl h3⟩))]
    rw [if_neg h3]
    by_cases h4 : isFst (nx s 0) = true
    · have f := F0.1 h4
      rw [if_pos h4, if_neg (by omega), if_neg (by rw [NU]; rintro (⟨h, _⟩ | ⟨_, h | ⟨h, _⟩⟩); omega; exact h3 h; omega), if_neg (by omega), if_neg (by omega), if_neg (by omega), if_pos (NM.2 (.inr ⟨by omega, .inl h4⟩))]
    rw [if_neg h4]
    unfold sgnT
    by_cases c35 : nx s 0 = 35
    · rw [if_pos c35]
      by_cases g : (isLet (nx s 1) || es2 (nx s 1) (nx s 2)) = true
      · rw [if_pos g, if_pos ⟨c35, g⟩]
      · rw [if_neg g, if_neg (fun k => g k.2), if_neg (by rw [NU]; rintro (⟨h, _⟩ | ⟨_, h | ⟨h, _⟩⟩); omega; exact h3 h; omega), if_neg (by omega), if_neg (by omega), if_neg (by omega), if_neg (by rw [NM]; rintro (⟨h, _⟩ | ⟨_, h | h⟩); omega; exact h4 h; have := E0.1 h; omega), o]
    rw [if_neg c35, if_neg (show ¬ (nx s 0 = 35 ∧ (isLet (nx s 1) || es2 (nx s 1) (nx s 2)) = true) from fun k => c35 k.1)]
    by_cases c43 : nx s 0 = 43 ∨ nx s 0 = 46
    · rw [if_pos c43]
      by_cases g : nuB (nx s 0) (nx s 1) (nx s 2) = true
      · rw [if_pos g, if_pos g]
      · rw [if_neg g, if_neg g, if_neg (by omega), if_neg (by omega), if_neg (by omega), if_neg (by rw [NM]; rintro (⟨h, _⟩ | ⟨_, h | h⟩); omega; exact h4 h; have := E0.1 h; omega), o]
    rw [if_neg c43]
    by_cases c45 : nx s 0 = 45
    · rw [if_pos c45]
      by_cases g : nuB (nx s 0) (nx s 1) (nx s 2) = true
      · rw [if_pos g, if_pos g]
      · rw [if_neg g, if_neg g]
        by_cases g2 : nx s 1 = 45 ∧ nx s 2 = 62
        · rw [if_pos g2, if_pos ⟨c45, g2⟩]
        · rw [if_neg g2, if_neg (show ¬ (nx s 0 = 45 ∧ nx s 1 = 45 ∧ nx s 2 = 62) from fun k => g2 k.2), if_neg (show ¬ (nx s 0 = 60 ∧ nx s 1 = 33 ∧ nx s 2 = 45 ∧ nx s 3 = 45) from by omega), if_neg (show ¬ (nx s 0 = 64 ∧ nmB (nx s 1) (nx s 2) (nx s 3) = true) from fun k => by omega), o]
    rw [if_neg c45]
    have nn : ¬ nuB (nx s 0) (nx s 1) (nx s 2) = true := by rw [NU]; rintro (⟨h, _⟩ | ⟨_, h | ⟨h, _⟩⟩); omega; exact h3 h; omega
    rw [if_neg nn, if_neg (show ¬ (nx s 0 = 45 ∧ nx s 1 = 45 ∧ nx s 2 = 62) from fun k => c45 k.1)]
    by_cases c60 : nx s 0 = 60
    · rw [if_pos c60]
      by_cases g2 : nx s 1 = 33 ∧ nx s 2 = 45 ∧ nx s 3 = 45
      · rw [if_pos g2, if_pos ⟨c60, g2⟩]
      · rw [if_neg g2, if_neg (fun k => g2 k.2), if_neg (by omega), if_neg (by rw [NM]; rintro (⟨h, _⟩ | ⟨_, h | h⟩); omega; exact h4 h; have := E0.1 h; omega), o]
    rw [if_neg c60, if_neg (show ¬ (nx s 0 = 60 ∧ nx s 1 = 33 ∧ nx s 2 = 45 ∧ nx s 3 = 45) from fun k => c60 k.1)]
    by_cases c64 : nx s 0 = 64
    · rw [if_pos c64]
      by_cases g2 : nmB (nx s 1) (nx s 2) (nx s 3) = true
      · rw [if_pos g2, if_pos ⟨c64, g2⟩]
      · rw [if_neg g2, if_neg (fun k => g2 k.2), if_neg (by rw [NM]; rintro (⟨h, _⟩ | ⟨_, h | h⟩); omega; exact h4 h; have := E0.1 h; omega), o]
    rw [if_neg c64, if_neg (show ¬ (nx s 0 = 64 ∧ nmB (nx s 1) (nx s 2) (nx s 3) = true) from fun k => c64 k.1)]
    by_cases c92 : nx s 0 = 92
    · rw [if_pos c92]
      by_cases g : es2 (nx s 0) (nx s 1) = true
      · rw [if_pos g, if_pos (NM.2 (.inr ⟨c45, .inr g⟩))]
      · rw [if_neg g, if_neg (by rw [NM]; rintro (⟨h, _⟩ | ⟨_, h | h⟩); omega; exact h4 h; exact g h), o]
    · rw [if_neg c92, if_neg (by rw [NM]; rintro (⟨h, _⟩ | ⟨_, h | h⟩); omega; exact h4 h; have := E0.1 h; omega), o]
end Go.Proofs.YtckefmhleklciaaGreatDoor
