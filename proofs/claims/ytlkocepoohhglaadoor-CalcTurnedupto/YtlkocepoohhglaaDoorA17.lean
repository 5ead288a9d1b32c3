/-
  A url, by the program.
  A word, by the program.
  What begins with a dash, by the program.
  What begins with a sign, by the program.
-/
import Derived.Test.YtlkocepoohhglaaDoorA16
import Derived.Outline
import Derived.Test.YtlkocepoohhglaaDoorA15
set_option linter.unusedVariables false
set_option linter.unusedSimpArgs false
namespace Go.Proofs.YtlkocepoohhglaaDoor
open Go.RowKit

theorem url_end {acc s : List Int} (h : nx s 0 = -1 ∨ nx s 0 = 41) : url acc s = (tkt 7 acc, s.drop 1) := by rw [url, dif_pos h]
theorem url_blg {acc s : List Int} (h : ¬ (nx s 0 = -1 ∨ nx s 0 = 41)) (h1 : isBl (nx s 0) = true) (g : nx (bls s) 0 = -1 ∨ nx (bls s) 0 = 41) : url acc s = url acc (bls s) := by rw [url, dif_neg h, dif_pos h1, if_pos g]
theorem url_blb {acc s : List Int} (h : ¬ (nx s 0 = -1 ∨ nx s 0 = 41)) (h1 : isBl (nx s 0) = true) (g : ¬ (nx (bls s) 0 = -1 ∨ nx (bls s) 0 = 41)) : url acc s = (tk 8, bad (bls s)) := by rw [url, dif_neg h, dif_pos h1, if_neg g]
theorem url_esc {acc s : List Int} (h : ¬ (nx s 0 = -1 ∨ nx s 0 = 41)) (h1 : isBl (nx s 0) = false) (g : es2 (nx s 0) (nx s 1) = true) : url acc s = url (acc ++ [(tesc (s.drop 1)).1]) (tesc (s.drop 1)).2 := by
  rw [url, dif_neg h, dif_neg (by simp [h1]), if_pos g]
theorem url_bar {acc s : List Int} (h : ¬ (nx s 0 = -1 ∨ nx s 0 = 41)) (h1 : isBl (nx s 0) = false) (g : es2 (nx s 0) (nx s 1) = false) (k : isBar (nx s 0) = true) : url acc s = (tk 8, bad s) := by
  rw [url, dif_neg h, dif_neg (by simp [h1]), if_neg (by simp [g]), if_pos k]
theorem url_go {acc s : List Int} (h : ¬ (nx s 0 = -1 ∨ nx s 0 = 41)) (h1 : isBl (nx s 0) = false) (g : es2 (nx s 0) (nx s 1) = false) (k : isBar (nx s 0) = false) : url acc s = url (acc ++ [nx s 0]) (s.drop 1) := by
  rw [url, dif_neg h, dif_neg (by simp [h1]), if_neg (by simp [g]), if_neg (by simp [k])]
end Go.Proofs.YtlkocepoohhglaaDoor
set_option linter.unusedVariables false
set_option linter.unusedSimpArgs false
namespace Go.Proofs.YtlkocepoohhglaaDoor
open Go.RowKit

end Go.Proofs.YtlkocepoohhglaaDoor
set_option linter.unusedVariables false
set_option linter.unusedSimpArgs false
namespace Go.Proofs.YtlkocepoohhglaaDoor
open Go.RowKit

/-- What begins with a dash. -/
def dash (s : List Int) : Tk × List Int :=
  if nuB (nx s 0) (nx s 1) (nx s 2) then numb s
  else if nx s 1 = 45 ∧ nx s 2 = 62 then (tk 15, s.drop 3)
  else if nmB (nx s 0) (nx s 1) (nx s 2) then word s else one s
theorem st_dash (s : List Int) (h : nx s 0 = 45) : stB s [45, 45, 62] = decide (nx s 1 = 45 ∧ nx s 2 = 62) := by
  have e1 : nx (s.drop 1) 0 = nx s 1 := nx_drop s 1 0
  have e2 : nx ((s.drop 1).drop 1) 0 = nx s 2 := by rw [nx_drop, nx_drop]
  simp only [stB, h, e1, e2]
  by_cases g1 : nx s 1 = 45 <;> by_cases g2 : nx s 2 = 62 <;> simp [g1, g2]
end Go.Proofs.YtlkocepoohhglaaDoor
set_option linter.unusedVariables false
set_option linter.unusedSimpArgs false
namespace Go.Proofs.YtlkocepoohhglaaDoor
open Go.RowKit

theorem st_cdo (s : List Int) (h : nx s 0 = 60) : stB s [60, 33, 45, 45] = decide (nx s 1 = 33 ∧ nx s 2 = 45 ∧ nx s 3 = 45) := by
  have e1 : nx (s.drop 1) 0 = nx s 1 := nx_drop s 1 0
  have e2 : nx ((s.drop 1).drop 1) 0 = nx s 2 := by rw [nx_drop, nx_drop]
  have e3 : nx (((s.drop 1).drop 1).drop 1) 0 = nx s 3 := by rw [nx_drop, nx_drop, nx_drop]
  simp only [stB, h, e1, e2, e3]
  by_cases g1 : nx s 1 = 33 <;> by_cases g2 : nx s 2 = 45 <;> by_cases g3 : nx s 3 = 45 <;> simp [g1, g2, g3]
theorem sgnT_hash {s : List Int} (h : nx s 0 = 35) : sgnT s = if isLet (nx s 1) || es2 (nx s 1) (nx s 2) then hash s else one s := by unfold sgnT; rw [if_pos h]
theorem sgnT_num {s : List Int} (h : nx s 0 = 43 ∨ nx s 0 = 46) : sgnT s = if nuB (nx s 0) (nx s 1) (nx s 2) then numb s else one s := by unfold sgnT; rw [if_neg (by omega), if_pos h]
theorem sgnT_dash {s : List Int} (h : nx s 0 = 45) : sgnT s = dash s := by unfold sgnT; rw [if_neg (by omega), if_neg (by omega), if_pos h]; rfl
theorem sgnT_cdo {s : List Int} (h : nx s 0 = 60) : sgnT s = if nx s 1 = 33 ∧ nx s 2 = 45 ∧ nx s 3 = 45 then (tk 14, s.drop 4) else one s := by unfold sgnT; rw [if_neg (by omega), if_neg (by omega), if_neg (by omega), if_pos h]
theorem sgnT_at {s : List Int} (h : nx s 0 = 64) : sgnT s = if nmB (nx s 1) (nx s 2) (nx s 3) then (tkt 3 (nam [] (s.drop 1)).1, (nam [] (s.drop 1)).2) else one s := by unfold sgnT; rw [if_neg (by omega), if_neg (by omega), if_neg (by omega), if_neg (by omega), if_pos h]
theorem sgnT_esc {s : List Int} (h : nx s 0 = 92) : sgnT s = if es2 (nx s 0) (nx s 1) then word s else one s := by unfold sgnT; rw [if_neg (by omega), if_neg (by omega), if_neg (by omega), if_neg (by omega), if_neg (by omega), if_pos h]
theorem sgnT_one {s : List Int} (h1 : nx s 0 ≠ 35) (h2 : nx s 0 ≠ 43) (h3 : nx s 0 ≠ 46) (h4 : nx s 0 ≠ 45) (h5 : nx s 0 ≠ 60) (h6 : nx s 0 ≠ 64) (h7 : nx s 0 ≠ 92) : sgnT s = one s := by
  unfold sgnT; rw [if_neg h1, if_neg (by omega), if_neg h4, if_neg h5, if_neg h6, if_neg h7]
end Go.Proofs.YtlkocepoohhglaaDoor
