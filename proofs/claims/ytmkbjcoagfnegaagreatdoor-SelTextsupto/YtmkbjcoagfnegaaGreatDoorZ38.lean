/-
  Whether a quote comes, by the program.
  Whether a name is url, by the program.
  A url, by the program.
  A word, by the program.
-/
import Derived.Test.YtmkbjcoagfnegaaGreatDoorZ37
import Derived.Outline
set_option linter.unusedVariables false
set_option linter.unusedSimpArgs false
namespace Go.Proofs.YtmkbjcoagfnegaaGreatDoor
open Go.RowKit

end Go.Proofs.YtmkbjcoagfnegaaGreatDoor
set_option linter.unusedVariables false
set_option linter.unusedSimpArgs false
namespace Go.Proofs.YtmkbjcoagfnegaaGreatDoor
open Go.RowKit

end Go.Proofs.YtmkbjcoagfnegaaGreatDoor
set_option linter.unusedVariables false
set_option linter.unusedSimpArgs false
namespace Go.Proofs.YtmkbjcoagfnegaaGreatDoor
open Go.RowKit

theorem url_end {acc s : List Int} (h : nx s 0 = -1 ∨ nx s 0 = 41) : url acc s = (tkt 7 acc, s.drop 1) := by rw [url, dif_pos h]
theorem url_blg {acc s : List Int} (h : ¬ (nx s 0 = -1 ∨ nx s 0 = 41)) (h1 : isBl (nx s 0) = true) (g : nx (bls s) 0 = -1 ∨ nx (bls s) 0 = 41) : url acc s = url acc (bls s) := by rw [url, dif_neg h, dif_pos h1, if_pos g]
theorem url_blb {acc s : List Int} (h : ¬ (nx s 0 = -1 ∨ nx s 0 = 41)) (h1 : isBl (nx s 0) = true) (g : ¬ (nx (bls s) 0 = -1 ∨ nx (bls s) 0 = 41)) : url acc s = (tk 8, bad (bls s)) := by rw [url, dif_neg h, dif_pos h1, if_neg g]
theorem url_esc {acc s : List Int} (h : ¬ (nx s 0 = -1 ∨ nx s 0 = 41)) (h1 : isBl (nx s 0) = false) (g : es2 (nx s 0) (nx s 1) = true) : url acc s = url (acc ++ [(tesc (s.drop 1)).1]) (tesc (s.drop 1)).2 := by
  rw [url, dif_neg h, dif_neg (by simp [h1]), if_pos g]
theorem url_bar {acc s : List Int} (h : ¬ (nx s 0 = -1 ∨ nx s 0 = 41)) (h1 : isBl (nx s 0) = false) (g : es2 (nx s 0) (nx s 1) = false) (k : isBar (nx s 0) = true) : url acc s = (tk 8, bad s) := by
  rw [url, dif_neg h, dif_neg (by simp [h1]), if_neg (by simp [g]), if_pos k]
theorem url_go {acc s : List Int} (h : ¬ (nx s 0 = -1 ∨ nx s 0 = 41)) (h1 : isBl (nx s 0) = false) (g : es2 (nx s 0) (nx s 1) = false) (k : isBar (nx s 0) = false) : url acc s = url (acc ++ [nx s 0]) (s.drop 1) := by
  rw [url, dif_neg h, dif_neg (by simp [h1]), if_neg (by simp [g]), if_neg (by simp [k])]
end Go.Proofs.YtmkbjcoagfnegaaGreatDoor
set_option linter.unusedVariables false
set_option linter.unusedSimpArgs false
namespace Go.Proofs.YtmkbjcoagfnegaaGreatDoor
open Go.RowKit

end Go.Proofs.YtmkbjcoagfnegaaGreatDoor

