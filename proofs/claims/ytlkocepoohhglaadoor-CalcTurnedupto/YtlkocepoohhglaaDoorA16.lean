/-
  A string, by the program.
  What ends a url; a bad url; whether a quote comes, by the program.
  Whether a quote comes, by the program.
  Whether a name is url, by the program.
-/
import Derived.Test.YtlkocepoohhglaaDoorA15
import Derived.Outline
set_option linter.unusedVariables false
set_option linter.unusedSimpArgs false
namespace Go.Proofs.YtlkocepoohhglaaDoor
open Go.RowKit

theorem str_end {q : Int} {acc s : List Int} (h : nx s 0 = -1 ∨ nx s 0 = q) : str q acc s = (tkt 5 acc, s.drop 1) := by rw [str, dif_pos h]
theorem str_bad {q : Int} {acc s : List Int} (h : ¬ (nx s 0 = -1 ∨ nx s 0 = q)) (h1 : nx s 0 = 10) : str q acc s = (tk 6, s) := by rw [str, dif_neg h, dif_pos h1]
theorem str_esc {q : Int} {acc s : List Int} (h : ¬ (nx s 0 = -1 ∨ nx s 0 = q)) (h1 : nx s 0 = 92) : str q acc s = str q (acc ++ (esX s).1) (esX s).2 := by
  rw [str, dif_neg h, dif_neg (by omega), dif_pos h1]
  unfold esX
  split
  · simp
  · split
    · simp
    · rfl
theorem str_go {q : Int} {acc s : List Int} (h : ¬ (nx s 0 = -1 ∨ nx s 0 = q)) (h1 : nx s 0 ≠ 10) (h2 : nx s 0 ≠ 92) : str q acc s = str q (acc ++ [nx s 0]) (s.drop 1) := by
  rw [str, dif_neg h, dif_neg h1, dif_neg h2]
/-- The state of the loop that takes a string, a url. -/
def RelTx (f : List Int → List Int → Tk × List Int) (T : TypeId) (W w0 : World) (b : Nat) (v : Value) (l s : List Int) (N g : Nat) (nv : Value) (wr : World) : Prop :=
  ∃ xs t, At T W wr b v l t ∧ t.length ≤ g ∧ xs.length + t.length ≤ N ∧ OwnM b w0 .i32 21 wr nv xs ∧ Hid (f [] s = f xs t)
theorem RelTx.mk {f : List Int → List Int → Tk × List Int} {T : TypeId} {W w0 : World} {b : Nat} {v : Value} {l s : List Int} {N g : Nat} {nv : Value} {wr : World} (xs t : List Int) (h1 : At T W wr b v l t) (h2 : t.length ≤ g) (h3 : xs.length + t.length ≤ N) (h4 : OwnM b w0 .i32 21 wr nv xs) (h5 : f [] s = f xs t) : RelTx f T W w0 b v l s N g nv wr := ⟨xs, t, h1, h2, h3, h4, h5⟩
end Go.Proofs.YtlkocepoohhglaaDoor
set_option linter.unusedVariables false
set_option linter.unusedSimpArgs false
namespace Go.Proofs.YtlkocepoohhglaaDoor
open Go.RowKit

def enB (c : Int) : Bool := (c == 41) || (c == -1)
theorem enB_or {c : Int} (h : enB c = true) : c = -1 ∨ c = 41 := by unfold enB at h; simp at h; omega
theorem enB_no {c : Int} (h : enB c = false) : ¬ (c = -1 ∨ c = 41) := by unfold enB at h; simp at h; omega
theorem bad_end {s : List Int} (h : nx s 0 = -1 ∨ nx s 0 = 41) : bad s = s.drop 1 := by rw [bad, dif_pos h]
theorem bad_esc {s : List Int} (h : ¬ (nx s 0 = -1 ∨ nx s 0 = 41)) (g : es2 (nx s 0) (nx s 1) = true) : bad s = bad (tesc (s.drop 1)).2 := by rw [bad, dif_neg h, if_pos g]
theorem bad_go {s : List Int} (h : ¬ (nx s 0 = -1 ∨ nx s 0 = 41)) (g : es2 (nx s 0) (nx s 1) = false) : bad s = bad (s.drop 1) := by rw [bad, dif_neg h, if_neg (by simp [g])]
end Go.Proofs.YtlkocepoohhglaaDoor
set_option linter.unusedVariables false
set_option linter.unusedSimpArgs false
namespace Go.Proofs.YtlkocepoohhglaaDoor
open Go.RowKit

theorem sbl_go {s : List Int} (h : isBl (nx s 0) = true) (g : isBl (nx s 1) = true) : sbl s = sbl (s.drop 1) := by
  cases s with
  | nil => exact absurd h (by decide)
  | cons x r =>
    have h' : isBl x = true := h
    have g' : isBl (nx r 0) = true := g
    show sbl (x :: r) = sbl r
    rw [sbl, if_pos (by rw [h', g']; rfl)]
theorem sbl_no {s : List Int} (h : (isBl (nx s 0) && isBl (nx s 1)) = false) : sbl s = s := by
  cases s with
  | nil => rfl
  | cons x r =>
    have h' : (isBl x && isBl (nx r 0)) = false := h
    rw [sbl, if_neg (by rw [h']; simp)]
end Go.Proofs.YtlkocepoohhglaaDoor
set_option linter.unusedVariables false
set_option linter.unusedSimpArgs false
namespace Go.Proofs.YtlkocepoohhglaaDoor
open Go.RowKit

theorem let_cases (x a c : Int) : (x = a) ∨ ((x == a) = false ∧ x = c) ∨ ((x == a) = false ∧ (x == c) = false) := by
  simp only [beq_eq_false_iff_ne]; omega
end Go.Proofs.YtlkocepoohhglaaDoor
