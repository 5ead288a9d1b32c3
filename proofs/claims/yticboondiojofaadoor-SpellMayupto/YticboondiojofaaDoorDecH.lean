/-
  A number of a stylesheet, by the program.
-/
import Derived.Test.YticboondiojofaaDoorDecG
import Derived.Lib.SmallJoins
set_option linter.unusedVariables false
set_option linter.unusedSimpArgs false
namespace Go.Proofs.YticboondiojofaaDoor
open Go.RowKit

theorem trimL_bl (s : ByteArray) : bl ⟨(Lib.trimLeftB s.data.toList 48).toArray⟩ = cut0 (bl s) := by
  unfold bl Lib.trimLeftB cut0
  simp only
  generalize s.data.toList = l
  induction l with
  | nil => rfl
  | cons c l ih =>
    by_cases h : c = 48
    · subst h
      rw [List.dropWhile_cons_of_pos (by rfl), List.map_cons, List.dropWhile_cons_of_pos (by rfl)]
      exact ih
    · have h1 : ((c.toNat : Int) == 48) = false := by
        simp only [beq_eq_false_iff_ne]
        intro e
        exact h (UInt8.toNat_inj.1 (by show c.toNat = 48; omega))
      rw [List.dropWhile_cons_of_neg (by simpa using h), List.map_cons, List.dropWhile_cons_of_neg (by simp [h1])]
theorem dropW_map (l : List UInt8) : (l.dropWhile (· == 48)).map (fun b => (b.toNat : Int)) = (l.map fun b => (b.toNat : Int)).dropWhile (· == 48) := by
  induction l with
  | nil => rfl
  | cons c l ih =>
    by_cases h : c = 48
    · subst h
      rw [List.dropWhile_cons_of_pos (by rfl), List.map_cons, List.dropWhile_cons_of_pos (by rfl)]
      exact ih
    · have h1 : ((c.toNat : Int) == 48) = false := by
        simp only [beq_eq_false_iff_ne]
        intro e
        exact h (UInt8.toNat_inj.1 (by show c.toNat = 48; omega))
      rw [List.dropWhile_cons_of_neg (by simpa using h), List.map_cons, List.dropWhile_cons_of_neg (by simp [h1])]
theorem trimR_bl (s : ByteArray) : bl ⟨(Lib.trimRightB s.data.toList 48).toArray⟩ = cutR (bl s) := by
  unfold bl Lib.trimRightB cutR
  show ((s.data.toList.reverse.dropWhile (· == 48)).reverse.toArray.toList.map _) = _
  rw [List.map_reverse]
  rw [dropW_map, List.map_reverse]
/-- A value's post. -/
def PostV (b : Bool) (D : List Int) (k : Int) (w : World) (e : Ending) (w' : World) : Prop := e = .returned (ratV (valOf b D k).1 (valOf b D k).2) ∧ Below w.heap.size w w'
theorem trimR_any (s : ByteArray) (w : World) (hs : s.size ≤ 9223372036854775807) : Calls Tryd.prog 34 #[.string s, .string ⟨#[48]⟩] w fun e w' => ∃ t, e = .returned (.string t) ∧ bl t = cutR (bl s) ∧ w' = w :=
  (sh_strings_TrimRight_one s 48 (by decide) w hs).mono fun _ _ ⟨h1, h2⟩ => ⟨_, h1, trimR_bl s, h2⟩
theorem PostV.mk {b : Bool} {D : List Int} {k : Int} {w w' : World} {e : Ending} {n d : Int} (hv : valOf b D k = (n, d)) (h1 : e = .returned (ratV n d)) (h2 : Below w.heap.size w w') : PostV b D k w e w' := by
  unfold PostV; rw [hv]; exact ⟨h1, h2⟩
end Go.Proofs.YticboondiojofaaDoor
