/-
  Plain: sums of two, and the least and greatest of three, where all are values.
-/
import Derived.Test.YthnkaimhmldjoaaDoorWalksV
set_option linter.unusedVariables false
namespace Go.Proofs.YthnkaimhmldjoaaDoor
open Go.RowKit

theorem addAll2 {n d f g : Int} (hn : I64 n) (hd : I64 d) (va : isV n d = true) : addAll [(n, d), (f, g)] = (addN n d f g, addD n d f g) := by
  obtain ⟨e1, e2⟩ := zero_add hn hd
  have hm : mayB n d = true := by simp [mayB, va]
  have c1 : clN n d = n := by simp [clN, hm]
  have c2 : clD n d = d := by simp [clD, hm]
  simp only [addAll, List.foldl_cons, List.foldl_nil, e1, e2, c1, c2]
theorem utS_one (k : Int) {b r : Int × Int} (hb : isV b.1 b.2 = true) (hr : isV r.1 r.2 = true) : utS k (some b) r = some r ∨ utS k (some b) r = some b := by
  simp only [utS, Option.bind_some, hb, hr, Bool.and_self, if_true]
  split
  · exact .inl rfl
  · exact .inr rfl
theorem utAll3 (k : Int) {a b c : Int × Int} (va : isV a.1 a.2 = true) (vb : isV b.1 b.2 = true) (vc : isV c.1 c.2 = true) : utAll k [a, b, c] = a ∨ utAll k [a, b, c] = b ∨ utAll k [a, b, c] = c := by
  have h1 : utS k (some a) a = some a := by rcases utS_one k va va with h | h <;> exact h
  simp only [utAll, utF, List.foldl_cons, List.foldl_nil, h1]
  rcases utS_one k va vb with h | h <;> rw [h]
  · rcases utS_one k vb vc with h | h <;> rw [h] <;> simp
  · rcases utS_one k va vc with h | h <;> rw [h] <;> simp
end Go.Proofs.YthnkaimhmldjoaaDoor
