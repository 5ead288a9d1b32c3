/-
  The least and the greatest of some fractions.
-/
import Derived.Test.YthnkaimhmldjoaaDoorWalksD2
import Derived.Test.YthnkaimhmldjoaaDoorWalksS
set_option linter.unusedVariables false
namespace Go.Proofs.YthnkaimhmldjoaaDoor
open Go.RowKit

def utS (k : Int) (o : Option (Int × Int)) (r : Int × Int) : Option (Int × Int) :=
  o.bind fun b => if isV r.1 r.2 && isV b.1 b.2 then some (if cq r.1 r.2 b.1 b.2 = k then r else b) else none
def utF (k : Int) (rs : List (Int × Int)) (b : Int × Int) : Option (Int × Int) := rs.foldl (utS k) (some b)
def utAll (k : Int) (rs : List (Int × Int)) : Int × Int := match rs with | [] => (0, 0) | r :: l => (utF k (r :: l) r).getD (0, 0)
theorem utF_snoc (k : Int) (rs : List (Int × Int)) (b : Int × Int) (i : Nat) (h : i < rs.length) (z : Int × Int) (hz : utF k (rs.take i) b = some z) :
    utF k (rs.take (i + 1)) b = if isV rs[i].1 rs[i].2 && isV z.1 z.2 then some (if cq rs[i].1 rs[i].2 z.1 z.2 = k then rs[i] else z) else none := by
  unfold utF at *
  rw [List.take_succ_eq_append_getElem h, List.foldl_append, hz]
  rfl
theorem foldl_none (k : Int) (rs : List (Int × Int)) : rs.foldl (utS k) none = none := by
  induction rs with
  | nil => rfl
  | cons r l ih => exact ih
theorem utF_none (k : Int) (rs : List (Int × Int)) (b : Int × Int) (i : Nat) (h : i < rs.length) (hz : utF k (rs.take (i + 1)) b = none) : utF k rs b = none := by
  have e : rs = rs.take (i + 1) ++ rs.drop (i + 1) := (List.take_append_drop _ _).symm
  unfold utF at *
  rw [e, List.foldl_append, hz, foldl_none]
theorem most_awake : utAll 1 [(1, 2), (2, 3)] = (2, 3) := by decide
theorem in_most : In64 [(1, 2), (2, 3)] := by intro r hr; simp at hr; rcases hr with rfl | rfl <;> simp [I64]
end Go.Proofs.YthnkaimhmldjoaaDoor
