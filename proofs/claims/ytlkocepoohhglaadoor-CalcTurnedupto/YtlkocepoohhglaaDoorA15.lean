/-
  A number of a stylesheet, by the program.
  A number of a stylesheet, by the program: the whole.
  A number, and what it is of, by the program.
  A hash; a string's escape, by the program.
-/
import Derived.Test.YtlkocepoohhglaaDoorA14
import Derived.Lib.SmallJoins
import Derived.Deep.RegionHeld3
import Derived.Test.YtlkocepoohhglaaDoorA13
import Derived.Outline
set_option linter.unusedVariables false
set_option linter.unusedSimpArgs false
namespace Go.Proofs.YtlkocepoohhglaaDoor
open Go.RowKit

theorem trimL_bl (s : ByteArray) : bl ⟨(Lib.trimLeftB s.data.toList 48).toArray⟩ = cut0 (bl s) := by
  unfold bl Lib.trimLeftB cut0
  simp only
  generalize s.data.toList = l
  induction l with
  | nil => rfl
  | cons c l ih =>
    by_cases h : c = 48
    · subst h
      rw [List.dropWhile_cons_of_pos (by rfl), List.map_cons, List.dropWhile_cons_of_pos (by rfl)]
      exact ih
    · have h1 : ((c.toNat : Int) == 48) = false := by
        simp only [beq_eq_false_iff_ne]
        intro e
        exact h (UInt8.toNat_inj.1 (by show c.toNat = 48; omega))
      rw [List.dropWhile_cons_of_neg (by simpa using h), List.map_cons, List.dropWhile_cons_of_neg (by simp [h1])]
theorem dropW_map (l : List UInt8) : (l.dropWhile (· == 48)).map (fun b => (b.toNat : Int)) = (l.map fun b => (b.toNat : Int)).dropWhile (· == 48) := by
  induction l with
  | nil => rfl
  | cons c l ih =>
    by_cases h : c = 48
    · subst h
      rw [List.dropWhile_cons_of_pos (by rfl), List.map_cons, List.dropWhile_cons_of_pos (by rfl)]
      exact ih
    · have h1 : ((c.toNat : Int) == 48) = false := by
        simp only [beq_eq_false_iff_ne]
        intro e
        exact h (UInt8.toNat_inj.1 (by show c.toNat = 48; omega))
      rw [List.dropWhile_cons_of_neg (by simpa using h), List.map_cons, List.dropWhile_cons_of_neg (by simp [h1])]
theorem trimR_bl (s : ByteArray) : bl ⟨(Lib.trimRightB s.data.toList 48).toArray⟩ = cutR (bl s) := by
  unfold bl Lib.trimRightB cutR
  show ((s.data.toList.reverse.dropWhile (· == 48)).reverse.toArray.toList.map _) = _
  rw [List.map_reverse]
  rw [dropW_map, List.map_reverse]
/-- A value's post. -/
def PostV (b : Bool) (D : List Int) (k : Int) (w : World) (e : Ending) (w' : World) : Prop := e = .returned (ratV (valOf b D k).1 (valOf b D k).2) ∧ Below w.heap.size w w'
theorem PostV.mk {b : Bool} {D : List Int} {k : Int} {w w' : World} {e : Ending} {n d : Int} (hv : valOf b D k = (n, d)) (h1 : e = .returned (ratV n d)) (h2 : Below w.heap.size w w') : PostV b D k w e w' := by
  unfold PostV; rw [hv]; exact ⟨h1, h2⟩
end Go.Proofs.YtlkocepoohhglaaDoor
set_option linter.unusedVariables false
set_option linter.unusedSimpArgs false
namespace Go.Proofs.YtlkocepoohhglaaDoor
open Go.RowKit

/-- What is told of a text as a number. -/
def dN (S : List Int) : Int := ((dec S).getD ((0, 0), false)).1.1
def dD (S : List Int) : Int := ((dec S).getD ((0, 0), false)).1.2
def dW (S : List Int) : Bool := ((dec S).getD ((0, 0), false)).2
def dE (S : List Int) : Int := if (dec S).isSome then 0 else 3
def decV (S : List Int) : Value := .tuple #[ratV (dN S) (dD S), .bool (dW S), .int .i64 (dE S)]
theorem decV_none {S : List Int} (h : dec S = none) : decV S = .tuple #[ratV 0 0, .bool false, .int .i64 3] := by unfold decV dN dD dW dE; rw [h]; rfl
theorem decV_some {S : List Int} {r : Int × Int} {b : Bool} (h : dec S = some (r, b)) : decV S = .tuple #[ratV r.1 r.2, .bool b, .int .i64 0] := by unfold decV dN dD dW dE; rw [h]; rfl
end Go.Proofs.YtlkocepoohhglaaDoor
set_option linter.unusedVariables false
set_option linter.unusedSimpArgs false
namespace Go.Proofs.YtlkocepoohhglaaDoor
open Go.RowKit

/-- A token that is being made. -/
def tokO (k : Int) (t : ByteArray) (n d : Int) (wh i : Bool) : Obj := .cells #[.int .i64 k, .string t, .int .i64 n, .int .i64 d, .bool wh, .bool i] 66
structure Made6 (w : World) (r : Nat) (k : Int) (t : ByteArray) (n d : Int) (wh i : Bool) : Prop where
  f0 : w.frozen? ⟨r, 0, none⟩ = false
  f1 : w.frozen? ⟨r, 1, none⟩ = false
  c0 : w.cell? ⟨r, 0, none⟩ = some (.int .i64 k)
  c1 : w.cell? ⟨r, 1, none⟩ = some (.string t)
  c2 : w.cell? ⟨r, 2, none⟩ = some (.int .i64 n)
  c3 : w.cell? ⟨r, 3, none⟩ = some (.int .i64 d)
  c4 : w.cell? ⟨r, 4, none⟩ = some (.bool wh)
  c5 : w.cell? ⟨r, 5, none⟩ = some (.bool i)
theorem tokO_made {w : World} {r : Nat} {k : Int} {t : ByteArray} {n d : Int} {wh i : Bool} (h : w.heap[r]? = some (tokO k t n d wh i)) : Made6 w r k t n d wh i := by
  constructor <;> simp [World.frozen?, World.cell?, h, tokO]
theorem tokO_kind {w : World} {r : Nat} {k k' : Int} {t : ByteArray} {n d : Int} {wh i : Bool} (h : w.heap[r]? = some (tokO k t n d wh i)) : (w.setCell ⟨r, 0, none⟩ (.int .i64 k')).heap[r]? = some (tokO k' t n d wh i) := by
  unfold tokO at h
  exact (heap_set h 0 _).trans rfl
theorem heap2 (w : World) (o p : Obj) : ((w.alloc o).alloc p).heap[w.heap.size + 1]? = some p := by
  have h := Array.getElem?_push_size (xs := (w.alloc o).heap) (x := p)
  have e : (w.alloc o).heap.size = w.heap.size + 1 := by simp
  rw [e] at h
  exact h
theorem put_heap {w : World} {r m : Nat} {o : Obj} (h : w.heap[r]? = some o) (hm : r ≠ m) (i : Nat) (x : Value) : (w.setCell ⟨m, i, none⟩ x).heap[r]? = some o :=
  (Below.heap_setCell _ _ _ _ (by simpa using hm)).trans h
theorem nmT_len (s : List Int) : (nmT s).length ≤ s.length := by unfold nmT; rw [List.length_take]; omega
theorem numText {t : ByteArray} {s : List Int} {k : Nat} (h : bl t = enc (nmT s)) (hs : s.length ≤ k) (hk : k ≤ 250000000) : t.size ≤ 1000000000 := by
  have h1 := bl_len t
  have h2 := (enc_len (nmT s)).2
  have h3 := nmT_len s
  rw [h] at h1
  omega
end Go.Proofs.YtlkocepoohhglaaDoor
set_option linter.unusedVariables false
set_option linter.unusedSimpArgs false
namespace Go.Proofs.YtlkocepoohhglaaDoor
open Go.RowKit

/-- A string's escape: what it stands for, and what stands behind it. -/
def esX (s : List Int) : List Int × List Int :=
  if nx s 1 = -1 then ([], s.drop 1) else if nx s 1 = 10 then ([], s.drop 2) else ([(tesc (s.drop 1)).1], (tesc (s.drop 1)).2)
theorem esX_two (s : List Int) (h : 0 < s.length) : (esX s).2.length < s.length ∧ (esX s).1.length + (esX s).2.length ≤ s.length := by
  have k := tesc_len (s.drop 1)
  have e1 : (s.drop 1).length = s.length - 1 := List.length_drop
  have e2 : (s.drop 2).length = s.length - 2 := List.length_drop
  rw [e1] at k
  unfold esX
  generalize s.drop 1 = u at *
  generalize s.drop 2 = q at *
  generalize tesc u = z at *
  split
  · exact ⟨by show u.length < _; omega, by show 0 + u.length ≤ _; omega⟩
  · split
    · exact ⟨by show q.length < _; omega, by show 0 + q.length ≤ _; omega⟩
    · exact ⟨by show z.2.length < _; omega, by show 1 + z.2.length ≤ _; omega⟩
end Go.Proofs.YtlkocepoohhglaaDoor
