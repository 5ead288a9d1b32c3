/-
  Levels of a path; the small functions on values, by the program and by the reference.
-/
import Derived.Test.YtpcdhdllclenaaaDoorPrvA
set_option linter.unusedVariables false
set_option linter.unusedSimpArgs false
namespace Go.Proofs.YtpcdhdllclenaaaDoor
open Go.RowKit

theorem ck_cases (k : Int) : k = 2 ∨ k = 21 ∨ k = 19 ∨ k = 23 ∨ (k ≠ 2 ∧ k ≠ 21 ∧ k ≠ 19 ∧ k ≠ 23 ∧ cKn k = 0) := by
  by_cases h1 : k = 2
  · exact .inl h1
  by_cases h2 : k = 21
  · exact .inr (.inl h2)
  by_cases h3 : k = 19
  · exact .inr (.inr (.inl h3))
  by_cases h4 : k = 23
  · exact .inr (.inr (.inr (.inl h4)))
  exact .inr (.inr (.inr (.inr ⟨h1, h2, h3, h4, by simp [cKn, h1, h2, h3, h4]⟩)))
def vtV (t : TS) (u : Value) : Value := .agg #[.int .i64 t.k, .string t.s, .int .i64 t.n, .int .i64 t.d, .bool t.i, .bool t.h, u]
def PostTk (g p b o c m : Nat) (t : TS) (u : Value) (w : World) (e : Ending) (w' : World) : Prop :=
  e = .returned (vtV t u) ∧ ∃ a o1 o2, (0 < m → a = some ⟨b, o + 7, none⟩) ∧ w' = ((w.setCell ⟨g, p, none⟩ (.slice a m (c - 1))).alloc o1).alloc o2
theorem PostTk.mk {g p b o c m : Nat} {t : TS} {u : Value} {w : World} {e : Ending} {w' : World} (h : e = .returned (vtV t u)) (a : Option Addr) (o1 o2 : Obj) (h1 : 0 < m → a = some ⟨b, o + 7, none⟩) (h2 : w' = ((w.setCell ⟨g, p, none⟩ (.slice a m (c - 1))).alloc o1).alloc o2) : PostTk g p b o c m t u w e w' := ⟨h, a, o1, o2, h1, h2⟩
end Go.Proofs.YtpcdhdllclenaaaDoor
