/-
  A slice of fractions that comes in: what it holds in memory.
-/
import Derived.Test.YtlgbagcgfoejhabWalksM
import Derived.WalkKit
import Derived.ProofKit
import Derived.OpenShut
import Derived.Deep.SlicePairs
set_option linter.unusedVariables false
namespace Go.Proofs.Ytlgbagcgfoejhab
open Go.ChangeShapes Go.WideShapes Go.ChangeAt Go.RowKit Go.Deep

theorem cellsR2 : Try.prog.cellsOf 24 = 2 := by kernel_rfl
theorem cellsI : Try.prog.cellsOf 2 = 1 := by kernel_rfl
theorem row_open {H : Type} {enc : TypeId × Value → H} {W : World} {sp : Nat → Bool} {held : Bool} {a : Option Addr} {len cap fuel : Nat} {x : DataW H × List MemPlace}
    (hf : DataW.trod enc Try.prog W 0 sp held fuel 22 [.slice a len cap] = some x) : ∃ rs, Row W (.slice a len cap) rs ∧ In64 rs := by
  rcases open_slice_pairs Try.underlying22 Try.underlying24 cellsR2 rfl rfl cellsI cellsI hf with ⟨hcs, _⟩ | ⟨y, l, c, m, n, V0, V1, D0, D1, P0, P1, hcs, hb, hl, hm, hmm, _, hx⟩
  · simp at hcs
    obtain ⟨rfl, rfl, rfl⟩ := hcs
    exact ⟨[], .inl ⟨none, 0, rfl, rfl⟩, by simp [In64]⟩
  · simp at hcs
    obtain ⟨rfl, rfl, rfl⟩ := hcs
    have hlm : len ≤ m := by rw [hmm]; split <;> omega
    have each : ∀ i, i < len → V0 i = .int .i64 (intOf (V0 i)) ∧ V1 i = .int .i64 (intOf (V1 i)) ∧ I64 (intOf (V0 i)) ∧ I64 (intOf (V1 i)) := fun i hi => by
      obtain ⟨_, _, t0, t1⟩ := hx i (by omega)
      obtain ⟨p, e0, _, w0⟩ := DataW.trod_int Try.underlying2 t0
      obtain ⟨q, e1, _, w1⟩ := DataW.trod_int Try.underlying2 t1
      simp at e0 e1
      rw [e0, e1]
      exact ⟨rfl, rfl, bounds_i64 w0, bounds_i64 w1⟩
    by_cases h0 : len = 0
    · subst h0
      exact ⟨[], .inl ⟨_, _, rfl, rfl⟩, by simp [In64]⟩
    · obtain ⟨b, off, spot⟩ := y
      have hspot : spot = none := by
        have := (hx 0 (by omega)).1
        simpa [Addr.add] using World.cell?_spot this
      subst hspot
      refine ⟨(List.range len).map fun i => (intOf (V0 i), intOf (V1 i)), .inr ⟨b, off, cap, by simp, ?_, by simp; unfold maxLen at hm; omega, ?_⟩, ?_⟩
      · have := (hx 0 (by omega)).1
        have k := World.block_lt_of_cell? _ _ this
        simpa [Addr.add] using k
      · intro i hi
        simp at hi
        obtain ⟨e0, e1, _, _⟩ := each i hi
        obtain ⟨k0, k1, _, _⟩ := hx i (by omega)
        rw [add_plain] at k0 k1
        simp
        rw [← e0, ← e1]
        exact ⟨k0, by rw [Nat.add_assoc]; exact k1⟩
      · intro r hr
        simp at hr
        obtain ⟨i, hi, rfl⟩ := hr
        exact ⟨(each i hi).2.2.1, (each i hi).2.2.2⟩
theorem laidOut : laidOutB Try.prog = true := by kernel_rfl
end Go.Proofs.Ytlgbagcgfoejhab
