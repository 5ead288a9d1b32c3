/-
  For every row of steps (put, get, swap) on a box: what was put last is what is told, and another box holds nothing. No condition but the row's own.
-/
import Derived.Test.YtbigejdabeibeaaMemD
import Derived.Test.YtbigejdabeibeaaMemL
import Derived.WalkKit
import Derived.ProofKit
import Derived.OpenShut
import Derived.Deep.SlicePairs
set_option linter.unusedVariables false
namespace Go.Proofs.Ytbigejdabeibeaa.memoBoxes
open Go.ChangeShapes Go.WideShapes Go.ChangeAt Go.RowKit Go.Deep

theorem own : ownKnob Try.prog.godebug = none := by kernel_rfl
theorem cellsP : Try.prog.cellsOf 67 = 2 := by kernel_rfl
theorem cellsI : Try.prog.cellsOf 3 = 1 := by kernel_rfl
theorem cellsS : Try.prog.cellsOf 9 = 1 := by kernel_rfl
theorem laidOut : laidOutB Try.prog = true := by kernel_rfl
def strOf : Value → ByteArray | .string s => s | _ => ⟨#[]⟩
theorem row_open {H : Type} {enc : TypeId × Value → H} {W : World} {sp : Nat → Bool} {held : Bool} {a : Option Addr} {len cap fuel : Nat} {x : DataW H × List MemPlace}
    (hf : DataW.trod enc Try.prog W 0 sp held fuel 57 [.slice a len cap] = some x) : ∃ rs, Puts W (.slice a len cap) rs := by
  rcases open_slice_pairs Try.underlying57 Try.underlying67 cellsP rfl rfl cellsI cellsS hf with ⟨hcs, _⟩ | ⟨y, l, c, m, n, V0, V1, D0, D1, P0, P1, hcs, hb, hl, hm, hmm, _, hx⟩
  · simp at hcs
    obtain ⟨rfl, rfl, rfl⟩ := hcs
    exact ⟨[], .inl ⟨none, 0, rfl, rfl⟩⟩
  · simp at hcs
    obtain ⟨rfl, rfl, rfl⟩ := hcs
    have hlm : len ≤ m := by rw [hmm]; split <;> omega
    have each : ∀ i, i < len → V0 i = .int .i64 (intOf (V0 i)) ∧ V1 i = .string (strOf (V1 i)) := fun i hi => by
      obtain ⟨_, _, t0, t1⟩ := hx i (by omega)
      obtain ⟨p, e0, _, w0⟩ := DataW.trod_int Try.underlying3 t0
      obtain ⟨q, e1, _⟩ := DataW.trod_string Try.underlying9 t1
      simp at e0 e1
      rw [e0, e1]
      exact ⟨rfl, rfl⟩
    by_cases h0 : len = 0
    · subst h0
      exact ⟨[], .inl ⟨_, _, rfl, rfl⟩⟩
    · obtain ⟨b, off, spot⟩ := y
      have hspot : spot = none := by
        have := (hx 0 (by omega)).1
        simpa [Addr.add] using World.cell?_spot this
      subst hspot
      refine ⟨(List.range len).map fun i => (intOf (V0 i), strOf (V1 i)), .inr ⟨b, off, cap, by simp, ?_, by simp; unfold maxLen at hm; omega, ?_⟩⟩
      · have := (hx 0 (by omega)).1
        have k := World.block_lt_of_cell? _ _ this
        simpa [Addr.add] using k
      · intro i hi
        simp at hi
        obtain ⟨e0, e1⟩ := each i hi
        obtain ⟨k0, k1, _, _⟩ := hx i (by omega)
        rw [add_plain] at k0 k1
        simp
        rw [← e0, ← e1]
        exact ⟨k0, by rw [Nat.add_assoc]; exact k1⟩
set_option maxRecDepth 100000 in
theorem lifted (os : Os) (started : os.Started) (H : Type) (enc : TypeId × Value → H) (F : Stop.Interp) :
    ReturnsInLeavingWide { calm := true } Try.checked os 7 .any (Rows.memoBoxesSpec.pre6 enc Try.prog Try.f7 Rows.memoBoxesRow.domain false) ((OpenSpec.ofChange Rows.memoBoxesSpec).postWith enc Try.prog Try.f7 F (outsideKept [.timePasses]) false true false) := by
  refine leaving_of_change (C := Try.checked) own started (by kernel_rfl) Try.func7
    (ChangeSpec.witness6c (enc := enc) (C := Try.checked) ⟨#[], #[.slice none 0 0], []⟩ 8 (by kernel_rfl) (by kernel_rfl) (by kernel_rfl) (by kernel_rfl)) ?_
  intro W base args ds gs before hval0 hW hcnd _
  have hval : ∀ (j : Nat) t v, Try.f7.params[j]? = some t → args[j]? = some v → Value.okWide Try.prog W .any base t v := hval0
  have hW' := hW
  obtain ⟨p, q, hA0, hV, rfl, hfz, hnd⟩ := hW
  have hA : DataW.TrodAll enc Try.prog W 0 (fun _ => true) true Try.f7.params.toList args.toList ds p := hA0
  rw [Try.params7] at hA hval
  obtain ⟨v0, vs0, d0, ds0, p0, q0, hargs, rfl, rfl, h0, r0⟩ := trodAll_cons hA
  obtain ⟨rfl, rfl, rfl⟩ := trodAll_nil r0
  obtain rfl : args = #[v0] := by cases args; simp_all
  obtain ⟨rfl, rfl⟩ := trodVars_none hV
  obtain ⟨a0, len0, cap0, rfl⟩ := okWide_slice Try.underlying57 (hval 0 57 v0 rfl rfl)
  have k0 := h0
  have lt0 : ∀ x ∈ p0, x.block < W.heap.size := by obtain ⟨m, hm⟩ := k0; exact DataW.trod_lt m _ _ _ hm
  obtain ⟨rs, hrow⟩ : ∃ rs, Puts W (.slice a0 len0 cap0) rs := by
    obtain ⟨fuel, hf⟩ := h0
    exact row_open (by simpa [Value.cells] using hf)
  clear hA0 hval0
  refine (law_boxes (.slice a0 len0 cap0) rs W hrow).mono fun e W' ⟨he, bel⟩ => ?_
  subst he
  exact ⟨_, rfl, ⟨_, _, _, [], _, [], hW', trodAll_mk1 (shut_bool Try.underlying4 _), (trodAll_cons_mk (Below.trod laidOut (by kernel_rfl) (of_decide_eq_true (by kernel_rfl)) k0 bel lt0) trodAll_mk0), rfl, bel.frame _, fun h => by cases h⟩, bel.os⟩
theorem over : Rows.memoBoxesRow.holds Try.pinned (OpenSpec.ofChange Rows.memoBoxesSpec) :=
  OpenClaim.holds_of_wide_leaving_time 7 Try.f7 rfl rfl rfl rfl rfl rfl rfl ⟨rfl, rfl, rfl, rfl, rfl⟩ rfl rfl rfl rfl rfl (by kernel_rfl) Try.func7 (by kernel_rfl)
    (of_decide_eq_true (by kernel_rfl)) (by unfold Func.isWrapper; first | (rw [if_pos (by decide +kernel)]; kernel_rfl) | (rw [if_neg (by decide +kernel)]; exact ⟨rfl, rfl⟩))
    (fun os started H enc _ F => lifted os started H enc F)
end Go.Proofs.Ytbigejdabeibeaa.memoBoxes
namespace Go.Proofs.Ytbigejdabeibeaa
theorem memoBoxes_holds : Rows.MemoBoxesSaid := memoBoxes.over
end Go.Proofs.Ytbigejdabeibeaa
