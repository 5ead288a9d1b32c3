/-
  Whether a name begins, a number, an escape, is told as the reference tells it; for every slice of numbers.
-/
import Derived.Test.YtfbjmkdpmemneaaTokD
import Derived.Test.YtfbjmkdpmemneaaUtfRow
set_option linter.unusedVariables false
namespace Go.Proofs.Ytfbjmkdpmemneaa.tokStarts
open Go.ChangeShapes Go.WideShapes Go.ChangeAt Go.RowKit

set_option maxRecDepth 100000 in
theorem lifted (os : Os) (started : os.Started) (H : Type) (enc : TypeId × Value → H) :
    ReturnsInHanded {} Try.checked os 3 .any (Rows.tokStartsSpec.pre6 enc Try.prog Try.f3 Rows.tokStartsRow.domain false) (Rows.tokStartsSpec.post enc Try.prog Try.f3 false true false false) := by
  refine returnsInHanded_of_change_sized (C := Try.checked) own started (by kernel_rfl) Try.func3
    (ChangeSpec.witness6 (enc := enc) (C := Try.checked) false ⟨#[], #[.slice none 0 0], []⟩ 8 (by kernel_rfl) (by kernel_rfl) (by kernel_rfl) (by kernel_rfl)) ?_
  intro W base args ds gs before hval0 hW hcnd hsz0 _
  have hval : ∀ (j : Nat) t v, Try.f3.params[j]? = some t → args[j]? = some v → Value.okWide Try.prog W .any base t v := hval0
  have hsz : (DataW.weightsEach Try.prog (Try.f3.params.toList ++ Rows.tokStartsSpec.plain.varTypes Try.prog) (ds ++ gs)).all (· ≤ reachBytes) = true := hsz0
  have hW' := hW
  obtain ⟨p, q, hA0, hV, rfl, hfz, hnd⟩ := hW
  have hA : DataW.TrodAll enc Try.prog W 0 (fun _ => true) true Try.f3.params.toList args.toList ds p := hA0
  rw [Try.params3] at hA hval hsz
  obtain ⟨v0, vs0, d0, ds0, p0, q0, hargs, rfl, rfl, h0, r0⟩ := trodAll_cons hA
  obtain ⟨rfl, rfl, rfl⟩ := trodAll_nil r0
  obtain rfl : args = #[v0] := by cases args; simp_all
  obtain ⟨rfl, rfl⟩ := trodVars_none hV
  obtain ⟨a0, len0, cap0, rfl⟩ := okWide_slice Try.underlying22 (hval 0 22 v0 rfl rfl)
  have k0 := h0
  have lt0 : ∀ x ∈ p0, x.block < W.heap.size := by obtain ⟨m, hm⟩ := k0; exact DataW.trod_lt m _ _ _ hm
  obtain ⟨bs0, hlen0, hwf0, hnum0, hdat0⟩ : ∃ bs : List Int, bs.length = len0 ∧ (∀ n ∈ bs, (Lit.int .i32 n).wf = true) ∧ (cap0 ≤ 4611686018427387904 → Nums .i32 W (.slice a0 len0 cap0) bs) ∧ ((cap0 = 0 ∧ len0 = 0) ∨ ∃ elems spare, d0 = .slice elems spare ∧ elems.length + spare.length = cap0 ∧ elems.length = len0) := by
    obtain ⟨fuel, hf⟩ := h0
    exact nums_open Try.underlying22 Try.underlying21 cells32 (by simpa [Value.cells] using hf)
  have c0 : cap0 * 4 ≤ 140737488351232 ∧ len0 ≤ cap0 := by
    rcases hdat0 with ⟨h, h'⟩ | ⟨elems, spare, hd, h, h'⟩
    · omega
    · have := sized_slice hsz (j := 0) (t := 22) (e := 21) rfl (by rw [hd]; rfl) Try.underlying22
      rw [bytes32] at this
      simp only [reachBytes] at this
      omega
  clear hA0 hval0
  refine (law_starts bs0 (.slice a0 len0 cap0) W (in32_of hwf0) (hnum0 (by omega)) (by omega)).mono fun e W' ⟨he, bel⟩ => ?_
  subst he
  exact ⟨_, rfl, _, _, _, [], _, [], hW', trodAll_mk1 (shut_bool Try.underlying4 _), (trodAll_cons_mk (Below.trod laidOut (by kernel_rfl) (of_decide_eq_true (by kernel_rfl)) k0 bel lt0) trodAll_mk0), rfl, bel.frame _, fun h => by cases h⟩
theorem over : Rows.tokStartsRow.holds Try.pinned (OpenSpec.ofChange Rows.tokStartsSpec) :=
  OpenClaim.holds_of_wide 3 Try.f3 rfl rfl rfl rfl rfl rfl rfl ⟨rfl, rfl, rfl, rfl, rfl⟩ rfl rfl rfl rfl rfl (by kernel_rfl) Try.func3 (by kernel_rfl)
    (of_decide_eq_true (by kernel_rfl)) (by unfold Func.isWrapper; first | (rw [if_pos (by decide +kernel)]; kernel_rfl) | (rw [if_neg (by decide +kernel)]; exact ⟨rfl, rfl⟩))
    (fun os started H enc _ => lifted os started H enc)
end Go.Proofs.Ytfbjmkdpmemneaa.tokStarts
namespace Go.Proofs.Ytfbjmkdpmemneaa
theorem tokStarts_holds : Rows.TokStartsSaid := tokStarts.over
end Go.Proofs.Ytfbjmkdpmemneaa
