/-
  There and back: characters come out of their bytes as they were, bytes out of their characters just if they are whole; for slices of bounded bulk.
-/
import Derived.Test.YtklibbahbclekaaUtfL
import Derived.Test.YtklibbahbclekaaUtfRow
set_option linter.unusedVariables false
namespace Go.Proofs.Ytklibbahbclekaa.utfBack
open Go.ChangeShapes Go.WideShapes Go.ChangeAt Go.RowKit

theorem contract (H : Type) (enc : TypeId × Value → H) (W : World) (base : Nat) (args : Array Value) (ds gs : List (DataW H)) (before : List MemPlace)
    (hval : ∀ (j : Nat) t v, Try.f7.params[j]? = some t → args[j]? = some v → Value.okWide Try.prog W .any base t v)
    (hW : DataW.Whole enc Try.prog Try.f7.params.toList Rows.utfBackSpec.vars false W args.toList ds gs before) (hk : Rows.uptoSmall H (ds ++ gs) = true) :
    Calls Try.prog 7 args W fun e W' => ∃ v, e = .returned v ∧ Rows.utfBackSpec.post enc Try.prog Try.f7 false true false false W args v W' := by
  have hW' := hW
  obtain ⟨p, q, hA0, hV, rfl, hfz, hnd⟩ := hW
  have hA : DataW.TrodAll enc Try.prog W 0 (fun _ => true) true Try.f7.params.toList args.toList ds p := hA0
  rw [Try.params7] at hA hval
  obtain ⟨v0, vs0, d0, ds0, p0, q0, hargs, rfl, rfl, h0, r0⟩ := trodAll_cons hA
  obtain ⟨v1, vs1, d1, ds1, p1, q1, hargs1, rfl, rfl, h1, r1⟩ := trodAll_cons r0
  obtain ⟨rfl, rfl, rfl⟩ := trodAll_nil r1
  obtain rfl : args = #[v0, v1] := by cases args; simp_all
  obtain ⟨rfl, rfl⟩ := trodVars_none hV
  obtain ⟨a0, len0, cap0, rfl⟩ := okWide_slice Try.underlying24 (hval 0 24 v0 rfl rfl)
  have k0 := h0
  have lt0 : ∀ x ∈ p0, x.block < W.heap.size := by obtain ⟨m, hm⟩ := k0; exact DataW.trod_lt m _ _ _ hm
  obtain ⟨bs0, hlen0, hwf0, hnum0, hdat0⟩ : ∃ bs : List Int, bs.length = len0 ∧ (∀ n ∈ bs, (Lit.int .i32 n).wf = true) ∧ (cap0 ≤ 4611686018427387904 → Nums .i32 W (.slice a0 len0 cap0) bs) ∧ ((cap0 = 0 ∧ len0 = 0) ∨ ∃ elems spare, d0 = .slice elems spare ∧ elems.length + spare.length = cap0 ∧ elems.length = len0) := by
    obtain ⟨fuel, hf⟩ := h0
    exact nums_open Try.underlying24 Try.underlying21 cells32 (by simpa [Value.cells] using hf)
  obtain ⟨a1, len1, cap1, rfl⟩ := okWide_slice Try.underlying22 (hval 1 22 v1 rfl rfl)
  have k1 := h1
  have lt1 : ∀ x ∈ p1, x.block < W.heap.size := by obtain ⟨m, hm⟩ := k1; exact DataW.trod_lt m _ _ _ hm
  obtain ⟨bs1, hlen1, hwf1, hnum1, hdat1⟩ : ∃ bs : List Int, bs.length = len1 ∧ (∀ n ∈ bs, (Lit.int .u8 n).wf = true) ∧ (cap1 ≤ 4611686018427387904 → Nums .u8 W (.slice a1 len1 cap1) bs) ∧ ((cap1 = 0 ∧ len1 = 0) ∨ ∃ elems spare, d1 = .slice elems spare ∧ elems.length + spare.length = cap1 ∧ elems.length = len1) := by
    obtain ⟨fuel, hf⟩ := h1
    exact nums_open Try.underlying22 Try.underlying5 cells8 (by simpa [Value.cells] using hf)
  simp only [List.append_nil] at hW' hk
  have hbulk : Rows.uptoBulkAll [d0, d1] ≤ 1048576 := of_decide_eq_true hk
  simp only [Rows.uptoBulkAll] at hbulk
  obtain ⟨c0, e0⟩ := small_cap (d := d0) (l := []) (by omega) hdat0
  obtain ⟨c1, e1⟩ := small_cap (d := d1) (l := []) (by omega) hdat1
  clear hA0
  refine (law_back bs0 (.slice a0 len0 cap0) bs1 (.slice a1 len1 cap1) W (in32_of hwf0) (hnum0 (by omega)) (by omega) (by_of hwf1) (hnum1 (by omega)) (by omega)).mono fun e W' ⟨he, bel⟩ => ?_
  subst he
  exact ⟨_, rfl, _, _, _, [], _, [], hW', trodAll_mk1 (shut_bool Try.underlying4 _), (trodAll_cons_mk (Below.trod laidOut (by kernel_rfl) (of_decide_eq_true (by kernel_rfl)) k0 bel lt0) (trodAll_cons_mk (Below.trod laidOut (by kernel_rfl) (of_decide_eq_true (by kernel_rfl)) k1 bel lt1) trodAll_mk0)), rfl, bel.frame _, fun h => by cases h⟩
set_option maxRecDepth 100000 in
theorem lifted (os : Os) (started : os.Started) (H : Type) (enc : TypeId × Value → H) (F : Stop.Interp) :
    ReturnsInHanded {} Try.checked os 7 .any ((Rows.OpenSpec.upto Rows.utfBackSpec).pre6 enc Try.prog Try.f7 Rows.utfBackUptoRow.domain false) (((Rows.OpenSpec.upto Rows.utfBackSpec).at F).post enc Try.prog Try.f7 false true false false) := by
  refine returnsInHanded_of_cond (C := Try.checked) (s := Rows.OpenSpec.upto Rows.utfBackSpec) (k := Rows.uptoSmall) rfl own started (by kernel_rfl) Try.func7
    (OpenSpec.witness (enc := enc) (C := Try.checked) (s := Rows.OpenSpec.upto Rows.utfBackSpec) (k := Rows.uptoSmall) rfl false ⟨#[], #[.slice none 0 0, .slice none 0 0], []⟩ 8 (by kernel_rfl) (by kernel_rfl) (by kernel_rfl)
      (x := ([.nil, .nil], [], [])) (by kernel_rfl) rfl (by kernel_rfl)) ?_
  intro W base args ds gs before hval hW _ hk _
  exact contract H enc W base args ds gs before hval hW hk
theorem over : Rows.UtfBackUptoSaid :=
  OpenClaim.holds_of_cond 7 Try.f7 rfl rfl rfl rfl rfl rfl rfl ⟨rfl, rfl, rfl, rfl, rfl⟩ rfl rfl rfl rfl rfl (by kernel_rfl) Try.func7 (by kernel_rfl)
    (of_decide_eq_true (by kernel_rfl)) (by unfold Func.isWrapper; first | (rw [if_pos (by decide +kernel)]; kernel_rfl) | (rw [if_neg (by decide +kernel)]; exact ⟨rfl, rfl⟩))
    (fun os started H enc _ F => lifted os started H enc F)
end Go.Proofs.Ytklibbahbclekaa.utfBack
namespace Go.Proofs.Ytklibbahbclekaa
theorem utfBack_holds : Rows.UtfBackUptoSaid := utfBack.over
end Go.Proofs.Ytklibbahbclekaa
