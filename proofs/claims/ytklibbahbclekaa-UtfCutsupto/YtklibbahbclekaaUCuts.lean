/-
  Behind whole bytes all goes on as if they were not there, and how many characters come out; for slices of bounded bulk.
-/
import Derived.Test.YtklibbahbclekaaUtfM
import Derived.Test.YtklibbahbclekaaUtfRow
set_option linter.unusedVariables false
namespace Go.Proofs.Ytklibbahbclekaa.utfCuts
open Go.ChangeShapes Go.WideShapes Go.ChangeAt Go.RowKit

theorem nums_nil {k : IntKind} {t e : TypeId} (ht : Try.prog.underlying t = some (.slice e)) (he : Try.prog.underlying e = some (.int k)) (hc : Try.prog.cellsOf e = 1)
    {H : Type} {enc : TypeId × Value → H} {W : World} {held : Bool} {a : Option Addr} {len cap fuel : Nat} {x : DataW H × List MemPlace}
    (hf : DataW.trod enc Try.prog W 0 (fun _ => true) held fuel t [.slice a len cap] = some x) : Nil0 (.slice a len cap) := by
  rcases open_ints ht he hc hf with ⟨hcs, hx⟩ | ⟨a1, len', cap', zs, hcs, _⟩
  · simp at hcs
    obtain ⟨rfl, rfl, rfl⟩ := hcs
    intro n c h; simp at h; omega
  · simp at hcs
    obtain ⟨rfl, rfl, rfl⟩ := hcs
    exact Nil0.some _ _ _
theorem contract (H : Type) (enc : TypeId × Value → H) (W : World) (base : Nat) (args : Array Value) (ds gs : List (DataW H)) (before : List MemPlace)
    (hval : ∀ (j : Nat) t v, Try.f8.params[j]? = some t → args[j]? = some v → Value.okWide Try.prog W .any base t v)
    (hW : DataW.Whole enc Try.prog Try.f8.params.toList Rows.utfCutsSpec.vars false W args.toList ds gs before) (hk : Rows.uptoSmall H (ds ++ gs) = true) :
    Calls Try.prog 8 args W fun e W' => ∃ v, e = .returned v ∧ Rows.utfCutsSpec.post enc Try.prog Try.f8 false true false false W args v W' := by
  have hW' := hW
  obtain ⟨p, q, hA0, hV, rfl, hfz, hnd⟩ := hW
  have hA : DataW.TrodAll enc Try.prog W 0 (fun _ => true) true Try.f8.params.toList args.toList ds p := hA0
  rw [Try.params8] at hA hval
  obtain ⟨v0, vs0, d0, ds0, p0, q0, hargs, rfl, rfl, h0, r0⟩ := trodAll_cons hA
  obtain ⟨v1, vs1, d1, ds1, p1, q1, hargs1, rfl, rfl, h1, r1⟩ := trodAll_cons r0
  obtain ⟨rfl, rfl, rfl⟩ := trodAll_nil r1
  obtain rfl : args = #[v0, v1] := by cases args; simp_all
  obtain ⟨rfl, rfl⟩ := trodVars_none hV
  obtain ⟨a0, len0, cap0, rfl⟩ := okWide_slice Try.underlying22 (hval 0 22 v0 rfl rfl)
  have k0 := h0
  have lt0 : ∀ x ∈ p0, x.block < W.heap.size := by obtain ⟨m, hm⟩ := k0; exact DataW.trod_lt m _ _ _ hm
  obtain ⟨bs0, hlen0, hwf0, hnum0, hdat0⟩ : ∃ bs : List Int, bs.length = len0 ∧ (∀ n ∈ bs, (Lit.int .u8 n).wf = true) ∧ (cap0 ≤ 4611686018427387904 → Nums .u8 W (.slice a0 len0 cap0) bs) ∧ ((cap0 = 0 ∧ len0 = 0) ∨ ∃ elems spare, d0 = .slice elems spare ∧ elems.length + spare.length = cap0 ∧ elems.length = len0) := by
    obtain ⟨fuel, hf⟩ := h0
    exact nums_open Try.underlying22 Try.underlying5 cells8 (by simpa [Value.cells] using hf)
  obtain ⟨a1, len1, cap1, rfl⟩ := okWide_slice Try.underlying22 (hval 1 22 v1 rfl rfl)
  have k1 := h1
  have lt1 : ∀ x ∈ p1, x.block < W.heap.size := by obtain ⟨m, hm⟩ := k1; exact DataW.trod_lt m _ _ _ hm
  obtain ⟨bs1, hlen1, hwf1, hnum1, hdat1⟩ : ∃ bs : List Int, bs.length = len1 ∧ (∀ n ∈ bs, (Lit.int .u8 n).wf = true) ∧ (cap1 ≤ 4611686018427387904 → Nums .u8 W (.slice a1 len1 cap1) bs) ∧ ((cap1 = 0 ∧ len1 = 0) ∨ ∃ elems spare, d1 = .slice elems spare ∧ elems.length + spare.length = cap1 ∧ elems.length = len1) := by
    obtain ⟨fuel, hf⟩ := h1
    exact nums_open Try.underlying22 Try.underlying5 cells8 (by simpa [Value.cells] using hf)
  simp only [List.append_nil] at hW' hk
  have hbulk : Rows.uptoBulkAll [d0, d1] ≤ 1048576 := of_decide_eq_true hk
  simp only [Rows.uptoBulkAll] at hbulk
  obtain ⟨c0, e0⟩ := small_cap (d := d0) (l := []) (by omega) hdat0
  obtain ⟨c1, e1⟩ := small_cap (d := d1) (l := []) (by omega) hdat1
  have nil0 : Nil0 (.slice a0 len0 cap0) := by
    obtain ⟨fuel, hf⟩ := k0
    exact nums_nil Try.underlying22 Try.underlying5 cells8 (by simpa [Value.cells] using hf)
  have nil1 : Nil0 (.slice a1 len1 cap1) := by
    obtain ⟨fuel, hf⟩ := k1
    exact nums_nil Try.underlying22 Try.underlying5 cells8 (by simpa [Value.cells] using hf)
  clear hA0
  refine (law_cuts bs0 (.slice a0 len0 cap0) bs1 (.slice a1 len1 cap1) W (by_of hwf0) (hnum0 (by omega)) nil0 (by omega) (by_of hwf1) (hnum1 (by omega)) nil1 (by omega)).mono fun e W' ⟨he, bel⟩ => ?_
  subst he
  exact ⟨_, rfl, _, _, _, [], _, [], hW', trodAll_mk1 (shut_bool Try.underlying4 _), (trodAll_cons_mk (Below.trod laidOut (by kernel_rfl) (of_decide_eq_true (by kernel_rfl)) k0 bel lt0) (trodAll_cons_mk (Below.trod laidOut (by kernel_rfl) (of_decide_eq_true (by kernel_rfl)) k1 bel lt1) trodAll_mk0)), rfl, bel.frame _, fun h => by cases h⟩
set_option maxRecDepth 100000 in
theorem lifted (os : Os) (started : os.Started) (H : Type) (enc : TypeId × Value → H) (F : Stop.Interp) :
    ReturnsInHanded {} Try.checked os 8 .any ((Rows.OpenSpec.upto Rows.utfCutsSpec).pre6 enc Try.prog Try.f8 Rows.utfCutsUptoRow.domain false) (((Rows.OpenSpec.upto Rows.utfCutsSpec).at F).post enc Try.prog Try.f8 false true false false) := by
  refine returnsInHanded_of_cond (C := Try.checked) (s := Rows.OpenSpec.upto Rows.utfCutsSpec) (k := Rows.uptoSmall) rfl own started (by kernel_rfl) Try.func8
    (OpenSpec.witness (enc := enc) (C := Try.checked) (s := Rows.OpenSpec.upto Rows.utfCutsSpec) (k := Rows.uptoSmall) rfl false ⟨#[], #[.slice none 0 0, .slice none 0 0], []⟩ 8 (by kernel_rfl) (by kernel_rfl) (by kernel_rfl)
      (x := ([.nil, .nil], [], [])) (by kernel_rfl) rfl (by kernel_rfl)) ?_
  intro W base args ds gs before hval hW _ hk _
  exact contract H enc W base args ds gs before hval hW hk
theorem over : Rows.UtfCutsUptoSaid :=
  OpenClaim.holds_of_cond 8 Try.f8 rfl rfl rfl rfl rfl rfl rfl ⟨rfl, rfl, rfl, rfl, rfl⟩ rfl rfl rfl rfl rfl (by kernel_rfl) Try.func8 (by kernel_rfl)
    (of_decide_eq_true (by kernel_rfl)) (by unfold Func.isWrapper; first | (rw [if_pos (by decide +kernel)]; kernel_rfl) | (rw [if_neg (by decide +kernel)]; exact ⟨rfl, rfl⟩))
    (fun os started H enc _ F => lifted os started H enc F)
end Go.Proofs.Ytklibbahbclekaa.utfCuts
namespace Go.Proofs.Ytklibbahbclekaa
theorem utfCuts_holds : Rows.UtfCutsUptoSaid := utfCuts.over
end Go.Proofs.Ytklibbahbclekaa
