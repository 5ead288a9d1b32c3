/-
  A remark between two texts is as if they stood apart: where the first ends with white space its tokens stay, and the second's follow. No condition but the row's own.
-/
import Derived.Test.YtmoiifeflgopfaaGreatDoorLTokZf
import Derived.Test.YtmoiifeflgopfaaGreatDoorMc
import Derived.Test.YtmoiifeflgopfaaGreatDoorCards
import Derived.Test.YtmoiifeflgopfaaGreatDoorTie
import Derived.Deep.DeepHandedRow
import Derived.Deep.DeepWitnessRowRef
import Derived.Lib.LaidTab
set_option linter.unusedVariables false
namespace Go.Proofs.YtmoiifeflgopfaaGreatDoor.tokRemarks
open Go.ChangeShapes Go.WideShapes Go.ChangeAt Go.RowKit

theorem nums_nil {k : IntKind} {t e : TypeId} (ht : Tryz.prog.underlying t = some (.slice e)) (he : Tryz.prog.underlying e = some (.int k)) (hc : Tryz.prog.cellsOf e = 1)
    {H : Type} {enc : TypeId × Value → H} {W : World} {held : Bool} {a : Option Addr} {len cap fuel : Nat} {x : DataW H × List MemPlace}
    (hf : DataW.trod enc Tryz.prog W 0 (fun _ => true) held fuel t [.slice a len cap] = some x) : Nil0 (.slice a len cap) := by
  rcases open_ints ht he hc hf with ⟨hcs, hx⟩ | ⟨a1, len', cap', zs, hcs, _⟩
  · simp at hcs
    obtain ⟨rfl, rfl, rfl⟩ := hcs
    intro n c h; simp at h; omega
  · simp at hcs
    obtain ⟨rfl, rfl, rfl⟩ := hcs
    exact Nil0.some _ _ _
set_option maxRecDepth 100000 in
set_option maxHeartbeats 1000000 in
/-- One of the three is longer than is asked. -/
theorem law_long (a a' ai : Option Addr) (n c n' c' ni ci : Nat) (w : World) (h9 : n ≤ 9223372036854775807) (h9' : n' ≤ 9223372036854775807) (h9i : ni ≤ 9223372036854775807) (h : 16384 < n ∨ 16384 < n' ∨ 16384 < ni) :
    Calls Tryz.prog 3 #[.slice a n c, .slice a' n' c', .slice ai ni ci] w fun e w' => e = .returned (.bool true) ∧ Below w.heap.size w w' := by
  have AW := hide awakeT_any
  by_cases h1 : 16384 < n
  · have g1 : (16384 : Int) < n := by omega
    clear h
    go_enter Tryz.func3, Tryz.ntmps3
    go_wp2_with (go_at_call 4; refine (AW.out _).mono ?_; rintro e w1 ⟨rfl, B⟩; replace B := hide B)
    go_ret
    exact ⟨rfl, B.out⟩
  · have g1 : ¬ (16384 : Int) < n := by omega
    by_cases h2 : 16384 < n'
    · have g2 : (16384 : Int) < n' := by omega
      clear h
      go_enter Tryz.func3, Tryz.ntmps3
      go_wp2_with (go_at_call 4; refine (AW.out _).mono ?_; rintro e w1 ⟨rfl, B⟩; replace B := hide B)
      go_ret
      exact ⟨rfl, B.out⟩
    · have g2 : ¬ (16384 : Int) < n' := by omega
      have g3 : (16384 : Int) < ni := by omega
      clear h
      go_enter Tryz.func3, Tryz.ntmps3
      go_wp2_with (go_at_call 4; refine (AW.out _).mono ?_; rintro e w1 ⟨rfl, B⟩; replace B := hide B)
      go_ret
      exact ⟨rfl, B.out⟩
set_option maxRecDepth 100000 in
theorem contract (H : Type) (enc : TypeId × Value → H) (W : World) (base : Nat) (args : Array Value) (ds gs : List (DataW H)) (before : List MemPlace)
    (hval : ∀ (j : Nat) t v, Tryz.f3.params[j]? = some t → args[j]? = some v → Value.okWide Tryz.prog W .any base t v)
    (hW : DataW.Whole enc Tryz.prog Tryz.f3.params.toList Rows.tokRemarksSpec.vars false W args.toList ds gs before) (hsz : (DataW.weightsEach Tryz.prog (Tryz.f3.params.toList ++ Rows.tokRemarksSpec.plain.varTypes Tryz.prog) (ds ++ gs)).all (· ≤ reachBytes) = true) :
    Calls Tryz.prog 3 args W fun e W' => ∃ v, e = .returned v ∧ Rows.tokRemarksSpec.post enc Tryz.prog Tryz.f3 false true false false W args v W' := by
  have hW' := hW
  obtain ⟨p, q, hA0, hV, rfl, hfz, hnd⟩ := hW
  have hA : DataW.TrodAll enc Tryz.prog W 0 (fun _ => true) true Tryz.f3.params.toList args.toList ds p := hA0
  rw [Tryz.params3] at hA hval hsz
  obtain ⟨v0, vs0, d0, ds0, p0, q0, hargs, rfl, rfl, h0, r0⟩ := trodAll_cons hA
  obtain ⟨v1, vs1, d1, ds1, p1, q1, hargs1, rfl, rfl, h1, r1⟩ := trodAll_cons r0
  obtain ⟨v2, vs2, d2, ds2, p2, q2, hargs2, rfl, rfl, h2, r2⟩ := trodAll_cons r1
  obtain ⟨rfl, rfl, rfl⟩ := trodAll_nil r2
  obtain rfl : args = #[v0, v1, v2] := by cases args; simp_all
  obtain ⟨rfl, rfl⟩ := trodVars_none hV
  obtain ⟨a0, len0, cap0, rfl⟩ := okWide_slice Tryz.underlying22 (hval 0 22 v0 rfl rfl)
  have k0 := h0
  have lt0 : ∀ x ∈ p0, x.block < W.heap.size := by obtain ⟨m, hm⟩ := k0; exact DataW.trod_lt m _ _ _ hm
  obtain ⟨bs0, hlen0, hwf0, hnum0, hdat0⟩ : ∃ bs : List Int, bs.length = len0 ∧ (∀ n ∈ bs, (Lit.int .u8 n).wf = true) ∧ (cap0 ≤ 4611686018427387904 → Nums .u8 W (.slice a0 len0 cap0) bs) ∧ ((cap0 = 0 ∧ len0 = 0) ∨ ∃ elems spare, d0 = .slice elems spare ∧ elems.length + spare.length = cap0 ∧ elems.length = len0) := by
    obtain ⟨fuel, hf⟩ := h0
    exact nums_open Tryz.underlying22 Tryz.underlying5 cells8 (by simpa [Value.cells] using hf)
  obtain ⟨a1, len1, cap1, rfl⟩ := okWide_slice Tryz.underlying22 (hval 1 22 v1 rfl rfl)
  have k1 := h1
  have lt1 : ∀ x ∈ p1, x.block < W.heap.size := by obtain ⟨m, hm⟩ := k1; exact DataW.trod_lt m _ _ _ hm
  obtain ⟨bs1, hlen1, hwf1, hnum1, hdat1⟩ : ∃ bs : List Int, bs.length = len1 ∧ (∀ n ∈ bs, (Lit.int .u8 n).wf = true) ∧ (cap1 ≤ 4611686018427387904 → Nums .u8 W (.slice a1 len1 cap1) bs) ∧ ((cap1 = 0 ∧ len1 = 0) ∨ ∃ elems spare, d1 = .slice elems spare ∧ elems.length + spare.length = cap1 ∧ elems.length = len1) := by
    obtain ⟨fuel, hf⟩ := h1
    exact nums_open Tryz.underlying22 Tryz.underlying5 cells8 (by simpa [Value.cells] using hf)
  obtain ⟨a2, len2, cap2, rfl⟩ := okWide_slice Tryz.underlying22 (hval 2 22 v2 rfl rfl)
  have k2 := h2
  have lt2 : ∀ x ∈ p2, x.block < W.heap.size := by obtain ⟨m, hm⟩ := k2; exact DataW.trod_lt m _ _ _ hm
  obtain ⟨bs2, hlen2, hwf2, hnum2, hdat2⟩ : ∃ bs : List Int, bs.length = len2 ∧ (∀ n ∈ bs, (Lit.int .u8 n).wf = true) ∧ (cap2 ≤ 4611686018427387904 → Nums .u8 W (.slice a2 len2 cap2) bs) ∧ ((cap2 = 0 ∧ len2 = 0) ∨ ∃ elems spare, d2 = .slice elems spare ∧ elems.length + spare.length = cap2 ∧ elems.length = len2) := by
    obtain ⟨fuel, hf⟩ := h2
    exact nums_open Tryz.underlying22 Tryz.underlying5 cells8 (by simpa [Value.cells] using hf)
  simp only [List.append_nil] at hW' hsz
  have c0 : cap0 * 1 ≤ 140737488351232 ∧ len0 ≤ cap0 := by
    rcases hdat0 with ⟨h1, h2⟩ | ⟨elems, spare, hd, h1, h2⟩
    · omega
    · have := sized_slice hsz (j := 0) (t := 22) (e := 5) rfl (by rw [hd]; rfl) Tryz.underlying22
      rw [bytes8] at this
      simp only [reachBytes] at this
      omega
  have c1 : cap1 * 1 ≤ 140737488351232 ∧ len1 ≤ cap1 := by
    rcases hdat1 with ⟨h1, h2⟩ | ⟨elems, spare, hd, h1, h2⟩
    · omega
    · have := sized_slice hsz (j := 1) (t := 22) (e := 5) rfl (by rw [hd]; rfl) Tryz.underlying22
      rw [bytes8] at this
      simp only [reachBytes] at this
      omega
  have c2 : cap2 * 1 ≤ 140737488351232 ∧ len2 ≤ cap2 := by
    rcases hdat2 with ⟨h1, h2⟩ | ⟨elems, spare, hd, h1, h2⟩
    · omega
    · have := sized_slice hsz (j := 2) (t := 22) (e := 5) rfl (by rw [hd]; rfl) Tryz.underlying22
      rw [bytes8] at this
      simp only [reachBytes] at this
      omega
  have nil0 : Nil0 (.slice a0 len0 cap0) := by
    obtain ⟨fuel, hf⟩ := k0
    exact nums_nil Tryz.underlying22 Tryz.underlying5 cells8 (by simpa [Value.cells] using hf)
  have nil1 : Nil0 (.slice a1 len1 cap1) := by
    obtain ⟨fuel, hf⟩ := k1
    exact nums_nil Tryz.underlying22 Tryz.underlying5 cells8 (by simpa [Value.cells] using hf)
  have nil2 : Nil0 (.slice a2 len2 cap2) := by
    obtain ⟨fuel, hf⟩ := k2
    exact nums_nil Tryz.underlying22 Tryz.underlying5 cells8 (by simpa [Value.cells] using hf)
  clear hA0
  have LAW : Calls Tryz.prog 3 #[.slice a0 len0 cap0, .slice a1 len1 cap1, .slice a2 len2 cap2] W fun e w' => e = .returned (.bool true) ∧ Below W.heap.size W w' := by
    by_cases hbig : 16384 < len0 ∨ 16384 < len1 ∨ 16384 < len2
    · exact law_long _ _ _ _ _ _ _ _ _ W (by omega) (by omega) (by omega) hbig
    · exact law_remarks bs0 (.slice a0 len0 cap0) bs1 (.slice a1 len1 cap1) bs2 (.slice a2 len2 cap2) W (by_of hwf0) (hnum0 (by omega)) nil0 (by omega) (by_of hwf1) (hnum1 (by omega)) nil1 (by omega) (by_of hwf2) (hnum2 (by omega)) nil2 (by omega)
  refine LAW.mono fun e W' ⟨he, bel⟩ => ?_
  subst he
  exact ⟨_, rfl, _, _, _, [], _, [], hW', trodAll_mk1 (shut_bool Tryz.underlying4 _), (trodAll_cons_mk (Below.trod laidOut (by kernel_rfl) (of_decide_eq_true (by kernel_rfl)) k0 bel lt0) (trodAll_cons_mk (Below.trod laidOut (by kernel_rfl) (of_decide_eq_true (by kernel_rfl)) k1 bel lt1) (trodAll_cons_mk (Below.trod laidOut (by kernel_rfl) (of_decide_eq_true (by kernel_rfl)) k2 bel lt2) trodAll_mk0))), rfl, bel.frame _, fun h => by cases h⟩
/-! ### A world for the witness: the variables hold what their initialisers lay. -/
def num1 : DataW Unit → List Value
  | .agg l => l.map fun
    | .lit (.int k n) => Value.int k n
    | _ => .bool false
  | _ => []
def num2 : DataW Unit → List Value
  | .agg l => l.flatMap num1
  | _ => []
noncomputable def low : Nat := (World.holding Tryz.prog default ⟨#[], #[], []⟩).heap.size
def put (h : Array Obj) (g : Nat) (cs : Array Value) : Array Obj := h.modify g fun
  | .cells _ t frozen => .cells cs t frozen
  | o => o
noncomputable def laidWorld (os : Os) : World :=
  let w0 := World.holding Tryz.prog os ⟨#[.cells #[.string ⟨#[105, 110, 118, 97, 108, 105, 100, 32, 115, 121, 110, 116, 97, 120]⟩] 132, .cells #[.string ⟨#[118, 97, 108, 117, 101, 32, 111, 117, 116, 32, 111, 102, 32, 114, 97, 110, 103, 101]⟩] 132], #[], []⟩
  let h1 := put w0.heap 0 #[.iface 130 (.pointer (some ⟨low, 0, none⟩))]
  let h2 := put h1 1 #[.iface 130 (.pointer (some ⟨low + 1, 0, none⟩))]
  let h3 := put h2 2 (num1 Rows.laid_unicode_utf8_first).toArray
  let h4 := put h3 3 (num2 Rows.laid_unicode_utf8_acceptRanges).toArray
  let h6 := put h4 5 (num1 Rows.laid_internal_strconv_uint64pow10).toArray
  let h7 := put h6 6 (num1 Rows.laid_math_bits_deBruijn32tab).toArray
  let h8 := put h7 7 (num1 Rows.laid_math_bits_deBruijn64tab).toArray
  { w0 with heap := h8 }
theorem laid_met (os : Os) : laidMet Tryz.prog Rows.tokRemarksRow.laid ((laidWorld os).forCall (fun _ _ => 0) ⟨#[], #[.slice none 0 0, .slice none 0 0, .slice none 0 0], []⟩).memory :=
  laidMet_of_run' 8 (by kernel_rfl) (by kernel_rfl)
theorem reads (os : Os) {H : Type} (enc : TypeId × Value → H) : ∃ places, DataW.whole enc Tryz.prog ((laidWorld os).forCall (fun _ _ => 0) ⟨#[], #[.slice none 0 0, .slice none 0 0, .slice none 0 0], []⟩).memory Tryz.f3.params.toList Rows.tokRemarksSpec.vars false #[Value.slice none 0 0, Value.slice none 0 0, Value.slice none 0 0].toList 8 = some ([.nil, .nil, .nil], [], places) :=
  ⟨[], by kernel_rfl⟩
set_option maxRecDepth 100000 in
theorem lifted (os : Os) (started : os.Started) (H : Type) (enc : TypeId × Value → H) (F : Stop.Interp) :
    ReturnsInHanded {} Tryz.checked os 3 .any ((OpenSpec.ofChange Rows.tokRemarksSpec).preRow enc Tryz.prog Tryz.f3 Rows.tokRemarksRow.domain false Rows.tokRemarksRow.laid) (((OpenSpec.ofChange Rows.tokRemarksSpec).at F).post enc Tryz.prog Tryz.f3 false true false false) := by
  obtain ⟨places, hx⟩ := reads os enc
  refine returnsInHanded_of_row (C := Tryz.checked) (s := OpenSpec.ofChange Rows.tokRemarksSpec) own started (by kernel_rfl) Tryz.func3
    (witness_row_atRef (enc := enc) (C := Tryz.checked) false (laidWorld os) #[.slice none 0 0, .slice none 0 0, .slice none 0 0] rfl (by kernel_rfl) (by kernel_rfl) (by kernel_rfl)
      (OpenSpec.preRow_of_cond 8 hx (by kernel_rfl) (fun k hk => by cases hk) (by kernel_rfl) (laid_met os))) ?_
  intro W base args ds gs before hval hW _ hcond hsz hL _ _
  exact contract H enc W base args ds gs before hval hW hsz
theorem said : Rows.TokRemarksSaid :=
  OpenClaim.holds_of_cond 3 Tryz.f3 rfl rfl rfl rfl rfl rfl rfl ⟨rfl, rfl, rfl, rfl, rfl⟩ rfl rfl rfl rfl rfl (by kernel_rfl) Tryz.func3 (by kernel_rfl)
    (of_decide_eq_true (by kernel_rfl)) (by unfold Func.isWrapper; first | (rw [if_pos (by decide +kernel)]; kernel_rfl) | (rw [if_neg (by decide +kernel)]; exact ⟨rfl, rfl⟩))
    (fun os started H enc _ F => by rw [OpenClaim.pre_eq_preRow]; exact lifted os started H enc F)
theorem plain (f : FuncId) (fn : Func) (hf : Tryz.pinned.checked.prog.funcNamed Rows.tokRemarksRow.func = some f) (hfn : Tryz.pinned.checked.prog.funcs[f]? = some fn) :
    true = Tryz.pinned.checked.prog.looks [] ∧ ∀ (j : Nat) t, fn.params[j]? = some t → Tryz.pinned.checked.prog.wantsStandIn t = false := by
  obtain rfl : f = 3 := Option.some.inj ((show Tryz.prog.funcNamed Rows.tokRemarksRow.func = some 3 by kernel_rfl).symm.trans hf) |>.symm
  obtain rfl : fn = Tryz.f3 := (Option.some.inj (Tryz.func3.symm.trans hfn)).symm
  refine ⟨by kernel_rfl, fun j t ht => ?_⟩
  rw [Tryz.params3] at ht
  obtain rfl : t = 22 := by simpa using Array.mem_of_getElem? ht
  exact (show Tryz.prog.wantsStandIn 22 = false by kernel_rfl)
theorem card : Rows.TokRemarksCardSaid :=
  Claim7.holds_tied_plain_at .later [] _ _ _ _ said (fun _ h => by cases h) (by kernel_rfl) (fun _ h => by cases h) tokRemarks_row_tie rfl ⟨rfl, rfl⟩ (by kernel_rfl) rfl plain (by kernel_rfl)
end Go.Proofs.YtmoiifeflgopfaaGreatDoor.tokRemarks
namespace Go.Proofs.YtmoiifeflgopfaaGreatDoor
theorem tokRemarks_holds : Rows.TokRemarksCardSaid := tokRemarks.card
end Go.Proofs.YtmoiifeflgopfaaGreatDoor
