/-
  For all forms, as anybody makes them: the program tells which may be, which two are the same, and which units one uses, as the reference does. Condition: the forms are of bounded bulk.
-/
import Derived.Test.YticgcokhdipomaaDoorLNoU
import Derived.Test.YticgcokhdipomaaDoorLNoR
import Derived.Test.YticgcokhdipomaaDoorCards
import Derived.Test.YticgcokhdipomaaDoorTie
set_option linter.unusedVariables false
namespace Go.Proofs.YticgcokhdipomaaDoor.rowg
open Go.ChangeShapes Go.WideShapes Go.ChangeAt Go.RowKit Go.Joins
open Go.ChangeMaps (open_string shut_string)
open Go.Proofs.YticgcokhdipomaaDoor.nm
set_option maxRecDepth 100000 in
/-- A form that comes in. -/
theorem fo_open {H : Type} {enc : TypeId × Value → H} {W : World} {base : Nat} {held : Bool} {v : Value} {x : DataW H} {p : List MemPlace} (hv : Value.okWide Tryd.prog W .any base 29 v) (h : DataW.Trod enc Tryd.prog W 0 (fun _ => true) held 29 v x p) (hb : Rows.uptoBulk x ≤ 1048576) :
    ∃ (us : List (Int × Int)) (ps : List Pa) (u : Value), v = foV us u ∧ Us us ∧ PM W 65536 u ps := by
  obtain ⟨cs, rfl, hsz⟩ := okWide_struct Tryd.underlying29 hv
  obtain ⟨fuel, hf⟩ := h
  obtain ⟨us, ps, u, hus, hcs, hX⟩ := fo_cells (N := 1048576) (X := PM W 65536) (d := (x, p)) (m := fuel) (cs := cs.toList) (by simpa [Value.cells] using hf) hb (fun c fuel x hx hbx => pas_open (N := 1048576) hx (by omega) (by omega) (fun c fuel x hx hbx => by
    obtain ⟨l, hl⟩ := fos_open 1048576 c fuel x hx (by omega) (by omega)
    exact ⟨l, hl⟩))
  refine ⟨us, ps, u, ?_, hus, hX⟩
  unfold foV
  rw [← hcs]
set_option maxRecDepth 100000 in
theorem nth_third {W : World} {a1 a2 : String × DataW Unit} {r : List (String × DataW Unit)}
    (h : laidMet Tryd.prog (a1 :: a2 :: ("jalousie/norm.nothing", Rows.laid_jalousie_norm_nothing) :: r) W) : Nth W := by
  obtain ⟨ps, hL, _⟩ := h
  obtain ⟨_, _, _, _, _, q1, _, _, _, _, hL, _⟩ := hL
  obtain ⟨_, _, _, _, _, q2, _, _, _, _, hL, _⟩ := hL
  obtain ⟨g', t', cs, fuel, p, q, hg', ht', hvar, hd, _, _⟩ := hL
  have hg : Tryd.prog.globalNamed "jalousie/norm.nothing" = some 0 := by kernel_rfl
  have hty : (Tryd.prog.globals[0]?).map (·.type) = some 24 := by kernel_rfl
  obtain rfl := Option.some.inj (hg.symm.trans hg')
  obtain rfl := Option.some.inj (hty.symm.trans ht')
  have hd' : DataW.trod (fun _ => ()) Tryd.prog W 0 (fun _ => true) false fuel 24 cs.toList = some (Rows.laid_jalousie_norm_nothing, p) := hd
  obtain ⟨ys, m2, _, hy, hc, hl2, hq2⟩ := DataW.trod_struct Tryd.underlying24 hd'
  obtain ⟨n, e, hcs, -, -, -⟩ := rat_cells hd'
  match ys, hl2 with
  | [u0, u1], _ =>
    have r0' : DataW.trod (fun _ => ()) Tryd.prog W 0 (fun _ => true) false m2 2 ((cs.toList.drop 0).take (Tryd.prog.cellsOf 2)) = some u0 := hq2 0 _ rfl
    have r1' : DataW.trod (fun _ => ()) Tryd.prog W 0 (fun _ => true) false m2 2 ((cs.toList.drop 1).take (Tryd.prog.cellsOf 2)) = some u1 := hq2 1 _ rfl
    rw [cL, hcs] at r0' r1'
    obtain ⟨n', en, rfl, wn⟩ := DataW.trod_int Tryd.underlying2 r0'
    obtain ⟨e', ee, rfl, we⟩ := DataW.trod_int Tryd.underlying2 r1'
    simp at en ee
    subst en ee
    have hD : (Rows.laid_jalousie_norm_nothing : DataW Unit) = .agg [.lit (.int .i64 n), .lit (.int .i64 e)] := by simpa using congrArg Prod.fst hy
    simp [Rows.laid_jalousie_norm_nothing] at hD
    obtain ⟨rfl, rfl⟩ := hD
    have e0 := World.var?_cell hg hvar 0
    have e1 := World.var?_cell hg hvar 1
    have hca : cs = #[.int .i64 0, .int .i64 1] := by rw [← Array.toArray_toList (xs := cs), hcs]
    subst hca
    exact ⟨World.block_lt_of_cell? _ _ (show W.cell? ⟨0, 0, none⟩ = some (.int .i64 0) from e0), e0, e1⟩
end Go.Proofs.YticgcokhdipomaaDoor.rowg
namespace Go.Proofs.YticgcokhdipomaaDoor.normMay
open Go.ChangeShapes Go.WideShapes Go.ChangeAt Go.RowKit Go.Joins
open Go.ChangeMaps (open_string shut_string)
open Go.Proofs.YticgcokhdipomaaDoor.rowg Go.Proofs.YticgcokhdipomaaDoor.nm
theorem own : ownKnob Tryd.prog.godebug = none := by kernel_rfl
theorem laidOut : laidOutB Tryd.prog = true := by kernel_rfl
set_option maxRecDepth 100000 in
theorem contract (H : Type) (enc : TypeId × Value → H) (W : World) (base : Nat) (args : Array Value) (ds gs : List (DataW H)) (before : List MemPlace) (hI : Nth W)
    (hval : ∀ (j : Nat) t v, Tryd.f5.params[j]? = some t → args[j]? = some v → Value.okWide Tryd.prog W .any base t v)
    (hW : DataW.Whole enc Tryd.prog Tryd.f5.params.toList Rows.normMaySpec.vars false W args.toList ds gs before) (hk : Rows.uptoSmall H (ds ++ gs) = true) :
    Calls Tryd.prog 5 args W fun e W' => ∃ v, e = .returned v ∧ Rows.normMaySpec.post enc Tryd.prog Tryd.f5 false true false false W args v W' := by
  have hW' := hW
  obtain ⟨p, q, hA0, hV, rfl, hfz, hnd⟩ := hW
  have hA : DataW.TrodAll enc Tryd.prog W 0 (fun _ => true) true Tryd.f5.params.toList args.toList ds p := hA0
  rw [Tryd.params5] at hA hval
  obtain ⟨v0, vs0, d0, ds0, p0, q0, hargs0, rfl, rfl, h0, r0⟩ := trodAll_cons hA
  obtain ⟨v1, vs1, d1, ds1, p1, q1, rfl, rfl, rfl, h1, r1⟩ := trodAll_cons r0
  obtain ⟨rfl, rfl, rfl⟩ := trodAll_nil r1
  obtain rfl : args = #[v0, v1] := by cases args; simp_all
  obtain ⟨rfl, rfl⟩ := trodVars_none hV
  have k0 := h0
  have k1 := h1
  have lt0 : ∀ x ∈ p0, x.block < W.heap.size := by obtain ⟨m, hm⟩ := k0; exact DataW.trod_lt m _ _ _ hm
  have lt1 : ∀ x ∈ p1, x.block < W.heap.size := by obtain ⟨m, hm⟩ := k1; exact DataW.trod_lt m _ _ _ hm
  simp only [List.append_nil] at hW' hk
  have hbulk : Rows.uptoBulkAll [d0, d1] ≤ 1048576 := of_decide_eq_true hk
  simp only [Rows.uptoBulkAll] at hbulk
  obtain ⟨us, ps, u, rfl, hus, hu⟩ := fo_open (hval 0 29 v0 rfl rfl) h0 (by omega)
  obtain ⟨vs, qs, v, rfl, hvs, hv⟩ := fo_open (hval 1 29 v1 rfl rfl) h1 (by omega)
  clear hA0
  refine (law_mayN 65536 65536 us vs ps qs u v W hI (by omega) hus hvs hu hv).mono fun e W' ⟨he, bel⟩ => ?_
  subst he
  exact ⟨_, rfl, _, _, _, [], _, [], hW', trodAll_mk1 (shut_bool Tryd.underlying4 _), (trodAll_cons_mk (Below.trod laidOut (by kernel_rfl) (of_decide_eq_true (by kernel_rfl)) k0 bel lt0) (trodAll_cons_mk (Below.trod laidOut (by kernel_rfl) (of_decide_eq_true (by kernel_rfl)) k1 bel lt1) trodAll_mk0)), rfl, bel.frame _, fun h => by cases h⟩
/-! ### A world for the witness: the variables hold what their initialisers lay. -/
def num1 : DataW Unit → List Value
  | .agg l => l.map fun
    | .lit (.int k n) => Value.int k n
    | .lit (.bool b) => Value.bool b
    | .lit (.string l) => Value.string ⟨l.toArray⟩
    | _ => .bool false
  | _ => []
def put (h : Array Obj) (g : Nat) (cs : Array Value) : Array Obj := h.modify g fun
  | .cells _ t frozen => .cells cs t frozen
  | o => o
noncomputable def laidWorld (os : Os) : World :=
  let w0 := World.holding Tryd.prog os ⟨#[], #[], []⟩
  let h0 := put w0.heap 0 (num1 Rows.laid_jalousie_norm_nothing).toArray
  let h1 := put h0 1 (num1 Rows.laid_math_bits_deBruijn32tab).toArray
  let h2 := put h1 2 (num1 Rows.laid_math_bits_deBruijn64tab).toArray
  { w0 with heap := h2 }
def zf : Value := .agg #[.int .i64 0, .int .i64 0, .int .i64 0, .int .i64 0, .int .i64 0, .int .i64 0, .int .i64 0, .int .i64 0, .int .i64 0, .int .i64 0, .int .i64 0, .int .i64 0, .int .i64 0, .int .i64 0, .slice none 0 0]
def zd {H : Type} : DataW H := .agg [.agg [.agg [.lit (.int .i64 0), .lit (.int .i64 0)], .agg [.lit (.int .i64 0), .lit (.int .i64 0)], .agg [.lit (.int .i64 0), .lit (.int .i64 0)], .agg [.lit (.int .i64 0), .lit (.int .i64 0)], .agg [.lit (.int .i64 0), .lit (.int .i64 0)], .agg [.lit (.int .i64 0), .lit (.int .i64 0)], .agg [.lit (.int .i64 0), .lit (.int .i64 0)]], .nil]
theorem laid_met (os : Os) : laidMet Tryd.prog Rows.normMayUptoRow.laid ((laidWorld os).forCall (fun _ _ => 0) ⟨#[], #[zf, zf], []⟩).memory :=
  laidMet_of_run' 8 (by kernel_rfl) (by kernel_rfl)
theorem reads (os : Os) {H : Type} (enc : TypeId × Value → H) : ∃ places, DataW.whole enc Tryd.prog ((laidWorld os).forCall (fun _ _ => 0) ⟨#[], #[zf, zf], []⟩).memory Tryd.f5.params.toList Rows.normMaySpec.vars false (#[zf, zf] : Array Value).toList 8 = some ([zd, zd], [], places) :=
  ⟨[], by kernel_rfl⟩
set_option maxRecDepth 100000 in
theorem lifted (os : Os) (started : os.Started) (H : Type) (enc : TypeId × Value → H) (F : Stop.Interp) :
    ReturnsInHanded {} Tryd.checked os 5 .any ((Rows.OpenSpec.upto Rows.normMaySpec).preRow enc Tryd.prog Tryd.f5 Rows.normMayUptoRow.domain false Rows.normMayUptoRow.laid) (((Rows.OpenSpec.upto Rows.normMaySpec).at F).post enc Tryd.prog Tryd.f5 false true false false) := by
  obtain ⟨places, hx⟩ := reads os enc
  refine returnsInHanded_of_row (C := Tryd.checked) (s := Rows.OpenSpec.upto Rows.normMaySpec) own started (by kernel_rfl) Tryd.func5
    (witness_row_atRef (enc := enc) (C := Tryd.checked) false (laidWorld os) #[zf, zf] rfl (by kernel_rfl) (by kernel_rfl) (by kernel_rfl)
      (OpenSpec.preRow_of_cond 8 hx (by kernel_rfl) (fun k hk => by cases hk; kernel_rfl) (by kernel_rfl) (laid_met os))) ?_
  intro W base args ds gs before hval hW _ hcond _ hL _ _
  exact contract H enc W base args ds gs before (nth_third hL) hval hW (hcond _ rfl)
theorem said : Rows.NormMayUptoSaid :=
  OpenClaim.holds_of_cond 5 Tryd.f5 rfl rfl rfl rfl rfl rfl rfl ⟨rfl, rfl, rfl, rfl, rfl⟩ rfl rfl rfl rfl rfl (by kernel_rfl) Tryd.func5 (by kernel_rfl)
    (of_decide_eq_true (by kernel_rfl)) (by unfold Func.isWrapper; first | (rw [if_pos (by decide +kernel)]; kernel_rfl) | (rw [if_neg (by decide +kernel)]; exact ⟨rfl, rfl⟩))
    (fun os started H enc _ F => by rw [OpenClaim.pre_eq_preRow]; exact lifted os started H enc F)
theorem plain (f : FuncId) (fn : Func) (hf : Tryd.pinned.checked.prog.funcNamed Rows.normMayUptoRow.func = some f) (hfn : Tryd.pinned.checked.prog.funcs[f]? = some fn) :
    false = Tryd.pinned.checked.prog.looks [] ∧ ∀ (j : Nat) t, fn.params[j]? = some t → Tryd.pinned.checked.prog.wantsStandIn t = false := by
  obtain rfl : f = 5 := Option.some.inj ((show Tryd.prog.funcNamed Rows.normMayUptoRow.func = some 5 by kernel_rfl).symm.trans hf) |>.symm
  obtain rfl : fn = Tryd.f5 := (Option.some.inj (Tryd.func5.symm.trans hfn)).symm
  refine ⟨by kernel_rfl, fun j t ht => ?_⟩
  rw [Tryd.params5] at ht
  have hm := Array.mem_of_getElem? ht
  simp at hm
  subst hm
  exact (show Tryd.prog.wantsStandIn 29 = false by kernel_rfl)
theorem card : Rows.NormMayUptoCardSaid :=
  Claim7.holds_tied_plain_at .later [] _ _ _ _ said (fun _ h => by cases h) (by kernel_rfl) (fun _ h => by cases h) normMayUpto_row_tie rfl ⟨rfl, rfl⟩ (by kernel_rfl) rfl plain (by kernel_rfl)
end Go.Proofs.YticgcokhdipomaaDoor.normMay
namespace Go.Proofs.YticgcokhdipomaaDoor
theorem normMay_holds : Rows.NormMayUptoCardSaid := normMay.card
end Go.Proofs.YticgcokhdipomaaDoor
