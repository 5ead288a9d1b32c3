/-
  Which boxes may be, which texts are names: the program answers as the reference, for every box and every text.
-/
import Derived.Test.YtdmijejcifjaoaaDomD
import Derived.ProofKit
import Derived.OpenShut
import Derived.JoinedCond
import Derived.Carry
import Derived.Lib.SmallJoins
import Derived.ChangeMaps5
set_option linter.unusedVariables false
set_option linter.unusedSimpArgs false
namespace Go.Proofs.Ytdmijejcifjaoaa
open Go.ChangeShapes Go.WideShapes Go.ChangeAt Go.RowKit Go.Joins Go.ChangeMaps

theorem cT : Try.prog.cellsOf 25 = 6 := by kernel_rfl
theorem cR : Try.prog.cellsOf 23 = 2 := by kernel_rfl
theorem cI : Try.prog.cellsOf 3 = 1 := by kernel_rfl
theorem cL : Try.prog.cellsOf 2 = 1 := by kernel_rfl
theorem cS : Try.prog.cellsOf 9 = 1 := by kernel_rfl
theorem arr6 {α : Type} {cs : Array α} (h : cs.size = 6) : ∃ c0 c1 c2 c3 c4 c5, cs = #[c0, c1, c2, c3, c4, c5] := by
  obtain ⟨l⟩ := cs
  match l, h with
  | [c0, c1, c2, c3, c4, c5], _ => exact ⟨c0, c1, c2, c3, c4, c5, rfl⟩
def boxD {H : Type} (k : Int) (s : ByteArray) (n d m e : Int) : DataW H := .agg [.lit (.int .i64 k), .lit (.string s.data.toList), .agg [.lit (.int .i64 n), .lit (.int .i64 d)], .agg [.lit (.int .i64 m), .lit (.int .i64 e)]]
set_option maxRecDepth 100000 in
theorem box_open {H : Type} {enc : TypeId × Value → H} {W : World} {r : Reach} {b0 base : Nat} {sp : Nat → Bool} {held : Bool} {v : Value} {x : DataW H} {p : List MemPlace}
    (hv : Value.okWide Try.prog W r b0 25 v) (h : DataW.Trod enc Try.prog W base sp held 25 v x p) :
    ∃ k s n d m e, v = boxV k s n d m e ∧ x = boxD k s n d m e ∧ p = [] ∧ (Lit.int .i64 k).wf = true ∧ s.size ≤ maxLen ∧ (Lit.int .i64 n).wf = true ∧ (Lit.int .i64 d).wf = true ∧ (Lit.int .i64 m).wf = true ∧ (Lit.int .i64 e).wf = true := by
  obtain ⟨cs, rfl, hsz⟩ := okWide_struct Try.underlying25 hv
  obtain ⟨c0, c1, c2, c3, c4, c5, rfl⟩ := arr6 (hsz.trans cT)
  obtain ⟨fuel, hf⟩ := h
  obtain ⟨xs, m, _, hx, _, hl, hq⟩ := DataW.trod_struct Try.underlying25 hf
  match xs, hl with
  | [y0, y1, y2, y3], _ =>
    have q0' : DataW.trod enc Try.prog W base sp held m 3 (([c0, c1, c2, c3, c4, c5].drop 0).take (Try.prog.cellsOf 3)) = some y0 := hq 0 _ rfl
    rw [cI] at q0'
    have q0 : DataW.trod enc Try.prog W base sp held m 3 [c0] = some y0 := q0'
    have q1' : DataW.trod enc Try.prog W base sp held m 9 (([c0, c1, c2, c3, c4, c5].drop 1).take (Try.prog.cellsOf 9)) = some y1 := hq 1 _ rfl
    rw [cS] at q1'
    have q1 : DataW.trod enc Try.prog W base sp held m 9 [c1] = some y1 := q1'
    have q2' : DataW.trod enc Try.prog W base sp held m 23 (([c0, c1, c2, c3, c4, c5].drop 2).take (Try.prog.cellsOf 23)) = some y2 := hq 2 _ rfl
    rw [cR] at q2'
    have q2 : DataW.trod enc Try.prog W base sp held m 23 [c2, c3] = some y2 := q2'
    have q3' : DataW.trod enc Try.prog W base sp held m 23 (([c0, c1, c2, c3, c4, c5].drop 4).take (Try.prog.cellsOf 23)) = some y3 := hq 3 _ rfl
    rw [cR] at q3'
    have q3 : DataW.trod enc Try.prog W base sp held m 23 [c4, c5] = some y3 := q3'
    obtain ⟨k, ek, rfl, wk⟩ := DataW.trod_int Try.underlying3 q0
    obtain ⟨s, es, rfl, ws⟩ := DataW.trod_string Try.underlying9 q1
    obtain ⟨ys, m2, _, hy, _, hl2, hq2⟩ := DataW.trod_struct Try.underlying23 q2
    obtain ⟨zs, m3, _, hz, _, hl3, hq3⟩ := DataW.trod_struct Try.underlying23 q3
    match ys, hl2, zs, hl3 with
    | [u0, u1], _, [x0, x1], _ =>
      have r0' : DataW.trod enc Try.prog W base sp held m2 2 (([c2, c3].drop 0).take (Try.prog.cellsOf 2)) = some u0 := hq2 0 _ rfl
      rw [cL] at r0'
      have r0 : DataW.trod enc Try.prog W base sp held m2 2 [c2] = some u0 := r0'
      have r1' : DataW.trod enc Try.prog W base sp held m2 2 (([c2, c3].drop 1).take (Try.prog.cellsOf 2)) = some u1 := hq2 1 _ rfl
      rw [cL] at r1'
      have r1 : DataW.trod enc Try.prog W base sp held m2 2 [c3] = some u1 := r1'
      have s0' : DataW.trod enc Try.prog W base sp held m3 2 (([c4, c5].drop 0).take (Try.prog.cellsOf 2)) = some x0 := hq3 0 _ rfl
      rw [cL] at s0'
      have s0 : DataW.trod enc Try.prog W base sp held m3 2 [c4] = some x0 := s0'
      have s1' : DataW.trod enc Try.prog W base sp held m3 2 (([c4, c5].drop 1).take (Try.prog.cellsOf 2)) = some x1 := hq3 1 _ rfl
      rw [cL] at s1'
      have s1 : DataW.trod enc Try.prog W base sp held m3 2 [c5] = some x1 := s1'
      obtain ⟨n, en, rfl, wn⟩ := DataW.trod_int Try.underlying2 r0
      obtain ⟨d, ed, rfl, wd⟩ := DataW.trod_int Try.underlying2 r1
      obtain ⟨m', em, rfl, wm⟩ := DataW.trod_int Try.underlying2 s0
      obtain ⟨e, ee, rfl, we⟩ := DataW.trod_int Try.underlying2 s1
      simp at ek es en ed em ee
      subst ek es en ed em ee
      subst hy hz
      simp only [Prod.mk.injEq] at hx
      exact ⟨k, s, n, d, m', e, rfl, by rw [hx.1]; rfl, by rw [hx.2]; rfl, wk, ws, wn, wd, wm, we⟩
theorem box_shut {H : Type} {enc : TypeId × Value → H} {W : World} {base : Nat} {sp : Nat → Bool} {held : Bool} (k : Int) (s : ByteArray) (n d m e : Int) (wk : (Lit.int .i64 k).wf = true) (ws : s.size ≤ maxLen) (wn : (Lit.int .i64 n).wf = true) (wd : (Lit.int .i64 d).wf = true) (wm : (Lit.int .i64 m).wf = true) (we : (Lit.int .i64 e).wf = true) :
    DataW.Trod enc Try.prog W base sp held 25 (boxV k s n d m e) (boxD k s n d m e) [] := by
  refine ⟨4, ?_⟩
  simp [DataW.trod, boxV, boxD, Value.cells, Try.underlying25, Try.underlying23, Try.underlying3, Try.underlying2, Try.underlying9, cT, cR, cI, cL, cS, wk, ws, wn, wd, wm, we]
end Go.Proofs.Ytdmijejcifjaoaa
namespace Go.Proofs.Ytdmijejcifjaoaa.domMay
open Go.ChangeShapes Go.WideShapes Go.ChangeAt Go.RowKit Go.Joins Go.ChangeMaps
theorem own : ownKnob Try.prog.godebug = none := by kernel_rfl
set_option maxRecDepth 100000 in
theorem lifted (os : Os) (started : os.Started) (H : Type) (enc : TypeId × Value → H) :
    ReturnsInHanded {} Try.checked os 3 .any (Rows.domMaySpec.pre6 enc Try.prog Try.f3 Rows.domMayRow.domain false) (Rows.domMaySpec.post enc Try.prog Try.f3 false true false false) := by
  refine returnsInHanded_of_change (C := Try.checked) own started (by kernel_rfl) Try.func3
    (ChangeSpec.witness6 (enc := enc) (C := Try.checked) false ⟨#[], #[.agg #[.int .i64 0, .string ⟨#[]⟩, .int .i64 0, .int .i64 0, .int .i64 0, .int .i64 0], .string ⟨#[]⟩], []⟩ 8 (by kernel_rfl) (by kernel_rfl) (by kernel_rfl) (by kernel_rfl)) ?_
  intro W base args ds gs before hval0 hW hcnd _
  have hval : ∀ (j : Nat) t v, Try.f3.params[j]? = some t → args[j]? = some v → Value.okWide Try.prog W .any base t v := hval0
  have hW' := hW
  obtain ⟨p, q, hA0, hV, rfl, hfz, hnd⟩ := hW
  have hA : DataW.TrodAll enc Try.prog W 0 (fun _ => true) true Try.f3.params.toList args.toList ds p := hA0
  rw [Try.params3] at hA hval
  obtain ⟨v0, vs0, d0, ds0, p0, q0, hargs, rfl, rfl, h0, r0⟩ := trodAll_cons hA
  obtain ⟨v1, vs1, d1, ds1, p1, q1, rfl, rfl, rfl, h1, r1⟩ := trodAll_cons r0
  obtain ⟨rfl, rfl, rfl⟩ := trodAll_nil r1
  obtain rfl : args = #[v0, v1] := by cases args; simp_all
  obtain ⟨rfl, rfl⟩ := trodVars_none hV
  obtain ⟨k, s, n, d, m, e, rfl, rfl, rfl, wk, ws, wn, wd, wm, we⟩ := box_open (hval 0 25 v0 rfl rfl) h0
  obtain ⟨u, rfl, rfl, rfl, wu⟩ := open_string Try.underlying9 (hval 1 9 v1 rfl rfl) h1
  clear hA0 hval0
  simp only [List.append_nil] at hW'
  obtain ⟨x1, x2⟩ := bounds_i64 wk
  obtain ⟨x3, x4⟩ := bounds_i64 wn
  obtain ⟨x5, x6⟩ := bounds_i64 wd
  obtain ⟨x7, x8⟩ := bounds_i64 wm
  obtain ⟨x9, x10⟩ := bounds_i64 we
  refine (law_may8 k s n d m e u W x1 x2 ws x3 x4 x5 x6 x7 x8 x9 x10 wu).mono fun r W' ⟨he, bel⟩ => ?_
  subst he
  exact ⟨_, rfl, _, _, _, [], _, [], hW', trodAll_mk1 (shut_bool Try.underlying4 _), (trodAll_cons_mk (box_shut k s n d m e wk ws wn wd wm we) (trodAll_cons_mk (shut_string Try.underlying9 wu) trodAll_mk0)), rfl, bel.frame _, fun h => by cases h⟩
theorem over : Rows.domMayRow.holds Try.pinned (OpenSpec.ofChange Rows.domMaySpec) :=
  OpenClaim.holds_of_wide 3 Try.f3 rfl rfl rfl rfl rfl rfl rfl ⟨rfl, rfl, rfl, rfl, rfl⟩ rfl rfl rfl rfl rfl (by kernel_rfl) Try.func3 (by kernel_rfl)
    (of_decide_eq_true (by kernel_rfl)) (by unfold Func.isWrapper; first | (rw [if_pos (by decide +kernel)]; kernel_rfl) | (rw [if_neg (by decide +kernel)]; exact ⟨rfl, rfl⟩))
    (fun os started H enc _ => lifted os started H enc)
end Go.Proofs.Ytdmijejcifjaoaa.domMay
namespace Go.Proofs.Ytdmijejcifjaoaa
theorem domMay_holds : Rows.DomMaySaid := domMay.over
end Go.Proofs.Ytdmijejcifjaoaa
