/-
  For all fractions a, b and c, whatever they are: the order goes on, it is turned by turning signs, what is added to both does not turn it, the same are the same, and the least and the greatest of the three are among them. No condition.
-/
import Derived.Test.YtjeflecigeamnaaWalksYb
import Derived.WalkKit
import Derived.ProofKit
import Derived.OpenShut
import Derived.Lib.SmallJoins
namespace Go.Proofs.Ytjeflecigeamnaa.ratOrder
open Go.ChangeShapes Go.WideShapes Go.ChangeAt Go.RowKit Go.Joins
set_option linter.unusedVariables false

theorem own : ownKnob Try.prog.godebug = none := by kernel_rfl
theorem cellsR : Try.prog.cellsOf 23 = 2 := by kernel_rfl
theorem ratReads {H : Type} {enc : TypeId × Value → H} (a b : Int) (wa : (Lit.int .i64 a).wf = true) (wb : (Lit.int .i64 b).wf = true) (W' : World) (sp : Nat → Bool) : DataW.Trod enc Try.prog W' 0 sp true 23 (.agg #[.int .i64 a, .int .i64 b]) (.agg [.lit (.int .i64 a), .lit (.int .i64 b)]) [] :=
  shut_agg2 (y0 := (.lit (.int .i64 a), [])) (y1 := (.lit (.int .i64 b), [])) Try.underlying23 (by kernel_rfl) cellsR ⟨1, by simp [DataW.trod, Try.underlying2, wa]⟩ ⟨1, by simp [DataW.trod, Try.underlying2, wb]⟩
set_option maxRecDepth 100000 in
theorem lifted (os : Os) (started : os.Started) (H : Type) (enc : TypeId × Value → H) :
    ReturnsInHanded {} Try.checked os 3 .any (Rows.ratOrderSpec.pre6 enc Try.prog Try.f3 Rows.ratOrderRow.domain false) (Rows.ratOrderSpec.post enc Try.prog Try.f3 false true false false) := by
  refine returnsInHanded_of_change (C := Try.checked) own started (by kernel_rfl) Try.func3
    (ChangeSpec.witness6 (enc := enc) (C := Try.checked) false ⟨#[], #[.agg #[.int .i64 0, .int .i64 0], .agg #[.int .i64 0, .int .i64 0], .agg #[.int .i64 0, .int .i64 0]], []⟩ 8 (by kernel_rfl) (by kernel_rfl) (by kernel_rfl) (by kernel_rfl)) ?_
  intro W base args ds gs before hval0 hW hcnd _
  have hval : ∀ (j : Nat) t v, Try.f3.params[j]? = some t → args[j]? = some v → Value.okWide Try.prog W .any base t v := hval0
  have hW' := hW
  obtain ⟨p, q, hA0, hV, rfl, hfz, hnd⟩ := hW
  have hA : DataW.TrodAll enc Try.prog W 0 (fun _ => true) true Try.f3.params.toList args.toList ds p := hA0
  rw [Try.params3] at hA hval
  obtain ⟨v0, vs0, d0, ds0, p0, q0, hargs, rfl, rfl, h0, r0⟩ := trodAll_cons hA
  obtain ⟨v1, vs1, d1, ds1, p1, q1, rfl, rfl, rfl, h1, r1⟩ := trodAll_cons r0
  obtain ⟨v2, vs2, d2, ds2, p2, q2, rfl, rfl, rfl, h2, r2⟩ := trodAll_cons r1
  obtain ⟨rfl, rfl, rfl⟩ := trodAll_nil r2
  obtain rfl : args = #[v0, v1, v2] := by cases args; simp_all
  obtain ⟨rfl, rfl⟩ := trodVars_none hV
  obtain ⟨c0a, c0b, y0a, y0b, m0, rfl, rfl, rfl, hy0a, hy0b⟩ := open_agg2 Try.underlying23 (by kernel_rfl) cellsR (hval 0 23 v0 rfl rfl) h0
  obtain ⟨n0, en0, rfl, wn0⟩ := DataW.trod_int Try.underlying2 hy0a
  obtain ⟨e0, ed0, rfl, we0⟩ := DataW.trod_int Try.underlying2 hy0b
  simp at en0 ed0
  subst en0 ed0
  obtain ⟨c1a, c1b, y1a, y1b, m1, rfl, rfl, rfl, hy1a, hy1b⟩ := open_agg2 Try.underlying23 (by kernel_rfl) cellsR (hval 1 23 v1 rfl rfl) h1
  obtain ⟨n1, en1, rfl, wn1⟩ := DataW.trod_int Try.underlying2 hy1a
  obtain ⟨e1, ed1, rfl, we1⟩ := DataW.trod_int Try.underlying2 hy1b
  simp at en1 ed1
  subst en1 ed1
  obtain ⟨c2a, c2b, y2a, y2b, m2, rfl, rfl, rfl, hy2a, hy2b⟩ := open_agg2 Try.underlying23 (by kernel_rfl) cellsR (hval 2 23 v2 rfl rfl) h2
  obtain ⟨n2, en2, rfl, wn2⟩ := DataW.trod_int Try.underlying2 hy2a
  obtain ⟨e2, ed2, rfl, we2⟩ := DataW.trod_int Try.underlying2 hy2b
  simp at en2 ed2
  subst en2 ed2
  clear hA0 hval0
  simp only [List.append_nil] at hW'
  refine (law_order n0 e0 n1 e1 n2 e2 W (bounds_i64 wn0) (bounds_i64 we0) (bounds_i64 wn1) (bounds_i64 we1) (bounds_i64 wn2) (bounds_i64 we2)).mono fun e W' ⟨he, hup⟩ => ?_
  have hg := hup.grown
  subst he
  exact ⟨_, rfl, post_of_same (pa := []) (pv := []) hW' (fun _ _ _ => (trodAll_cons_mk (shut_bool Try.underlying4 _) trodAll_mk0)) (fun sp _ => (trodAll_cons_mk (ratReads n0 e0 wn0 we0 _ sp) (trodAll_cons_mk (ratReads n1 e1 wn1 we1 _ sp) (trodAll_cons_mk (ratReads n2 e2 wn2 we2 _ sp) trodAll_mk0)))) (fun _ _ => rfl) rfl
    (hg.frame _) hg.2.1 (ok_one (by kernel_rfl) rfl (okWide_bool_mk Try.underlying4 _))⟩
theorem over : Rows.ratOrderRow.holds Try.pinned (OpenSpec.ofChange Rows.ratOrderSpec) :=
  OpenClaim.holds_of_wide 3 Try.f3 rfl rfl rfl rfl rfl rfl rfl ⟨rfl, rfl, rfl, rfl, rfl⟩ rfl rfl rfl rfl rfl (by kernel_rfl) Try.func3 (by kernel_rfl)
    (of_decide_eq_true (by kernel_rfl)) (by unfold Func.isWrapper; first | (rw [if_pos (by decide +kernel)]; kernel_rfl) | (rw [if_neg (by decide +kernel)]; exact ⟨rfl, rfl⟩))
    (fun os started H enc _ => lifted os started H enc)
end Go.Proofs.Ytjeflecigeamnaa.ratOrder
namespace Go.Proofs.Ytjeflecigeamnaa
theorem ratOrder_holds : Rows.RatOrderSaid := ratOrder.over
end Go.Proofs.Ytjeflecigeamnaa
