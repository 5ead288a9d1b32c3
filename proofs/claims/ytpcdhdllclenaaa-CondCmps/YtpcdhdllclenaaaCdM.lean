/-
  A comparison of two fractions: by the reference; the law.
-/
import Derived.Test.YtpcdhdllclenaaaCdK
import Derived.Test.YtpcdhdllclenaaaWkD2
import Derived.Deep.RegionHeld3
import Derived.Deep.DeepCutAuto
set_option linter.unusedVariables false
set_option linter.unusedSimpArgs false
namespace Go.Proofs.Ytpcdhdllclenaaa.cd
open Go.RowKit

set_option maxRecDepth 100000 in
set_option maxHeartbeats 8000000 in
theorem cmpCR_any (op n d m e : Int) (w : World) (hn : wk.I64 n) (hd : wk.I64 d) (hm : wk.I64 m) (he : wk.I64 e) :
    Calls Try.prog 5 #[.int .i64 op, .agg #[.int .i64 n, .int .i64 d], .agg #[.int .i64 m, .int .i64 e]] w fun x w' => x = .returned (.int .i64 (cmC op n d m e)) ∧ Below w.heap.size w w' := by
  have C := hide (fun (W : World) => wk.rcmp_any n d m e W hn hd hm he)
  have B0 := hide (bplus (bplus (Below.refl w.heap.size w) (.cells #[.int .i64 n, .int .i64 d] 23)) (.cells #[.int .i64 m, .int .i64 e] 23))
  by_cases hv : (wk.isV n d && wk.isV m e) = true
  case neg =>
    have F := hide (show cmC op n d m e = 1 by unfold cmC; rw [if_neg hv])
    unfold wk.cmpR at C
    rw [if_neg hv] at C
    clear hv
    go_enter Try.func5, Try.ntmps5
    go_wp2_with (go_at_call 8; refine (C.out _).mono ?_; rintro _ wl ⟨rfl, hl⟩; replace hl := hide hl.1)
    go_ret
    exact ⟨ret_int F.out.symm, bto B0.out hl.out⟩
  have F := hide (show cmC op n d m e = opC op (wk.cq n d m e) by unfold cmC; rw [if_pos hv])
  unfold wk.cmpR at C
  rw [if_pos hv] at C
  have cb : -1 ≤ wk.cq n d m e ∧ wk.cq n d m e ≤ 1 := wk.cm_bd _ _
  generalize wk.cq n d m e = c at *
  clear hv
  have hc3 : c = -1 ∨ c = 0 ∨ c = 1 := by omega
  clear cb hn hd hm he
  rcases (show op = 1 ∨ op = 2 ∨ op = 3 ∨ op = 4 ∨ op = 5 ∨ op < 1 ∨ 5 < op by omega) with rfl | rfl | rfl | rfl | rfl | g | g
  case inr.inr.inr.inr.inr.inl =>
    have F2 := hide (show cmC op n d m e = 1 by rw [F.out]; unfold opC; repeat rw [if_neg (by omega)])
    clear F hc3
    go_enter Try.func5, Try.ntmps5
    go_wp2_with (go_at_call 8; refine (C.out _).mono ?_; rintro _ wl ⟨rfl, hl⟩; replace hl := hide hl.1)
    go_ret
    exact ⟨ret_int F2.out.symm, bto B0.out hl.out⟩
  case inr.inr.inr.inr.inr.inr =>
    have g1 : 1 ≤ op := by omega
    have F2 := hide (show cmC op n d m e = 1 by rw [F.out]; unfold opC; repeat rw [if_neg (by omega)])
    clear F hc3
    go_enter Try.func5, Try.ntmps5
    go_wp2_with (go_at_call 8; refine (C.out _).mono ?_; rintro _ wl ⟨rfl, hl⟩; replace hl := hide hl.1)
    go_ret
    exact ⟨ret_int F2.out.symm, bto B0.out hl.out⟩
  all_goals
    rcases hc3 with rfl | rfl | rfl
    all_goals
      go_enter Try.func5, Try.ntmps5
      go_wp2_with (go_at_call 8; refine (C.out _).mono ?_; rintro _ wl ⟨rfl, hl⟩; replace hl := hide hl.1)
      go_ret
      exact ⟨ret_int F.out.symm, bto B0.out hl.out⟩
theorem keep2' {w0 w' : World} {b : Nat} {u0 u1 : Value} {T : TypeId} (h : Below w0.heap.size w0 w') (P : w0.heap[b]? = some (.cells #[u0, u1] T)) : w'.cell? ⟨b, 0, none⟩ = some u0 ∧ w'.cell? ⟨b, 1, none⟩ = some u1 := by
  have hb : b < w0.heap.size := (Array.getElem?_eq_some_iff.1 P).1
  have P' := (h.block b hb).trans P
  exact ⟨by rw [row_blk P']; rfl, by rw [row_blk P']; rfl⟩
theorem half : cmC 2 1 2 1 2 = 2 := by decide +kernel
set_option maxRecDepth 100000 in
set_option maxHeartbeats 8000000 in
theorem law_ccmps (op n d m e : Int) (w : World) (hn : wk.I64 n) (hd : wk.I64 d) (hm : wk.I64 m) (he : wk.I64 e) :
    Calls Try.prog 3 #[.int .i64 op, .agg #[.int .i64 n, .int .i64 d], .agg #[.int .i64 m, .int .i64 e]] w fun x w' => x = .returned (.bool true) ∧ Below w.heap.size w w' := by
  have A1 := hide (fun (W : World) => cmpC_any op n d m e W hn hd hm he)
  have A2 := hide (fun (W : World) => cmpCR_any op n d m e W hn hd hm he)
  have A3 := hide (fun (W : World) => cmpC_any 2 1 2 1 2 W ⟨by decide, by decide⟩ ⟨by decide, by decide⟩ ⟨by decide, by decide⟩ ⟨by decide, by decide⟩)
  rw [half] at A3
  generalize cmC op n d m e = r1 at *
  obtain ⟨w0, hw0⟩ : ∃ w0, (w.alloc (.cells #[.int .i64 n, .int .i64 d] 23)).alloc (.cells #[.int .i64 m, .int .i64 e] 23) = w0 := ⟨_, rfl⟩
  have B0 : Below w.heap.size w w0 := by rw [← hw0]; exact bplus (bplus (Below.refl _ _) _) _
  have P0 : w0.heap[w.heap.size]? = some (.cells #[.int .i64 n, .int .i64 d] 23) := by
    rw [← hw0]
    exact ((bplus (Below.refl _ _) _).block _ (by simp)).trans (heap_alloc_new w _)
  have P1 : w0.heap[w.heap.size + 1]? = some (.cells #[.int .i64 m, .int .i64 e] 23) := by
    rw [← hw0]
    have h := heap_alloc_new (w.alloc (.cells #[.int .i64 n, .int .i64 d] 23)) (.cells #[.int .i64 m, .int .i64 e] 23)
    simpa using h
  have KH := hide (fun (w' : World) (hQ : Below w0.heap.size w0 w') => show w'.cell? ⟨w.heap.size, 0, none⟩ = some (.int .i64 n) ∧ w'.cell? ⟨w.heap.size, 1, none⟩ = some (.int .i64 d) ∧ w'.cell? ⟨w.heap.size + 1, 0, none⟩ = some (.int .i64 m) ∧ w'.cell? ⟨w.heap.size + 1, 1, none⟩ = some (.int .i64 e) from
    ⟨(keep2' hQ P0).1, (keep2' hQ P0).2, (keep2' hQ P1).1, (keep2' hQ P1).2⟩)
  have HB0 := hide B0
  have HW0 := hide hw0
  clear B0 hw0 P0 P1 hn hd hm he
  go_enter Try.func3, Try.ntmps3
  go_upto_region 1 with fail
  rw [HW0.out]
  go_region_held3 (fun w' => w'.cell? ⟨w.heap.size, 0, none⟩ = some (.int .i64 n) ∧ w'.cell? ⟨w.heap.size, 1, none⟩ = some (.int .i64 d) ∧ w'.cell? ⟨w.heap.size + 1, 0, none⟩ = some (.int .i64 m) ∧ w'.cell? ⟨w.heap.size + 1, 1, none⟩ = some (.int .i64 e))
    ((refine KH.out _ ?_; (repeat (first | exact Below.refl _ _ | (with_reducible refine Below.drew ?_) | (with_reducible refine below_drewN ?_ _) | (with_reducible refine bplus ?_ _) | (refine bto ?_ (by assumption)))); done))
    (first
      | (go_at_call 4; with_reducible refine (A1.out _).mono ?_; rintro _ wl1 ⟨rfl, hl1⟩)
      | (go_at_call 5; with_reducible refine (A2.out _).mono ?_; rintro _ wl2 ⟨rfl, hl2⟩)
      | (go_at_call 4; with_reducible refine (A3.out _).mono ?_; rintro _ wl3 ⟨rfl, hl3⟩))
  all_goals
    go_wp2
    go_ret
    refine ⟨rfl, bto HB0.out ?_⟩
    repeat (first | exact Below.refl _ _ | (with_reducible refine Below.drew ?_) | (with_reducible refine below_drewN ?_ _) | (with_reducible refine bplus ?_ _) | (refine bto ?_ (by assumption)))
end Go.Proofs.Ytpcdhdllclenaaa.cd
