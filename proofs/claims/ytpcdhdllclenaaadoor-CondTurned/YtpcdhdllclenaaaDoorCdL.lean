/-
  Comparisons, turned: the law.
-/
import Derived.Test.YtpcdhdllclenaaaDoorCdK
import Derived.Test.YtpcdhdllclenaaaDoorCdI
import Derived.Deep.RegionHeld3
set_option linter.unusedVariables false
set_option linter.unusedSimpArgs false
namespace Go.Proofs.YtpcdhdllclenaaaDoor.cd
open Go.RowKit

theorem cq_swap (n d m e : Int) : wk.cq m e n d = - wk.cq n d m e := by unfold wk.cq; exact wk.cm_swap _ _
theorem op3 {c : Int} (h : -1 ≤ c) (k : c ≤ 1) : c = -1 ∨ c = 0 ∨ c = 1 := by omega
theorem tu_all (n d m e : Int) : cmC 5 m e n d = cmC 1 n d m e ∧ cmC 4 m e n d = cmC 2 n d m e ∧ cmC 3 m e n d = cmC 3 n d m e ∧ orN 0 [cmC 1 n d m e, cmC 3 n d m e] = cmC 2 n d m e ∧ 2 - tr (cmC 1 n d m e) = cmC 4 n d m e ∧ 2 - tr (cmC 2 n d m e) = cmC 5 n d m e := by
  unfold cmC
  rw [Bool.and_comm (wk.isV m e), cq_swap n d m e]
  cases (wk.isV n d && wk.isV m e)
  · simp only [Bool.false_eq_true, if_false]; decide
  · have cb : -1 ≤ wk.cq n d m e ∧ wk.cq n d m e ≤ 1 := wk.cm_bd _ _
    rcases op3 cb.1 cb.2 with h | h | h <;> rw [h] <;> decide
theorem keep2 {w0 w' : World} {b : Nat} {u0 u1 : Value} {T : TypeId} (h : Below w0.heap.size w0 w') (P : w0.heap[b]? = some (.cells #[u0, u1] T)) : w'.cell? ⟨b, 0, none⟩ = some u0 ∧ w'.cell? ⟨b, 1, none⟩ = some u1 := by
  have hb : b < w0.heap.size := (Array.getElem?_eq_some_iff.1 P).1
  have P' := (h.block b hb).trans P
  exact ⟨by rw [row_blk P']; rfl, by rw [row_blk P']; rfl⟩
set_option maxRecDepth 100000 in
set_option maxHeartbeats 8000000 in
theorem law_turned (n d m e : Int) (w : World) (hn : wk.I64 n) (hd : wk.I64 d) (hm : wk.I64 m) (he : wk.I64 e) (hF : FO w) :
    Calls Tryd.prog 5 #[.agg #[.int .i64 n, .int .i64 d], .agg #[.int .i64 m, .int .i64 e]] w fun x w' => x = .returned (.bool true) ∧ Below w.heap.size w w' := by
  obtain ⟨e1, e2, e3, e4, e5, e6⟩ := tu_all n d m e
  have A1 := hide (fun (W : World) => cmpC_any 1 n d m e W hn hd hm he)
  have A2 := hide (fun (W : World) => cmpC_any 2 n d m e W hn hd hm he)
  have A3 := hide (fun (W : World) => cmpC_any 3 n d m e W hn hd hm he)
  have A4 := hide (fun (W : World) => cmpC_any 4 n d m e W hn hd hm he)
  have A5 := hide (fun (W : World) => cmpC_any 5 n d m e W hn hd hm he)
  have R5 := hide (fun (W : World) => cmpC_any 5 m e n d W hm he hn hd)
  have R4 := hide (fun (W : World) => cmpC_any 4 m e n d W hm he hn hd)
  have R3 := hide (fun (W : World) => cmpC_any 3 m e n d W hm he hn hd)
  rw [e1] at R5
  rw [e2] at R4
  rw [e3] at R3
  have O1 := hide (fun (W : World) (b : Nat) (T : TypeId) (hb : b = W.heap.size) => or2_low W b (cmC 1 n d m e) (cmC 3 n d m e) T hb)
  rw [e4] at O1
  have N1 := hide (fun (W : World) => notP_any (cmC 1 n d m e) W)
  have N2 := hide (fun (W : World) => notP_any (cmC 2 n d m e) W)
  rw [e5] at N1
  rw [e6] at N2
  generalize cmC 1 n d m e = r1 at *
  generalize cmC 2 n d m e = r2 at *
  generalize cmC 3 n d m e = r3 at *
  generalize cmC 4 n d m e = r4 at *
  generalize cmC 5 n d m e = r5 at *
  obtain ⟨w0, hw0⟩ : ∃ w0, (w.alloc (.cells #[.int .i64 n, .int .i64 d] 29)).alloc (.cells #[.int .i64 m, .int .i64 e] 29) = w0 := ⟨_, rfl⟩
  have S0 : w0.heap.size = w.heap.size + 2 := by rw [← hw0]; simp
  have B0 : Below w.heap.size w w0 := by rw [← hw0]; exact bplus (bplus (Below.refl _ _) _) _
  have P0 : w0.heap[w.heap.size]? = some (.cells #[.int .i64 n, .int .i64 d] 29) := by
    rw [← hw0]
    exact ((bplus (Below.refl _ _) _).block _ (by simp)).trans (heap_alloc_new w _)
  have P1 : w0.heap[w.heap.size + 1]? = some (.cells #[.int .i64 m, .int .i64 e] 29) := by
    rw [← hw0]
    have h := heap_alloc_new (w.alloc (.cells #[.int .i64 n, .int .i64 d] 29)) (.cells #[.int .i64 m, .int .i64 e] 29)
    simpa using h
  have KH := hide (fun (w' : World) (hQ : Below w0.heap.size w0 w') => show w'.cell? ⟨w.heap.size, 0, none⟩ = some (.int .i64 n) ∧ w'.cell? ⟨w.heap.size, 1, none⟩ = some (.int .i64 d) ∧ w'.cell? ⟨w.heap.size + 1, 0, none⟩ = some (.int .i64 m) ∧ w'.cell? ⟨w.heap.size + 1, 1, none⟩ = some (.int .i64 e) from
    ⟨(keep2 hQ P0).1, (keep2 hQ P0).2, (keep2 hQ P1).1, (keep2 hQ P1).2⟩)
  have CW := hide (fun (W : World) (h : Below w0.heap.size w0 W) => awake15_any W (hF.low (bto B0 h)))
  have HB0 := hide B0
  have HW0 := hide hw0
  clear B0 hw0 P0 P1 S0 hn hd hm he e1 e2 e3 e4 e5 e6 hF
  go_enter Tryd.func5, Tryd.ntmps5
  go_upto_region 1 with fail
  rw [HW0.out]
  go_region_held3 (fun w' => w'.cell? ⟨w.heap.size, 0, none⟩ = some (.int .i64 n) ∧ w'.cell? ⟨w.heap.size, 1, none⟩ = some (.int .i64 d) ∧ w'.cell? ⟨w.heap.size + 1, 0, none⟩ = some (.int .i64 m) ∧ w'.cell? ⟨w.heap.size + 1, 1, none⟩ = some (.int .i64 e))
    ((refine KH.out _ ?_; (repeat (first | exact Below.refl _ _ | (with_reducible refine Below.drew ?_) | (with_reducible refine below_drewN ?_ _) | (with_reducible refine bplus ?_ _) | (refine bto ?_ (by assumption)))); done))
    (first
      | (go_at_call 16; with_reducible refine (A1.out _).mono ?_; rintro _ wl1 ⟨rfl, hl1⟩)
      | (go_at_call 16; with_reducible refine (A2.out _).mono ?_; rintro _ wl2 ⟨rfl, hl2⟩)
      | (go_at_call 16; with_reducible refine (A3.out _).mono ?_; rintro _ wl3 ⟨rfl, hl3⟩)
      | (go_at_call 16; with_reducible refine (A4.out _).mono ?_; rintro _ wl4 ⟨rfl, hl4⟩)
      | (go_at_call 16; with_reducible refine (A5.out _).mono ?_; rintro _ wl5 ⟨rfl, hl5⟩))
  all_goals
    obtain ⟨q0, q1, q2, q3⟩ := KH.out wl5 (by repeat (first | exact Below.refl _ _ | (with_reducible refine Below.drew ?_) | (with_reducible refine below_drewN ?_ _) | (with_reducible refine bplus ?_ _) | (refine bto ?_ (by assumption))))
    go_wp2_with (first
      | (go_at_call 16; with_reducible refine (R5.out _).mono ?_; rintro _ wl6 ⟨rfl, hl6⟩; obtain ⟨v0, v1, v2, v3⟩ := KH.out wl6 (by repeat (first | exact Below.refl _ _ | (with_reducible refine Below.drew ?_) | (with_reducible refine below_drewN ?_ _) | (with_reducible refine bplus ?_ _) | (refine bto ?_ (by assumption)))))
      | (go_at_call 16; with_reducible refine (R4.out _).mono ?_; rintro _ wl7 ⟨rfl, hl7⟩; obtain ⟨x0, x1, x2, x3⟩ := KH.out wl7 (by repeat (first | exact Below.refl _ _ | (with_reducible refine Below.drew ?_) | (with_reducible refine below_drewN ?_ _) | (with_reducible refine bplus ?_ _) | (refine bto ?_ (by assumption)))))
      | (go_at_call 16; with_reducible refine (R3.out _).mono ?_; rintro _ wl8 ⟨rfl, hl8⟩)
      | (go_at_call 11; with_reducible refine (O1.out _ _ _ (by simp)).mono ?_; rintro _ wl9 ⟨rfl, hl9⟩)
      | (go_at_call 13; with_reducible refine (N1.out _).mono ?_; rintro _ wla ⟨rfl, rfl⟩)
      | (go_at_call 13; with_reducible refine (N2.out _).mono ?_; rintro _ wlb ⟨rfl, rfl⟩)
      | (go_at_call 15; refine (CW.out _ (by repeat (first | exact Below.refl _ _ | (with_reducible refine Below.drew ?_) | (with_reducible refine below_drewN ?_ _) | (with_reducible refine bplus ?_ _) | (refine bto ?_ (by assumption))))).mono ?_; rintro _ wlc ⟨rfl, hlc⟩))
    go_ret
    refine ⟨rfl, bto HB0.out ?_⟩
    repeat (first | exact Below.refl _ _ | (with_reducible refine Below.drew ?_) | (with_reducible refine below_drewN ?_ _) | (with_reducible refine bplus ?_ _) | (refine bto ?_ (by assumption)))
end Go.Proofs.YtpcdhdllclenaaaDoor.cd
