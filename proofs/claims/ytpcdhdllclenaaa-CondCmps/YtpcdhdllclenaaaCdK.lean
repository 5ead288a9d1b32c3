/-
  A comparison of two fractions, by the program: its truth.
-/
import Derived.Test.YtpcdhdllclenaaaCdA
import Derived.Test.YtpcdhdllclenaaaWkD
set_option linter.unusedVariables false
set_option linter.unusedSimpArgs false
namespace Go.Proofs.Ytpcdhdllclenaaa.cd
open Go.RowKit

def kn (c : Bool) : Int := if c then 2 else 0
/-- What the comparison op comes to where the two compare as c. -/
def opC (op c : Int) : Int := if op = 1 then kn (decide (c < 0)) else if op = 2 then kn (decide (c ≤ 0)) else if op = 3 then kn (decide (c = 0)) else if op = 4 then kn (decide (0 ≤ c)) else if op = 5 then kn (decide (0 < c)) else 1
/-- A comparison's truth. -/
def cmC (op n d m e : Int) : Int := if wk.isV n d && wk.isV m e then opC op (wk.cq n d m e) else 1
theorem known_any (c : Bool) (w : World) : Calls Try.prog 7 #[.bool c] w fun e w' => e = .returned (.int .i64 (kn c)) ∧ w' = w := by
  cases c
  all_goals
    go_enter Try.func7, Try.ntmps7
    go_wp2
    go_ret
    exact ⟨rfl, rfl⟩
set_option maxRecDepth 100000 in
set_option maxHeartbeats 4000000 in
theorem cmpC_any (op n d m e : Int) (w : World) (hn : wk.I64 n) (hd : wk.I64 d) (hm : wk.I64 m) (he : wk.I64 e) :
    Calls Try.prog 4 #[.int .i64 op, .agg #[.int .i64 n, .int .i64 d], .agg #[.int .i64 m, .int .i64 e]] w fun x w' => x = .returned (.int .i64 (cmC op n d m e)) ∧ Below w.heap.size w w' := by
  have C := hide (fun (W : World) => wk.cmp_any n d m e W hn hd hm he)
  have K := hide (fun (c : Bool) (W : World) => known_any c W)
  have B0 := hide (bplus (bplus (Below.refl w.heap.size w) (.cells #[.int .i64 n, .int .i64 d] 23)) (.cells #[.int .i64 m, .int .i64 e] 23))
  by_cases hv : (wk.isV n d && wk.isV m e) = true
  case neg =>
    have F := hide (show cmC op n d m e = 1 by unfold cmC; rw [if_neg hv])
    unfold wk.cmpR at C
    rw [if_neg hv] at C
    clear hv
    go_enter Try.func4, Try.ntmps4
    go_wp2_with (go_at_call 6; refine (C.out _).mono ?_; rintro _ wl ⟨rfl, hl⟩; replace hl := hide hl.1)
    go_ret
    exact ⟨ret_int F.out.symm, bto B0.out hl.out⟩
  have F := hide (show cmC op n d m e = opC op (wk.cq n d m e) by unfold cmC; rw [if_pos hv])
  unfold wk.cmpR at C
  rw [if_pos hv] at C
  have cb : -1 ≤ wk.cq n d m e ∧ wk.cq n d m e ≤ 1 := wk.cm_bd _ _
  generalize wk.cq n d m e = c at *
  clear hv
  have hc3 : c = -1 ∨ c = 0 ∨ c = 1 := by omega
  clear cb hn hd hm he
  rcases (show op = 1 ∨ op = 2 ∨ op = 3 ∨ op = 4 ∨ op = 5 ∨ (¬ op = 1 ∧ ¬ op = 2 ∧ ¬ op = 3 ∧ ¬ op = 4 ∧ ¬ op = 5) by omega) with rfl | rfl | rfl | rfl | rfl | ⟨g1, g2, g3, g4, g5⟩
  case inr.inr.inr.inr.inr =>
    have h1 : (op == 1) = false := by simpa using g1
    have h2 : (op == 2) = false := by simpa using g2
    have h3 : (op == 3) = false := by simpa using g3
    have h4 : (op == 4) = false := by simpa using g4
    have h5 : (op == 5) = false := by simpa using g5
    have F2 := hide (show cmC op n d m e = 1 by rw [F.out]; unfold opC; simp [g1, g2, g3, g4, g5])
    clear F hc3
    go_enter Try.func4, Try.ntmps4
    go_wp2_with (go_at_call 6; refine (C.out _).mono ?_; rintro _ wl ⟨rfl, hl⟩; replace hl := hide hl.1)
    go_ret
    exact ⟨ret_int F2.out.symm, bto B0.out hl.out⟩
  all_goals
    rcases hc3 with rfl | rfl | rfl
    all_goals
      go_enter Try.func4, Try.ntmps4
      go_wp2_with (first
        | (go_at_call 6; refine (C.out _).mono ?_; rintro _ wl ⟨rfl, hl⟩; replace hl := hide hl.1)
        | (go_at_call 7; refine (K.out _ _).mono ?_; rintro _ wl2 ⟨rfl, rfl⟩))
      go_ret
      exact ⟨ret_int F.out.symm, bto B0.out hl.out⟩
end Go.Proofs.Ytpcdhdllclenaaa.cd
