/-
  The walk of the statement RatCmps.
-/
import Derived.Test.YtlgbagcgfoejhaaWalksD2
set_option linter.unusedVariables false
namespace Go.Proofs.Ytlgbagcgfoejhaa
open Go.RowKit

theorem cmpR_form (n d m e : Int) : ∃ k b, cmpR n d m e = .tuple #[.int .i64 k, .bool b] := by
  unfold cmpR; split
  · exact ⟨_, _, rfl⟩
  · exact ⟨_, _, rfl⟩
theorem cmpR_one : cmpR 1 2 1 3 = .tuple #[.int .i64 1, .bool true] := by
  have h1 : isV 1 2 = true := by decide
  have h2 : isV 1 3 = true := by decide
  unfold cmpR; rw [h1, h2]; rfl
set_option maxHeartbeats 1000000 in
theorem law_cmps (n d m e : Int) (w : World) (hn : I64 n) (hd : I64 d) (hm : I64 m) (he : I64 e) :
    Calls Try.prog 8 #[.agg #[.int .i64 n, .int .i64 d], .agg #[.int .i64 m, .int .i64 e]] w fun x w' => x = .returned (.bool true) ∧ Up w w' := by
  obtain ⟨k, b, hk⟩ := cmpR_form n d m e
  have hk1 := cmpR_one
  have HK : Hid _ := hk
  have HK1 : Hid _ := hk1
  clear hk hk1
  go_enter Try.func8, Try.ntmps8
  go_wp2_with (first
    | (go_at_call 25; refine (rcmp_any n d m e _ hn hd hm he).mono ?_; rintro _ wa ⟨rfl, ha⟩; have hca := ha.cell; have hza := ha.past (k := w.heap.size + 1) (by first | assumption | (simp; done) | (simp; omega)); have hzb := ha.past (k := w.heap.size) (by first | assumption | (simp; done) | (simp; omega)); simp only [HK.out])
    | (go_at_call_of 24 (Value.agg #[.int .i64 n, .int .i64 d]); refine (cmp_any n d m e _ hn hd hm he).mono ?_; rintro _ wa ⟨rfl, ha⟩; have hca := ha.cell; have hza := ha.past (k := w.heap.size + 1) (by first | assumption | (simp; done) | (simp; omega)); have hzb := ha.past (k := w.heap.size) (by first | assumption | (simp; done) | (simp; omega)); simp only [HK.out])
    | (go_at_call 24; refine (cmp_any 1 2 1 3 _ (by unfold I64; omega) (by unfold I64; omega) (by unfold I64; omega) (by unfold I64; omega)).mono ?_; rintro _ wa ⟨rfl, ha⟩; simp only [HK1.out]))
  go_ret
  exact ⟨by simp, by repeat (first | exact Up.refl _ | apply Up.alloc | apply Up.drewN | apply Up.drew | (refine Up.trans ?_ (by assumption)))⟩
end Go.Proofs.Ytlgbagcgfoejhaa
