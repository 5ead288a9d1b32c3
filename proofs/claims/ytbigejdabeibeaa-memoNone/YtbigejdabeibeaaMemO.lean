/-
  A cell without a function; nil cells, counts and boxes: the law.
-/
import Derived.Test.YtbigejdabeibeaaMemN
set_option linter.unusedVariables false
set_option linter.unusedSimpArgs false
namespace Go.Proofs.Ytbigejdabeibeaa
open Go.RowKit

set_option maxRecDepth 100000 in
set_option maxHeartbeats 4000000 in
theorem law_none (n by_ value : Int) (w : World) :
    Calls Try.prog 4 #[.int .i64 n, .int .i64 by_, .int .i64 value] w fun e w' => e = .returned (.bool true) ∧ Ch (fun _ => False) w w' := by
  have hnot : ∀ (x : Bool) (w : World), (Op.unary .not (.bool x)).run Try.prog w = .ok (.bool (!x)) w := fun _ _ => rfl
  have CN := hide new_nil
  have CD := hide done_any
  have CG := hide get_nil
  have CR := hide runs_any
  have CL := hide (fun b v n h => crowd_low b v n by_ h)
  have CV := hide value_any
  have VN := hide value_nil
  have AN := hide add_nil
  have CW := hide crowd_nil
  have BP := hide boxi_put
  have BG := hide boxi_get
  have BS := hide boxi_swap
  have SG := hide cs_get
  have SD := hide cs_done
  have SR := hide cs_runs
  have ST := hide cs_together
  have AW := hide awake7
  have AL := hide (fun (w1 : World) => And.intro (show CountAt (w1.alloc (.cells #[.int .i64 0] 37)) w1.heap.size 0 from ⟨by simp, by simp⟩) ((Ch.refl (fun _ => False) w1).alloc (.cells #[.int .i64 0] 37)))
  by_cases hn : n < 0
  · have hn5 : n < 50 := by omega
    go_enter Try.func4, Try.ntmps4
    go_wp2_with (first
      | (go_at_call 9; refine (CN.out _).mono ?_; rintro e w1 ⟨rfl, A1, C1⟩; replace A1 := hide A1; replace C1 := hide C1)
      | (go_at_call 12; refine (CD.out _ _ _ _ _ _ _ _ A1.out).mono ?_; rintro e w2 ⟨rfl, rfl⟩)
      | (go_at_call 11; refine (CG.out _ _ _ A1.out).mono ?_; rintro e w3 ⟨rfl, A3, C3⟩; replace A1 := hide A3; replace C1 := hide (C1.out.transN C3 (fun i hi e => by omega)); clear A3 C3)
      | (go_at_call 13; refine (CR.out _ _ _ _ _ _ _ _ A1.out).mono ?_; rintro e w4 ⟨rfl, rfl⟩)
      | (go_at_call_of 16 (Value.pointer none); refine (CW.out _ _ _).mono ?_; rintro e w5 ⟨rfl, C5⟩; replace C1 := hide (C1.out.trans C5); clear C5)
      | (go_at_call 16; refine (CL.out _ _ _ (by omega) _ (AL.out _).1).mono ?_; rintro e w5 ⟨rfl, C5⟩; have A5 := hide ((AL.out _).1.ch C5 (fun f => f)); replace C1 := hide (C1.out.trans ((AL.out _).2.trans C5)); clear C5)
      | (go_at_call_of 17 (Value.pointer none); refine (VN.out _).mono ?_; rintro e w6 ⟨rfl, rfl⟩)
      | (go_at_call 17; refine (CV.out _ _ _ A5.out).mono ?_; rintro e w6 ⟨rfl, rfl⟩)
      | (go_at_call 25; refine (AN.out _ _).mono ?_; rintro e w6 ⟨rfl, rfl⟩)
      | (go_at_call 18; refine (BP.out _ _).mono ?_; rintro e w7 ⟨rfl, C5⟩; replace C1 := hide (C1.out.trans C5); clear C5)
      | (go_at_call 19; refine (BG.out _).mono ?_; rintro e w6 ⟨rfl, rfl⟩)
      | (go_at_call 20; refine (BS.out _ _).mono ?_; rintro e w7 ⟨rfl, C5⟩; replace C1 := hide (C1.out.trans C5); clear C5)
      | (go_at_call 21; refine (SG.out _).mono ?_; rintro e w6 ⟨rfl, rfl⟩)
      | (go_at_call 22; refine (SD.out _).mono ?_; rintro e w6 ⟨rfl, rfl⟩)
      | (go_at_call 23; refine (SR.out _).mono ?_; rintro e w6 ⟨rfl, rfl⟩)
      | (go_at_call 24; refine (ST.out _ _).mono ?_; rintro e w7 ⟨rfl, C5⟩; replace C1 := hide (C1.out.trans C5); clear C5)
      | (go_at_call 15; refine (AW.out _).mono ?_; rintro e w7 ⟨rfl, C5⟩; replace C1 := hide (C1.out.trans C5); clear C5))
    go_ret
    exact ⟨rfl, C1.out⟩
  by_cases h0 : n = 0
  · subst h0
    clear hn
    go_enter Try.func4, Try.ntmps4
    go_wp2_with (first
      | (go_at_call 9; refine (CN.out _).mono ?_; rintro e w1 ⟨rfl, A1, C1⟩; replace A1 := hide A1; replace C1 := hide C1)
      | (go_at_call 12; refine (CD.out _ _ _ _ _ _ _ _ A1.out).mono ?_; rintro e w2 ⟨rfl, rfl⟩)
      | (go_at_call 11; refine (CG.out _ _ _ A1.out).mono ?_; rintro e w3 ⟨rfl, A3, C3⟩; replace A1 := hide A3; replace C1 := hide (C1.out.transN C3 (fun i hi e => by omega)); clear A3 C3)
      | (go_at_call 13; refine (CR.out _ _ _ _ _ _ _ _ A1.out).mono ?_; rintro e w4 ⟨rfl, rfl⟩)
      | (go_at_call_of 16 (Value.pointer none); refine (CW.out _ _ _).mono ?_; rintro e w5 ⟨rfl, C5⟩; replace C1 := hide (C1.out.trans C5); clear C5)
      | (go_at_call 16; refine (CL.out _ _ _ (by omega) _ (AL.out _).1).mono ?_; rintro e w5 ⟨rfl, C5⟩; have A5 := hide ((AL.out _).1.ch C5 (fun f => f)); replace C1 := hide (C1.out.trans ((AL.out _).2.trans C5)); clear C5)
      | (go_at_call_of 17 (Value.pointer none); refine (VN.out _).mono ?_; rintro e w6 ⟨rfl, rfl⟩)
      | (go_at_call 17; refine (CV.out _ _ _ A5.out).mono ?_; rintro e w6 ⟨rfl, rfl⟩)
      | (go_at_call 25; refine (AN.out _ _).mono ?_; rintro e w6 ⟨rfl, rfl⟩)
      | (go_at_call 18; refine (BP.out _ _).mono ?_; rintro e w7 ⟨rfl, C5⟩; replace C1 := hide (C1.out.trans C5); clear C5)
      | (go_at_call 19; refine (BG.out _).mono ?_; rintro e w6 ⟨rfl, rfl⟩)
      | (go_at_call 20; refine (BS.out _ _).mono ?_; rintro e w7 ⟨rfl, C5⟩; replace C1 := hide (C1.out.trans C5); clear C5)
      | (go_at_call 21; refine (SG.out _).mono ?_; rintro e w6 ⟨rfl, rfl⟩)
      | (go_at_call 22; refine (SD.out _).mono ?_; rintro e w6 ⟨rfl, rfl⟩)
      | (go_at_call 23; refine (SR.out _).mono ?_; rintro e w6 ⟨rfl, rfl⟩)
      | (go_at_call 24; refine (ST.out _ _).mono ?_; rintro e w7 ⟨rfl, C5⟩; replace C1 := hide (C1.out.trans C5); clear C5)
      | (go_at_call 15; refine (AW.out _).mono ?_; rintro e w7 ⟨rfl, C5⟩; replace C1 := hide (C1.out.trans C5); clear C5))
    go_ret
    exact ⟨rfl, C1.out⟩
  have hp : 0 < n := by omega
  have hge : 0 ≤ n := by omega
  by_cases h5 : n < 50
  · go_enter Try.func4, Try.ntmps4
    go_wp2_with (first
      | (go_at_call 9; refine (CN.out _).mono ?_; rintro e w1 ⟨rfl, A1, C1⟩; replace A1 := hide A1; replace C1 := hide C1)
      | (go_at_call 12; refine (CD.out _ _ _ _ _ _ _ _ A1.out).mono ?_; rintro e w2 ⟨rfl, rfl⟩)
      | (go_at_call 11; refine (CG.out _ _ _ A1.out).mono ?_; rintro e w3 ⟨rfl, A3, C3⟩; replace A1 := hide A3; replace C1 := hide (C1.out.transN C3 (fun i hi e => by omega)); clear A3 C3)
      | (go_at_call 13; refine (CR.out _ _ _ _ _ _ _ _ A1.out).mono ?_; rintro e w4 ⟨rfl, rfl⟩)
      | (go_at_call_of 16 (Value.pointer none); refine (CW.out _ _ _).mono ?_; rintro e w5 ⟨rfl, C5⟩; replace C1 := hide (C1.out.trans C5); clear C5)
      | (go_at_call 16; refine (CL.out _ _ _ (by omega) _ (AL.out _).1).mono ?_; rintro e w5 ⟨rfl, C5⟩; have A5 := hide ((AL.out _).1.ch C5 (fun f => f)); replace C1 := hide (C1.out.trans ((AL.out _).2.trans C5)); clear C5)
      | (go_at_call_of 17 (Value.pointer none); refine (VN.out _).mono ?_; rintro e w6 ⟨rfl, rfl⟩)
      | (go_at_call 17; refine (CV.out _ _ _ A5.out).mono ?_; rintro e w6 ⟨rfl, rfl⟩)
      | (go_at_call 25; refine (AN.out _ _).mono ?_; rintro e w6 ⟨rfl, rfl⟩)
      | (go_at_call 18; refine (BP.out _ _).mono ?_; rintro e w7 ⟨rfl, C5⟩; replace C1 := hide (C1.out.trans C5); clear C5)
      | (go_at_call 19; refine (BG.out _).mono ?_; rintro e w6 ⟨rfl, rfl⟩)
      | (go_at_call 20; refine (BS.out _ _).mono ?_; rintro e w7 ⟨rfl, C5⟩; replace C1 := hide (C1.out.trans C5); clear C5)
      | (go_at_call 21; refine (SG.out _).mono ?_; rintro e w6 ⟨rfl, rfl⟩)
      | (go_at_call 22; refine (SD.out _).mono ?_; rintro e w6 ⟨rfl, rfl⟩)
      | (go_at_call 23; refine (SR.out _).mono ?_; rintro e w6 ⟨rfl, rfl⟩)
      | (go_at_call 24; refine (ST.out _ _).mono ?_; rintro e w7 ⟨rfl, C5⟩; replace C1 := hide (C1.out.trans C5); clear C5)
      | (go_at_call 15; refine (AW.out _).mono ?_; rintro e w7 ⟨rfl, C5⟩; replace C1 := hide (C1.out.trans C5); clear C5))
    go_ret
    exact ⟨rfl, C1.out⟩
  · go_enter Try.func4, Try.ntmps4
    go_wp2_with (first
      | (go_at_call 9; refine (CN.out _).mono ?_; rintro e w1 ⟨rfl, A1, C1⟩; replace A1 := hide A1; replace C1 := hide C1)
      | (go_at_call 12; refine (CD.out _ _ _ _ _ _ _ _ A1.out).mono ?_; rintro e w2 ⟨rfl, rfl⟩)
      | (go_at_call 11; refine (CG.out _ _ _ A1.out).mono ?_; rintro e w3 ⟨rfl, A3, C3⟩; replace A1 := hide A3; replace C1 := hide (C1.out.transN C3 (fun i hi e => by omega)); clear A3 C3)
      | (go_at_call 13; refine (CR.out _ _ _ _ _ _ _ _ A1.out).mono ?_; rintro e w4 ⟨rfl, rfl⟩)
      | (go_at_call_of 16 (Value.pointer none); refine (CW.out _ _ _).mono ?_; rintro e w5 ⟨rfl, C5⟩; replace C1 := hide (C1.out.trans C5); clear C5)
      | (go_at_call 16; refine (CL.out _ _ _ (by omega) _ (AL.out _).1).mono ?_; rintro e w5 ⟨rfl, C5⟩; have A5 := hide ((AL.out _).1.ch C5 (fun f => f)); replace C1 := hide (C1.out.trans ((AL.out _).2.trans C5)); clear C5)
      | (go_at_call_of 17 (Value.pointer none); refine (VN.out _).mono ?_; rintro e w6 ⟨rfl, rfl⟩)
      | (go_at_call 17; refine (CV.out _ _ _ A5.out).mono ?_; rintro e w6 ⟨rfl, rfl⟩)
      | (go_at_call 25; refine (AN.out _ _).mono ?_; rintro e w6 ⟨rfl, rfl⟩)
      | (go_at_call 18; refine (BP.out _ _).mono ?_; rintro e w7 ⟨rfl, C5⟩; replace C1 := hide (C1.out.trans C5); clear C5)
      | (go_at_call 19; refine (BG.out _).mono ?_; rintro e w6 ⟨rfl, rfl⟩)
      | (go_at_call 20; refine (BS.out _ _).mono ?_; rintro e w7 ⟨rfl, C5⟩; replace C1 := hide (C1.out.trans C5); clear C5)
      | (go_at_call 21; refine (SG.out _).mono ?_; rintro e w6 ⟨rfl, rfl⟩)
      | (go_at_call 22; refine (SD.out _).mono ?_; rintro e w6 ⟨rfl, rfl⟩)
      | (go_at_call 23; refine (SR.out _).mono ?_; rintro e w6 ⟨rfl, rfl⟩)
      | (go_at_call 24; refine (ST.out _ _).mono ?_; rintro e w7 ⟨rfl, C5⟩; replace C1 := hide (C1.out.trans C5); clear C5)
      | (go_at_call 15; refine (AW.out _).mono ?_; rintro e w7 ⟨rfl, C5⟩; replace C1 := hide (C1.out.trans C5); clear C5))
    all_goals (go_ret; exact ⟨rfl, C1.out⟩)
end Go.Proofs.Ytbigejdabeibeaa
