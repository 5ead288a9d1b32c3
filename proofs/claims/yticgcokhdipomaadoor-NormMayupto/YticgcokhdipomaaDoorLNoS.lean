/-
  Uses, by the program; one form in two blocks: what a law of forms reads.
-/
import Derived.Test.YticgcokhdipomaaDoorLNoO
set_option linter.unusedVariables false
set_option linter.unusedSimpArgs false
namespace Go.Proofs.YticgcokhdipomaaDoor.nm
open Go.RowKit

/-- Which units a form uses, if it may be. -/
def usQ (n : Nat) (us : List (Int × Int)) (ps : List Pa) : Int := if maF 340 (.mk us ps) then usG n us ps else 0
set_option maxRecDepth 100000 in
theorem uses_any (n : Nat) (us : List (Int × Int)) (ps : List Pa) (u : Value) (w : World) (hN : Nth w) (hus : Us us) (hv : PM w n u ps) : Calls Tryd.prog 21 #[foV us u] w fun e w' => e = .returned (.int .i64 (usQ n us ps)) ∧ Below w.heap.size w w' := by
  have C1 := hide (fun (W : World) (h : Below w.heap.size w W) => fmay_any n us ps u W hus (hv.low h))
  have C2 := hide (fun (W : World) (h : Below w.heap.size w W) => used_all n us ps u W (hN.low h) hus (hv.low h))
  have E := hide (show usQ n us ps = if maF 340 (.mk us ps) then usG n us ps else 0 from rfl)
  obtain ⟨q, hq⟩ : ∃ q, usQ n us ps = q := ⟨_, rfl⟩
  rw [hq] at E ⊢
  clear hq
  obtain ⟨r, hr⟩ : ∃ r, maF 340 (.mk us ps) = r := ⟨_, rfl⟩
  rw [hr] at E C1
  clear hr
  obtain ⟨g, hg⟩ : ∃ g, usG n us ps = g := ⟨_, rfl⟩
  rw [hg] at E C2
  clear hg
  obtain ⟨n0, d0, n1, d1, n2, d2, n3, d3, n4, d4, n5, d5, n6, d6, rfl⟩ := us7 hus
  rw [foV_eq] at C1 C2 ⊢
  clear hN hus hv
  obtain ⟨W1, hW1⟩ : ∃ W1, w.alloc (.cells #[.int .i64 n0, .int .i64 d0, .int .i64 n1, .int .i64 d1, .int .i64 n2, .int .i64 d2, .int .i64 n3, .int .i64 d3, .int .i64 n4, .int .i64 d4, .int .i64 n5, .int .i64 d5, .int .i64 n6, .int .i64 d6, u] 29) = W1 := ⟨_, rfl⟩
  have B0 := hide (show Below w.heap.size w W1 by rw [← hW1]; exact bplus (Below.refl _ _) _)
  have P0 := hide (show W1.heap[w.heap.size]? = some (.cells #[.int .i64 n0, .int .i64 d0, .int .i64 n1, .int .i64 d1, .int .i64 n2, .int .i64 d2, .int .i64 n3, .int .i64 d3, .int .i64 n4, .int .i64 d4, .int .i64 n5, .int .i64 d5, .int .i64 n6, .int .i64 d6, u] 29) by rw [← hW1]; exact heap_alloc_new w _)
  have HW1 := hide hW1
  have hs1 : w.heap.size < W1.heap.size := by rw [← hW1]; simp
  clear hW1
  obtain ⟨⟨f0, f1, f2, f3, f4, f5, f6, f7, f8, f9, f10, f11, f12, f13⟩, f14⟩ := bxk_15 P0.out
  cases r
  · have F := hide (show q = 0 by rw [E.out]; rfl)
    clear E C2
    go_enter Tryd.func21, Tryd.ntmps21
    go_upto_region 1 with fail
    rw [HW1.out]
    go_wp2_with (go_at_call 19; refine (C1.out _ B0.out).mono ?_; rintro e w1 ⟨rfl, B1⟩; replace B1 := hide B1)
    go_ret
    exact ⟨ret_int F.out.symm, bto B0.out B1.out⟩
  · have F := hide (show q = g by rw [E.out]; rfl)
    clear E
    go_enter Tryd.func21, Tryd.ntmps21
    go_upto_region 1 with fail
    rw [HW1.out]
    go_wp2_with (first
      | (go_at_call 19; refine (C1.out _ B0.out).mono ?_; rintro e w1 ⟨rfl, B1⟩; clear f0 f1 f2 f3 f4 f5 f6 f7 f8 f9 f10 f11 f12 f13 f14; obtain ⟨⟨f0, f1, f2, f3, f4, f5, f6, f7, f8, f9, f10, f11, f12, f13⟩, f14⟩ := bxk_15 ((B1.block _ hs1).trans P0.out); replace B1 := hide B1)
      | (go_at_call 37; refine (C2.out _ (bto B0.out B1.out)).mono ?_; rintro e w2 ⟨rfl, B2⟩; replace B2 := hide (bto B1.out B2)))
    go_ret
    exact ⟨ret_int F.out.symm, bto B0.out B2.out⟩
theorem use_one : usQ 0 (oneU 1 (1, 1)) [] = 2 := by decide +kernel
end Go.Proofs.YticgcokhdipomaaDoor.nm
