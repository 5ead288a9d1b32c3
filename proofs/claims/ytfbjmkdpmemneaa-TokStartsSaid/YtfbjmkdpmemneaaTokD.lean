/-
  The law: does a name begin, a number, is it an escape?
-/
import Derived.Test.YtfbjmkdpmemneaaTokC
import Derived.Test.YtfbjmkdpmemneaaUtfE
set_option linter.unusedVariables false
set_option linter.unusedSimpArgs false
namespace Go.Proofs.Ytfbjmkdpmemneaa
open Go.RowKit

set_option maxHeartbeats 1000000 in
theorem startsP_any (l : List Int) (v : Value) (w : World) (hv : Nums .i32 w v l) (hl : l.length ≤ 140737488355328) :
    Calls Try.prog 4 #[v] w fun e w' => e = .returned (.tuple #[.bool (nmB (nx (chs l) 0) (nx (chs l) 1) (nx (chs l) 2)), .bool (nuB (nx (chs l) 0) (nx (chs l) 1) (nx (chs l) 2)), .bool (es2 (nx (chs l) 0) (nx (chs l) 1))]) ∧ Below w.heap.size w w' := by
  have HC := hide (lookFrom_any l v 0 w hv (by omega) hl)
  clear hv
  go_enter Try.func4, Try.ntmps4
  go_wp2_with (first
    | (go_at_call 6; refine HC.out.mono ?_; rintro e w1 ⟨u, rfl, HL, B⟩; rw [List.drop_zero] at HL; replace HL := hide HL; replace B := hide B; have BL := hide (Below.refl w1.heap.size w1))
    | (go_at_call 7; refine (nameB_any _ _ _ ((HL.out.le (by decide)).below BL.out)).mono ?_; rintro e w2 ⟨rfl, B2⟩; replace B := hide (bto B.out B2); replace BL := hide (bto BL.out B2); clear B2)
    | (go_at_call 8; refine (numB_any _ _ _ ((HL.out.le (by decide)).below BL.out)).mono ?_; rintro e w3 ⟨rfl, B2⟩; replace B := hide (bto B.out B2); replace BL := hide (bto BL.out B2); clear B2)
    | (go_at_call 9; refine (isEscape_any _ _ _ ((HL.out.le (by decide)).below BL.out)).mono ?_; rintro e w4 ⟨rfl, B2⟩; replace B := hide (bto B.out B2); replace BL := hide (bto BL.out B2); clear B2))
  go_ret3
  exact ⟨rfl, B.out⟩
set_option maxHeartbeats 1000000 in
theorem startsR_any (l : List Int) (v : Value) (w : World) (hv : Nums .i32 w v l) (hl : l.length ≤ 140737488355328) :
    Calls Try.prog 5 #[v] w fun e w' => e = .returned (.tuple #[.bool (nmB (nx (chs l) 0) (nx (chs l) 1) (nx (chs l) 2)), .bool (nuB (nx (chs l) 0) (nx (chs l) 1) (nx (chs l) 2)), .bool (es2 (nx (chs l) 0) (nx (chs l) 1))]) ∧ Below w.heap.size w w' := by
  have R := hide (show Rd 31 w (w.alloc (.cells #[v, .int .i64 0] 31)) w.heap.size v l 0 from
    ⟨bplus (Below.refl _ _) _, Nat.le_refl _, heap_alloc_new w _, hv, hl, by omega⟩)
  obtain ⟨a, n, c, hs⟩ := hv.shape
  have B := hide (Below.refl w.heap.size w)
  clear hv
  subst hs
  have H0 := hide (show nx ((chs l).drop 0) (Int.toNat 0) = nx (chs l) 0 from rfl)
  have H1 := hide (show nx ((chs l).drop 0) (Int.toNat 1) = nx (chs l) 1 from rfl)
  have H2 := hide (show nx ((chs l).drop 0) (Int.toNat 2) = nx (chs l) 2 from rfl)
  go_enter Try.func5, Try.ntmps5
  go_wp2_with (first
    | (go_at_call 10; refine (at_any _ w _ _ _ l 0 _ R.out (by decide) (by decide)).mono ?_; rintro e w1 ⟨he, B1⟩; (first | rw [H0.out] at he | rw [H1.out] at he | rw [H2.out] at he); subst he; replace R := hide (R.out.below B1); clear B1)
    | (go_at_call 11; refine (begR_any _ _ _ _).mono ?_; rintro e w' ⟨rfl, rfl⟩)
    | (go_at_call 12; refine (numR_any _ _ _ _).mono ?_; rintro e w' ⟨rfl, rfl⟩)
    | (go_at_call 13; refine (escR_any _ _ _).mono ?_; rintro e w' ⟨rfl, rfl⟩))
  go_ret3
  exact ⟨rfl, R.out.bel⟩
set_option maxHeartbeats 1000000 in
theorem law_starts (l : List Int) (v : Value) (w : World) (h32 : ∀ x ∈ l, -2147483648 ≤ x ∧ x ≤ 2147483647) (hv : Nums .i32 w v l) (hl : l.length ≤ 140737488355328) :
    Calls Try.prog 3 #[v] w fun e w' => e = .returned (.bool true) ∧ Below w.heap.size w w' := by
  have HV := hide hv
  have B := hide (Below.refl w.heap.size w)
  have HA := hide fun u : World => show Nums .i32 (u.alloc (.cells #[.int .i32 97] 21)) (.slice (some ⟨u.heap.size, 0, none⟩) 1 1) [97] from Nums.lit u 21 [97] 1 rfl (by omega) (by omega)
  have e1 := hide (show nmB (nx (chs [97]) 0) (nx (chs [97]) 1) (nx (chs [97]) 2) = true by decide)
  have e2 := hide (show nuB (nx (chs [97]) 0) (nx (chs [97]) 1) (nx (chs [97]) 2) = false by decide)
  have e3 := hide (show es2 (nx (chs [97]) 0) (nx (chs [97]) 1) = false by decide)
  clear hv
  go_enter Try.func3, Try.ntmps3
  go_wp2_with (first
    | (go_at_call_of 4 v; refine (startsP_any l v _ (HV.out.below B.out) hl).mono ?_; rintro e w1 ⟨rfl, B1⟩; replace B := hide (bto B.out B1); clear B1)
    | (go_at_call 5; refine (startsR_any l v _ (HV.out.below B.out) hl).mono ?_; rintro e w2 ⟨rfl, B1⟩; replace B := hide (bto B.out B1); clear B1)
    | (go_at_call 4; refine (startsP_any [97] _ _ (HA.out _) (by simp)).mono ?_; rintro e w3 ⟨he, B1⟩; rw [e1.out, e2.out, e3.out] at he; subst he; replace B := hide (bto (bplus B.out _) B1); clear B1))
  go_ret
  exact ⟨ret_bool (by simp), B.out⟩
end Go.Proofs.Ytfbjmkdpmemneaa
