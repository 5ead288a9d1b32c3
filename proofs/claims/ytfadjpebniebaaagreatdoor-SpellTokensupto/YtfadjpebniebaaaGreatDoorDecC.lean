/-
  A number times a power of ten, in lowest terms, by the program; what stands behind an e.
-/
import Derived.Test.YtfadjpebniebaaaGreatDoorDecB
import Derived.Deep.RegionWith
set_option linter.unusedVariables false
set_option linter.unusedSimpArgs false
namespace Go.Proofs.YtfadjpebniebaaaGreatDoor
open Go.RowKit

set_option maxHeartbeats 1000000 in
theorem divided2_any (n d t : Nat) (w : World) (n1 : 1 ≤ n) (n2 : n ≤ 9223372036854775807) (d1 : 1 ≤ d) (d2 : d ≤ 9223372036854775807) (ht : t ≤ 1152921504606846976) :
    Calls Tryz.prog 210 #[.int .u64 n, .int .u64 d, .int .u64 2, .int .i64 t] w fun e w' => e = .returned (divR (strip 2 n t).1 (d * 2 ^ (strip 2 n t).2)) ∧ w' = w := by
  go_enter Tryz.func210, Tryz.ntmps210
  go_wp2
  go_loop [0, 3] (fun a b => RelDiv 2 n t a b) (fun _ b => (intOf b).toNat)
  case atStart => exact .mk n t rfl rfl n1 n2 ht rfl
  case round =>
    obtain ⟨m, k, rfl, rfl, m1, m2, k1, R⟩ := hrel
    by_cases hg : 0 < k ∧ m % 2 = 0
    · obtain ⟨hk, hm⟩ := hg
      obtain ⟨j, rfl⟩ : ∃ j, k = j + 1 := ⟨k - 1, by omega⟩
      have R2 := hide (R.out.trans (strip_go hm))
      have hk2 : (0 : Int) < ((j + 1 : Nat) : Int) := by omega
      have hb : ((m : Int) % 2 == 0) = true := by simp; omega
      go_wp2
      go_round
      case rel => exact .mk (m / 2) j (by go_num) (by go_num) (by omega) (by omega) (by omega) R2.out
      case measure => first | (simp [intOf]; done) | (simp [intOf]; omega)
    · have E := hide (show strip 2 n t = (m, k) by
        rw [R.out]
        by_cases hk : k = 0
        · subst hk; rfl
        · exact strip_stop (fun h => hg ⟨by omega, h⟩))
      have C := hide (multiplied2_any d k w d1 d2 k1)
      by_cases hk : 0 < k
      · have hb : ((m : Int) % 2 == 0) = false := by simp; omega
        have hk2 : (0 : Int) < (k : Int) := by omega
        clear hg
        go_wp2_with (go_at_call 143; refine C.out.mono ?_; rintro e w' ⟨rfl, rfl⟩; unfold mulR)
        go_ret3
        exact ⟨ret_of (by rw [E.out]; rfl), rfl⟩
      · obtain rfl : k = 0 := by omega
        clear hg
        go_wp2_with (go_at_call 143; refine C.out.mono ?_; rintro e w' ⟨rfl, rfl⟩; unfold mulR)
        go_ret3
        exact ⟨ret_of (by rw [E.out]; show divR m (d * 2 ^ 0) = _; rw [Nat.pow_zero, Nat.mul_one]; rfl), rfl⟩
set_option maxHeartbeats 1000000 in
theorem divided5_any (n d t : Nat) (w : World) (n1 : 1 ≤ n) (n2 : n ≤ 9223372036854775807) (d1 : 1 ≤ d) (d2 : d ≤ 9223372036854775807) (ht : t ≤ 1152921504606846976) :
    Calls Tryz.prog 210 #[.int .u64 n, .int .u64 d, .int .u64 5, .int .i64 t] w fun e w' => e = .returned (divR (strip 5 n t).1 (d * 5 ^ (strip 5 n t).2)) ∧ w' = w := by
  go_enter Tryz.func210, Tryz.ntmps210
  go_wp2
  go_loop [0, 3] (fun a b => RelDiv 5 n t a b) (fun _ b => (intOf b).toNat)
  case atStart => exact .mk n t rfl rfl n1 n2 ht rfl
  case round =>
    obtain ⟨m, k, rfl, rfl, m1, m2, k1, R⟩ := hrel
    by_cases hg : 0 < k ∧ m % 5 = 0
    · obtain ⟨hk, hm⟩ := hg
      obtain ⟨j, rfl⟩ : ∃ j, k = j + 1 := ⟨k - 1, by omega⟩
      have R2 := hide (R.out.trans (strip_go hm))
      have hk2 : (0 : Int) < ((j + 1 : Nat) : Int) := by omega
      have hb : ((m : Int) % 5 == 0) = true := by simp; omega
      go_wp2
      go_round
      case rel => exact .mk (m / 5) j (by go_num) (by go_num) (by omega) (by omega) (by omega) R2.out
      case measure => first | (simp [intOf]; done) | (simp [intOf]; omega)
    · have E := hide (show strip 5 n t = (m, k) by
        rw [R.out]
        by_cases hk : k = 0
        · subst hk; rfl
        · exact strip_stop (fun h => hg ⟨by omega, h⟩))
      have C := hide (multiplied5_any d k w d1 d2 k1)
      by_cases hk : 0 < k
      · have hb : ((m : Int) % 5 == 0) = false := by simp; omega
        have hk2 : (0 : Int) < (k : Int) := by omega
        clear hg
        go_wp2_with (go_at_call 143; refine C.out.mono ?_; rintro e w' ⟨rfl, rfl⟩; unfold mulR)
        go_ret3
        exact ⟨ret_of (by rw [E.out]; rfl), rfl⟩
      · obtain rfl : k = 0 := by omega
        clear hg
        go_wp2_with (go_at_call 143; refine C.out.mono ?_; rintro e w' ⟨rfl, rfl⟩; unfold mulR)
        go_ret3
        exact ⟨ret_of (by rw [E.out]; show divR m (d * 5 ^ 0) = _; rw [Nat.pow_zero, Nat.mul_one]; rfl), rfl⟩
/-- A number times a power of ten, as the program tells it. -/
def shN (n : Nat) (p : Int) : Nat := if 0 ≤ p then mulV (n * 10 ^ p.toNat) else if mulB (2 ^ (strip 2 n (-p).toNat).2) then (strip 5 (strip 2 n (-p).toNat).1 (-p).toNat).1 else 0
def shD (n : Nat) (p : Int) : Nat := if 0 ≤ p then 1 else if mulB (2 ^ (strip 2 n (-p).toNat).2) then mulV (mulV (2 ^ (strip 2 n (-p).toNat).2) * 5 ^ (strip 5 (strip 2 n (-p).toNat).1 (-p).toNat).2) else 0
def shB (n : Nat) (p : Int) : Bool := if 0 ≤ p then mulB (n * 10 ^ p.toNat) else if mulB (2 ^ (strip 2 n (-p).toNat).2) then mulB (mulV (2 ^ (strip 2 n (-p).toNat).2) * 5 ^ (strip 5 (strip 2 n (-p).toNat).1 (-p).toNat).2) else false
theorem mulB_iff (P : Nat) : mulB P = true ↔ P ≤ 9223372036854775807 := by simp [mulB]
set_option maxHeartbeats 1000000 in
theorem shifted_any (n : Nat) (p : Int) (w : World) (n1 : 1 ≤ n) (n2 : n ≤ 9223372036854775807) (p1 : -1152921504606846976 ≤ p) (p2 : p ≤ 1152921504606846976) :
    Calls Tryz.prog 193 #[.int .u64 n, .int .i64 p] w fun e w' => e = .returned (.tuple #[.int .u64 (shN n p), .int .u64 (shD n p), .bool (shB n p)]) ∧ w' = w := by
  by_cases hp : 0 ≤ p
  · have E1 := hide (show shN n p = mulV (n * 10 ^ p.toNat) by unfold shN; rw [if_pos hp])
    have E2 := hide (show shD n p = 1 by unfold shD; rw [if_pos hp])
    have E3 := hide (show shB n p = mulB (n * 10 ^ p.toNat) by unfold shB; rw [if_pos hp])
    obtain ⟨k, rfl⟩ := Int.eq_ofNat_of_zero_le hp
    have C := hide (multiplied10_any n k w n1 n2 (by omega))
    go_enter Tryz.func193, Tryz.ntmps193
    go_wp2_with (go_at_call 143; refine C.out.mono ?_; rintro e w' ⟨rfl, rfl⟩; unfold mulR)
    go_ret3
    exact ⟨ret_of (by rw [E1.out, E2.out, E3.out]; rfl), rfl⟩
  · obtain ⟨k, hk⟩ := Int.eq_ofNat_of_zero_le (show 0 ≤ -p by omega)
    obtain rfl : p = -(k : Int) := by omega
    have tk : (-(-(k : Int))).toNat = k := by omega
    have C := divided2_any n 1 k w n1 n2 (by omega) (by omega) (by omega)
    rw [Nat.one_mul] at C
    replace C := hide C
    have hs := strip_le 2 k n
    have hq := strip_pos 2 (by omega) k n n1
    cases hB : mulB (2 ^ (strip 2 n k).2)
    · have E1 := hide (show shN n (-(k : Int)) = 0 by unfold shN; rw [if_neg hp, tk, hB]; rfl)
      have E2 := hide (show shD n (-(k : Int)) = 0 by unfold shD; rw [if_neg hp, tk, hB]; rfl)
      have E3 := hide (show shB n (-(k : Int)) = false by unfold shB; rw [if_neg hp, tk, hB]; rfl)
      have HB := hide hB
      have hk1 : (0 : Int) < k := by omega
      clear hp hk tk hB
      go_enter Tryz.func193, Tryz.ntmps193
      go_wp2_with (go_at_call 210; refine C.out.mono ?_; rintro e w' ⟨rfl, rfl⟩; unfold divR; rw [HB.out])
      go_ret3
      exact ⟨ret_of (by rw [E1.out, E2.out, E3.out]; rfl), rfl⟩
    · have hM := (mulB_iff _).1 hB
      have hv : mulV (2 ^ (strip 2 n k).2) = 2 ^ (strip 2 n k).2 := mulV_yes hM
      have hv1 : 1 ≤ mulV (2 ^ (strip 2 n k).2) := by rw [hv]; exact Nat.pow_pos (by omega)
      have hv2 : mulV (2 ^ (strip 2 n k).2) ≤ 9223372036854775807 := by rw [hv]; exact hM
      have C2 := hide (divided5_any (strip 2 n k).1 (mulV (2 ^ (strip 2 n k).2)) k w hq (by omega) hv1 hv2 (by omega))
      have E1 := hide (show shN n (-(k : Int)) = _ by unfold shN; rw [if_neg hp, tk, hB, if_pos rfl])
      have E2 := hide (show shD n (-(k : Int)) = _ by unfold shD; rw [if_neg hp, tk, hB, if_pos rfl])
      have E3 := hide (show shB n (-(k : Int)) = _ by unfold shB; rw [if_neg hp, tk, hB, if_pos rfl])
      have HB := hide hB
      have hk1 : (0 : Int) < k := by omega
      clear hp hk tk hB hM hv hv1 hv2 hs hq
      go_enter Tryz.func193, Tryz.ntmps193
      go_wp2_with (first
        | (go_at_call_of 210 (Value.int IntKind.u64 2); refine C.out.mono ?_; rintro e w' ⟨rfl, rfl⟩; unfold divR; rw [HB.out])
        | (go_at_call 210; refine C2.out.mono ?_; rintro e w' ⟨rfl, rfl⟩; unfold divR))
      go_ret3
      exact ⟨ret_of (by rw [E1.out, E2.out, E3.out]; rfl), rfl⟩
end Go.Proofs.YtfadjpebniebaaaGreatDoor
