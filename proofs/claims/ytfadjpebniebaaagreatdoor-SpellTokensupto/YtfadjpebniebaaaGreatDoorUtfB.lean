/-
  Contracts: what stands at the front of some bytes, by the program and by the reference.
-/
import Derived.Test.YtfadjpebniebaaaGreatDoorUtfA
set_option linter.unusedVariables false
set_option linter.unusedSimpArgs false
namespace Go.Proofs.YtfadjpebniebaaaGreatDoor
open Go.RowKit

theorem lo_bd (a : Int) : 0 ≤ loOf a ∧ loOf a ≤ 255 ∧ 0 ≤ hiOf a ∧ hiOf a ≤ 255 := by
  unfold loOf hiOf
  refine ⟨?_, ?_, ?_, ?_⟩ <;> (repeat' split) <;> omega
theorem ld_bd (a : Int) (h0 : 0 ≤ a) (hz : szOf a ≠ 0) : 0 ≤ ldOf a ∧ ldOf a < 128 := by
  unfold ldOf
  (repeat' split) <;> omega
/-- One follower more. -/
theorem fol_in {s k : Nat} {C L H : Int} {bs : List Int} {r : Int × Nat × Bool} (h : r = fol (s - 1 - k) C L H (k + 1) (bs.drop (k + 1))) (hk : k + 1 < s) (hn : k + 1 < bs.length) (h1 : L ≤ gt bs (k + 1)) (h2 : gt bs (k + 1) ≤ H) :
    r = fol (s - 1 - (k + 1)) (C * 64 + gt bs (k + 1) % 64) 128 191 (k + 1 + 1) (bs.drop (k + 1 + 1)) := by
  rw [h, drop_gt hn, show s - 1 - k = (s - 1 - (k + 1)) + 1 by omega]
  simp only [fol]
  rw [if_neg (by omega)]
theorem fol_out {s k : Nat} {C L H : Int} {bs : List Int} {r : Int × Nat × Bool} (h : r = fol (s - 1 - k) C L H (k + 1) (bs.drop (k + 1))) (hk : k + 1 < s) (hn : k + 1 < bs.length) (h1 : gt bs (k + 1) < L ∨ H < gt bs (k + 1)) :
    r = (65533, k + 1, false) := by
  rw [h, drop_gt hn, show s - 1 - k = (s - 1 - (k + 1)) + 1 by omega]
  simp only [fol]
  rw [if_pos h1]
theorem fol_end {s k : Nat} {C L H : Int} {bs : List Int} {r : Int × Nat × Bool} (h : r = fol (s - 1 - k) C L H (k + 1) (bs.drop (k + 1))) (hk : k + 1 < s) (hn : bs.length ≤ k + 1) :
    r = (65533, k + 1, false) := by
  rw [h, List.drop_of_length_le hn, show s - 1 - k = (s - 1 - (k + 1)) + 1 by omega]
  simp only [fol]
theorem fol_all {s k : Nat} {C L H : Int} {bs : List Int} {r : Int × Nat × Bool} (h : r = fol (s - 1 - k) C L H (k + 1) (bs.drop (k + 1))) (hk : s = k + 1) :
    r = (C, s, true) := by
  rw [h, show s - 1 - k = 0 by omega, hk]
  simp only [fol]
theorem wrap64' (c : Int) (h0 : 0 ≤ c) (h1 : c < 524288) : IntKind.i32.wrap (c * 64) = c * 64 := wrap_i32_small _ (by omega) (by omega)

set_option maxHeartbeats 1000000 in
theorem front_any (bs : List Int) (n b o c : Nat) (w : World) (hn : n = bs.length) (hb : By bs) (hl : n ≤ c) (hc9 : c ≤ 9223372036854775807) (h0 : 0 < n) (hc : ∀ i, i < n → w.cell? ⟨b, o + i, none⟩ = some (.int .u8 (gt bs i))) :
    Calls Tryz.prog 97 #[.slice (some ⟨b, o, none⟩) n c] w fun e w' => e = .returned (.tuple #[.int .i32 (stp bs).1, .int .i64 (stp bs).2.1, .bool (stp bs).2.2]) ∧ w' = w := by
  have HN : Hid (n = bs.length) := hn
  have c0 : w.cell? ⟨b, o, none⟩ = some (.int .u8 (gt bs 0)) := hc 0 h0
  obtain ⟨a0, a1⟩ := hb.gt (i := 0) (by omega)
  have S : Hid (stp bs = _) := stp_gt (by omega)
  obtain ⟨l1, l2, l3, l4⟩ := lo_bd (gt bs 0)
  obtain ⟨s, hs⟩ : ∃ s, s = szOf (gt bs 0) := ⟨_, rfl⟩
  have s4 : s ≤ 4 := hs ▸ szOf_le _
  have HS : Hid (s = szOf (gt bs 0)) := hs
  clear hn
  generalize ha : gt bs 0 = a at *
  have HA : Hid (gt bs 0 = a) := ha
  clear ha hs
  by_cases hz : s = 0
  · go_enter Tryz.func97, Tryz.ntmps97
    go_wp2_with (go_at_call 136; refine (shape_any a _ a0 a1).mono ?_; rintro e w' ⟨rfl, rfl⟩; rw [← HS.out]; subst hz)
    go_ret3
    rw [S.out, if_pos HS.out.symm]
    exact ⟨rfl, rfl⟩
  · obtain ⟨d1, d2⟩ := ld_bd a a0 (by rw [← HS.out]; exact hz)
    rw [if_neg (by rw [← HS.out]; exact hz)] at S
    have S2 : Hid (stp bs = fol (s - 1 - 0) (ldOf a) (loOf a) (hiOf a) (0 + 1) (bs.drop (0 + 1))) := by rw [HS.out]; exact S
    clear S
    go_enter Tryz.func97, Tryz.ntmps97
    go_wp2_with (first
      | (go_at_call 136; refine (shape_any a _ a0 a1).mono ?_; rintro e w' ⟨rfl, rfl⟩; rw [← HS.out])
      | (go_at_call 137; refine (lead_any a s _ a0 a1 HS.out hz).mono ?_; rintro e w' ⟨rfl, rfl⟩))
    go_loop [2, 6, 7, 27] (fun cc lo hi i => ∃ (k : Nat) (C L H : Int), k + 1 ≤ s ∧ k + 1 ≤ n ∧ i = .int .i64 k ∧ cc = .int .i32 C ∧ lo = .int .u8 L ∧ hi = .int .u8 H ∧ 0 ≤ C ∧ Hid (C < bd k) ∧ Hid (stp bs = fol (s - 1 - k) C L H (k + 1) (bs.drop (k + 1)))) (fun _ _ _ i => s - (intOf i).toNat)
    case atStart => exact ⟨0, _, _, _, by omega, by omega, rfl, rfl, rfl, rfl, d1, d2, S2⟩
    case round =>
      clear S2
      obtain ⟨k, C, L, H, hk, hkn0, rfl, rfl, rfl, rfl, C0, C1, R⟩ := hrel
      by_cases hlt : k + 1 < s
      · have hb2 := bd_le (k := k) (by omega)
        have C2 : C < 524288 := by have := C1.out; omega
        by_cases hend : k + 1 < n
        · have cx := hc (k + 1) hend
          obtain ⟨x0, x1⟩ := hb.gt (i := k + 1) (by rw [← HN.out]; exact hend)
          clear hc
          have hbe : ((k : Int) + 1 == (n : Int)) = false := by simp; omega
          have R1 := fun hk hn => fol_in (s := s) R.out hk hn
          have R2 := fun hk hn => fol_out (s := s) R.out hk hn
          have R1' : Hid _ := R1 hlt (by rw [← HN.out]; exact hend)
          have R2' : Hid _ := R2 hlt (by rw [← HN.out]; exact hend)
          clear R1 R2
          generalize gt bs (k + 1) = x at *
          by_cases q : x < L ∨ H < x
          · have r := R2'.out q
            have HR : Hid (stp bs = (65533, k + 1, false)) := r
            clear r R1' R2'
            rcases (show x < L ∨ (L ≤ x ∧ H < x) by omega) with q1 | ⟨q1, q2⟩
            all_goals
              clear q
              go_wp2
              go_ret3
              rw [HR.out]
              exact ⟨tup3 rfl (by simp) rfl, rfl⟩
          · have q1 : L ≤ x := by omega
            have q2 : x ≤ H := by omega
            have r := R1'.out q1 q2
            have HR : Hid (stp bs = _) := r
            have e1 := u8_and63 x x0 x1
            have e2 := wrap64' C C0 C2
            have e3 := i32_or64 C (x % 64) C0 (by omega) (by omega) (by omega)
            have m0 : 0 ≤ x % 64 := by omega
            have m1 : x % 64 < 64 := by omega
            clear r R1' R2' q
            go_wp2
            exact ⟨⟨k + 1, C * 64 + x % 64, 128, 191, by omega, by omega, by go_num, rfl, rfl, rfl, by omega, (by have := C1.out; have := bd_succ k; show _ < _; omega), HR⟩, by simp [intOf]; omega⟩
        · clear hc
          have HR : Hid (stp bs = (65533, k + 1, false)) := fol_end (s := s) R.out hlt (by rw [← HN.out]; omega)
          have hkn : n = k + 1 := by omega
          subst hkn
          go_wp2
          go_ret3
          rw [HR.out]
          exact ⟨tup3 rfl (by simp) rfl, rfl⟩
      · have hks : s = k + 1 := by omega
        have HR : Hid (stp bs = (C, s, true)) := fol_all (s := s) R.out hks
        subst hks
        go_wp2
        go_ret3
        rw [HR.out]
        exact ⟨tup3 rfl (by simp) rfl, rfl⟩
end Go.Proofs.YtfadjpebniebaaaGreatDoor
