/-
  The reference's reading of one character; whole bytes, by the program and by the reference.
-/
import Derived.Test.YtfadjpebniebaaaGreatDoorUtfB
import Derived.Deep.LoopGhost
set_option linter.unusedVariables false
set_option linter.unusedSimpArgs false
namespace Go.Proofs.YtfadjpebniebaaaGreatDoor
open Go.RowKit

theorem gt_drop (bs : List Int) (i j : Nat) : gt (bs.drop i) j = gt bs (i + j) := by simp [gt, List.getD_eq_getElem?_getD]
/-- The state of the reference's loop over followers. -/
def RelOne (m i n : Nat) (D : List Int) (lo hi cc i' : Value) : Prop := ∃ (k : Nat) (C L H : Int), k ≤ m ∧ i + k + 1 ≤ n ∧ i' = .int .i64 (k + 1) ∧ cc = .int .i32 C ∧ lo = .int .u8 L ∧ hi = .int .u8 H ∧ 0 ≤ C ∧ Hid (C < bd k) ∧ Hid (stp D = fol (m + 1 - 1 - k) C L H (k + 1) (D.drop (k + 1)))
theorem RelOne.mk {m i n : Nat} {D : List Int} (k : Nat) (C L H : Int) {lo hi cc i' : Value} (h1 : k ≤ m) (h2 : i + k + 1 ≤ n) (h3 : i' = .int .i64 (k + 1)) (h4 : cc = .int .i32 C) (h5 : lo = .int .u8 L) (h6 : hi = .int .u8 H) (h7 : 0 ≤ C) (h8 : C < bd k) (h9 : stp D = fol (m + 1 - 1 - k) C L H (k + 1) (D.drop (k + 1))) : RelOne m i n D lo hi cc i' :=
  ⟨k, C, L, H, h1, h2, h3, h4, h5, h6, h7, h8, h9⟩
set_option maxHeartbeats 1000000 in
theorem one_any (bs : List Int) (n b o c i : Nat) (w : World) (hn : n = bs.length) (hb : By bs) (hl : n ≤ c) (hn9 : n ≤ 4611686018427387904) (hc9 : c ≤ 9223372036854775807) (h0 : i < n) (hc : ∀ i, i < n → w.cell? ⟨b, o + i, none⟩ = some (.int .u8 (gt bs i))) :
    Calls Tryz.prog 71 #[.slice (some ⟨b, o, none⟩) n c, .int .i64 i] w fun e w' => e = .returned (.tuple #[.int .i32 (stp (bs.drop i)).1, .int .i64 (stp (bs.drop i)).2.1, .bool (stp (bs.drop i)).2.2]) ∧ w' = w := by
  have c0 : w.cell? ⟨b, o + i, none⟩ = some (.int .u8 (gt bs i)) := hc i h0
  obtain ⟨a0, a1⟩ := hb.gt (i := i) (by omega)
  obtain ⟨D, hD⟩ : ∃ D, D = bs.drop i := ⟨_, rfl⟩
  have hDl : D.length = n - i := by rw [hD, List.length_drop, hn]
  have hc2 : ∀ j, i + j < n → w.cell? ⟨b, o + (i + j), none⟩ = some (.int .u8 (gt D j)) := fun j hj => by rw [hD, gt_drop]; exact hc _ hj
  have hbD : By D := hD ▸ hb.drop i
  have e0 : gt D 0 = gt bs i := by rw [hD, gt_drop]; rfl
  have S : Hid (stp D = _) := stp_gt (bs := D) (by omega)
  rw [← hD]
  rw [e0] at S
  have HL : Hid (D.length = n - i) := hDl
  clear hDl hD hc hb hn e0
  generalize ha : gt bs i = a at *
  clear ha bs
  obtain ⟨l1, l2, l3, l4⟩ := lo_bd a
  by_cases hlow : a ≤ 127
  · have e1 : szOf a = 1 := by unfold szOf; rw [if_pos hlow]
    have e2 : ldOf a = a := by unfold ldOf; rw [if_pos hlow]
    rw [e1, e2] at S
    have S' : Hid (stp D = (a, 1, true)) := S
    clear hc2 e1 e2
    go_enter Tryz.func71, Tryz.ntmps71
    go_wp2
    go_ret3
    rw [S'.out]
    exact ⟨tup3 (by simp) (by simp) (by simp), rfl⟩
  · obtain ⟨s, hs⟩ : ∃ s, s = szOf a := ⟨_, rfl⟩
    have s4 : s ≤ 4 := hs ▸ szOf_le _
    have HS : Hid (s = szOf a) := hs
    have hnd : ndOf a = s - 1 := by unfold ndOf; rw [hs]
    have hs1 : s ≠ 1 := by
      rcases sz_cases a a0 a1 with ⟨g, _⟩ | ⟨_, _, g, _⟩ | ⟨_, _, g, _⟩ | ⟨_, _, g, _⟩ | ⟨_, g⟩ <;> omega
    have HD : Hid (ndOf a = s - 1) := hnd
    clear hs hnd
    by_cases hz : s = 0
    · rw [← HS.out, if_pos hz] at S
      clear hc2
      go_enter Tryz.func71, Tryz.ntmps71
      go_wp2_with (go_at_call 113; refine (need_any a _ (by omega) a1).mono ?_; rintro e w' ⟨rfl, rfl⟩; rw [HD.out]; subst hz)
      go_ret3
      rw [S.out]
      exact ⟨tup3 (by simp) (by simp) (by simp), rfl⟩
    · obtain ⟨d1, d2⟩ := ld_bd a a0 (by rw [← HS.out]; exact hz)
      rw [← HS.out, if_neg hz] at S
      have S2 : Hid (stp D = fol (s - 1 - 0) (ldOf a) (loOf a) (hiOf a) (0 + 1) (D.drop (0 + 1))) := S
      clear S
      obtain ⟨m, hm⟩ : ∃ m, s = m + 1 := ⟨s - 1, by omega⟩
      subst hm
      have hm3 : m = 1 ∨ m = 2 ∨ m = 3 := by omega
      have hbits : bits .and .i32 a (63 / 2 ^ min ((m : Int)).toNat 32) = ldOf a := by
        rcases sz_cases a a0 a1 with ⟨g, _⟩ | ⟨_, _, g, q⟩ | ⟨_, _, g, q⟩ | ⟨_, _, g, q⟩ | ⟨_, g⟩
        · omega
        · have : m = 1 := by have := HS.out; omega
          subst this; rw [q]; exact i32_and31 a (by omega) (by omega)
        · have : m = 2 := by have := HS.out; omega
          subst this; rw [q]; exact i32_and15 a (by omega) (by omega)
        · have : m = 3 := by have := HS.out; omega
          subst this; rw [q]; exact i32_and7 a (by omega) (by omega)
        · have := HS.out; omega
      have hbits' : bits .and .i32 a (63 / 2 ^ min m 32) = ldOf a := by simpa using hbits
      have hbits2 : bits .and .i32 a (63 / 2 ^ m) = ldOf a := by rw [show min m 32 = m by omega] at hbits'; exact hbits'
      clear hm3
      go_enter Tryz.func71, Tryz.ntmps71
      go_wp2_with (go_at_call 113; refine (need_any a _ (by omega) a1).mono ?_; rintro e w' ⟨rfl, rfl⟩; rw [HD.out, Nat.add_sub_cancel])
      go_loop [9, 10, 11, 12] (fun lo hi cc i' => RelOne m i n D lo hi cc i') (fun _ _ _ i' => m + 1 - (intOf i').toNat)
      case atStart => exact .mk 0 _ _ _ (by omega) (by omega) (by simp) rfl rfl rfl d1 d2 S2.out
      case round =>
        clear S2 hbits hbits' hbits2
        obtain ⟨k, C, L, H, hk, hkn0, rfl, rfl, rfl, rfl, C0, C1, R⟩ := hrel
        by_cases hlt : k < m
        · have hb2 := bd_le (k := k) (by omega)
          have C2 : C < 524288 := by have := C1.out; omega
          by_cases hend : i + (k + 1) < n
          · have cx := hc2 (k + 1) hend
            have hDk : k + 1 < D.length := by rw [HL.out]; omega
            obtain ⟨x0, x1⟩ := hbD.gt (i := k + 1) hDk
            clear hc2
            have R1' : Hid _ := fol_in (s := m + 1) R.out (by omega) hDk
            have R2' : Hid _ := fol_out (s := m + 1) R.out (by omega) hDk
            generalize gt D (k + 1) = x at *
            by_cases q : x < L ∨ H < x
            · have r := R2'.out q
              have HR : Hid (stp D = (65533, k + 1, false)) := r
              clear r R1' R2' hDk
              rcases (show x < L ∨ (L ≤ x ∧ H < x) by omega) with q1 | ⟨q1, q2⟩
              all_goals
                clear q
                go_wp2
                go_ret3
                rw [HR.out]
                exact ⟨tup3 rfl (by simp) rfl, rfl⟩
            · have q1 : L ≤ x := by omega
              have q2 : x ≤ H := by omega
              have r := R1'.out q1 q2
              have HR : Hid (stp D = _) := r
              have e1 := u8_and63 x x0 x1
              have e2 := wrap64' C C0 C2
              have e3 := i32_or64 C (x % 64) C0 (by omega) (by omega) (by omega)
              have m0 : 0 ≤ x % 64 := by omega
              have m1 : x % 64 < 64 := by omega
              clear r R1' R2' q hDk
              go_wp2
              go_round
              case rel => exact ⟨_, _, _, _, _, _, _, .mk (k + 1) (C * 64 + x % 64) 128 191 (by omega) (by omega) (by go_num) rfl rfl rfl (by omega) (by have := C1.out; have := bd_succ k; omega) HR.out, rfl, rfl, rfl, rfl, rfl, rfl, rfl⟩
              case measure => simp [intOf]; omega
          · have HR : Hid (stp D = (65533, k + 1, false)) := fol_end (s := m + 1) R.out (by omega) (by rw [HL.out]; omega)
            clear hc2
            go_wp2
            go_ret3
            rw [HR.out]
            exact ⟨tup3 rfl (by simp) rfl, rfl⟩
        · have hks : m = k := by omega
          have HR : Hid (stp D = (C, m + 1, true)) := fol_all (s := m + 1) R.out (by omega)
          subst hks
          clear hc2
          go_wp2
          go_ret3
          rw [HR.out]
          exact ⟨tup3 rfl (by simp) rfl, rfl⟩
end Go.Proofs.YtfadjpebniebaaaGreatDoor
