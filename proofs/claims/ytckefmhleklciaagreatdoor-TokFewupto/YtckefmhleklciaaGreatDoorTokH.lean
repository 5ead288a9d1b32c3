/-
  Digits, a sign, remarks, an escape, by the program.
-/
import Derived.Test.YtckefmhleklciaaGreatDoorTokG
set_option linter.unusedVariables false
set_option linter.unusedSimpArgs false
namespace Go.Proofs.YtckefmhleklciaaGreatDoor
open Go.RowKit

theorem skipDigits_any (T : TypeId) (W w : World) (b : Nat) (v : Value) (l s : List Int) (h : At T W w b v l s) :
    Calls Tryz.prog 85 #[.pointer (some ⟨b, 0, none⟩)] w fun e w' => e = .returned (.tuple #[]) ∧ At T W w' b v l (dgs s) ∧ w.grownBy w' (some b) := by
  have H := hide h
  clear h
  go_enter Tryz.func85, Tryz.ntmps85
  go_wp2
  go_loopg [] s.length (fun g wr => RelSk dgs T W w b v l s g wr)
  case atStart => exact .mk s H.out (Nat.le_refl _) rfl (Mod.refl _ _)
  case round =>
    clear H
    obtain ⟨t, A1, hg, R, M⟩ := hrel
    replace A1 := hide A1
    replace M := hide M
    cases hb : isDig (nx t 0)
    · have HB := hide hb
      have E := hide (R.out.trans (dgs_no hb))
      clear hb
      go_wp2_with (first
        | (go_at_call 15; refine (nextA T W _ b v l t A1.out).mono ?_; rintro e w1 ⟨rfl, B1⟩; replace A1 := hide (A1.out.below B1); replace M := hide (Mod.trans M.out (Mod.of b B1)); clear B1)
        | (go_at_call 29; refine (isDigP_any _ _).mono ?_; rintro e w2 ⟨rfl, rfl⟩; rw [HB.out]))
      go_end0
      exact ⟨rfl, by rw [E.out]; exact A1.out, M.out⟩
    · have HB := hide hb
      have L := hide (isDig_ne hb)
      have E := hide (R.out.trans (dgs_go hb))
      clear hb
      go_wp2_with (first
        | (go_at_call 15; refine (nextA T W _ b v l t A1.out).mono ?_; rintro e w1 ⟨rfl, B1⟩; replace A1 := hide (A1.out.below B1); replace M := hide (Mod.trans M.out (Mod.of b B1)); clear B1)
        | (go_at_call 29; refine (isDigP_any _ _).mono ?_; rintro e w2 ⟨rfl, rfl⟩; rw [HB.out])
        | (go_at_call 24; refine (skipA T W _ b v l t 1 A1.out (by decide) (by decide)).mono ?_; rintro e w2 ⟨rfl, A2, M2⟩; replace A1 := hide A2; replace M := hide (Mod.trans M.out M2); clear A2 M2))
      go_roundg (gk - 1)
      case measure => have := L.out; omega
      case rel => exact .mk (t.drop 1) A1.out (by have := L.out; rw [List.length_drop]; omega) E.out M.out
theorem skipSign_any (T : TypeId) (W w : World) (b : Nat) (v : Value) (l s : List Int) (h : At T W w b v l s) :
    Calls Tryz.prog 84 #[.pointer (some ⟨b, 0, none⟩)] w fun e w' => e = .returned (.tuple #[]) ∧ At T W w' b v l (nmS s) ∧ w.grownBy w' (some b) := by
  have A1 := hide h
  have M := hide (Mod.refl w b)
  clear h
  cases hb : isSg (nx s 0)
  · have HB := hide hb
    have E := hide (show nmS s = s by unfold nmS; rw [if_neg (by simp [hb])])
    clear hb
    go_enter Tryz.func84, Tryz.ntmps84
    go_wp2_with (first
      | (go_at_call 15; refine (nextA T W _ b v l s A1.out).mono ?_; rintro e w1 ⟨rfl, B1⟩; replace A1 := hide (A1.out.below B1); replace M := hide (Mod.trans M.out (Mod.of b B1)); clear B1)
      | (go_at_call 117; refine (isSgP_any _ _).mono ?_; rintro e w2 ⟨rfl, rfl⟩; rw [HB.out]))
    go_end0
    exact ⟨rfl, by rw [E.out]; exact A1.out, M.out⟩
  · have HB := hide hb
    have E := hide (show nmS s = s.drop 1 by unfold nmS; rw [if_pos hb])
    clear hb
    go_enter Tryz.func84, Tryz.ntmps84
    go_wp2_with (first
      | (go_at_call 15; refine (nextA T W _ b v l s A1.out).mono ?_; rintro e w1 ⟨rfl, B1⟩; replace A1 := hide (A1.out.below B1); replace M := hide (Mod.trans M.out (Mod.of b B1)); clear B1)
      | (go_at_call 117; refine (isSgP_any _ _).mono ?_; rintro e w2 ⟨rfl, rfl⟩; rw [HB.out])
      | (go_at_call 24; refine (skipA T W _ b v l s 1 A1.out (by decide) (by decide)).mono ?_; rintro e w2 ⟨rfl, A2, M2⟩; replace A1 := hide A2; replace M := hide (Mod.trans M.out M2); clear A2 M2))
    go_end0
    exact ⟨rfl, by rw [E.out]; exact A1.out, M.out⟩
theorem At.end {T : TypeId} {W w : World} {b : Nat} {v : Value} {l s : List Int} (h : At T W w b v l s) (hn : nx s 0 = -1) : s = [] := by
  cases s with
  | nil => rfl
  | cons x r =>
    have hx : isC x = true := h.chr x (by simp)
    rw [isC_iff] at hx
    have : x = -1 := hn
    omega
theorem untl_stop {s : List Int} (h0 : nx s 0 = 42) (h1 : nx s 1 = 47) : untl s = s.drop 2 := by
  cases s with
  | nil => simp [nx] at h0
  | cons x r =>
    have hx : x = 42 := h0
    have hr : nx r 0 = 47 := h1
    show (if x = 42 ∧ nx r 0 = 47 then r.drop 1 else untl r) = r.drop 1
    rw [if_pos ⟨hx, hr⟩]
theorem untl_go {s : List Int} (h : ¬ (nx s 0 = 42 ∧ nx s 1 = 47)) : untl s = untl (s.drop 1) := by
  cases s with
  | nil => rfl
  | cons x r =>
    have hx : ¬ (x = 42 ∧ nx r 0 = 47) := h
    show (if x = 42 ∧ nx r 0 = 47 then r.drop 1 else untl r) = untl r
    rw [if_neg hx]
theorem stB2 (s : List Int) (a b : Int) : stB s [a, b] = ((nx s 0 == a) && (nx s 1 == b)) := by
  show ((nx s 0 == a) && ((nx (s.drop 1) 0 == b) && true)) = _
  rw [nx_drop, Bool.and_true]
theorem lit2 (u : World) (a b : Int) : Nums .i32 (u.alloc (.cells #[.int .i32 a, .int .i32 b] 21)) (.slice (some ⟨u.heap.size, 0, none⟩) 2 2) [a, b] := Nums.lit u 21 [a, b] 2 rfl (by omega) (by omega)
set_option maxHeartbeats 1000000 in
theorem skipRemarks_any (T : TypeId) (W w : World) (b : Nat) (v : Value) (l s : List Int) (h : At T W w b v l s) :
    Calls Tryz.prog 14 #[.pointer (some ⟨b, 0, none⟩)] w fun e w' => e = .returned (.tuple #[]) ∧ At T W w' b v l (rmk s) ∧ w.grownBy w' (some b) := by
  have H := hide h
  clear h
  go_enter Tryz.func14, Tryz.ntmps14
  go_wp2
  go_loopg [] s.length (fun g wr => RelSk rmk T W w b v l s g wr)
  case atStart => exact .mk s H.out (Nat.le_refl _) rfl (Mod.refl _ _)
  case round =>
    clear H
    obtain ⟨t, A1, hg, R, M⟩ := hrel
    replace A1 := hide A1
    replace M := hide M
    cases hb : stB t [47, 42]
    · have HB := hide hb
      have E := hide (R.out.trans (rmk_end (s := t) (by rw [stB2] at hb; intro q; simp [q.1, q.2] at hb)))
      clear hb
      go_wp2_with (first
        | (go_at_call 23; refine (aheadA T W _ b v l t A1.out).mono ?_; rintro e w1 ⟨u, rfl, HL, B1⟩; obtain ⟨fg, lb, hu⟩ := HL.shape; replace HL := hide HL; replace A1 := hide (A1.out.below (bplus B1 (.cells #[.int .i32 47, .int .i32 42] 21))); replace M := hide (Mod.trans M.out (Mod.of b (bplus B1 (.cells #[.int .i32 47, .int .i32 42] 21)))); clear B1 hu)
        | (go_at_call 22; refine (stands_any 9 _ _ t [47, 42] _ (HL.out.below (bplus (Below.refl _ _) _)) (lit2 _ 47 42) (by decide) (by decide) (by decide)).mono ?_; rintro e w2 ⟨rfl, B2⟩; rw [HB.out]; replace A1 := hide (A1.out.below B2); replace M := hide (Mod.trans M.out (Mod.of b B2)); clear B2))
      go_end0
      exact ⟨rfl, by rw [E.out]; exact A1.out, M.out⟩
    · have HB := hide hb
      have hq : nx t 0 = 47 ∧ nx t 1 = 42 := by rw [stB2] at hb; simpa using hb
      have L := hide (nx_pos (s := t) (by omega))
      have E := hide (R.out.trans (rmk_go hq.1 hq.2))
      have HG := hide hg
      clear hb hq R hg
      go_wp2_with (first
        | (go_at_call 23; refine (aheadA T W _ b v l t A1.out).mono ?_; rintro e w1 ⟨u, rfl, HL, B1⟩; replace HL := hide HL; replace A1 := hide (A1.out.below (bplus B1 (.cells #[.int .i32 47, .int .i32 42] 21))); replace M := hide (Mod.trans M.out (Mod.of b (bplus B1 (.cells #[.int .i32 47, .int .i32 42] 21)))); clear B1)
        | (go_at_call 22; refine (stands_any 9 _ _ t [47, 42] _ (HL.out.below (bplus (Below.refl _ _) _)) (lit2 _ 47 42) (by decide) (by decide) (by decide)).mono ?_; rintro e w2 ⟨rfl, B2⟩; rw [HB.out]; replace A1 := hide (A1.out.below B2); replace M := hide (Mod.trans M.out (Mod.of b B2)); clear B2)
        | (go_at_call 24; refine (skipA T W _ b v l t 2 A1.out (by decide) (by decide)).mono ?_; rintro e w2 ⟨rfl, A2, M2⟩; replace A1 := hide A2; replace M := hide (Mod.trans M.out M2); clear A2 M2))
      clear HB HL
      go_loopg [] (t.drop 2).length (fun g wr => RelSk untl T W w b v l (t.drop 2) g wr)
      case atStart => exact .mk (t.drop 2) A1.out (Nat.le_refl _) rfl M.out
      case round =>
        clear A1 M
        obtain ⟨x, A1, hg2, R2, M⟩ := hrel
        replace A1 := hide A1
        replace M := hide M
        have LX := hide (untl_len (t.drop 2))
        by_cases hx : nx x 0 = -1
        · have X0 := hide (A1.out.end hx)
          have U := hide (show untl (t.drop 2) = x.drop 2 by rw [R2.out, X0.out]; rfl)
          have n1 : (nx x 0 == -1) = true := by simpa using hx
          have n2 : (nx x 0 != -1) = false := by simpa using hx
          clear hx
          go_wp2_with (first
            | (go_at_call 15; refine (nextA T W _ b v l x A1.out).mono ?_; rintro e w1 ⟨rfl, B1⟩; replace A1 := hide (A1.out.below B1); replace M := hide (Mod.trans M.out (Mod.of b B1)); clear B1)
            | (go_at_call 24; refine (skipA T W _ b v l x 2 A1.out (by decide) (by decide)).mono ?_; rintro e w2 ⟨rfl, A2, M2⟩; replace A1 := hide A2; replace M := hide (Mod.trans M.out M2); clear A2 M2))
          go_roundg (t.length - 1)
          case measure => have := L.out; have := HG.out; omega
          case rel => exact .mk (x.drop 2) A1.out (by rw [← U.out]; have q1 := LX.out; rw [List.length_drop] at q1; have q2 := L.out; omega) (by rw [← U.out]; exact E.out) M.out
        · have n1 : (nx x 0 == -1) = false := by simpa using hx
          have n2 : (nx x 0 != -1) = true := by simpa using hx
          have PX := hide (nx_pos hx)
          cases hc : stB x [42, 47]
          · have HB := hide hc
            have U := hide (R2.out.trans (untl_go (s := x) (by rw [stB2] at hc; intro q; simp [q.1, q.2] at hc)))
            clear hc hx
            go_wp2_with (first
              | (go_at_call 15; refine (nextA T W _ b v l x A1.out).mono ?_; rintro e w1 ⟨rfl, B1⟩; replace A1 := hide (A1.out.below B1); replace M := hide (Mod.trans M.out (Mod.of b B1)); clear B1)
              | (go_at_call 23; refine (aheadA T W _ b v l x A1.out).mono ?_; rintro e w1 ⟨u, rfl, HL, B1⟩; replace HL := hide HL; replace A1 := hide (A1.out.below (bplus B1 (.cells #[.int .i32 42, .int .i32 47] 21))); replace M := hide (Mod.trans M.out (Mod.of b (bplus B1 (.cells #[.int .i32 42, .int .i32 47] 21)))); clear B1)
              | (go_at_call 22; refine (stands_any 9 _ _ x [42, 47] _ (HL.out.below (bplus (Below.refl _ _) _)) (lit2 _ 42 47) (by decide) (by decide) (by decide)).mono ?_; rintro e w2 ⟨rfl, B2⟩; rw [HB.out]; replace A1 := hide (A1.out.below B2); replace M := hide (Mod.trans M.out (Mod.of b B2)); clear B2)
              | (go_at_call 24; refine (skipA T W _ b v l x 1 A1.out (by decide) (by decide)).mono ?_; rintro e w2 ⟨rfl, A2, M2⟩; replace A1 := hide A2; replace M := hide (Mod.trans M.out M2); clear A2 M2))
            go_roundg (x.length - 1)
            case measure => have := PX.out; omega
            case rel => exact .mk (x.drop 1) A1.out (by rw [List.length_drop]; omega) U.out M.out
          · have HB := hide hc
            have hq : nx x 0 = 42 ∧ nx x 1 = 47 := by rw [stB2] at hc; simpa using hc
            have U := hide (show untl (t.drop 2) = x.drop 2 by rw [R2.out]; exact untl_stop hq.1 hq.2)
            clear hc hx hq
            go_wp2_with (first
              | (go_at_call 15; refine (nextA T W _ b v l x A1.out).mono ?_; rintro e w1 ⟨rfl, B1⟩; replace A1 := hide (A1.out.below B1); replace M := hide (Mod.trans M.out (Mod.of b B1)); clear B1)
              | (go_at_call 23; refine (aheadA T W _ b v l x A1.out).mono ?_; rintro e w1 ⟨u, rfl, HL, B1⟩; replace HL := hide HL; replace A1 := hide (A1.out.below (bplus B1 (.cells #[.int .i32 42, .int .i32 47] 21))); replace M := hide (Mod.trans M.out (Mod.of b (bplus B1 (.cells #[.int .i32 42, .int .i32 47] 21)))); clear B1)
              | (go_at_call 22; refine (stands_any 9 _ _ x [42, 47] _ (HL.out.below (bplus (Below.refl _ _) _)) (lit2 _ 42 47) (by decide) (by decide) (by decide)).mono ?_; rintro e w2 ⟨rfl, B2⟩; rw [HB.out]; replace A1 := hide (A1.out.below B2); replace M := hide (Mod.trans M.out (Mod.of b B2)); clear B2)
              | (go_at_call 24; refine (skipA T W _ b v l x 2 A1.out (by decide) (by decide)).mono ?_; rintro e w2 ⟨rfl, A2, M2⟩; replace A1 := hide A2; replace M := hide (Mod.trans M.out M2); clear A2 M2))
            go_roundg (t.length - 1)
            case measure => have := L.out; have := HG.out; omega
            case rel => exact .mk (x.drop 2) A1.out (by rw [← U.out]; have q1 := LX.out; rw [List.length_drop] at q1; have q2 := L.out; omega) (by rw [← U.out]; exact E.out) M.out
/-- The state of the loop over digits to the base 16. -/
def RelHx (T : TypeId) (W w : World) (b : Nat) (v : Value) (l s : List Int) (n i : Value) (wr : World) : Prop :=
  ∃ (k m : Nat) (t : List Int), k ≤ 6 ∧ i = .int .i64 k ∧ n = .int .i32 m ∧ m < 16 ^ k ∧ Hid (hexs 6 0 s = hexs (6 - k) m t ∧ At T W wr b v l t ∧ w.grownBy wr (some b))
theorem RelHx.mk {T : TypeId} {W w : World} {b : Nat} {v : Value} {l s : List Int} {n i : Value} {wr : World} (k m : Nat) (t : List Int) (h1 : k ≤ 6) (h2 : i = .int .i64 k) (h3 : n = .int .i32 m) (h4 : m < 16 ^ k) (h5 : hexs 6 0 s = hexs (6 - k) m t) (h6 : At T W wr b v l t) (h7 : w.grownBy wr (some b)) : RelHx T W w b v l s n i wr := ⟨k, m, t, h1, h2, h3, h4, h5, h6, h7⟩
theorem p16 {k : Nat} (h : k ≤ 5) : 16 ^ k ≤ 1048576 := Nat.le_trans (Nat.pow_le_pow_right (by omega) h) (by decide)
theorem hexs_lt (k : Nat) : ∀ (m : Nat) (n : Nat) (s : List Int), n < 16 ^ m → k + m = 6 → 0 ≤ (hexs k n s).1 ∧ (hexs k n s).1 < 16777216 := by
  induction k with
  | zero => intro m n s h hk; obtain rfl : m = 6 := by omega
            show 0 ≤ (n : Int) ∧ (n : Int) < 16777216
            have : (16 : Nat) ^ 6 = 16777216 := by decide
            omega
  | succ k ih =>
    intro m n s h hk
    simp only [hexs]
    split
    · have h1 : 16 ^ m ≤ 16 ^ 6 := Nat.pow_le_pow_right (by omega) (by omega)
      have h2 : (16 : Nat) ^ 6 = 16777216 := by decide
      show 0 ≤ (n : Int) ∧ (n : Int) < 16777216
      omega
    · rename_i g
      have hv : hexv (nx s 0) < 16 := by
        rcases hexv_cases (nx s 0) with ⟨_, _, e⟩ | ⟨_, _, _, e⟩ | ⟨_, _, _, e⟩ | ⟨_, _, _, e⟩ | ⟨_, _, _, e⟩ | ⟨_, _, _, e⟩ | ⟨_, _, e⟩ <;> omega
      have := ih (m + 1) (n * 16 + (hexv (nx s 0)).toNat) (s.drop 1) (by rw [Nat.pow_succ]; omega) (by omega)
      rw [show ((n * 16 + (hexv (nx s 0)).toNat : Nat) : Int) = (n : Int) * 16 + hexv (nx s 0) by omega] at this
      exact this
set_option maxHeartbeats 1000000 in
theorem takeHex_any (T : TypeId) (W w : World) (b : Nat) (v : Value) (l s : List Int) (h : At T W w b v l s) :
    Calls Tryz.prog 107 #[.pointer (some ⟨b, 0, none⟩)] w fun e w' => e = .returned (.int .i32 (hexs 6 0 s).1) ∧ At T W w' b v l (hexs 6 0 s).2 ∧ w.grownBy w' (some b) := by
  have H := hide h
  clear h
  go_enter Tryz.func107, Tryz.ntmps107
  go_wp2
  go_loopw [3, 6] (fun n i wr => RelHx T W w b v l s n i wr) (fun _ i _ => 6 - (intOf i).toNat)
  case atStart => exact .mk 0 0 s (by omega) rfl rfl (by decide) rfl H.out (Mod.refl _ _)
  case round =>
    clear H
    obtain ⟨k, m, t, hk, rfl, rfl, hm, R⟩ := hrel
    obtain ⟨E, A1, M⟩ := R.out
    replace E := hide E
    replace A1 := hide A1
    replace M := hide M
    clear R
    by_cases hlt : k < 6
    · have hp := p16 (k := k) (by omega)
      have KS := hide (show 6 - k = (6 - (k + 1)) + 1 by omega)
      have hlt2 : (k : Int) < 6 := by omega
      have hm9 : m < 1048576 := by omega
      have HM := hide hm
      clear hm hp
      by_cases hx : hexv (nx t 0) < 0
      · have X := hide (hx_no hx)
        have F := hide (show hexs 6 0 s = ((m : Int), t) by rw [E.out, KS.out]; show (if hexv (nx t 0) < 0 then _ else _) = _; rw [if_pos hx])
        clear hx
        go_wp2_with (first
          | (go_at_call 15; refine (nextA T W _ b v l t A1.out).mono ?_; rintro e w1 ⟨rfl, B1⟩; replace A1 := hide (A1.out.below B1); replace M := hide (Mod.trans M.out (Mod.of b B1)); clear B1)
          | (go_at_call 106; refine (hexDigit_any _ _).mono ?_; rintro e w2 ⟨rfl, rfl⟩; rw [X.out.1, X.out.2]))
        go_ret
        exact ⟨ret_int (by rw [F.out]), by rw [F.out]; exact A1.out, M.out⟩
      · have X := hide (hx_yes (c := nx t 0) (by omega))
        have hv : hexv (nx t 0) < 16 := by
          rcases hexv_cases (nx t 0) with ⟨_, _, e⟩ | ⟨_, _, _, e⟩ | ⟨_, _, _, e⟩ | ⟨_, _, _, e⟩ | ⟨_, _, _, e⟩ | ⟨_, _, _, e⟩ | ⟨_, _, e⟩ <;> omega
        have hv0 : 0 ≤ hexv (nx t 0) := by omega
        have F := hide (show hexs 6 0 s = hexs (6 - (k + 1)) ((m * 16 + (hexv (nx t 0)).toNat : Nat) : Int) (t.drop 1) by
          rw [E.out, KS.out]; show (if hexv (nx t 0) < 0 then _ else _) = _; rw [if_neg hx]; congr 1; omega)
        have HP := hide (show m * 16 + (hexv (nx t 0)).toNat < 16 ^ (k + 1) by rw [Nat.pow_succ]; have := HM.out; omega)
        generalize hexv (nx t 0) = hv9 at *
        clear hx
        go_wp2_with (first
          | (go_at_call 15; refine (nextA T W _ b v l t A1.out).mono ?_; rintro e w1 ⟨rfl, B1⟩; replace A1 := hide (A1.out.below B1); replace M := hide (Mod.trans M.out (Mod.of b B1)); clear B1)
          | (go_at_call 106; refine (hexDigit_any _ _).mono ?_; rintro e w2 ⟨rfl, rfl⟩; rw [X.out.1, X.out.2])
          | (go_at_call 24; refine (skipA T W _ b v l t 1 A1.out (by decide) (by decide)).mono ?_; rintro e w2 ⟨rfl, A2, M2⟩; replace A1 := hide A2; replace M := hide (Mod.trans M.out M2); clear A2 M2))
        go_roundw
        case rel => exact .mk (k + 1) (m * 16 + hv9.toNat) (t.drop 1) (by omega) (by go_num) (by first | rfl | (congr 1; omega)) HP.out F.out A1.out M.out
        case measure => simp [intOf]; omega
    · obtain rfl : k = 6 := by omega
      have F := hide (show hexs 6 0 s = ((m : Int), t) from E.out)
      go_wp2
      go_ret
      exact ⟨ret_int (by rw [F.out]), by rw [F.out]; exact A1.out, M.out⟩
end Go.Proofs.YtckefmhleklciaaGreatDoor
