/-
  Which texts are names, by the program and by the reference.
-/
import Derived.Test.YtdmijejcifjaoaaDecA
import Derived.Test.YtdmijejcifjaoaaPlnA
import Derived.Laws.IdiomStrings
set_option linter.unusedVariables false
set_option linter.unusedSimpArgs false
namespace Go.Proofs.Ytdmijejcifjaoaa
open Go.RowKit

/-- May a name begin with it? -/
def isHd (c : Int) : Bool := ((decide (97 ≤ c) && decide (c ≤ 122)) || (decide (65 ≤ c) && decide (c ≤ 90))) || (c == 95)
def inNm (c : Int) : Bool := isHd c || (c == 45) || (decide (48 ≤ c) && decide (c ≤ 57))
/-- Is it a name? -/
def nmD (l : List Int) : Bool := (decide (1 ≤ l.length) && decide (l.length ≤ 64)) && (isHd (gt l 0) && l.all inNm)
theorem hd_cases (c : Int) : (c < 65 ∧ isHd c = false) ∨ (65 ≤ c ∧ c ≤ 90 ∧ isHd c = true) ∨ (90 < c ∧ c < 95 ∧ isHd c = false) ∨ (c = 95) ∨ (95 < c ∧ c < 97 ∧ isHd c = false) ∨ (97 ≤ c ∧ c ≤ 122 ∧ isHd c = true) ∨ (122 < c ∧ isHd c = false) := by
  by_cases h : c = 95
  · exact .inr (.inr (.inr (.inl h)))
  · have h' : (c == 95) = false := by simpa using h
    simp only [isHd, h', Bool.or_false, Bool.or_eq_false_iff, Bool.and_eq_false_iff, Bool.or_eq_true, Bool.and_eq_true, decide_eq_true_eq, decide_eq_false_iff_not]
    omega
theorem isHead_any (c : Int) (w : World) : Calls Try.prog 10 #[.int .u8 c] w fun e w' => e = .returned (.bool (isHd c)) ∧ w' = w := by
  rcases hd_cases c with ⟨h, e⟩ | ⟨h, g, e⟩ | ⟨h, g, e⟩ | rfl | ⟨h, g, e⟩ | ⟨h, g, e⟩ | ⟨h, e⟩
  case inr.inr.inr.inl =>
    go_enter Try.func10, Try.ntmps10
    go_wp2
    go_ret
    exact ⟨rfl, rfl⟩
  case inr.inr.inl =>
    have n : (c == 95) = false := by simp; omega
    have E := hide e
    clear e
    go_enter Try.func10, Try.ntmps10
    go_wp2
    go_ret
    exact ⟨ret_bool (by rw [E.out]; first | done | rfl | exact n | (simp; omega)), rfl⟩
  case inr.inr.inr.inr.inl =>
    have n : (c == 95) = false := by simp; omega
    have E := hide e
    clear e
    go_enter Try.func10, Try.ntmps10
    go_wp2
    go_ret
    exact ⟨ret_bool (by rw [E.out]; first | done | rfl | exact n | (simp; omega)), rfl⟩
  case inr.inr.inr.inr.inr.inr =>
    have n : (c == 95) = false := by simp; omega
    have E := hide e
    clear e
    go_enter Try.func10, Try.ntmps10
    go_wp2
    go_ret
    exact ⟨ret_bool (by rw [E.out]; first | done | rfl | exact n | (simp; omega)), rfl⟩
  case inl =>
    have n : (c == 95) = false := by simp; omega
    have E := hide e
    clear e
    go_enter Try.func10, Try.ntmps10
    go_wp2
    go_ret
    exact ⟨ret_bool (by rw [E.out]; first | done | rfl | exact n | (simp; omega)), rfl⟩
  all_goals
    have E := hide e
    clear e
    go_enter Try.func10, Try.ntmps10
    go_wp2
    go_ret
    exact ⟨ret_bool E.out.symm, rfl⟩
/-- The state of a loop over a name. -/
def RelNm (l : List Int) (i : Value) : Prop := ∃ k : Nat, i = .int .i64 k ∧ k ≤ l.length ∧ Hid ((l.take k).all inNm = true)
theorem RelNm.mk {l : List Int} {i : Value} (k : Nat) (h1 : i = .int .i64 k) (h2 : k ≤ l.length) (h3 : (l.take k).all inNm = true) : RelNm l i := ⟨k, h1, h2, h3⟩
theorem nm_step {l : List Int} {k : Nat} (hk : k < l.length) (h : (l.take k).all inNm = true) (h0 : inNm (gt l k) = true) : (l.take (k + 1)).all inNm = true := by
  rw [gt_eq hk] at h0
  rw [List.take_succ_eq_append_getElem hk, List.all_append, h]
  simp [h0]
theorem nm_stop {l : List Int} {k : Nat} (hk : k < l.length) (h0 : inNm (gt l k) = false) : l.all inNm = false := by
  rw [gt_eq hk] at h0
  rw [List.all_eq_false]
  exact ⟨_, List.getElem_mem hk, by simp [h0]⟩
theorem in_cases (c : Int) : (isHd c = true ∧ inNm c = true) ∨ (isHd c = false ∧ c = 45) ∨ (isHd c = false ∧ ¬ c = 45 ∧ ((c < 48 ∧ inNm c = false) ∨ (48 ≤ c ∧ c ≤ 57 ∧ inNm c = true) ∨ (48 ≤ c ∧ 57 < c ∧ inNm c = false))) := by
  cases h : isHd c
  · by_cases g : c = 45
    · exact .inr (.inl ⟨rfl, g⟩)
    · have g' : (c == 45) = false := by simpa using g
      refine .inr (.inr ⟨rfl, g, ?_⟩)
      simp only [inNm, h, g', Bool.false_or, Bool.and_eq_false_iff, Bool.and_eq_true, decide_eq_true_eq, decide_eq_false_iff_not]
      omega
  · exact .inl ⟨rfl, by simp [inNm, h]⟩
theorem bl_gt (s : ByteArray) (i : Nat) (h : i < s.size) : gt (bl s) i = (s[i].toNat : Int) := (bl_at s i h).symm
set_option maxHeartbeats 1000000 in
theorem mayName_any (s : ByteArray) (w : World) (hs : s.size ≤ maxLen) :
    Calls Try.prog 6 #[.string s] w fun e w' => e = .returned (.bool (nmD (bl s))) ∧ w' = w := by
  have BL := hide (bl_len s)
  unfold maxLen at hs
  by_cases h0 : s.size = 0
  · have F := hide (show nmD (bl s) = false by unfold nmD; rw [bl_len]; simp [h0])
    have e0 : s = ⟨#[]⟩ := by
      cases s with | mk d => cases d with | mk l => simp [ByteArray.size] at h0; subst h0; rfl
    subst e0
    go_enter Try.func6, Try.ntmps6
    go_wp2
    go_ret
    exact ⟨ret_bool F.out.symm, rfl⟩
  have e1 : s.toList.isEmpty = false := emp_f (by omega)
  have e0 : ¬ s.toList = [] := by intro h; rw [h] at e1; cases e1
  by_cases h64 : 64 < s.size
  · have F := hide (show nmD (bl s) = false by unfold nmD; rw [bl_len]; simp; omega)
    have g : (64 : Int) < s.size := by omega
    go_enter Try.func6, Try.ntmps6
    go_wp2
    go_ret
    exact ⟨ret_bool F.out.symm, rfl⟩
  have g0 : 0 < s.size := by omega
  have g : (s.size : Int) ≤ 64 := by omega
  have M := hide (show nmD (bl s) = (isHd (gt (bl s) 0) && (bl s).all inNm) by unfold nmD; rw [bl_len]; simp; omega)
  rw [bl_gt s 0 g0] at M
  cases hh : isHd (s[0].toNat : Int)
  · have H := hide hh
    clear hh
    go_enter Try.func6, Try.ntmps6
    go_wp2_with (go_at_call 10; refine (isHead_any _ _).mono ?_; rintro e w' ⟨rfl, rfl⟩; rw [H.out])
    go_ret
    exact ⟨ret_bool (by rw [M.out, H.out]; rfl), rfl⟩
  have H := hide hh
  clear hh
  replace M := hide (show nmD (bl s) = (bl s).all inNm by rw [M.out, H.out]; rfl)
  go_enter Try.func6, Try.ntmps6
  go_wp2_with (go_at_call 10; refine (isHead_any _ _).mono ?_; rintro e w' ⟨rfl, rfl⟩; rw [H.out])
  go_loop [20] (fun i => RelNm (bl s) i) (fun i => s.size - (intOf i).toNat)
  case atStart => exact .mk 0 rfl (by omega) rfl
  case round =>
    obtain ⟨k, rfl, hk, R⟩ := hrel
    rw [BL.out] at hk
    by_cases hlt : k < s.size
    · have G := hide (bl_gt s k hlt)
      obtain ⟨c, hc⟩ : ∃ c : Int, (s[k].toNat : Int) = c := ⟨_, rfl⟩
      rw [hc] at G
      rcases in_cases c with ⟨i1, i2⟩ | ⟨i1, i2⟩ | ⟨i1, i2, ⟨i3, i4⟩ | ⟨i3, i4, i5⟩ | ⟨i3, i4, i5⟩⟩
      · have I := hide i1
        have J := hide i2
        clear i1 i2
        go_wp2_with (go_at_call 10; refine (isHead_any _ _).mono ?_; rintro e w' ⟨rfl, rfl⟩; rw [I.out])
        go_round
        case rel => exact .mk (k + 1) (by go_num) (by rw [BL.out]; omega) (nm_step (by rw [BL.out]; exact hlt) R.out (by rw [G.out, J.out]))
        case measure => simp [intOf]; omega
      · subst i2
        have I := hide i1
        clear i1
        go_wp2_with (go_at_call 10; refine (isHead_any _ _).mono ?_; rintro e w' ⟨rfl, rfl⟩; rw [I.out])
        go_round
        case rel => exact .mk (k + 1) (by go_num) (by rw [BL.out]; omega) (nm_step (by rw [BL.out]; exact hlt) R.out (by rw [G.out]; decide))
        case measure => simp [intOf]; omega
      · have I := hide i1
        have J := hide (nm_stop (l := bl s) (k := k) (by rw [BL.out]; exact hlt) (by rw [G.out, i4]))
        clear i1 i4
        go_wp2_with (go_at_call 10; refine (isHead_any _ _).mono ?_; rintro e w' ⟨rfl, rfl⟩; rw [I.out])
        go_ret
        exact ⟨ret_bool (by rw [M.out, J.out]), rfl⟩
      · have I := hide i1
        have J := hide i5
        clear i1 i5
        go_wp2_with (go_at_call 10; refine (isHead_any _ _).mono ?_; rintro e w' ⟨rfl, rfl⟩; rw [I.out])
        go_round
        case rel => exact .mk (k + 1) (by go_num) (by rw [BL.out]; omega) (nm_step (by rw [BL.out]; exact hlt) R.out (by rw [G.out, J.out]))
        case measure => simp [intOf]; omega
      · have I := hide i1
        have J := hide (nm_stop (l := bl s) (k := k) (by rw [BL.out]; exact hlt) (by rw [G.out, i5]))
        clear i1 i5
        go_wp2_with (go_at_call 10; refine (isHead_any _ _).mono ?_; rintro e w' ⟨rfl, rfl⟩; rw [I.out])
        go_ret
        exact ⟨ret_bool (by rw [M.out, J.out]), rfl⟩
    · have F := hide (show (bl s).all inNm = true by have := R.out; rwa [List.take_of_length_le (by rw [BL.out]; omega)] at this)
      go_wp2
      go_ret
      exact ⟨ret_bool (by rw [M.out, F.out]), rfl⟩
end Go.Proofs.Ytdmijejcifjaoaa
