/-
  The program's small tests; what stands next; blanks, digits, a sign.
-/
import Derived.Test.YtckefmhleklciaaGreatDoorTokE
import Derived.Test.YtckefmhleklciaaGreatDoorUtfE
import Derived.Test.YtckefmhleklciaaGreatDoorUtfI
import Derived.Test.YtckefmhleklciaaGreatDoorDecA
import Derived.Deep.LoopGhost
import Derived.Laws.BytesArg
import Derived.Laws.IdiomStrings
set_option linter.unusedVariables false
set_option linter.unusedSimpArgs false
namespace Go.Proofs.YtckefmhleklciaaGreatDoor
open Go.RowKit

theorem isBlP_any (c : Int) (w : World) : Calls Tryz.prog 25 #[.int .i32 c] w fun e w' => e = .returned (.bool (isBl c)) ∧ w' = w := by
  rcases (show c = 10 ∨ c = 9 ∨ c = 32 ∨ (c ≠ 10 ∧ c ≠ 9 ∧ c ≠ 32) by omega) with rfl | rfl | rfl | ⟨h1, h2, h3⟩
  · go_enter Tryz.func25, Tryz.ntmps25
    go_wp2
    go_ret
    exact ⟨rfl, rfl⟩
  · go_enter Tryz.func25, Tryz.ntmps25
    go_wp2
    go_ret
    exact ⟨rfl, rfl⟩
  · go_enter Tryz.func25, Tryz.ntmps25
    go_wp2
    go_ret
    exact ⟨rfl, rfl⟩
  · have e1 : (c == 10) = false := by simpa using h1
    have e2 : (c == 9) = false := by simpa using h2
    have e3 : (c == 32) = false := by simpa using h3
    go_enter Tryz.func25, Tryz.ntmps25
    go_wp2
    go_ret
    exact ⟨ret_bool (by simp [isBl, h1, h2, h3]), rfl⟩
theorem isQP_any (c : Int) (w : World) : Calls Tryz.prog 27 #[.int .i32 c] w fun e w' => e = .returned (.bool (isQ c)) ∧ w' = w := by
  rcases (show c = 34 ∨ c = 39 ∨ (c ≠ 34 ∧ c ≠ 39) by omega) with rfl | rfl | ⟨h1, h2⟩
  · go_enter Tryz.func27, Tryz.ntmps27
    go_wp2
    go_ret
    exact ⟨rfl, rfl⟩
  · go_enter Tryz.func27, Tryz.ntmps27
    go_wp2
    go_ret
    exact ⟨rfl, rfl⟩
  · have e1 : (c == 34) = false := by simpa using h1
    have e2 : (c == 39) = false := by simpa using h2
    go_enter Tryz.func27, Tryz.ntmps27
    go_wp2
    go_ret
    exact ⟨ret_bool (by simp [isQ, h1, h2]), rfl⟩
theorem isLetP_any (c : Int) (w : World) : Calls Tryz.prog 61 #[.int .i32 c] w fun e w' => e = .returned (.bool (isLet c)) ∧ w' = w := by
  cases hf : isFst c
  · cases hd : isDig c
    · by_cases h : c = 45
      · subst h
        have F := hide hf
        have D := hide hd
        clear hf hd
        go_enter Tryz.func61, Tryz.ntmps61
        go_wp2_with (first
          | (go_at_call 31; refine (isFstP_any _ _).mono ?_; rintro e w' ⟨rfl, rfl⟩; rw [F.out])
          | (go_at_call 29; refine (isDigP_any _ _).mono ?_; rintro e w' ⟨rfl, rfl⟩; rw [D.out]))
        go_ret
        exact ⟨rfl, rfl⟩
      · have e1 : (c == 45) = false := by simpa using h
        have F := hide hf
        have D := hide hd
        clear hf hd
        go_enter Tryz.func61, Tryz.ntmps61
        go_wp2_with (first
          | (go_at_call 31; refine (isFstP_any _ _).mono ?_; rintro e w' ⟨rfl, rfl⟩; rw [F.out])
          | (go_at_call 29; refine (isDigP_any _ _).mono ?_; rintro e w' ⟨rfl, rfl⟩; rw [D.out]))
        go_ret
        exact ⟨ret_bool (by unfold isLet; rw [F.out, D.out, e1]; rfl), rfl⟩
    · have F := hide hf
      have D := hide hd
      clear hf hd
      go_enter Tryz.func61, Tryz.ntmps61
      go_wp2_with (first
        | (go_at_call 31; refine (isFstP_any _ _).mono ?_; rintro e w' ⟨rfl, rfl⟩; rw [F.out])
        | (go_at_call 29; refine (isDigP_any _ _).mono ?_; rintro e w' ⟨rfl, rfl⟩; rw [D.out]))
      go_ret
      exact ⟨ret_bool (by unfold isLet; rw [F.out, D.out]; rfl), rfl⟩
  · have F := hide hf
    clear hf
    go_enter Tryz.func61, Tryz.ntmps61
    go_wp2_with (go_at_call 31; refine (isFstP_any _ _).mono ?_; rintro e w' ⟨rfl, rfl⟩; rw [F.out])
    go_ret
    exact ⟨ret_bool (by unfold isLet; rw [F.out]; rfl), rfl⟩
theorem un_cases (c : Int) : (c < 0 ∧ isUn c = false) ∨ (0 ≤ c ∧ c ≤ 8 ∧ isUn c = true) ∨ (8 < c ∧ c < 11 ∧ isUn c = false) ∨ (c = 11 ∧ isUn c = true) ∨ (11 < c ∧ c < 14 ∧ isUn c = false) ∨ (14 ≤ c ∧ c ≤ 31 ∧ isUn c = true) ∨ (31 < c ∧ c < 127 ∧ isUn c = false) ∨ (c = 127 ∧ isUn c = true) ∨ (127 < c ∧ isUn c = false) := by
  have : isUn c = true ↔ (0 ≤ c ∧ c ≤ 8) ∨ c = 11 ∨ (14 ≤ c ∧ c ≤ 31) ∨ c = 127 := by simp [isUn]; omega
  by_cases h : isUn c = true
  · have := this.1 h; simp only [h, and_true]; simp; omega
  · have h' : isUn c = false := by simpa using h
    have : ¬ ((0 ≤ c ∧ c ≤ 8) ∨ c = 11 ∨ (14 ≤ c ∧ c ≤ 31) ∨ c = 127) := fun k => h (this.2 k)
    simp only [h', and_true]; simp; omega
set_option maxHeartbeats 1000000 in
theorem isUnP_any (c : Int) (w : World) : Calls Tryz.prog 118 #[.int .i32 c] w fun e w' => e = .returned (.bool (isUn c)) ∧ w' = w := by
  rcases un_cases c with ⟨h, e⟩ | ⟨h, g, e⟩ | ⟨h, g, e⟩ | ⟨rfl, e⟩ | ⟨h, g, e⟩ | ⟨h, g, e⟩ | ⟨h, g, e⟩ | ⟨rfl, e⟩ | ⟨h, e⟩
  all_goals
    have E := hide e
    clear e
    try (have n1 : (c == 11) = false := by simp; omega)
    try (have n2 : (c == 127) = false := by simp; omega)
    go_enter Tryz.func118, Tryz.ntmps118
    go_wp2
    go_ret
    exact ⟨ret_bool (by rw [E.out]; first | done | rfl | (simp; omega)), rfl⟩
/-- A digit to the base 16, as the program tells it. -/
def hxN (c : Int) : Int := if hexv c < 0 then 0 else hexv c
def hxB (c : Int) : Bool := decide (0 ≤ hexv c)
theorem hx_no {c : Int} (h : hexv c < 0) : hxN c = 0 ∧ hxB c = false := by unfold hxN hxB; rw [if_pos h]; simp; omega
theorem hx_yes {c : Int} (h : 0 ≤ hexv c) : hxN c = hexv c ∧ hxB c = true := by unfold hxN hxB; rw [if_neg (by omega)]; simp; omega
theorem hexv_cases (c : Int) : (c < 48 ∧ isDig c = false ∧ hexv c = -1) ∨ (48 ≤ c ∧ c ≤ 57 ∧ isDig c = true ∧ hexv c = c - 48) ∨ (57 < c ∧ c < 65 ∧ isDig c = false ∧ hexv c = -1) ∨ (65 ≤ c ∧ c ≤ 70 ∧ isDig c = false ∧ hexv c = c - 65 + 10) ∨ (70 < c ∧ c < 97 ∧ isDig c = false ∧ hexv c = -1) ∨ (97 ≤ c ∧ c ≤ 102 ∧ isDig c = false ∧ hexv c = c - 97 + 10) ∨ (102 < c ∧ isDig c = false ∧ hexv c = -1) := by
  have hd : isDig c = true ↔ 48 ≤ c ∧ c ≤ 57 := by simp [isDig]
  have hd' : isDig c = false ↔ ¬ (48 ≤ c ∧ c ≤ 57) := by rw [← hd]; simp
  rcases (show c < 48 ∨ (48 ≤ c ∧ c ≤ 57) ∨ (57 < c ∧ c < 65) ∨ (65 ≤ c ∧ c ≤ 70) ∨ (70 < c ∧ c < 97) ∨ (97 ≤ c ∧ c ≤ 102) ∨ 102 < c by omega) with h | h | h | h | h | h | h
  all_goals unfold hexv
  · left; exact ⟨h, hd'.2 (by omega), by rw [if_neg (by omega), if_neg (by omega), if_neg (by omega)]⟩
  · right; left; exact ⟨h.1, h.2, hd.2 h, by rw [if_pos h]⟩
  · right; right; left; exact ⟨h.1, h.2, hd'.2 (by omega), by rw [if_neg (by omega), if_neg (by omega), if_neg (by omega)]⟩
  · right; right; right; left; exact ⟨h.1, h.2, hd'.2 (by omega), by rw [if_neg (by omega), if_neg (by omega), if_pos h]⟩
  · right; right; right; right; left; exact ⟨h.1, h.2, hd'.2 (by omega), by rw [if_neg (by omega), if_neg (by omega), if_neg (by omega)]⟩
  · right; right; right; right; right; left; exact ⟨h.1, h.2, hd'.2 (by omega), by rw [if_neg (by omega), if_pos h]⟩
  · right; right; right; right; right; right; exact ⟨h, hd'.2 (by omega), by rw [if_neg (by omega), if_neg (by omega), if_neg (by omega)]⟩
theorem tup2 {a a' : Int} {b b' : Bool} (h1 : a = a') (h2 : b = b') : Ending.returned (.tuple #[.int .i32 a, .bool b]) = .returned (.tuple #[.int .i32 a', .bool b']) := by rw [h1, h2]
set_option maxHeartbeats 1000000 in
theorem hexDigit_any (c : Int) (w : World) : Calls Tryz.prog 106 #[.int .i32 c] w fun e w' => e = .returned (.tuple #[.int .i32 (hxN c), .bool (hxB c)]) ∧ w' = w := by
  rcases hexv_cases c with ⟨h, d, e⟩ | ⟨h, g, d, e⟩ | ⟨h, g, d, e⟩ | ⟨h, g, d, e⟩ | ⟨h, g, d, e⟩ | ⟨h, g, d, e⟩ | ⟨h, d, e⟩
  · have D := hide d
    have X := hide (hx_no (c := c) (by omega))
    clear d e
    go_enter Tryz.func106, Tryz.ntmps106
    go_wp2_with (go_at_call 29; refine (isDigP_any _ _).mono ?_; rintro e w' ⟨rfl, rfl⟩; rw [D.out])
    go_ret2
    exact ⟨by rw [X.out.1, X.out.2]; rfl, rfl⟩
  · have D := hide d
    have X := hide (hx_yes (c := c) (by omega))
    rw [e] at X
    clear d e
    go_enter Tryz.func106, Tryz.ntmps106
    go_wp2_with (go_at_call 29; refine (isDigP_any _ _).mono ?_; rintro e w' ⟨rfl, rfl⟩; rw [D.out])
    go_ret2
    exact ⟨by rw [X.out.1, X.out.2]; first | rfl | (exact tup2 (by omega) rfl), rfl⟩
  · have D := hide d
    have X := hide (hx_no (c := c) (by omega))
    clear d e
    go_enter Tryz.func106, Tryz.ntmps106
    go_wp2_with (go_at_call 29; refine (isDigP_any _ _).mono ?_; rintro e w' ⟨rfl, rfl⟩; rw [D.out])
    go_ret2
    exact ⟨by rw [X.out.1, X.out.2]; rfl, rfl⟩
  · have D := hide d
    have X := hide (hx_yes (c := c) (by omega))
    rw [e] at X
    clear d e
    go_enter Tryz.func106, Tryz.ntmps106
    go_wp2_with (go_at_call 29; refine (isDigP_any _ _).mono ?_; rintro e w' ⟨rfl, rfl⟩; rw [D.out])
    go_ret2
    exact ⟨by rw [X.out.1, X.out.2]; first | rfl | (exact tup2 (by omega) rfl), rfl⟩
  · have D := hide d
    have X := hide (hx_no (c := c) (by omega))
    clear d e
    go_enter Tryz.func106, Tryz.ntmps106
    go_wp2_with (go_at_call 29; refine (isDigP_any _ _).mono ?_; rintro e w' ⟨rfl, rfl⟩; rw [D.out])
    go_ret2
    exact ⟨by rw [X.out.1, X.out.2]; rfl, rfl⟩
  · have D := hide d
    have X := hide (hx_yes (c := c) (by omega))
    rw [e] at X
    clear d e
    go_enter Tryz.func106, Tryz.ntmps106
    go_wp2_with (go_at_call 29; refine (isDigP_any _ _).mono ?_; rintro e w' ⟨rfl, rfl⟩; rw [D.out])
    go_ret2
    exact ⟨by rw [X.out.1, X.out.2]; first | rfl | (exact tup2 (by omega) rfl), rfl⟩
  · have D := hide d
    have X := hide (hx_no (c := c) (by omega))
    clear d e
    go_enter Tryz.func106, Tryz.ntmps106
    go_wp2_with (go_at_call 29; refine (isDigP_any _ _).mono ?_; rintro e w' ⟨rfl, rfl⟩; rw [D.out])
    go_ret2
    exact ⟨by rw [X.out.1, X.out.2]; rfl, rfl⟩
/-- Just these come next. -/
def stB : List Int → List Int → Bool
  | _, [] => true
  | s, c :: r => (nx s 0 == c) && stB (s.drop 1) r
def RelSt (s sg : List Int) (i : Value) : Prop := ∃ k : Nat, k ≤ sg.length ∧ i = .int .i64 k ∧ Hid (stB s sg = stB (s.drop k) (sg.drop k))
theorem RelSt.mk {s sg : List Int} {i : Value} (k : Nat) (h1 : k ≤ sg.length) (h2 : i = .int .i64 k) (h3 : stB s sg = stB (s.drop k) (sg.drop k)) : RelSt s sg i := ⟨k, h1, h2, h3⟩
def RelStw (w : World) (s sg : List Int) (i : Value) (wr : World) : Prop := RelSt s sg i ∧ Below w.heap.size w wr
set_option maxHeartbeats 1000000 in
theorem stands_any (d : Nat) (u v : Value) (s sg : List Int) (w : World) (hu : Look d w u s) (hv : Nums .i32 w v sg) (h0 : 0 < sg.length) (hd : sg.length ≤ d) (hd9 : d ≤ 9) :
    Calls Tryz.prog 22 #[u, v] w fun e w' => e = .returned (.bool (stB s sg)) ∧ Below w.heap.size w w' := by
  obtain ⟨g, lb, rfl, eg, hg⟩ := hu
  have HG := hide hg
  clear hg
  rcases hv with ⟨a, c, rfl, rfl⟩ | ⟨b, o, n, c, rfl, hn, _, hbw, hc, hn9, hc9, hcell⟩
  · simp at h0
  · have HN := hide hn
    have HC := hide hcell
    have hn9' : n ≤ 9 := by omega
    have hnd : n ≤ d := by omega
    clear hn hcell h0 hd
    go_enter Tryz.func22, Tryz.ntmps22
    go_wp2
    go_loopw [9] (fun i wr => RelStw w s sg i wr) (fun i _ => n - (intOf i).toNat)
    case atStart => exact ⟨.mk 0 (by omega) rfl rfl, Below.refl _ _⟩
    case round =>
      obtain ⟨⟨k, hk, rfl, R⟩, B⟩ := hrel
      replace B := hide B
      by_cases hlt : k < n
      · have cx : wr.cell? ⟨b, o + k, none⟩ = some (.int .i32 (gt sg k)) := (B.out.cell (p := ⟨b, o + k, none⟩) hbw).trans (HC.out k hlt)
        have S := hide (show stB (s.drop k) (sg.drop k) = ((nx s k == gt sg k) && stB (s.drop (k + 1)) (sg.drop (k + 1))) by
          rw [drop_gt (bs := sg) (by rw [← HN.out]; exact hlt)]
          show ((nx (s.drop k) 0 == gt sg k) && stB ((s.drop k).drop 1) (sg.drop (k + 1))) = _
          rw [nx_drop, List.drop_drop]; rfl)
        have HK := hide hk
        have KN := hide (show nx s (Int.toNat (k : Int)) = nx s k by simp)
        have hlt2 : (k : Int) < n := by omega
        clear hk
        by_cases he : nx s k = gt sg k
        · rw [he] at KN
          generalize gt sg k = x at *
          have S2 := hide (show stB s sg = stB (s.drop (k + 1)) (sg.drop (k + 1)) by rw [R.out, S.out, he]; simp)
          clear he
          go_wp2_with (go_at_fn g; refine (HG.out _ _ (by omega) (by omega) B.out).mono ?_; rintro e w1 ⟨he, B1⟩; rw [KN.out] at he; subst he; replace B := hide (bto B.out B1); clear B1)
          go_roundw
          case rel => exact ⟨.mk (k + 1) (by rw [← HN.out]; omega) (by go_num) S2.out, B.out⟩
          case measure => simp [intOf]; omega
        · have S2 := hide (show stB s sg = false by rw [R.out, S.out]; simp [he])
          have hne : (nx s k == gt sg k) = false := by simpa using he
          have hne2 : (nx s k != gt sg k) = true := by simpa using he
          generalize gt sg k = x at *
          generalize nx s k = y at *
          clear he
          go_wp2_with (go_at_fn g; refine (HG.out _ _ (by omega) (by omega) B.out).mono ?_; rintro e w1 ⟨he, B1⟩; rw [KN.out] at he; subst he; replace B := hide (bto B.out B1); clear B1)
          go_ret
          exact ⟨ret_bool S2.out.symm, B.out⟩
      · have S2 := hide (show stB s sg = true by rw [R.out, List.drop_of_length_le (l := sg) (by rw [← HN.out]; omega)]; rfl)
        have hlt2 : ¬ (k : Int) < n := by omega
        go_wp2
        go_ret
        exact ⟨ret_bool S2.out.symm, B.out⟩
end Go.Proofs.YtckefmhleklciaaGreatDoor
