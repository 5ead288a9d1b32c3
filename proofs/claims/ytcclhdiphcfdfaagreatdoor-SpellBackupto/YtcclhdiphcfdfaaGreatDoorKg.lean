/-
  The program's small tests; what stands next; blanks, digits, a sign.
  What is written; blanks, digits, a sign, remarks; an escape.
  Digits, a sign, remarks, an escape, by the program.
  An escape, a name, a number, by the program.
  Whether an exponent begins; a number taken, by the program.
-/
import Derived.Test.YtcclhdiphcfdfaaGreatDoorKd
import Derived.Test.YtcclhdiphcfdfaaGreatDoorKa
import Derived.Test.YtcclhdiphcfdfaaGreatDoorKb
import Derived.Test.YtcclhdiphcfdfaaGreatDoorKe
import Derived.Deep.LoopGhost
import Derived.Laws.BytesArg
import Derived.Laws.IdiomStrings
import Derived.Outline
set_option linter.unusedVariables false
set_option linter.unusedSimpArgs false
namespace Go.Proofs.YtcclhdiphcfdfaaGreatDoor
open Go.RowKit

theorem isBlP_any (c : Int) (w : World) : Calls Tryz.prog 88 #[.int .i32 c] w fun e w' => e = .returned (.bool (isBl c)) ∧ w' = w := by
  rcases (show c = 10 ∨ c = 9 ∨ c = 32 ∨ (c ≠ 10 ∧ c ≠ 9 ∧ c ≠ 32) by omega) with rfl | rfl | rfl | ⟨h1, h2, h3⟩
  · go_enter Tryz.func88, Tryz.ntmps88
    go_wp2
    go_ret
    exact ⟨rfl, rfl⟩
  · go_enter Tryz.func88, Tryz.ntmps88
    go_wp2
    go_ret
    exact ⟨rfl, rfl⟩
  · go_enter Tryz.func88, Tryz.ntmps88
    go_wp2
    go_ret
    exact ⟨rfl, rfl⟩
  · have e1 : (c == 10) = false := by simpa using h1
    have e2 : (c == 9) = false := by simpa using h2
    have e3 : (c == 32) = false := by simpa using h3
    go_enter Tryz.func88, Tryz.ntmps88
    go_wp2
    go_ret
    exact ⟨ret_bool (by simp [isBl, h1, h2, h3]), rfl⟩
theorem isQP_any (c : Int) (w : World) : Calls Tryz.prog 90 #[.int .i32 c] w fun e w' => e = .returned (.bool (isQ c)) ∧ w' = w := by
  rcases (show c = 34 ∨ c = 39 ∨ (c ≠ 34 ∧ c ≠ 39) by omega) with rfl | rfl | ⟨h1, h2⟩
  · go_enter Tryz.func90, Tryz.ntmps90
    go_wp2
    go_ret
    exact ⟨rfl, rfl⟩
  · go_enter Tryz.func90, Tryz.ntmps90
    go_wp2
    go_ret
    exact ⟨rfl, rfl⟩
  · have e1 : (c == 34) = false := by simpa using h1
    have e2 : (c == 39) = false := by simpa using h2
    go_enter Tryz.func90, Tryz.ntmps90
    go_wp2
    go_ret
    exact ⟨ret_bool (by simp [isQ, h1, h2]), rfl⟩
theorem isLetP_any (c : Int) (w : World) : Calls Tryz.prog 129 #[.int .i32 c] w fun e w' => e = .returned (.bool (isLet c)) ∧ w' = w := by
  cases hf : isFst c
  · cases hd : isDig c
    · by_cases h : c = 45
      · subst h
        have F := hide hf
        have D := hide hd
        clear hf hd
        go_enter Tryz.func129, Tryz.ntmps129
        go_wp2_with (first
          | (go_at_call 94; refine (isFstP_any _ _).mono ?_; rintro e w' ⟨rfl, rfl⟩; rw [F.out])
          | (go_at_call 92; refine (isDigP_any _ _).mono ?_; rintro e w' ⟨rfl, rfl⟩; rw [D.out]))
        go_ret
        exact ⟨rfl, rfl⟩
      · have e1 : (c == 45) = false := by simpa using h
        have F := hide hf
        have D := hide hd
        clear hf hd
        go_enter Tryz.func129, Tryz.ntmps129
        go_wp2_with (first
          | (go_at_call 94; refine (isFstP_any _ _).mono ?_; rintro e w' ⟨rfl, rfl⟩; rw [F.out])
          | (go_at_call 92; refine (isDigP_any _ _).mono ?_; rintro e w' ⟨rfl, rfl⟩; rw [D.out]))
        go_ret
        exact ⟨ret_bool (by unfold isLet; rw [F.out, D.out, e1]; rfl), rfl⟩
    · have F := hide hf
      have D := hide hd
      clear hf hd
      go_enter Tryz.func129, Tryz.ntmps129
      go_wp2_with (first
        | (go_at_call 94; refine (isFstP_any _ _).mono ?_; rintro e w' ⟨rfl, rfl⟩; rw [F.out])
        | (go_at_call 92; refine (isDigP_any _ _).mono ?_; rintro e w' ⟨rfl, rfl⟩; rw [D.out]))
      go_ret
      exact ⟨ret_bool (by unfold isLet; rw [F.out, D.out]; rfl), rfl⟩
  · have F := hide hf
    clear hf
    go_enter Tryz.func129, Tryz.ntmps129
    go_wp2_with (go_at_call 94; refine (isFstP_any _ _).mono ?_; rintro e w' ⟨rfl, rfl⟩; rw [F.out])
    go_ret
    exact ⟨ret_bool (by unfold isLet; rw [F.out]; rfl), rfl⟩
theorem un_cases (c : Int) : (c < 0 ∧ isUn c = false) ∨ (0 ≤ c ∧ c ≤ 8 ∧ isUn c = true) ∨ (8 < c ∧ c < 11 ∧ isUn c = false) ∨ (c = 11 ∧ isUn c = true) ∨ (11 < c ∧ c < 14 ∧ isUn c = false) ∨ (14 ≤ c ∧ c ≤ 31 ∧ isUn c = true) ∨ (31 < c ∧ c < 127 ∧ isUn c = false) ∨ (c = 127 ∧ isUn c = true) ∨ (127 < c ∧ isUn c = false) := by
  have : isUn c = true ↔ (0 ≤ c ∧ c ≤ 8) ∨ c = 11 ∨ (14 ≤ c ∧ c ≤ 31) ∨ c = 127 := by simp [isUn]; omega
  by_cases h : isUn c = true
  · have := this.1 h; simp only [h, and_true]; simp; omega
  · have h' : isUn c = false := by simpa using h
    have : ¬ ((0 ≤ c ∧ c ≤ 8) ∨ c = 11 ∨ (14 ≤ c ∧ c ≤ 31) ∨ c = 127) := fun k => h (this.2 k)
    simp only [h', and_true]; simp; omega
set_option maxHeartbeats 1000000 in
theorem isUnP_any (c : Int) (w : World) : Calls Tryz.prog 196 #[.int .i32 c] w fun e w' => e = .returned (.bool (isUn c)) ∧ w' = w := by
  rcases un_cases c with ⟨h, e⟩ | ⟨h, g, e⟩ | ⟨h, g, e⟩ | ⟨rfl, e⟩ | ⟨h, g, e⟩ | ⟨h, g, e⟩ | ⟨h, g, e⟩ | ⟨rfl, e⟩ | ⟨h, e⟩
  all_goals
    have E := hide e
    clear e
    try (have n1 : (c == 11) = false := by simp; omega)
    try (have n2 : (c == 127) = false := by simp; omega)
    go_enter Tryz.func196, Tryz.ntmps196
    go_wp2
    go_ret
    exact ⟨ret_bool (by rw [E.out]; first | done | rfl | (simp; omega)), rfl⟩
/-- A digit to the base 16, as the program tells it. -/
def hxN (c : Int) : Int := if hexv c < 0 then 0 else hexv c
def hxB (c : Int) : Bool := decide (0 ≤ hexv c)
theorem hx_no {c : Int} (h : hexv c < 0) : hxN c = 0 ∧ hxB c = false := by unfold hxN hxB; rw [if_pos h]; simp; omega
theorem hx_yes {c : Int} (h : 0 ≤ hexv c) : hxN c = hexv c ∧ hxB c = true := by unfold hxN hxB; rw [if_neg (by omega)]; simp; omega
theorem hexv_cases (c : Int) : (c < 48 ∧ isDig c = false ∧ hexv c = -1) ∨ (48 ≤ c ∧ c ≤ 57 ∧ isDig c = true ∧ hexv c = c - 48) ∨ (57 < c ∧ c < 65 ∧ isDig c = false ∧ hexv c = -1) ∨ (65 ≤ c ∧ c ≤ 70 ∧ isDig c = false ∧ hexv c = c - 65 + 10) ∨ (70 < c ∧ c < 97 ∧ isDig c = false ∧ hexv c = -1) ∨ (97 ≤ c ∧ c ≤ 102 ∧ isDig c = false ∧ hexv c = c - 97 + 10) ∨ (102 < c ∧ isDig c = false ∧ hexv c = -1) := by
  have hd : isDig c = true ↔ 48 ≤ c ∧ c ≤ 57 := by simp [isDig]
  have hd' : isDig c = false ↔ ¬ (48 ≤ c ∧ c ≤ 57) := by rw [← hd]; simp
  rcases (show c < 48 ∨ (48 ≤ c ∧ c ≤ 57) ∨ (57 < c ∧ c < 65) ∨ (65 ≤ c ∧ c ≤ 70) ∨ (70 < c ∧ c < 97) ∨ (97 ≤ c ∧ c ≤ 102) ∨ 102 < c by omega) with h | h | h | h | h | h | h
  all_goals unfold hexv
  · left; exact ⟨h, hd'.2 (by omega), by rw [if_neg (by omega), if_neg (by omega), if_neg (by omega)]⟩
  · right; left; exact ⟨h.1, h.2, hd.2 h, by rw [if_pos h]⟩
  · right; right; left; exact ⟨h.1, h.2, hd'.2 (by omega), by rw [if_neg (by omega), if_neg (by omega), if_neg (by omega)]⟩
  · right; right; right; left; exact ⟨h.1, h.2, hd'.2 (by omega), by rw [if_neg (by omega), if_neg (by omega), if_pos h]⟩
  · right; right; right; right; left; exact ⟨h.1, h.2, hd'.2 (by omega), by rw [if_neg (by omega), if_neg (by omega), if_neg (by omega)]⟩
  · right; right; right; right; right; left; exact ⟨h.1, h.2, hd'.2 (by omega), by rw [if_neg (by omega), if_pos h]⟩
  · right; right; right; right; right; right; exact ⟨h, hd'.2 (by omega), by rw [if_neg (by omega), if_neg (by omega), if_neg (by omega)]⟩
theorem tup2 {a a' : Int} {b b' : Bool} (h1 : a = a') (h2 : b = b') : Ending.returned (.tuple #[.int .i32 a, .bool b]) = .returned (.tuple #[.int .i32 a', .bool b']) := by rw [h1, h2]
set_option maxHeartbeats 1000000 in
theorem hexDigit_any (c : Int) (w : World) : Calls Tryz.prog 186 #[.int .i32 c] w fun e w' => e = .returned (.tuple #[.int .i32 (hxN c), .bool (hxB c)]) ∧ w' = w := by
  rcases hexv_cases c with ⟨h, d, e⟩ | ⟨h, g, d, e⟩ | ⟨h, g, d, e⟩ | ⟨h, g, d, e⟩ | ⟨h, g, d, e⟩ | ⟨h, g, d, e⟩ | ⟨h, d, e⟩
  · have D := hide d
    have X := hide (hx_no (c := c) (by omega))
    clear d e
    go_enter Tryz.func186, Tryz.ntmps186
    go_wp2_with (go_at_call 92; refine (isDigP_any _ _).mono ?_; rintro e w' ⟨rfl, rfl⟩; rw [D.out])
    go_ret2
    exact ⟨by rw [X.out.1, X.out.2]; rfl, rfl⟩
  · have D := hide d
    have X := hide (hx_yes (c := c) (by omega))
    rw [e] at X
    clear d e
    go_enter Tryz.func186, Tryz.ntmps186
    go_wp2_with (go_at_call 92; refine (isDigP_any _ _).mono ?_; rintro e w' ⟨rfl, rfl⟩; rw [D.out])
    go_ret2
    exact ⟨by rw [X.out.1, X.out.2]; first | rfl | (exact tup2 (by omega) rfl), rfl⟩
  · have D := hide d
    have X := hide (hx_no (c := c) (by omega))
    clear d e
    go_enter Tryz.func186, Tryz.ntmps186
    go_wp2_with (go_at_call 92; refine (isDigP_any _ _).mono ?_; rintro e w' ⟨rfl, rfl⟩; rw [D.out])
    go_ret2
    exact ⟨by rw [X.out.1, X.out.2]; rfl, rfl⟩
  · have D := hide d
    have X := hide (hx_yes (c := c) (by omega))
    rw [e] at X
    clear d e
    go_enter Tryz.func186, Tryz.ntmps186
    go_wp2_with (go_at_call 92; refine (isDigP_any _ _).mono ?_; rintro e w' ⟨rfl, rfl⟩; rw [D.out])
    go_ret2
    exact ⟨by rw [X.out.1, X.out.2]; first | rfl | (exact tup2 (by omega) rfl), rfl⟩
  · have D := hide d
    have X := hide (hx_no (c := c) (by omega))
    clear d e
    go_enter Tryz.func186, Tryz.ntmps186
    go_wp2_with (go_at_call 92; refine (isDigP_any _ _).mono ?_; rintro e w' ⟨rfl, rfl⟩; rw [D.out])
    go_ret2
    exact ⟨by rw [X.out.1, X.out.2]; rfl, rfl⟩
  · have D := hide d
    have X := hide (hx_yes (c := c) (by omega))
    rw [e] at X
    clear d e
    go_enter Tryz.func186, Tryz.ntmps186
    go_wp2_with (go_at_call 92; refine (isDigP_any _ _).mono ?_; rintro e w' ⟨rfl, rfl⟩; rw [D.out])
    go_ret2
    exact ⟨by rw [X.out.1, X.out.2]; first | rfl | (exact tup2 (by omega) rfl), rfl⟩
  · have D := hide d
    have X := hide (hx_no (c := c) (by omega))
    clear d e
    go_enter Tryz.func186, Tryz.ntmps186
    go_wp2_with (go_at_call 92; refine (isDigP_any _ _).mono ?_; rintro e w' ⟨rfl, rfl⟩; rw [D.out])
    go_ret2
    exact ⟨by rw [X.out.1, X.out.2]; rfl, rfl⟩
/-- Just these come next. -/
def stB : List Int → List Int → Bool
  | _, [] => true
  | s, c :: r => (nx s 0 == c) && stB (s.drop 1) r
def RelSt (s sg : List Int) (i : Value) : Prop := ∃ k : Nat, k ≤ sg.length ∧ i = .int .i64 k ∧ Hid (stB s sg = stB (s.drop k) (sg.drop k))
theorem RelSt.mk {s sg : List Int} {i : Value} (k : Nat) (h1 : k ≤ sg.length) (h2 : i = .int .i64 k) (h3 : stB s sg = stB (s.drop k) (sg.drop k)) : RelSt s sg i := ⟨k, h1, h2, h3⟩
def RelStw (w : World) (s sg : List Int) (i : Value) (wr : World) : Prop := RelSt s sg i ∧ Below w.heap.size w wr
set_option maxHeartbeats 1000000 in
theorem stands_any (d : Nat) (u v : Value) (s sg : List Int) (w : World) (hu : Look d w u s) (hv : Nums .i32 w v sg) (h0 : 0 < sg.length) (hd : sg.length ≤ d) (hd9 : d ≤ 9) :
    Calls Tryz.prog 85 #[u, v] w fun e w' => e = .returned (.bool (stB s sg)) ∧ Below w.heap.size w w' := by
  obtain ⟨g, lb, rfl, eg, hg⟩ := hu
  have HG := hide hg
  clear hg
  rcases hv with ⟨a, c, rfl, rfl⟩ | ⟨b, o, n, c, rfl, hn, _, hbw, hc, hn9, hc9, hcell⟩
  · simp at h0
  · have HN := hide hn
    have HC := hide hcell
    have hn9' : n ≤ 9 := by omega
    have hnd : n ≤ d := by omega
    clear hn hcell h0 hd
    go_enter Tryz.func85, Tryz.ntmps85
    go_wp2
    go_loopw [9] (fun i wr => RelStw w s sg i wr) (fun i _ => n - (intOf i).toNat)
    case atStart => exact ⟨.mk 0 (by omega) rfl rfl, Below.refl _ _⟩
    case round =>
      obtain ⟨⟨k, hk, rfl, R⟩, B⟩ := hrel
      replace B := hide B
      by_cases hlt : k < n
      · have cx : wr.cell? ⟨b, o + k, none⟩ = some (.int .i32 (gt sg k)) := (B.out.cell (p := ⟨b, o + k, none⟩) hbw).trans (HC.out k hlt)
        have S := hide (show stB (s.drop k) (sg.drop k) = ((nx s k == gt sg k) && stB (s.drop (k + 1)) (sg.drop (k + 1))) by
          rw [drop_gt (bs := sg) (by rw [← HN.out]; exact hlt)]
          show ((nx (s.drop k) 0 == gt sg k) && stB ((s.drop k).drop 1) (sg.drop (k + 1))) = _
          rw [nx_drop, List.drop_drop]; rfl)
        have HK := hide hk
        have KN := hide (show nx s (Int.toNat (k : Int)) = nx s k by simp)
        have hlt2 : (k : Int) < n := by omega
        clear hk
        by_cases he : nx s k = gt sg k
        · rw [he] at KN
          generalize gt sg k = x at *
          have S2 := hide (show stB s sg = stB (s.drop (k + 1)) (sg.drop (k + 1)) by rw [R.out, S.out, he]; simp)
          clear he
          go_wp2_with (go_at_fn g; refine (HG.out _ _ (by omega) (by omega) B.out).mono ?_; rintro e w1 ⟨he, B1⟩; rw [KN.out] at he; subst he; replace B := hide (bto B.out B1); clear B1)
          go_roundw
          case rel => exact ⟨.mk (k + 1) (by rw [← HN.out]; omega) (by go_num) S2.out, B.out⟩
          case measure => simp [intOf]; omega
        · have S2 := hide (show stB s sg = false by rw [R.out, S.out]; simp [he])
          have hne : (nx s k == gt sg k) = false := by simpa using he
          have hne2 : (nx s k != gt sg k) = true := by simpa using he
          generalize gt sg k = x at *
          generalize nx s k = y at *
          clear he
          go_wp2_with (go_at_fn g; refine (HG.out _ _ (by omega) (by omega) B.out).mono ?_; rintro e w1 ⟨he, B1⟩; rw [KN.out] at he; subst he; replace B := hide (bto B.out B1); clear B1)
          go_ret
          exact ⟨ret_bool S2.out.symm, B.out⟩
      · have S2 := hide (show stB s sg = true by rw [R.out, List.drop_of_length_le (l := sg) (by rw [← HN.out]; omega)]; rfl)
        have hlt2 : ¬ (k : Int) < n := by omega
        go_wp2
        go_ret
        exact ⟨ret_bool S2.out.symm, B.out⟩
end Go.Proofs.YtcclhdiphcfdfaaGreatDoor
set_option linter.unusedVariables false
set_option linter.unusedSimpArgs false
namespace Go.Proofs.YtcclhdiphcfdfaaGreatDoor
open Go.RowKit

theorem enc1_rng {x : Int} (h : isC x = true) : ∀ y ∈ enc1 x, 0 ≤ y ∧ y ≤ 255 := by
  rw [isC_iff] at h
  intro y hy
  unfold enc1 at hy
  split at hy
  · simp at hy; omega
  · split at hy
    · simp at hy; omega
    · split at hy
      · simp at hy; omega
      · simp at hy; omega
theorem enc_rng (l : List Int) : By (enc l) := by
  intro y hy
  unfold enc at hy
  obtain ⟨x, _, h⟩ := List.mem_flatMap.1 hy
  exact enc1_rng (isC_chr x) y h
def l8 (xs : List Int) : List UInt8 := xs.map fun x => UInt8.ofNat x.toNat
theorem l8_back {xs : List Int} (h : By xs) : (l8 xs).map (fun b => (b.toNat : Int)) = xs := by
  unfold l8
  rw [List.map_map]
  conv => rhs; rw [← List.map_id xs]
  refine List.map_congr_left fun x hx => ?_
  have := h x hx
  simp
  omega
theorem conv_anyT (w : World) (u : Value) (xs : List Int) (h : Nums .u8 w u xs) (hb : By xs) : ∃ t, bl t = xs ∧ (convert 36 9 u).run Tryz.prog w = .ok (.string t) w := by
  refine ⟨⟨(l8 xs).toArray⟩, ?_, ?_⟩
  · unfold bl; simpa using l8_back hb
  · rcases h with ⟨a, c, rfl, rfl⟩ | ⟨b, o, n, c, rfl, hn, h0, hbw, hc, hn9, hc9, hcell⟩
    · cases a with
      | none => exact run_convert_bytes_nil (P := Tryz.prog) w 36 5 Tryz.underlying36 Tryz.underlying5 0 c 9 Tryz.underlying9
      | some a => exact run_convert_bytes_back (P := Tryz.prog) w 36 9 5 a c [] Tryz.underlying36 Tryz.underlying5 Tryz.underlying9 (fun j hj => absurd hj (by simp))
    · have hl : n = (l8 xs).length := by unfold l8; rw [List.length_map]; exact hn
      have k := run_convert_bytes_back (P := Tryz.prog) w 36 9 5 ⟨b, o, none⟩ c (l8 xs) Tryz.underlying36 Tryz.underlying5 Tryz.underlying9 (fun j hj => by
        rw [Addr.add_lit, hcell j (by omega)]
        congr 2
        have e := l8_back hb
        have : gt xs j = ((l8 xs).map (fun b => (b.toNat : Int))).getD j 0 := by rw [e]; rfl
        rw [this]
        simp [List.getD_eq_getElem?_getD, List.getElem?_map, List.getElem?_eq_getElem hj])
      rw [← hl] at k
      exact k
theorem written_any (ls : List Int) (v : Value) (w : World) (hv : Nums .i32 w v ls) (hl : ls.length ≤ 35184372088832) :
    Calls Tryz.prog 120 #[v] w fun e w' => ∃ t, e = .returned (.string t) ∧ bl t = enc ls ∧ Below w.heap.size w w' := by
  have C := hide (encP_any ls v w hv hl)
  have R := hide (enc_rng ls)
  clear hv
  go_enter Tryz.func120, Tryz.ntmps120
  go_wp2_with (go_at_call 161; refine C.out.mono ?_; rintro e w1 ⟨u, rfl, N, B⟩; replace B := hide B; obtain ⟨t, ht, hcv⟩ := conv_anyT w1 u _ N R.out; replace ht := hide ht; clear N)
  go_ret
  exact ⟨_, rfl, ht.out, B.out⟩
/-- The state of a loop that takes as long as something comes. -/
def RelSk (f : List Int → List Int) (T : TypeId) (W w : World) (b : Nat) (v : Value) (l s : List Int) (g : Nat) (wr : World) : Prop :=
  ∃ t, At T W wr b v l t ∧ t.length ≤ g ∧ Hid (f s = f t) ∧ w.grownBy wr (some b)
theorem RelSk.mk {f : List Int → List Int} {T : TypeId} {W w : World} {b : Nat} {v : Value} {l s : List Int} {g : Nat} {wr : World} (t : List Int) (h1 : At T W wr b v l t) (h2 : t.length ≤ g) (h3 : f s = f t) (h4 : w.grownBy wr (some b)) : RelSk f T W w b v l s g wr := ⟨t, h1, h2, h3, h4⟩
theorem bls_go {s : List Int} (h : isBl (nx s 0) = true) : bls s = bls (s.drop 1) := by
  cases s with
  | nil => exact absurd h (by decide)
  | cons x r => show (x :: r).dropWhile isBl = _; rw [List.dropWhile_cons_of_pos (show isBl x = true from h)]; rfl
theorem bls_no {s : List Int} (h : isBl (nx s 0) = false) : bls s = s := by
  cases s with
  | nil => rfl
  | cons x r => show (x :: r).dropWhile isBl = _; rw [List.dropWhile_cons_of_neg (by simp [show isBl x = false from h])]
theorem dgs_go {s : List Int} (h : isDig (nx s 0) = true) : dgs s = dgs (s.drop 1) := by
  cases s with
  | nil => exact absurd h (by decide)
  | cons x r => show (x :: r).dropWhile isDig = _; rw [List.dropWhile_cons_of_pos (show isDig x = true from h)]; rfl
theorem skipBlanks_any (T : TypeId) (W w : World) (b : Nat) (v : Value) (l s : List Int) (h : At T W w b v l s) :
    Calls Tryz.prog 89 #[.pointer (some ⟨b, 0, none⟩)] w fun e w' => e = .returned (.tuple #[]) ∧ At T W w' b v l (bls s) ∧ w.grownBy w' (some b) := by
  have H := hide h
  clear h
  go_enter Tryz.func89, Tryz.ntmps89
  go_wp2
  go_loopg [] s.length (fun g wr => RelSk bls T W w b v l s g wr)
  case atStart => exact .mk s H.out (Nat.le_refl _) rfl (Mod.refl _ _)
  case round =>
    clear H
    obtain ⟨t, A1, hg, R, M⟩ := hrel
    replace A1 := hide A1
    replace M := hide M
    cases hb : isBl (nx t 0)
    · have HB := hide hb
      have E := hide (R.out.trans (bls_no hb))
      clear hb
      go_wp2_with (first
        | (go_at_call 59; refine (nextA T W _ b v l t A1.out).mono ?_; rintro e w1 ⟨rfl, B1⟩; replace A1 := hide (A1.out.below B1); replace M := hide (Mod.trans M.out (Mod.of b B1)); clear B1)
        | (go_at_call 88; refine (isBlP_any _ _).mono ?_; rintro e w2 ⟨rfl, rfl⟩; rw [HB.out]))
      go_end0
      exact ⟨rfl, by rw [E.out]; exact A1.out, M.out⟩
    · have HB := hide hb
      have L := hide (isBl_ne hb)
      have E := hide (R.out.trans (bls_go hb))
      clear hb
      go_wp2_with (first
        | (go_at_call 59; refine (nextA T W _ b v l t A1.out).mono ?_; rintro e w1 ⟨rfl, B1⟩; replace A1 := hide (A1.out.below B1); replace M := hide (Mod.trans M.out (Mod.of b B1)); clear B1)
        | (go_at_call 88; refine (isBlP_any _ _).mono ?_; rintro e w2 ⟨rfl, rfl⟩; rw [HB.out])
        | (go_at_call 87; refine (skipA T W _ b v l t 1 A1.out (by decide) (by decide)).mono ?_; rintro e w2 ⟨rfl, A2, M2⟩; replace A1 := hide A2; replace M := hide (Mod.trans M.out M2); clear A2 M2))
      go_roundg (gk - 1)
      case measure => have := L.out; omega
      case rel => exact .mk (t.drop 1) A1.out (by have := L.out; rw [List.length_drop]; omega) E.out M.out
end Go.Proofs.YtcclhdiphcfdfaaGreatDoor
set_option linter.unusedVariables false
set_option linter.unusedSimpArgs false
namespace Go.Proofs.YtcclhdiphcfdfaaGreatDoor
open Go.RowKit

theorem skipDigits_any (T : TypeId) (W w : World) (b : Nat) (v : Value) (l s : List Int) (h : At T W w b v l s) :
    Calls Tryz.prog 166 #[.pointer (some ⟨b, 0, none⟩)] w fun e w' => e = .returned (.tuple #[]) ∧ At T W w' b v l (dgs s) ∧ w.grownBy w' (some b) := by
  have H := hide h
  clear h
  go_enter Tryz.func166, Tryz.ntmps166
  go_wp2
  go_loopg [] s.length (fun g wr => RelSk dgs T W w b v l s g wr)
  case atStart => exact .mk s H.out (Nat.le_refl _) rfl (Mod.refl _ _)
  case round =>
    clear H
    obtain ⟨t, A1, hg, R, M⟩ := hrel
    replace A1 := hide A1
    replace M := hide M
    cases hb : isDig (nx t 0)
    · have HB := hide hb
      have E := hide (R.out.trans (dgs_no hb))
      clear hb
      go_wp2_with (first
        | (go_at_call 59; refine (nextA T W _ b v l t A1.out).mono ?_; rintro e w1 ⟨rfl, B1⟩; replace A1 := hide (A1.out.below B1); replace M := hide (Mod.trans M.out (Mod.of b B1)); clear B1)
        | (go_at_call 92; refine (isDigP_any _ _).mono ?_; rintro e w2 ⟨rfl, rfl⟩; rw [HB.out]))
      go_end0
      exact ⟨rfl, by rw [E.out]; exact A1.out, M.out⟩
    · have HB := hide hb
      have L := hide (isDig_ne hb)
      have E := hide (R.out.trans (dgs_go hb))
      clear hb
      go_wp2_with (first
        | (go_at_call 59; refine (nextA T W _ b v l t A1.out).mono ?_; rintro e w1 ⟨rfl, B1⟩; replace A1 := hide (A1.out.below B1); replace M := hide (Mod.trans M.out (Mod.of b B1)); clear B1)
        | (go_at_call 92; refine (isDigP_any _ _).mono ?_; rintro e w2 ⟨rfl, rfl⟩; rw [HB.out])
        | (go_at_call 87; refine (skipA T W _ b v l t 1 A1.out (by decide) (by decide)).mono ?_; rintro e w2 ⟨rfl, A2, M2⟩; replace A1 := hide A2; replace M := hide (Mod.trans M.out M2); clear A2 M2))
      go_roundg (gk - 1)
      case measure => have := L.out; omega
      case rel => exact .mk (t.drop 1) A1.out (by have := L.out; rw [List.length_drop]; omega) E.out M.out
theorem skipSign_any (T : TypeId) (W w : World) (b : Nat) (v : Value) (l s : List Int) (h : At T W w b v l s) :
    Calls Tryz.prog 165 #[.pointer (some ⟨b, 0, none⟩)] w fun e w' => e = .returned (.tuple #[]) ∧ At T W w' b v l (nmS s) ∧ w.grownBy w' (some b) := by
  have A1 := hide h
  have M := hide (Mod.refl w b)
  clear h
  cases hb : isSg (nx s 0)
  · have HB := hide hb
    have E := hide (show nmS s = s by unfold nmS; rw [if_neg (by simp [hb])])
    clear hb
    go_enter Tryz.func165, Tryz.ntmps165
    go_wp2_with (first
      | (go_at_call 59; refine (nextA T W _ b v l s A1.out).mono ?_; rintro e w1 ⟨rfl, B1⟩; replace A1 := hide (A1.out.below B1); replace M := hide (Mod.trans M.out (Mod.of b B1)); clear B1)
      | (go_at_call 195; refine (isSgP_any _ _).mono ?_; rintro e w2 ⟨rfl, rfl⟩; rw [HB.out]))
    go_end0
    exact ⟨rfl, by rw [E.out]; exact A1.out, M.out⟩
  · have HB := hide hb
    have E := hide (show nmS s = s.drop 1 by unfold nmS; rw [if_pos hb])
    clear hb
    go_enter Tryz.func165, Tryz.ntmps165
    go_wp2_with (first
      | (go_at_call 59; refine (nextA T W _ b v l s A1.out).mono ?_; rintro e w1 ⟨rfl, B1⟩; replace A1 := hide (A1.out.below B1); replace M := hide (Mod.trans M.out (Mod.of b B1)); clear B1)
      | (go_at_call 195; refine (isSgP_any _ _).mono ?_; rintro e w2 ⟨rfl, rfl⟩; rw [HB.out])
      | (go_at_call 87; refine (skipA T W _ b v l s 1 A1.out (by decide) (by decide)).mono ?_; rintro e w2 ⟨rfl, A2, M2⟩; replace A1 := hide A2; replace M := hide (Mod.trans M.out M2); clear A2 M2))
    go_end0
    exact ⟨rfl, by rw [E.out]; exact A1.out, M.out⟩
theorem At.end {T : TypeId} {W w : World} {b : Nat} {v : Value} {l s : List Int} (h : At T W w b v l s) (hn : nx s 0 = -1) : s = [] := by
  cases s with
  | nil => rfl
  | cons x r =>
    have hx : isC x = true := h.chr x (by simp)
    rw [isC_iff] at hx
    have : x = -1 := hn
    omega
theorem untl_stop {s : List Int} (h0 : nx s 0 = 42) (h1 : nx s 1 = 47) : untl s = s.drop 2 := by
  cases s with
  | nil => simp [nx] at h0
  | cons x r =>
    have hx : x = 42 := h0
    have hr : nx r 0 = 47 := h1
    show (if x = 42 ∧ nx r 0 = 47 then r.drop 1 else untl r) = r.drop 1
    rw [if_pos ⟨hx, hr⟩]
theorem untl_go {s : List Int} (h : ¬ (nx s 0 = 42 ∧ nx s 1 = 47)) : untl s = untl (s.drop 1) := by
  cases s with
  | nil => rfl
  | cons x r =>
    have hx : ¬ (x = 42 ∧ nx r 0 = 47) := h
    show (if x = 42 ∧ nx r 0 = 47 then r.drop 1 else untl r) = untl r
    rw [if_neg hx]
theorem stB2 (s : List Int) (a b : Int) : stB s [a, b] = ((nx s 0 == a) && (nx s 1 == b)) := by
  show ((nx s 0 == a) && ((nx (s.drop 1) 0 == b) && true)) = _
  rw [nx_drop, Bool.and_true]
theorem lit2 (u : World) (a b : Int) : Nums .i32 (u.alloc (.cells #[.int .i32 a, .int .i32 b] 21)) (.slice (some ⟨u.heap.size, 0, none⟩) 2 2) [a, b] := Nums.lit u 21 [a, b] 2 rfl (by omega) (by omega)
set_option maxHeartbeats 1000000 in
theorem skipRemarks_any (T : TypeId) (W w : World) (b : Nat) (v : Value) (l s : List Int) (h : At T W w b v l s) :
    Calls Tryz.prog 58 #[.pointer (some ⟨b, 0, none⟩)] w fun e w' => e = .returned (.tuple #[]) ∧ At T W w' b v l (rmk s) ∧ w.grownBy w' (some b) := by
  have H := hide h
  clear h
  go_enter Tryz.func58, Tryz.ntmps58
  go_wp2
  go_loopg [] s.length (fun g wr => RelSk rmk T W w b v l s g wr)
  case atStart => exact .mk s H.out (Nat.le_refl _) rfl (Mod.refl _ _)
  case round =>
    clear H
    obtain ⟨t, A1, hg, R, M⟩ := hrel
    replace A1 := hide A1
    replace M := hide M
    cases hb : stB t [47, 42]
    · have HB := hide hb
      have E := hide (R.out.trans (rmk_end (s := t) (by rw [stB2] at hb; intro q; simp [q.1, q.2] at hb)))
      clear hb
      go_wp2_with (first
        | (go_at_call 86; refine (aheadA T W _ b v l t A1.out).mono ?_; rintro e w1 ⟨u, rfl, HL, B1⟩; obtain ⟨fg, lb, hu⟩ := HL.shape; replace HL := hide HL; replace A1 := hide (A1.out.below (bplus B1 (.cells #[.int .i32 47, .int .i32 42] 21))); replace M := hide (Mod.trans M.out (Mod.of b (bplus B1 (.cells #[.int .i32 47, .int .i32 42] 21)))); clear B1 hu)
        | (go_at_call 85; refine (stands_any 9 _ _ t [47, 42] _ (HL.out.below (bplus (Below.refl _ _) _)) (lit2 _ 47 42) (by decide) (by decide) (by decide)).mono ?_; rintro e w2 ⟨rfl, B2⟩; rw [HB.out]; replace A1 := hide (A1.out.below B2); replace M := hide (Mod.trans M.out (Mod.of b B2)); clear B2))
      go_end0
      exact ⟨rfl, by rw [E.out]; exact A1.out, M.out⟩
    · have HB := hide hb
      have hq : nx t 0 = 47 ∧ nx t 1 = 42 := by rw [stB2] at hb; simpa using hb
      have L := hide (nx_pos (s := t) (by omega))
      have E := hide (R.out.trans (rmk_go hq.1 hq.2))
      have HG := hide hg
      clear hb hq R hg
      go_wp2_with (first
        | (go_at_call 86; refine (aheadA T W _ b v l t A1.out).mono ?_; rintro e w1 ⟨u, rfl, HL, B1⟩; replace HL := hide HL; replace A1 := hide (A1.out.below (bplus B1 (.cells #[.int .i32 47, .int .i32 42] 21))); replace M := hide (Mod.trans M.out (Mod.of b (bplus B1 (.cells #[.int .i32 47, .int .i32 42] 21)))); clear B1)
        | (go_at_call 85; refine (stands_any 9 _ _ t [47, 42] _ (HL.out.below (bplus (Below.refl _ _) _)) (lit2 _ 47 42) (by decide) (by decide) (by decide)).mono ?_; rintro e w2 ⟨rfl, B2⟩; rw [HB.out]; replace A1 := hide (A1.out.below B2); replace M := hide (Mod.trans M.out (Mod.of b B2)); clear B2)
        | (go_at_call 87; refine (skipA T W _ b v l t 2 A1.out (by decide) (by decide)).mono ?_; rintro e w2 ⟨rfl, A2, M2⟩; replace A1 := hide A2; replace M := hide (Mod.trans M.out M2); clear A2 M2))
      clear HB HL
      go_loopg [] (t.drop 2).length (fun g wr => RelSk untl T W w b v l (t.drop 2) g wr)
      case atStart => exact .mk (t.drop 2) A1.out (Nat.le_refl _) rfl M.out
      case round =>
        clear A1 M
        obtain ⟨x, A1, hg2, R2, M⟩ := hrel
        replace A1 := hide A1
        replace M := hide M
        have LX := hide (untl_len (t.drop 2))
        by_cases hx : nx x 0 = -1
        · have X0 := hide (A1.out.end hx)
          have U := hide (show untl (t.drop 2) = x.drop 2 by rw [R2.out, X0.out]; rfl)
          have n1 : (nx x 0 == -1) = true := by simpa using hx
          have n2 : (nx x 0 != -1) = false := by simpa using hx
          clear hx
          go_wp2_with (first
            | (go_at_call 59; refine (nextA T W _ b v l x A1.out).mono ?_; rintro e w1 ⟨rfl, B1⟩; replace A1 := hide (A1.out.below B1); replace M := hide (Mod.trans M.out (Mod.of b B1)); clear B1)
            | (go_at_call 87; refine (skipA T W _ b v l x 2 A1.out (by decide) (by decide)).mono ?_; rintro e w2 ⟨rfl, A2, M2⟩; replace A1 := hide A2; replace M := hide (Mod.trans M.out M2); clear A2 M2))
          go_roundg (t.length - 1)
          case measure => have := L.out; have := HG.out; omega
          case rel => exact .mk (x.drop 2) A1.out (by rw [← U.out]; have q1 := LX.out; rw [List.length_drop] at q1; have q2 := L.out; omega) (by rw [← U.out]; exact E.out) M.out
        · have n1 : (nx x 0 == -1) = false := by simpa using hx
          have n2 : (nx x 0 != -1) = true := by simpa using hx
          have PX := hide (nx_pos hx)
          cases hc : stB x [42, 47]
          · have HB := hide hc
            have U := hide (R2.out.trans (untl_go (s := x) (by rw [stB2] at hc; intro q; simp [q.1, q.2] at hc)))
            clear hc hx
            go_wp2_with (first
              | (go_at_call 59; refine (nextA T W _ b v l x A1.out).mono ?_; rintro e w1 ⟨rfl, B1⟩; replace A1 := hide (A1.out.below B1); replace M := hide (Mod.trans M.out (Mod.of b B1)); clear B1)
              | (go_at_call 86; refine (aheadA T W _ b v l x A1.out).mono ?_; rintro e w1 ⟨u, rfl, HL, B1⟩; replace HL := hide HL; replace A1 := hide (A1.out.below (bplus B1 (.cells #[.int .i32 42, .int .i32 47] 21))); replace M := hide (Mod.trans M.out (Mod.of b (bplus B1 (.cells #[.int .i32 42, .int .i32 47] 21)))); clear B1)
              | (go_at_call 85; refine (stands_any 9 _ _ x [42, 47] _ (HL.out.below (bplus (Below.refl _ _) _)) (lit2 _ 42 47) (by decide) (by decide) (by decide)).mono ?_; rintro e w2 ⟨rfl, B2⟩; rw [HB.out]; replace A1 := hide (A1.out.below B2); replace M := hide (Mod.trans M.out (Mod.of b B2)); clear B2)
              | (go_at_call 87; refine (skipA T W _ b v l x 1 A1.out (by decide) (by decide)).mono ?_; rintro e w2 ⟨rfl, A2, M2⟩; replace A1 := hide A2; replace M := hide (Mod.trans M.out M2); clear A2 M2))
            go_roundg (x.length - 1)
            case measure => have := PX.out; omega
            case rel => exact .mk (x.drop 1) A1.out (by rw [List.length_drop]; omega) U.out M.out
          · have HB := hide hc
            have hq : nx x 0 = 42 ∧ nx x 1 = 47 := by rw [stB2] at hc; simpa using hc
            have U := hide (show untl (t.drop 2) = x.drop 2 by rw [R2.out]; exact untl_stop hq.1 hq.2)
            clear hc hx hq
            go_wp2_with (first
              | (go_at_call 59; refine (nextA T W _ b v l x A1.out).mono ?_; rintro e w1 ⟨rfl, B1⟩; replace A1 := hide (A1.out.below B1); replace M := hide (Mod.trans M.out (Mod.of b B1)); clear B1)
              | (go_at_call 86; refine (aheadA T W _ b v l x A1.out).mono ?_; rintro e w1 ⟨u, rfl, HL, B1⟩; replace HL := hide HL; replace A1 := hide (A1.out.below (bplus B1 (.cells #[.int .i32 42, .int .i32 47] 21))); replace M := hide (Mod.trans M.out (Mod.of b (bplus B1 (.cells #[.int .i32 42, .int .i32 47] 21)))); clear B1)
              | (go_at_call 85; refine (stands_any 9 _ _ x [42, 47] _ (HL.out.below (bplus (Below.refl _ _) _)) (lit2 _ 42 47) (by decide) (by decide) (by decide)).mono ?_; rintro e w2 ⟨rfl, B2⟩; rw [HB.out]; replace A1 := hide (A1.out.below B2); replace M := hide (Mod.trans M.out (Mod.of b B2)); clear B2)
              | (go_at_call 87; refine (skipA T W _ b v l x 2 A1.out (by decide) (by decide)).mono ?_; rintro e w2 ⟨rfl, A2, M2⟩; replace A1 := hide A2; replace M := hide (Mod.trans M.out M2); clear A2 M2))
            go_roundg (t.length - 1)
            case measure => have := L.out; have := HG.out; omega
            case rel => exact .mk (x.drop 2) A1.out (by rw [← U.out]; have q1 := LX.out; rw [List.length_drop] at q1; have q2 := L.out; omega) (by rw [← U.out]; exact E.out) M.out
/-- The state of the loop over digits to the base 16. -/
def RelHxT (T : TypeId) (W w : World) (b : Nat) (v : Value) (l s : List Int) (n i : Value) (wr : World) : Prop :=
  ∃ (k m : Nat) (t : List Int), k ≤ 6 ∧ i = .int .i64 k ∧ n = .int .i32 m ∧ m < 16 ^ k ∧ Hid (hexs 6 0 s = hexs (6 - k) m t ∧ At T W wr b v l t ∧ w.grownBy wr (some b))
theorem RelHxT.mk {T : TypeId} {W w : World} {b : Nat} {v : Value} {l s : List Int} {n i : Value} {wr : World} (k m : Nat) (t : List Int) (h1 : k ≤ 6) (h2 : i = .int .i64 k) (h3 : n = .int .i32 m) (h4 : m < 16 ^ k) (h5 : hexs 6 0 s = hexs (6 - k) m t) (h6 : At T W wr b v l t) (h7 : w.grownBy wr (some b)) : RelHxT T W w b v l s n i wr := ⟨k, m, t, h1, h2, h3, h4, h5, h6, h7⟩
theorem p16 {k : Nat} (h : k ≤ 5) : 16 ^ k ≤ 1048576 := Nat.le_trans (Nat.pow_le_pow_right (by omega) h) (by decide)
theorem hexs_lt (k : Nat) : ∀ (m : Nat) (n : Nat) (s : List Int), n < 16 ^ m → k + m = 6 → 0 ≤ (hexs k n s).1 ∧ (hexs k n s).1 < 16777216 := by
  induction k with
  | zero => intro m n s h hk; obtain rfl : m = 6 := by omega
            show 0 ≤ (n : Int) ∧ (n : Int) < 16777216
            have : (16 : Nat) ^ 6 = 16777216 := by decide
            omega
  | succ k ih =>
    intro m n s h hk
    simp only [hexs]
    split
    · have h1 : 16 ^ m ≤ 16 ^ 6 := Nat.pow_le_pow_right (by omega) (by omega)
      have h2 : (16 : Nat) ^ 6 = 16777216 := by decide
      show 0 ≤ (n : Int) ∧ (n : Int) < 16777216
      omega
    · rename_i g
      have hv : hexv (nx s 0) < 16 := by
        rcases hexv_cases (nx s 0) with ⟨_, _, e⟩ | ⟨_, _, _, e⟩ | ⟨_, _, _, e⟩ | ⟨_, _, _, e⟩ | ⟨_, _, _, e⟩ | ⟨_, _, _, e⟩ | ⟨_, _, e⟩ <;> omega
      have := ih (m + 1) (n * 16 + (hexv (nx s 0)).toNat) (s.drop 1) (by rw [Nat.pow_succ]; omega) (by omega)
      rw [show ((n * 16 + (hexv (nx s 0)).toNat : Nat) : Int) = (n : Int) * 16 + hexv (nx s 0) by omega] at this
      exact this
set_option maxHeartbeats 1000000 in
theorem takeHex_any (T : TypeId) (W w : World) (b : Nat) (v : Value) (l s : List Int) (h : At T W w b v l s) :
    Calls Tryz.prog 187 #[.pointer (some ⟨b, 0, none⟩)] w fun e w' => e = .returned (.int .i32 (hexs 6 0 s).1) ∧ At T W w' b v l (hexs 6 0 s).2 ∧ w.grownBy w' (some b) := by
  have H := hide h
  clear h
  go_enter Tryz.func187, Tryz.ntmps187
  go_wp2
  go_loopw [3, 6] (fun n i wr => RelHxT T W w b v l s n i wr) (fun _ i _ => 6 - (intOf i).toNat)
  case atStart => exact .mk 0 0 s (by omega) rfl rfl (by decide) rfl H.out (Mod.refl _ _)
  case round =>
    clear H
    obtain ⟨k, m, t, hk, rfl, rfl, hm, R⟩ := hrel
    obtain ⟨E, A1, M⟩ := R.out
    replace E := hide E
    replace A1 := hide A1
    replace M := hide M
    clear R
    by_cases hlt : k < 6
    · have hp := p16 (k := k) (by omega)
      have KS := hide (show 6 - k = (6 - (k + 1)) + 1 by omega)
      have hlt2 : (k : Int) < 6 := by omega
      have hm9 : m < 1048576 := by omega
      have HM := hide hm
      clear hm hp
      by_cases hx : hexv (nx t 0) < 0
      · have X := hide (hx_no hx)
        have F := hide (show hexs 6 0 s = ((m : Int), t) by rw [E.out, KS.out]; show (if hexv (nx t 0) < 0 then _ else _) = _; rw [if_pos hx])
        clear hx
        go_wp2_with (first
          | (go_at_call 59; refine (nextA T W _ b v l t A1.out).mono ?_; rintro e w1 ⟨rfl, B1⟩; replace A1 := hide (A1.out.below B1); replace M := hide (Mod.trans M.out (Mod.of b B1)); clear B1)
          | (go_at_call 186; refine (hexDigit_any _ _).mono ?_; rintro e w2 ⟨rfl, rfl⟩; rw [X.out.1, X.out.2]))
        go_ret
        exact ⟨ret_int (by rw [F.out]), by rw [F.out]; exact A1.out, M.out⟩
      · have X := hide (hx_yes (c := nx t 0) (by omega))
        have hv : hexv (nx t 0) < 16 := by
          rcases hexv_cases (nx t 0) with ⟨_, _, e⟩ | ⟨_, _, _, e⟩ | ⟨_, _, _, e⟩ | ⟨_, _, _, e⟩ | ⟨_, _, _, e⟩ | ⟨_, _, _, e⟩ | ⟨_, _, e⟩ <;> omega
        have hv0 : 0 ≤ hexv (nx t 0) := by omega
        have F := hide (show hexs 6 0 s = hexs (6 - (k + 1)) ((m * 16 + (hexv (nx t 0)).toNat : Nat) : Int) (t.drop 1) by
          rw [E.out, KS.out]; show (if hexv (nx t 0) < 0 then _ else _) = _; rw [if_neg hx]; congr 1; omega)
        have HP := hide (show m * 16 + (hexv (nx t 0)).toNat < 16 ^ (k + 1) by rw [Nat.pow_succ]; have := HM.out; omega)
        generalize hexv (nx t 0) = hv9 at *
        clear hx
        go_wp2_with (first
          | (go_at_call 59; refine (nextA T W _ b v l t A1.out).mono ?_; rintro e w1 ⟨rfl, B1⟩; replace A1 := hide (A1.out.below B1); replace M := hide (Mod.trans M.out (Mod.of b B1)); clear B1)
          | (go_at_call 186; refine (hexDigit_any _ _).mono ?_; rintro e w2 ⟨rfl, rfl⟩; rw [X.out.1, X.out.2])
          | (go_at_call 87; refine (skipA T W _ b v l t 1 A1.out (by decide) (by decide)).mono ?_; rintro e w2 ⟨rfl, A2, M2⟩; replace A1 := hide A2; replace M := hide (Mod.trans M.out M2); clear A2 M2))
        go_roundw
        case rel => exact .mk (k + 1) (m * 16 + hv9.toNat) (t.drop 1) (by omega) (by go_num) (by first | rfl | (congr 1; omega)) HP.out F.out A1.out M.out
        case measure => simp [intOf]; omega
    · obtain rfl : k = 6 := by omega
      have F := hide (show hexs 6 0 s = ((m : Int), t) from E.out)
      go_wp2
      go_ret
      exact ⟨ret_int (by rw [F.out]), by rw [F.out]; exact A1.out, M.out⟩
end Go.Proofs.YtcclhdiphcfdfaaGreatDoor
set_option linter.unusedVariables false
set_option linter.unusedSimpArgs false
namespace Go.Proofs.YtcclhdiphcfdfaaGreatDoor
open Go.RowKit

theorem tesc_end {s : List Int} (h : nx s 0 = -1) : tesc s = (65533, s) := by unfold tesc; rw [if_pos h]
theorem tesc_oneT {s : List Int} (h : nx s 0 ≠ -1) (g : hexv (nx s 0) < 0) : tesc s = (nx s 0, s.drop 1) := by unfold tesc; rw [if_neg h, if_pos g]
theorem tesc_hex {s : List Int} (h : nx s 0 ≠ -1) (g : ¬ hexv (nx s 0) < 0) (n : Int) (r : List Int) (hn : hexs 6 0 s = (n, r)) : tesc s = (if n = 0 then 65533 else chr n, if isBl (nx r 0) then r.drop 1 else r) := by
  unfold tesc; rw [if_neg h, if_neg g, hn]
set_option maxHeartbeats 1000000 in
theorem takeEscape_any (T : TypeId) (W w : World) (b : Nat) (v : Value) (l s u : List Int) (hu : s.drop 1 = u) (h : At T W w b v l s) :
    Calls Tryz.prog 162 #[.pointer (some ⟨b, 0, none⟩)] w fun e w' => e = .returned (.int .i32 (tesc u).1) ∧ At T W w' b v l (tesc u).2 ∧ w.grownBy w' (some b) := by
  have A1 := hide h
  have M := hide (Mod.refl w b)
  have D1 := hide (show s.drop (Int.toNat 1) = u from hu)
  clear h hu
  obtain ⟨tc, htc⟩ : ∃ x, tesc u = x := ⟨_, rfl⟩
  rw [htc]
  by_cases h0 : nx u 0 = -1
  · have F := hide (htc.symm.trans (tesc_end h0))
    have e1 : (nx u 0 == -1) = true := by simpa using h0
    clear h0 htc
    go_enter Tryz.func162, Tryz.ntmps162
    go_wp2_with (first
      | (go_at_call 59; refine (nextA T W _ b v l _ A1.out).mono ?_; rintro e w1 ⟨rfl, B1⟩; replace A1 := hide (A1.out.below B1); replace M := hide (Mod.trans M.out (Mod.of b B1)); clear B1)
      | (go_at_call 87; refine (skipA T W _ b v l _ 1 A1.out (by decide) (by decide)).mono ?_; rintro e w2 ⟨rfl, A2, M2⟩; rw [D1.out] at A2; replace A1 := hide A2; replace M := hide (Mod.trans M.out M2); clear A2 M2))
    go_ret
    exact ⟨ret_int (by rw [F.out]), by rw [F.out]; exact A1.out, M.out⟩
  · have e1 : (nx u 0 == -1) = false := by simpa using h0
    by_cases h1 : hexv (nx u 0) < 0
    · obtain ⟨r, hr⟩ : ∃ r, u.drop 1 = r := ⟨_, rfl⟩
      have F := hide (htc.symm.trans ((tesc_oneT h0 h1).trans (by rw [hr])))
      have X := hide (hx_no h1)
      have R1 := hide hr
      clear h0 h1 hr htc
      go_enter Tryz.func162, Tryz.ntmps162
      go_wp2_with (first
        | (go_at_call 59; refine (nextA T W _ b v l _ A1.out).mono ?_; rintro e w1 ⟨rfl, B1⟩; replace A1 := hide (A1.out.below B1); replace M := hide (Mod.trans M.out (Mod.of b B1)); clear B1)
        | (go_at_call 87; refine (skipA T W _ b v l _ 1 A1.out (by decide) (by decide)).mono ?_; rintro e w2 ⟨rfl, A2, M2⟩; rw [D1.out] at A2; replace A1 := hide A2; replace M := hide (Mod.trans M.out M2); clear A2 M2)
        | (go_at_call 186; refine (hexDigit_any _ _).mono ?_; rintro e w2 ⟨rfl, rfl⟩; rw [X.out.1, X.out.2])
        | (go_at_call 119; refine (takeA T W _ b v l _ A1.out).mono ?_; rintro e w2 ⟨rfl, A2, M2⟩; rw [R1.out] at A2; replace A1 := hide A2; replace M := hide (Mod.trans M.out M2); clear A2 M2))
      go_ret
      exact ⟨ret_int (by rw [F.out]), by rw [F.out]; exact A1.out, M.out⟩
    · obtain ⟨⟨n, r⟩, hn⟩ : ∃ x, hexs 6 0 u = x := ⟨_, rfl⟩
      have X := hide (hx_yes (c := nx u 0) (by omega))
      have HN := hide hn
      have F0 := htc.symm.trans (tesc_hex h0 h1 n r hn)
      clear h0 h1 hn htc
      obtain ⟨q, hq⟩ : ∃ q, r.drop 1 = q := ⟨_, rfl⟩
      rw [hq] at F0
      have R1 := hide (show r.drop (Int.toNat 1) = q from hq)
      clear hq
      cases hb : isBl (nx r 0)
      all_goals
        rw [hb] at F0
        have HB := hide hb
        clear hb
        by_cases hz : n = 0
        · subst hz
          have F := hide F0
          clear F0
          go_enter Tryz.func162, Tryz.ntmps162
          go_wp2_with (first
            | (go_at_call 59; refine (nextA T W _ b v l _ A1.out).mono ?_; rintro e w1 ⟨rfl, B1⟩; replace A1 := hide (A1.out.below B1); replace M := hide (Mod.trans M.out (Mod.of b B1)); clear B1)
            | (go_at_call 87; refine (skipA T W _ b v l _ 1 A1.out (by decide) (by decide)).mono ?_; rintro e w2 ⟨rfl, A2, M2⟩; (first | (rw [D1.out] at A2) | (rw [R1.out] at A2)); replace A1 := hide A2; replace M := hide (Mod.trans M.out M2); clear A2 M2)
            | (go_at_call 186; refine (hexDigit_any _ _).mono ?_; rintro e w2 ⟨rfl, rfl⟩; rw [X.out.1, X.out.2])
            | (go_at_call 187; refine (takeHex_any T W _ b v l _ A1.out).mono ?_; rintro e w2 ⟨he, A2, M2⟩; rw [HN.out] at he A2; subst he; replace A1 := hide A2; replace M := hide (Mod.trans M.out M2); clear A2 M2)
            | (go_at_call 88; refine (isBlP_any _ _).mono ?_; rintro e w2 ⟨rfl, rfl⟩; rw [HB.out]))
          go_ret
          exact ⟨ret_int (by rw [F.out]; rfl), by rw [F.out]; exact A1.out, M.out⟩
        · have z1 : (n == 0) = false := by simpa using hz
          rw [if_neg hz] at F0
          have F := hide F0
          clear F0 hz
          go_enter Tryz.func162, Tryz.ntmps162
          go_wp2_with (first
            | (go_at_call 59; refine (nextA T W _ b v l _ A1.out).mono ?_; rintro e w1 ⟨rfl, B1⟩; replace A1 := hide (A1.out.below B1); replace M := hide (Mod.trans M.out (Mod.of b B1)); clear B1)
            | (go_at_call 87; refine (skipA T W _ b v l _ 1 A1.out (by decide) (by decide)).mono ?_; rintro e w2 ⟨rfl, A2, M2⟩; (first | (rw [D1.out] at A2) | (rw [R1.out] at A2)); replace A1 := hide A2; replace M := hide (Mod.trans M.out M2); clear A2 M2)
            | (go_at_call 186; refine (hexDigit_any _ _).mono ?_; rintro e w2 ⟨rfl, rfl⟩; rw [X.out.1, X.out.2])
            | (go_at_call 187; refine (takeHex_any T W _ b v l _ A1.out).mono ?_; rintro e w2 ⟨he, A2, M2⟩; rw [HN.out] at he A2; subst he; replace A1 := hide A2; replace M := hide (Mod.trans M.out M2); clear A2 M2)
            | (go_at_call 88; refine (isBlP_any _ _).mono ?_; rintro e w2 ⟨rfl, rfl⟩; rw [HB.out])
            | (go_at_call 160; refine (character_any _ _).mono ?_; rintro e w2 ⟨rfl, rfl⟩))
          go_ret
          exact ⟨ret_int (by rw [F.out]), by rw [F.out]; exact A1.out, M.out⟩
end Go.Proofs.YtcclhdiphcfdfaaGreatDoor
set_option linter.unusedVariables false
set_option linter.unusedSimpArgs false
namespace Go.Proofs.YtcclhdiphcfdfaaGreatDoor
open Go.RowKit

theorem exB_s (s u : List Int) (hu : s.drop 1 = u) : exB (nx s 0) (nx s 1) (nx s 2) = (((nx s 0 == 101) || (nx s 0 == 69)) && isDig (nx (nmS u) 0)) := by
  subst hu
  unfold exB nmS
  rw [nx_drop]
  split
  · rw [nx_drop, nx_drop]
  · rw [nx_drop]
set_option maxHeartbeats 1000000 in
theorem expB_any (v : Value) (s : List Int) (w : World) (hv : Look 5 w v s) :
    Calls Tryz.prog 167 #[v] w fun e w' => e = .returned (.bool (exB (nx s 0) (nx s 1) (nx s 2))) ∧ Below w.heap.size w w' := by
  obtain ⟨u, hu⟩ : ∃ u, s.drop 1 = u := ⟨_, rfl⟩
  rw [exB_s s u hu]
  have HU := hide hu
  have HV := hide hv
  clear hu
  obtain ⟨g, lb, rfl, eg, hg⟩ := hv
  have HG := hide hg
  clear hg
  have B := hide (Below.refl w.heap.size w)
  have H0 := hide (show nx s (Int.toNat 0) = nx s 0 from rfl)
  have H1 := hide (show nx (nmS u) (Int.toNat 0) = nx (nmS u) 0 from rfl)
  generalize nx s 0 = a at H0 ⊢
  generalize hz : nx (nmS u) 0 = z at H1 ⊢
  clear hz
  by_cases h1 : a = 101
  · subst h1
    go_enter Tryz.func167, Tryz.ntmps167
    go_wp2_with (first
      | (go_at_fn g2; refine (HG2.out _ _ (by decide) (by decide) B2.out).mono ?_; rintro e w1 ⟨he, B1⟩; rw [H1.out] at he; subst he; replace B := hide (bto B.out B1); clear B1)
      | (go_at_fn g; refine (HG.out _ _ (by decide) (by decide) B.out).mono ?_; rintro e w1 ⟨he, B1⟩; rw [H0.out] at he; subst he; replace B := hide (bto B.out B1); clear B1)
      | (go_at_call 131; refine (behind_any 4 _ s 1 _ (HV.out.below B.out) (by decide) (by decide)).mono ?_; rintro e w3 ⟨x, rfl, HL, B3⟩; rw [HU.out] at HL; replace HL := hide HL; replace B := hide (bto B.out B3); clear B3)
      | (go_at_call 172; refine (behindSign_any _ u _ HL.out).mono ?_; rintro e w4 ⟨y, rfl, HM, B1⟩; obtain ⟨g2, lb2, rfl, eg2, hg2⟩ := HM; have HG2 := hide hg2; clear hg2; have B2 := hide (Below.refl w4.heap.size w4); replace B := hide (bto B.out B1); clear B1)
      | (go_at_call 92; refine (isDigP_any _ _).mono ?_; rintro e w2 ⟨rfl, rfl⟩))
    go_ret
    exact ⟨ret_bool (by simp), B.out⟩
  · have h1' : (a == 101) = false := by simpa using h1
    by_cases h2 : a = 69
    · subst h2
      go_enter Tryz.func167, Tryz.ntmps167
      go_wp2_with (first
        | (go_at_fn g2; refine (HG2.out _ _ (by decide) (by decide) B2.out).mono ?_; rintro e w1 ⟨he, B1⟩; rw [H1.out] at he; subst he; replace B := hide (bto B.out B1); clear B1)
        | (go_at_fn g; refine (HG.out _ _ (by decide) (by decide) B.out).mono ?_; rintro e w1 ⟨he, B1⟩; rw [H0.out] at he; subst he; replace B := hide (bto B.out B1); clear B1)
        | (go_at_call 131; refine (behind_any 4 _ s 1 _ (HV.out.below B.out) (by decide) (by decide)).mono ?_; rintro e w3 ⟨x, rfl, HL, B3⟩; rw [HU.out] at HL; replace HL := hide HL; replace B := hide (bto B.out B3); clear B3)
        | (go_at_call 172; refine (behindSign_any _ u _ HL.out).mono ?_; rintro e w4 ⟨y, rfl, HM, B1⟩; obtain ⟨g2, lb2, rfl, eg2, hg2⟩ := HM; have HG2 := hide hg2; clear hg2; have B2 := hide (Below.refl w4.heap.size w4); replace B := hide (bto B.out B1); clear B1)
        | (go_at_call 92; refine (isDigP_any _ _).mono ?_; rintro e w2 ⟨rfl, rfl⟩))
      go_ret
      exact ⟨ret_bool (by simp), B.out⟩
    · have h2' : (a == 69) = false := by simpa using h2
      have n1 : (a != 101) = true := by simpa using h1
      have n2 : (a != 69) = true := by simpa using h2
      go_enter Tryz.func167, Tryz.ntmps167
      go_wp2_with (go_at_fn g; refine (HG.out _ _ (by decide) (by decide) B.out).mono ?_; rintro e w1 ⟨he, B1⟩; rw [H0.out] at he; subst he; replace B := hide (bto B.out B1); clear B1)
      go_ret
      exact ⟨ret_bool (by simp [h1', h2']), B.out⟩
end Go.Proofs.YtcclhdiphcfdfaaGreatDoor
