/-
  Where a name, a number, an escape begins, by the program.
-/
import Derived.Test.YtckefmhleklciaaGreatDoorTokA
set_option linter.unusedVariables false
set_option linter.unusedSimpArgs false
namespace Go.Proofs.YtckefmhleklciaaGreatDoor
open Go.RowKit

theorem isDigP_any (c : Int) (w : World) : Calls Tryz.prog 29 #[.int .i32 c] w fun e w' => e = .returned (.bool (isDig c)) ∧ w' = w := by
  rcases (show c < 48 ∨ (48 ≤ c ∧ c ≤ 57) ∨ 57 < c by omega) with h | ⟨h, g⟩ | h
  all_goals
    go_enter Tryz.func29, Tryz.ntmps29
    go_wp2
    go_ret
    exact ⟨ret_bool (by simp [isDig]; omega), rfl⟩
theorem fst_cases (c : Int) : (c < 65 ∧ isFst c = false) ∨ (65 ≤ c ∧ c ≤ 90 ∧ isFst c = true) ∨ (90 < c ∧ c < 95 ∧ isFst c = false) ∨ (c = 95 ∧ isFst c = true) ∨ (c = 96 ∧ isFst c = false) ∨ (97 ≤ c ∧ c ≤ 122 ∧ isFst c = true) ∨ (122 < c ∧ c < 128 ∧ isFst c = false) ∨ (128 ≤ c ∧ isFst c = true) := by
  have : isFst c = true ↔ (97 ≤ c ∧ c ≤ 122) ∨ (65 ≤ c ∧ c ≤ 90) ∨ c = 95 ∨ 128 ≤ c := by simp [isFst]; omega
  by_cases h : isFst c = true
  · have := this.1 h; simp only [h, and_true]; simp; omega
  · have h' : isFst c = false := by simpa using h
    have : ¬ ((97 ≤ c ∧ c ≤ 122) ∨ (65 ≤ c ∧ c ≤ 90) ∨ c = 95 ∨ 128 ≤ c) := fun k => h (this.2 k)
    simp only [h', and_true]; simp; omega
set_option maxHeartbeats 1000000 in
theorem isFstP_any (c : Int) (w : World) : Calls Tryz.prog 31 #[.int .i32 c] w fun e w' => e = .returned (.bool (isFst c)) ∧ w' = w := by
  rcases fst_cases c with ⟨h, e⟩ | ⟨h, g, e⟩ | ⟨h, g, e⟩ | ⟨rfl, e⟩ | ⟨rfl, e⟩ | ⟨h, g, e⟩ | ⟨h, g, e⟩ | ⟨h, e⟩
  all_goals
    have E := hide e
    clear e
    go_enter Tryz.func31, Tryz.ntmps31
    go_wp2
    go_ret
    exact ⟨ret_bool (by rw [E.out]; first | done | rfl | (simp; omega)), rfl⟩
theorem isSgP_any (c : Int) (w : World) : Calls Tryz.prog 117 #[.int .i32 c] w fun e w' => e = .returned (.bool (isSg c)) ∧ w' = w := by
  rcases (show c = 43 ∨ c = 45 ∨ (c ≠ 43 ∧ c ≠ 45) by omega) with rfl | rfl | ⟨h, g⟩
  · go_enter Tryz.func117, Tryz.ntmps117
    go_wp2
    go_ret
    exact ⟨rfl, rfl⟩
  · go_enter Tryz.func117, Tryz.ntmps117
    go_wp2
    go_ret
    exact ⟨rfl, rfl⟩
  · have h' : (c == 43) = false := by simpa using h
    have g' : (c == 45) = false := by simpa using g
    go_enter Tryz.func117, Tryz.ntmps117
    go_wp2
    go_ret
    exact ⟨ret_bool (by simp [isSg, h, g]), rfl⟩
theorem Look.shape {d : Nat} {w : World} {v : Value} {s : List Int} (h : Look d w v s) : ∃ g lb, v = .func (.func g) #[] lb := by
  obtain ⟨g, lb, h1, _⟩ := h; exact ⟨g, lb, h1⟩
theorem Look.le {d e : Nat} {w : World} {v : Value} {s : List Int} (h : Look d w v s) (hd : e ≤ d) : Look e w v s := by
  obtain ⟨g, lb, h1, h2, h3⟩ := h
  exact ⟨g, lb, h1, h2, fun k W h0 hk hW => h3 k W h0 (by omega) hW⟩
theorem behind_any (d : Nat) (v : Value) (s : List Int) (n : Nat) (w : World) (hv : Look (d + n) w v s) (hn : n ≤ 1000) (hd : d ≤ 1000) :
    Calls Tryz.prog 63 #[v, .int .i64 n] w fun e w' => ∃ u, e = .returned u ∧ Look d w' u (s.drop n) ∧ Below w.heap.size w w' := by
  have HV := hide hv
  obtain ⟨g, lb, hs⟩ := hv.shape
  have HB := hide (show Below w.heap.size w ((w.alloc (.cells #[v] 51)).alloc (.cells #[.int .i64 n] 3)) from bplus (bplus (Below.refl _ _) _) _)
  have HL := hide fun W B C k h1 h2 h3 h4 => behind1_any d v s n k B C W h1 hn h2 hd h3 h4
  clear hv
  subst hs
  go_enter Tryz.func63, Tryz.ntmps63
  go_wp2
  go_ret
  have hB := HB.out
  refine ⟨_, rfl, ⟨90, _, rfl, enters_of Tryz.func90 (by kernel_rfl) rfl, fun k W h0 hk hW => ?_⟩, hB⟩
  obtain ⟨j, rfl⟩ := Int.eq_ofNat_of_zero_le h0
  refine HL.out W w.heap.size (w.heap.size + 1) j (HV.out.below (bto hB hW)) (by omega) ?_ ?_
  · rw [hW.cell (p := ⟨w.heap.size, 0, none⟩) (by simp; omega)]; simp
  · rw [hW.cell (p := ⟨w.heap.size + 1, 0, none⟩) (by simp)]; simp
theorem isEscape_any (v : Value) (s : List Int) (w : World) (hv : Look 1 w v s) :
    Calls Tryz.prog 62 #[v] w fun e w' => e = .returned (.bool (es2 (nx s 0) (nx s 1))) ∧ Below w.heap.size w w' := by
  obtain ⟨g, lb, rfl, eg, hg⟩ := hv
  have HG := hide hg
  clear hg
  have T0 : nx s (Int.toNat 0) = nx s 0 := rfl
  have T1 : nx s (Int.toNat 1) = nx s 1 := rfl
  have B := hide (Below.refl w.heap.size w)
  generalize nx s 0 = a at T0 ⊢
  generalize nx s 1 = b at T1 ⊢
  have H0 := hide T0
  have H1 := hide T1
  clear T0 T1
  by_cases ha : a = 92
  · subst ha
    by_cases hb : b = 10
    · subst hb
      go_enter Tryz.func62, Tryz.ntmps62
      go_wp2_with (go_at_fn g; refine (HG.out _ _ (by decide) (by decide) B.out).mono ?_; rintro e w1 ⟨he, B1⟩; (first | rw [H0.out] at he | rw [H1.out] at he); subst he; replace B := hide (bto B.out B1); clear B1)
      go_ret
      exact ⟨rfl, B.out⟩
    · have hb' : (b == 10) = false := by simpa using hb
      go_enter Tryz.func62, Tryz.ntmps62
      go_wp2_with (go_at_fn g; refine (HG.out _ _ (by decide) (by decide) B.out).mono ?_; rintro e w1 ⟨he, B1⟩; (first | rw [H0.out] at he | rw [H1.out] at he); subst he; replace B := hide (bto B.out B1); clear B1)
      go_ret
      exact ⟨ret_bool (by simp [es2, bne, hb']), B.out⟩
  · have ha' : (a == 92) = false := by simpa using ha
    go_enter Tryz.func62, Tryz.ntmps62
    go_wp2_with (go_at_fn g; refine (HG.out _ _ (by decide) (by decide) B.out).mono ?_; rintro e w1 ⟨he, B1⟩; (first | rw [H0.out] at he | rw [H1.out] at he); subst he; replace B := hide (bto B.out B1); clear B1)
    go_ret
    exact ⟨ret_bool (by simp [es2, ha']), B.out⟩
theorem behindSign_any (v : Value) (s : List Int) (w : World) (hv : Look 4 w v s) :
    Calls Tryz.prog 91 #[v] w fun e w' => ∃ u, e = .returned u ∧ Look 3 w' u (nmS s) ∧ Below w.heap.size w w' := by
  have HV := hide hv
  obtain ⟨g, lb, rfl, eg, hg⟩ := hv
  have HG := hide hg
  clear hg
  have H0 := hide (show nx s (Int.toNat 0) = nx s 0 from rfl)
  have B := hide (Below.refl w.heap.size w)
  by_cases h : isSg (nx s 0) = true
  · have HS := hide h
    have E := hide (show nmS s = s.drop 1 by unfold nmS; rw [if_pos h])
    clear h
    go_enter Tryz.func91, Tryz.ntmps91
    go_wp2_with (first
      | (go_at_fn g; refine (HG.out _ _ (by decide) (by decide) B.out).mono ?_; rintro e w1 ⟨he, B1⟩; rw [H0.out] at he; subst he; replace B := hide (bto B.out B1); clear B1)
      | (go_at_call 117; refine (isSgP_any _ _).mono ?_; rintro e w2 ⟨rfl, rfl⟩; rw [HS.out])
      | (go_at_call 63; refine (behind_any 3 _ s 1 _ (HV.out.below B.out) (by decide) (by decide)).mono ?_; rintro e w3 ⟨u, rfl, HL, B3⟩; replace HL := hide HL; replace B := hide (bto B.out B3); clear B3))
    go_ret
    exact ⟨_, rfl, by rw [E.out]; exact HL.out, B.out⟩
  · have h' : isSg (nx s 0) = false := by simpa using h
    have HS := hide h'
    have E := hide (show nmS s = s by unfold nmS; rw [if_neg h])
    clear h h'
    go_enter Tryz.func91, Tryz.ntmps91
    go_wp2_with (first
      | (go_at_fn g; refine (HG.out _ _ (by decide) (by decide) B.out).mono ?_; rintro e w1 ⟨he, B1⟩; rw [H0.out] at he; subst he; replace B := hide (bto B.out B1); clear B1)
      | (go_at_call 117; refine (isSgP_any _ _).mono ?_; rintro e w2 ⟨rfl, rfl⟩; rw [HS.out]))
    go_ret
    exact ⟨_, rfl, by rw [E.out]; exact (HV.out.below B.out).le (by decide), B.out⟩
/-- A number begins, as it is behind the sign. -/
theorem nuB_s (s : List Int) : nuB (nx s 0) (nx s 1) (nx s 2) = (isDig (nx (nmS s) 0) || ((nx (nmS s) 0 == 46) && isDig (nx (nmS s) 1))) := by
  unfold nuB nmS
  split
  · rw [nx_drop, nx_drop]
  · rfl
set_option maxHeartbeats 1000000 in
theorem numB_any (v : Value) (s : List Int) (w : World) (hv : Look 4 w v s) :
    Calls Tryz.prog 65 #[v] w fun e w' => e = .returned (.bool (nuB (nx s 0) (nx s 1) (nx s 2))) ∧ Below w.heap.size w w' := by
  rw [nuB_s]
  have HC := hide (behindSign_any v s w hv)
  clear hv
  generalize nmS s = t at *
  have B := hide (Below.refl w.heap.size w)
  have H0 := hide (show nx t (Int.toNat 0) = nx t 0 from rfl)
  have H1 := hide (show nx t (Int.toNat 1) = nx t 1 from rfl)
  generalize nx t 0 = a at H0 ⊢
  generalize nx t 1 = b at H1 ⊢
  by_cases d0 : isDig a = true
  · have D0 := hide d0
    have D1 := hide d0
    clear d0
    go_enter Tryz.func65, Tryz.ntmps65
    go_wp2_with (first
        | (go_at_call 91; refine HC.out.mono ?_; rintro e w1 ⟨u, rfl, HL, B1⟩; obtain ⟨g, lb, rfl, eg, hg⟩ := HL; replace hg := hide hg; have BL := hide (Below.refl w1.heap.size w1); replace B := hide (bto B.out B1); clear B1)
        | (go_at_call 29; refine (isDigP_any _ _).mono ?_; rintro e w2 ⟨rfl, rfl⟩; (first | rw [D0.out] | rw [D1.out]))
        | (go_at_fn g; refine (hg.out _ _ (by decide) (by decide) BL.out).mono ?_; rintro e w1 ⟨he, B1⟩; (first | rw [H0.out] at he | rw [H1.out] at he); subst he; replace B := hide (bto B.out B1); replace BL := hide (bto BL.out B1); clear B1))
    go_ret
    exact ⟨ret_bool (by rw [D0.out]; rfl), B.out⟩
  · have D0 := hide (show isDig a = false by simpa using d0)
    clear d0
    by_cases ha : a = 46
    · subst ha
      by_cases d1 : isDig b = true
      · have D1 := hide d1
        clear d1
        go_enter Tryz.func65, Tryz.ntmps65
        go_wp2_with (first
        | (go_at_call 91; refine HC.out.mono ?_; rintro e w1 ⟨u, rfl, HL, B1⟩; obtain ⟨g, lb, rfl, eg, hg⟩ := HL; replace hg := hide hg; have BL := hide (Below.refl w1.heap.size w1); replace B := hide (bto B.out B1); clear B1)
        | (go_at_call 29; refine (isDigP_any _ _).mono ?_; rintro e w2 ⟨rfl, rfl⟩; (first | rw [D0.out] | rw [D1.out]))
        | (go_at_fn g; refine (hg.out _ _ (by decide) (by decide) BL.out).mono ?_; rintro e w1 ⟨he, B1⟩; (first | rw [H0.out] at he | rw [H1.out] at he); subst he; replace B := hide (bto B.out B1); replace BL := hide (bto BL.out B1); clear B1))
        go_ret
        exact ⟨ret_bool (by rw [D0.out, D1.out]; rfl), B.out⟩
      · have D1 := hide (show isDig b = false by simpa using d1)
        clear d1
        go_enter Tryz.func65, Tryz.ntmps65
        go_wp2_with (first
        | (go_at_call 91; refine HC.out.mono ?_; rintro e w1 ⟨u, rfl, HL, B1⟩; obtain ⟨g, lb, rfl, eg, hg⟩ := HL; replace hg := hide hg; have BL := hide (Below.refl w1.heap.size w1); replace B := hide (bto B.out B1); clear B1)
        | (go_at_call 29; refine (isDigP_any _ _).mono ?_; rintro e w2 ⟨rfl, rfl⟩; (first | rw [D0.out] | rw [D1.out]))
        | (go_at_fn g; refine (hg.out _ _ (by decide) (by decide) BL.out).mono ?_; rintro e w1 ⟨he, B1⟩; (first | rw [H0.out] at he | rw [H1.out] at he); subst he; replace B := hide (bto B.out B1); replace BL := hide (bto BL.out B1); clear B1))
        go_ret
        exact ⟨ret_bool (by rw [D0.out, D1.out]; rfl), B.out⟩
    · have ha' : (a == 46) = false := by simpa using ha
      have D1 := D0
      go_enter Tryz.func65, Tryz.ntmps65
      go_wp2_with (first
        | (go_at_call 91; refine HC.out.mono ?_; rintro e w1 ⟨u, rfl, HL, B1⟩; obtain ⟨g, lb, rfl, eg, hg⟩ := HL; replace hg := hide hg; have BL := hide (Below.refl w1.heap.size w1); replace B := hide (bto B.out B1); clear B1)
        | (go_at_call 29; refine (isDigP_any _ _).mono ?_; rintro e w2 ⟨rfl, rfl⟩; (first | rw [D0.out] | rw [D1.out]))
        | (go_at_fn g; refine (hg.out _ _ (by decide) (by decide) BL.out).mono ?_; rintro e w1 ⟨he, B1⟩; (first | rw [H0.out] at he | rw [H1.out] at he); subst he; replace B := hide (bto B.out B1); replace BL := hide (bto BL.out B1); clear B1))
      go_ret
      exact ⟨ret_bool (by rw [D0.out, ha']; rfl), B.out⟩
set_option maxHeartbeats 1000000 in
theorem nameB_any (v : Value) (s : List Int) (w : World) (hv : Look 3 w v s) :
    Calls Tryz.prog 56 #[v] w fun e w' => e = .returned (.bool (nmB (nx s 0) (nx s 1) (nx s 2))) ∧ Below w.heap.size w w' := by
  have HV := hide hv
  obtain ⟨g, lb, rfl, eg, hg⟩ := hv
  have HG := hide hg
  clear hg
  have B := hide (Below.refl w.heap.size w)
  have H0 := hide (show nx s (Int.toNat 0) = nx s 0 from rfl)
  have H1 := hide (show nx s (Int.toNat 1) = nx s 1 from rfl)
  have X0 := hide (show nx (s.drop 1) 0 = nx s 1 from nx_drop s 1 0)
  have X1 := hide (show nx (s.drop 1) 1 = nx s 2 from nx_drop s 1 1)
  by_cases ha : nx s 0 = 45
  · rw [ha] at H0
    have HE := hide (show nmB (nx s 0) (nx s 1) (nx s 2) = (isFst (nx s 1) || (nx s 1 == 45) || es2 (nx s 1) (nx s 2)) by unfold nmB; rw [if_pos ha])
    rw [HE.out]
    clear ha HE
    by_cases f : isFst (nx s 1) = true
    · have F := hide f
      have ES := hide (show isFst (nx s 1) = true from f)
      clear f
      go_enter Tryz.func56, Tryz.ntmps56
      go_wp2_with (first
        | (go_at_call 63; refine (behind_any 2 _ s 1 _ ((HV.out.le (by decide)).below B.out) (by decide) (by decide)).mono ?_; rintro e w3 ⟨u, rfl, HL, B3⟩; replace HL := hide HL; replace B := hide (bto B.out B3); clear B3)
        | (go_at_call 31; refine (isFstP_any _ _).mono ?_; rintro e w2 ⟨rfl, rfl⟩; rw [F.out])
        | (go_at_call 62; refine (isEscape_any _ (s.drop 1) _ (HL.out.le (by decide))).mono ?_; rintro e w4 ⟨rfl, B4⟩; rw [ES.out]; replace B := hide (bto B.out B4); clear B4)
        | (go_at_fn g; refine (HG.out _ _ (by decide) (by decide) B.out).mono ?_; rintro e w1 ⟨he, B1⟩; (first | rw [H0.out] at he | rw [H1.out] at he); subst he; replace B := hide (bto B.out B1); clear B1))
      go_ret
      exact ⟨ret_bool (by rw [F.out]; rfl), B.out⟩
    · have F := hide (show isFst (nx s 1) = false by simpa using f)
      clear f
      by_cases hb : nx s 1 = 45
      · have ES := F
        rw [hb] at H1 F ⊢
        go_enter Tryz.func56, Tryz.ntmps56
        go_wp2_with (first
          | (go_at_call 63; refine (behind_any 2 _ s 1 _ ((HV.out.le (by decide)).below B.out) (by decide) (by decide)).mono ?_; rintro e w3 ⟨u, rfl, HL, B3⟩; replace HL := hide HL; replace B := hide (bto B.out B3); clear B3)
          | (go_at_call 31; refine (isFstP_any _ _).mono ?_; rintro e w2 ⟨rfl, rfl⟩; rw [F.out])
          | (go_at_call 62; refine (isEscape_any _ (s.drop 1) _ (HL.out.le (by decide))).mono ?_; rintro e w4 ⟨rfl, B4⟩; rw [ES.out]; replace B := hide (bto B.out B4); clear B4)
          | (go_at_fn g; refine (HG.out _ _ (by decide) (by decide) B.out).mono ?_; rintro e w1 ⟨he, B1⟩; (first | rw [H0.out] at he | rw [H1.out] at he); subst he; replace B := hide (bto B.out B1); clear B1))
        go_ret
        exact ⟨ret_bool (by rw [F.out]; rfl), B.out⟩
      · have hb' : (nx s 1 == 45) = false := by simpa using hb
        by_cases es : es2 (nx s 1) (nx s 2) = true
        · have ES := hide (show es2 (nx (s.drop 1) 0) (nx (s.drop 1) 1) = true by rw [X0.out, X1.out]; exact es)
          have ES' := hide es
          clear es
          go_enter Tryz.func56, Tryz.ntmps56
          go_wp2_with (first
            | (go_at_call 63; refine (behind_any 2 _ s 1 _ ((HV.out.le (by decide)).below B.out) (by decide) (by decide)).mono ?_; rintro e w3 ⟨u, rfl, HL, B3⟩; replace HL := hide HL; replace B := hide (bto B.out B3); clear B3)
            | (go_at_call 31; refine (isFstP_any _ _).mono ?_; rintro e w2 ⟨rfl, rfl⟩; rw [F.out])
            | (go_at_call 62; refine (isEscape_any _ (s.drop 1) _ (HL.out.le (by decide))).mono ?_; rintro e w4 ⟨rfl, B4⟩; rw [ES.out]; replace B := hide (bto B.out B4); clear B4)
            | (go_at_fn g; refine (HG.out _ _ (by decide) (by decide) B.out).mono ?_; rintro e w1 ⟨he, B1⟩; (first | rw [H0.out] at he | rw [H1.out] at he); subst he; replace B := hide (bto B.out B1); clear B1))
          go_ret
          exact ⟨ret_bool (by rw [F.out, hb', ES'.out]; rfl), B.out⟩
        · have es' : es2 (nx s 1) (nx s 2) = false := by simpa using es
          have ES := hide (show es2 (nx (s.drop 1) 0) (nx (s.drop 1) 1) = false by rw [X0.out, X1.out]; exact es')
          have ES' := hide es'
          clear es es'
          go_enter Tryz.func56, Tryz.ntmps56
          go_wp2_with (first
            | (go_at_call 63; refine (behind_any 2 _ s 1 _ ((HV.out.le (by decide)).below B.out) (by decide) (by decide)).mono ?_; rintro e w3 ⟨u, rfl, HL, B3⟩; replace HL := hide HL; replace B := hide (bto B.out B3); clear B3)
            | (go_at_call 31; refine (isFstP_any _ _).mono ?_; rintro e w2 ⟨rfl, rfl⟩; rw [F.out])
            | (go_at_call 62; refine (isEscape_any _ (s.drop 1) _ (HL.out.le (by decide))).mono ?_; rintro e w4 ⟨rfl, B4⟩; rw [ES.out]; replace B := hide (bto B.out B4); clear B4)
            | (go_at_fn g; refine (HG.out _ _ (by decide) (by decide) B.out).mono ?_; rintro e w1 ⟨he, B1⟩; (first | rw [H0.out] at he | rw [H1.out] at he); subst he; replace B := hide (bto B.out B1); clear B1))
          go_ret
          exact ⟨ret_bool (by rw [F.out, hb', ES'.out]; rfl), B.out⟩
  · have ha' : (nx s 0 == 45) = false := by simpa using ha
    have HE := hide (show nmB (nx s 0) (nx s 1) (nx s 2) = (isFst (nx s 0) || es2 (nx s 0) (nx s 1)) by unfold nmB; rw [if_neg ha])
    rw [HE.out]
    clear ha HE
    by_cases f : isFst (nx s 0) = true
    · have F := hide f
      have ES := hide f
      clear f
      go_enter Tryz.func56, Tryz.ntmps56
      go_wp2_with (first
        | (go_at_call 63; refine (behind_any 2 _ s 1 _ ((HV.out.le (by decide)).below B.out) (by decide) (by decide)).mono ?_; rintro e w3 ⟨u, rfl, HL, B3⟩; replace HL := hide HL; replace B := hide (bto B.out B3); clear B3)
        | (go_at_call 31; refine (isFstP_any _ _).mono ?_; rintro e w2 ⟨rfl, rfl⟩; rw [F.out])
        | (go_at_call 62; refine (isEscape_any _ s _ ((HV.out.le (by decide)).below B.out)).mono ?_; rintro e w4 ⟨rfl, B4⟩; rw [ES.out]; replace B := hide (bto B.out B4); clear B4)
        | (go_at_fn g; refine (HG.out _ _ (by decide) (by decide) B.out).mono ?_; rintro e w1 ⟨he, B1⟩; (first | rw [H0.out] at he | rw [H1.out] at he); subst he; replace B := hide (bto B.out B1); clear B1))
      go_ret
      exact ⟨ret_bool (by rw [F.out]; rfl), B.out⟩
    · have F := hide (show isFst (nx s 0) = false by simpa using f)
      clear f
      by_cases es : es2 (nx s 0) (nx s 1) = true
      · have ES := hide es
        clear es
        go_enter Tryz.func56, Tryz.ntmps56
        go_wp2_with (first
          | (go_at_call 63; refine (behind_any 2 _ s 1 _ ((HV.out.le (by decide)).below B.out) (by decide) (by decide)).mono ?_; rintro e w3 ⟨u, rfl, HL, B3⟩; replace HL := hide HL; replace B := hide (bto B.out B3); clear B3)
          | (go_at_call 31; refine (isFstP_any _ _).mono ?_; rintro e w2 ⟨rfl, rfl⟩; rw [F.out])
          | (go_at_call 62; refine (isEscape_any _ s _ ((HV.out.le (by decide)).below B.out)).mono ?_; rintro e w4 ⟨rfl, B4⟩; rw [ES.out]; replace B := hide (bto B.out B4); clear B4)
          | (go_at_fn g; refine (HG.out _ _ (by decide) (by decide) B.out).mono ?_; rintro e w1 ⟨he, B1⟩; (first | rw [H0.out] at he | rw [H1.out] at he); subst he; replace B := hide (bto B.out B1); clear B1))
        go_ret
        exact ⟨ret_bool (by rw [F.out, ES.out]; rfl), B.out⟩
      · have ES := hide (show es2 (nx s 0) (nx s 1) = false by simpa using es)
        clear es
        go_enter Tryz.func56, Tryz.ntmps56
        go_wp2_with (first
          | (go_at_call 63; refine (behind_any 2 _ s 1 _ ((HV.out.le (by decide)).below B.out) (by decide) (by decide)).mono ?_; rintro e w3 ⟨u, rfl, HL, B3⟩; replace HL := hide HL; replace B := hide (bto B.out B3); clear B3)
          | (go_at_call 31; refine (isFstP_any _ _).mono ?_; rintro e w2 ⟨rfl, rfl⟩; rw [F.out])
          | (go_at_call 62; refine (isEscape_any _ s _ ((HV.out.le (by decide)).below B.out)).mono ?_; rintro e w4 ⟨rfl, B4⟩; rw [ES.out]; replace B := hide (bto B.out B4); clear B4)
          | (go_at_fn g; refine (HG.out _ _ (by decide) (by decide) B.out).mono ?_; rintro e w1 ⟨he, B1⟩; (first | rw [H0.out] at he | rw [H1.out] at he); subst he; replace B := hide (bto B.out B1); clear B1))
        go_ret
        exact ⟨ret_bool (by rw [F.out, ES.out]; rfl), B.out⟩
end Go.Proofs.YtckefmhleklciaaGreatDoor
