/-
  What ends a url; a bad url; whether a quote comes, by the program.
  Whether a quote comes, by the program.
  Whether a name is url, by the program.
-/
import Derived.Test.YtmoiifeflgopfaaGreatDoorMm
import Derived.Outline
set_option linter.unusedVariables false
set_option linter.unusedSimpArgs false
namespace Go.Proofs.YtmoiifeflgopfaaGreatDoor
open Go.RowKit

def enB (c : Int) : Bool := (c == 41) || (c == -1)
theorem endsUrl_any (c : Int) (w : World) : Calls Tryz.prog 57 #[.int .i32 c] w fun e w' => e = .returned (.bool (enB c)) ∧ w' = w := by
  by_cases h : c = 41
  · subst h
    go_enter Tryz.func57, Tryz.ntmps57
    go_wp2
    go_ret
    exact ⟨rfl, rfl⟩
  · have h' : (c == 41) = false := by simpa using h
    have E := hide (show enB c = (c == -1) by unfold enB; rw [h']; rfl)
    go_enter Tryz.func57, Tryz.ntmps57
    go_wp2
    go_ret
    exact ⟨ret_bool E.out.symm, rfl⟩
theorem barred_any (c : Int) (w : World) : Calls Tryz.prog 59 #[.int .i32 c] w fun e w' => e = .returned (.bool (isBar c)) ∧ w' = w := by
  cases hq : isQ c
  · have HQ := hide hq
    by_cases h : c = 40
    · have E := hide (show isBar c = true by unfold isBar; rw [h]; rfl)
      have h' : (c == 40) = true := by simpa using h
      clear hq h
      go_enter Tryz.func59, Tryz.ntmps59
      go_wp2_with (go_at_call 20; refine (isQP_any _ _).mono ?_; rintro e w2 ⟨rfl, rfl⟩; rw [HQ.out])
      go_ret
      exact ⟨ret_bool E.out.symm, rfl⟩
    · have h' : (c == 40) = false := by simpa using h
      by_cases g : c = 92
      · have E := hide (show isBar c = true by unfold isBar; rw [g]; rfl)
        have g' : (c == 92) = true := by simpa using g
        clear hq h g
        go_enter Tryz.func59, Tryz.ntmps59
        go_wp2_with (go_at_call 20; refine (isQP_any _ _).mono ?_; rintro e w2 ⟨rfl, rfl⟩; rw [HQ.out])
        go_ret
        exact ⟨ret_bool E.out.symm, rfl⟩
      · have g' : (c == 92) = false := by simpa using g
        have E := hide (show isBar c = isUn c by unfold isBar; rw [hq, h', g']; rfl)
        clear hq h g
        go_enter Tryz.func59, Tryz.ntmps59
        go_wp2_with (first
          | (go_at_call 20; refine (isQP_any _ _).mono ?_; rintro e w2 ⟨rfl, rfl⟩; rw [HQ.out])
          | (go_at_call 78; refine (isUnP_any _ _).mono ?_; rintro e w2 ⟨rfl, rfl⟩))
        go_ret
        exact ⟨ret_bool E.out.symm, rfl⟩
  · have HQ := hide hq
    have E := hide (show isBar c = true by unfold isBar; rw [hq]; rfl)
    clear hq
    go_enter Tryz.func59, Tryz.ntmps59
    go_wp2_with (go_at_call 20; refine (isQP_any _ _).mono ?_; rintro e w2 ⟨rfl, rfl⟩; rw [HQ.out])
    go_ret
    exact ⟨ret_bool E.out.symm, rfl⟩
theorem enB_or {c : Int} (h : enB c = true) : c = -1 ∨ c = 41 := by unfold enB at h; simp at h; omega
theorem enB_no {c : Int} (h : enB c = false) : ¬ (c = -1 ∨ c = 41) := by unfold enB at h; simp at h; omega
theorem bad_end {s : List Int} (h : nx s 0 = -1 ∨ nx s 0 = 41) : bad s = s.drop 1 := by rw [bad, dif_pos h]
theorem bad_esc {s : List Int} (h : ¬ (nx s 0 = -1 ∨ nx s 0 = 41)) (g : es2 (nx s 0) (nx s 1) = true) : bad s = bad (tesc (s.drop 1)).2 := by rw [bad, dif_neg h, if_pos g]
theorem bad_go {s : List Int} (h : ¬ (nx s 0 = -1 ∨ nx s 0 = 41)) (g : es2 (nx s 0) (nx s 1) = false) : bad s = bad (s.drop 1) := by rw [bad, dif_neg h, if_neg (by simp [g])]
set_option maxRecDepth 100000 in
set_option maxHeartbeats 1000000 in
theorem badUrl_any (T : TypeId) (W w : World) (b : Nat) (v : Value) (l s : List Int) (h : At T W w b v l s) :
    Calls Tryz.prog 58 #[.pointer (some ⟨b, 0, none⟩)] w fun e w' => Tells e (tk 8) ∧ At T W w' b v l (bad s) ∧ w.grownBy w' (some b) := by
  have hb0 := h.lt
  have A1 := hide (h.below (bplus (Below.refl _ _) tok0))
  have M := hide (Mod.of b (bplus (Below.refl w.heap.size w) tok0))
  have Z := hide (tok0_alloc w)
  clear h
  obtain ⟨w0, hw0⟩ : ∃ w0, w.alloc tok0 = w0 := ⟨_, rfl⟩
  rw [hw0] at A1 M Z
  have hw0' : w.alloc (.cells #[.int .i64 0, .string ⟨#[]⟩, .int .i64 0, .int .i64 0, .bool false, .bool false] 32) = w0 := hw0
  clear hw0
  go_enter Tryz.func58, Tryz.ntmps58
  go_wp2
  try rw [hw0']
  clear hw0'
  go_loopg [] s.length (fun g wr => RelSk bad T W w0 b v l s g wr)
  case atStart => exact .mk s A1.out (Nat.le_refl _) rfl (Mod.refl _ _)
  case round =>
    clear A1
    obtain ⟨t, A1, hg, R, M1⟩ := hrel
    replace A1 := hide A1
    replace M1 := hide M1
    have H0 := hide (show nx t (Int.toNat 0) = nx t 0 from rfl)
    obtain ⟨r, hr⟩ : ∃ r, t.drop 1 = r := ⟨_, rfl⟩
    have HV := hide (show t.drop (Int.toNat 1) = r from hr)
    have HV1 := hide hr
    cases hen : enB (nx t 0)
    · have hp : 0 < t.length := nx_pos fun e => enB_no hen (.inl e)
      have LU : r.length = t.length - 1 := by rw [← hr, List.length_drop]
      cases he : es2 (nx t 0) (nx t 1)
      · have E := R.out.trans (bad_go (enB_no hen) he)
        rw [hr] at E
        replace E := hide E
        have HN := hide hen
        have HE := hide he
        clear hen he hr
        go_wp2_with (first
          | (go_at_call 16; refine (aheadA T W _ b _ l t A1.out).mono ?_; rintro e w1 ⟨y, rfl, HL, B1⟩; have HK := hide HL; obtain ⟨g, lb, rfl, eg, hg'⟩ := HL; replace hg' := hide hg'; have BL := hide (Below.refl w1.heap.size w1); replace A1 := hide (A1.out.below B1); replace M1 := hide (Mod.trans M1.out (Mod.of b B1)); clear B1)
          | (go_at_fn g; refine (hg'.out _ _ (by decide) (by decide) BL.out).mono ?_; rintro e w1 ⟨he, B1⟩; rw [H0.out] at he; subst he; replace BL := hide (bto BL.out B1); replace A1 := hide (A1.out.below B1); replace M1 := hide (Mod.trans M1.out (Mod.of b B1)); clear B1)
          | (go_at_call 57; refine (endsUrl_any _ _).mono ?_; rintro e w2 ⟨rfl, rfl⟩; rw [HN.out])
          | (go_at_call 40; refine (isEscape_any _ t _ ((HK.out.below BL.out).le (by decide))).mono ?_; rintro e w1 ⟨he, B1⟩; rw [HE.out] at he; subst he; replace A1 := hide (A1.out.below B1); replace M1 := hide (Mod.trans M1.out (Mod.of b B1)); clear B1)
          | (go_at_call 17; refine (skipA T W _ b v l t 1 A1.out (by decide) (by decide)).mono ?_; rintro e w2 ⟨rfl, A2, M2⟩; rw [HV.out] at A2; replace A1 := hide A2; replace M1 := hide (Mod.trans M1.out M2); clear A2 M2))
        go_roundg (gk - 1)
        case measure => omega
        case rel => exact .mk r A1.out (by omega) E.out M1.out
      · have E := R.out.trans (bad_esc (enB_no hen) he)
        rw [hr] at E
        have LT := tesc_len r
        obtain ⟨⟨x, z⟩, hxr⟩ : ∃ z, tesc r = z := ⟨_, rfl⟩
        rw [hxr] at E LT
        have XR := hide hxr
        replace E := hide E
        have HN := hide hen
        have HE := hide he
        have LZ : z.length ≤ r.length := LT
        clear hen he hr hxr LT
        go_wp2_with (first
          | (go_at_call 16; refine (aheadA T W _ b _ l t A1.out).mono ?_; rintro e w1 ⟨y, rfl, HL, B1⟩; have HK := hide HL; obtain ⟨g, lb, rfl, eg, hg'⟩ := HL; replace hg' := hide hg'; have BL := hide (Below.refl w1.heap.size w1); replace A1 := hide (A1.out.below B1); replace M1 := hide (Mod.trans M1.out (Mod.of b B1)); clear B1)
          | (go_at_fn g; refine (hg'.out _ _ (by decide) (by decide) BL.out).mono ?_; rintro e w1 ⟨he, B1⟩; rw [H0.out] at he; subst he; replace BL := hide (bto BL.out B1); replace A1 := hide (A1.out.below B1); replace M1 := hide (Mod.trans M1.out (Mod.of b B1)); clear B1)
          | (go_at_call 57; refine (endsUrl_any _ _).mono ?_; rintro e w2 ⟨rfl, rfl⟩; rw [HN.out])
          | (go_at_call 40; refine (isEscape_any _ t _ ((HK.out.below BL.out).le (by decide))).mono ?_; rintro e w1 ⟨he, B1⟩; rw [HE.out] at he; subst he; replace A1 := hide (A1.out.below B1); replace M1 := hide (Mod.trans M1.out (Mod.of b B1)); clear B1)
          | (go_at_call 51; refine (takeEscape_any T W _ b _ l t r HV1.out A1.out).mono ?_; rintro e w2 ⟨he, A2, M2⟩; rw [XR.out] at he A2; subst he; replace A1 := hide A2; replace M1 := hide (Mod.trans M1.out M2); clear A2 M2))
        go_roundg (gk - 1)
        case measure => omega
        case rel => exact .mk z A1.out (by omega) E.out M1.out
    · have E := R.out.trans (bad_end (enB_or hen))
      rw [hr] at E
      replace E := hide E
      have HN := hide hen
      clear hen hr
      go_wp2_with (first
          | (go_at_call 16; refine (aheadA T W _ b _ l t A1.out).mono ?_; rintro e w1 ⟨y, rfl, HL, B1⟩; have HK := hide HL; obtain ⟨g, lb, rfl, eg, hg'⟩ := HL; replace hg' := hide hg'; have BL := hide (Below.refl w1.heap.size w1); replace A1 := hide (A1.out.below B1); replace M1 := hide (Mod.trans M1.out (Mod.of b B1)); clear B1)
          | (go_at_fn g; refine (hg'.out _ _ (by decide) (by decide) BL.out).mono ?_; rintro e w1 ⟨he, B1⟩; rw [H0.out] at he; subst he; replace BL := hide (bto BL.out B1); replace A1 := hide (A1.out.below B1); replace M1 := hide (Mod.trans M1.out (Mod.of b B1)); clear B1)
          | (go_at_call 57; refine (endsUrl_any _ _).mono ?_; rintro e w2 ⟨rfl, rfl⟩; rw [HN.out])
          | (go_at_call 17; refine (skipA T W _ b v l t 1 A1.out (by decide) (by decide)).mono ?_; rintro e w2 ⟨rfl, A2, M2⟩; rw [HV.out] at A2; replace A1 := hide A2; replace M1 := hide (Mod.trans M1.out M2); obtain ⟨f0, f1, f2, f3, f4, f5, c0, c1, c2, c3, c4, c5⟩ := tok0_free (keep Z.out (Nat.ne_of_gt hb0) M1.out); clear A2 M2))
      have MM := Mod.trans M.out M1.out
      refine bodyPost_ret (v := tkV 8 ⟨#[]⟩ 0 0 false false) (by simp [results, Tryz.results58, go_sem, tkV, c0, c1, c2, c3, c4, c5]) rfl ?_
      exact ⟨.tk rfl, by rw [E.out]; repeat (first | (with_reducible exact A1.out) | (with_reducible refine At.put ?_ hb0 _ _)), by repeat (first | (with_reducible exact MM) | (with_reducible refine Mod.put ?_ (Nat.le_refl _) _ _))⟩
end Go.Proofs.YtmoiifeflgopfaaGreatDoor
set_option linter.unusedVariables false
set_option linter.unusedSimpArgs false
namespace Go.Proofs.YtmoiifeflgopfaaGreatDoor
open Go.RowKit

theorem sbl_go {s : List Int} (h : isBl (nx s 0) = true) (g : isBl (nx s 1) = true) : sbl s = sbl (s.drop 1) := by
  cases s with
  | nil => exact absurd h (by decide)
  | cons x r =>
    have h' : isBl x = true := h
    have g' : isBl (nx r 0) = true := g
    show sbl (x :: r) = sbl r
    rw [sbl, if_pos (by rw [h', g']; rfl)]
theorem sbl_no {s : List Int} (h : (isBl (nx s 0) && isBl (nx s 1)) = false) : sbl s = s := by
  cases s with
  | nil => rfl
  | cons x r =>
    have h' : (isBl x && isBl (nx r 0)) = false := h
    rw [sbl, if_neg (by rw [h']; simp)]
set_option maxHeartbeats 1000000 in
theorem comesQuote_any (T : TypeId) (W w : World) (b : Nat) (v : Value) (l s : List Int) (h : At T W w b v l s) :
    Calls Tryz.prog 37 #[.pointer (some ⟨b, 0, none⟩)] w fun e w' => e = .returned (.bool (qut (sbl s))) ∧ At T W w' b v l (sbl s) ∧ w.grownBy w' (some b) := by
  have H := hide h
  clear h
  go_enter Tryz.func37, Tryz.ntmps37
  go_wp2
  go_loopg [] s.length (fun g wr => RelSk sbl T W w b v l s g wr)
  case atStart => exact .mk s H.out (Nat.le_refl _) rfl (Mod.refl _ _)
  case round =>
    clear H
    obtain ⟨t, A1, hg, R, M⟩ := hrel
    replace A1 := hide A1
    replace M := hide M
    obtain ⟨r, hr⟩ : ∃ r, t.drop 1 = r := ⟨_, rfl⟩
    have HV := hide (show t.drop (Int.toNat 1) = r from hr)
    have Q := hide (show qut t = (isQ (nx t 0) || (isBl (nx t 0) && isQ (nx t 1))) from rfl)
    cases hb0 : isBl (nx t 0)
    · have E := hide (R.out.trans (sbl_no (by rw [hb0]; rfl)))
      obtain ⟨x0, hx0⟩ : ∃ x, nx t 0 = x := ⟨_, rfl⟩
      rw [hx0] at hb0 Q
      have H0 := hide (show nx t (Int.toNat 0) = x0 from hx0)
      have H0n := hide hx0
      have B0 := hide hb0
      rw [hb0] at Q
      clear hb0 hr hx0
      cases hq : isQ x0
      all_goals
        rw [hq] at Q
        have HQ := hide hq
        clear hq
        go_wp2_with (first
          | (go_at_call 10; refine (nextA T W _ b v l t A1.out).mono ?_; rintro e w1 ⟨he, B1⟩; rw [H0n.out] at he; subst he; replace A1 := hide (A1.out.below B1); replace M := hide (Mod.trans M.out (Mod.of b B1)); clear B1)
          | (go_at_call 18; refine (isBlP_any _ _).mono ?_; rintro e w2 ⟨rfl, rfl⟩; rw [B0.out])
          | (go_at_call 16; refine (aheadA T W _ b _ l t A1.out).mono ?_; rintro e w1 ⟨y, rfl, HL, B1⟩; obtain ⟨g, lb, rfl, eg, hg'⟩ := HL; replace hg' := hide hg'; have BL := hide (Below.refl w1.heap.size w1); replace A1 := hide (A1.out.below B1); replace M := hide (Mod.trans M.out (Mod.of b B1)); clear B1)
          | (go_at_fn g; refine (hg'.out _ _ (by decide) (by decide) BL.out).mono ?_; rintro e w1 ⟨he, B1⟩; rw [H0.out] at he; subst he; replace BL := hide (bto BL.out B1); replace A1 := hide (A1.out.below B1); replace M := hide (Mod.trans M.out (Mod.of b B1)); clear B1)
          | (go_at_call 20; refine (isQP_any _ _).mono ?_; rintro e w2 ⟨rfl, rfl⟩; rw [HQ.out]))
        go_ret
        exact ⟨ret_bool (by rw [E.out, Q.out]; rfl), by rw [E.out]; exact A1.out, M.out⟩
    · cases hb1 : isBl (nx t 1)
      · have E := hide (R.out.trans (sbl_no (by rw [hb0, hb1]; rfl)))
        obtain ⟨x0, hx0⟩ : ∃ x, nx t 0 = x := ⟨_, rfl⟩
        obtain ⟨x1, hx1⟩ : ∃ x, nx t 1 = x := ⟨_, rfl⟩
        rw [hx0] at hb0
        rw [hx1] at hb1
        rw [hx0, hx1] at Q
        have H0 := hide (show nx t (Int.toNat 0) = x0 from hx0)
        have H1 := hide (show nx t (Int.toNat 1) = x1 from hx1)
        have H0n := hide hx0
        have B0 := hide hb0
        have BB := hide hb1
        rw [hb0] at Q
        have hq : isQ x0 = false := by
          unfold isBl at hb0; unfold isQ
          simp at hb0 ⊢; omega
        rw [hq] at Q
        have HQ := hide hq
        clear hb0 hb1 hr hx0 hx1 hq
        cases hq1 : isQ x1
        all_goals
          rw [hq1] at Q
          have HQ1 := hide hq1
          clear hq1
          go_wp2_with (first
            | (go_at_call 10; refine (nextA T W _ b v l t A1.out).mono ?_; rintro e w1 ⟨he, B1⟩; rw [H0n.out] at he; subst he; replace A1 := hide (A1.out.below B1); replace M := hide (Mod.trans M.out (Mod.of b B1)); clear B1)
            | (go_at_call 18; refine (isBlP_any _ _).mono ?_; rintro e w2 ⟨rfl, rfl⟩; (first | rw [B0.out] | rw [BB.out]))
            | (go_at_call 16; refine (aheadA T W _ b _ l t A1.out).mono ?_; rintro e w1 ⟨y, rfl, HL, B1⟩; obtain ⟨g, lb, rfl, eg, hg'⟩ := HL; replace hg' := hide hg'; have BL := hide (Below.refl w1.heap.size w1); replace A1 := hide (A1.out.below B1); replace M := hide (Mod.trans M.out (Mod.of b B1)); clear B1)
            | (go_at_fn g; refine (hg'.out _ _ (by decide) (by decide) BL.out).mono ?_; rintro e w1 ⟨he, B1⟩; (first | rw [H0.out] at he | rw [H1.out] at he); subst he; replace BL := hide (bto BL.out B1); replace A1 := hide (A1.out.below B1); replace M := hide (Mod.trans M.out (Mod.of b B1)); clear B1)
            | (go_at_call 20; refine (isQP_any _ _).mono ?_; rintro e w2 ⟨rfl, rfl⟩; (first | rw [HQ.out] | rw [HQ1.out])))
          go_ret
          exact ⟨ret_bool (by rw [E.out, Q.out]; rfl), by rw [E.out]; exact A1.out, M.out⟩
      · have E := R.out.trans (sbl_go hb0 hb1)
        rw [hr] at E
        replace E := hide E
        have hp := isBl_ne hb0
        have LU : r.length = t.length - 1 := by rw [← hr, List.length_drop]
        obtain ⟨x0, hx0⟩ : ∃ x, nx t 0 = x := ⟨_, rfl⟩
        obtain ⟨x1, hx1⟩ : ∃ x, nx t 1 = x := ⟨_, rfl⟩
        rw [hx0] at hb0
        rw [hx1] at hb1
        have H1 := hide (show nx t (Int.toNat 1) = x1 from hx1)
        have H0n := hide hx0
        have B0 := hide hb0
        have BB := hide hb1
        clear hb0 hb1 hr hx0 hx1 Q
        go_wp2_with (first
          | (go_at_call 10; refine (nextA T W _ b v l t A1.out).mono ?_; rintro e w1 ⟨he, B1⟩; rw [H0n.out] at he; subst he; replace A1 := hide (A1.out.below B1); replace M := hide (Mod.trans M.out (Mod.of b B1)); clear B1)
          | (go_at_call 18; refine (isBlP_any _ _).mono ?_; rintro e w2 ⟨rfl, rfl⟩; (first | rw [B0.out] | rw [BB.out]))
          | (go_at_call 16; refine (aheadA T W _ b _ l t A1.out).mono ?_; rintro e w1 ⟨y, rfl, HL, B1⟩; obtain ⟨g, lb, rfl, eg, hg'⟩ := HL; replace hg' := hide hg'; have BL := hide (Below.refl w1.heap.size w1); replace A1 := hide (A1.out.below B1); replace M := hide (Mod.trans M.out (Mod.of b B1)); clear B1)
          | (go_at_fn g; refine (hg'.out _ _ (by decide) (by decide) BL.out).mono ?_; rintro e w1 ⟨he, B1⟩; rw [H1.out] at he; subst he; replace BL := hide (bto BL.out B1); replace A1 := hide (A1.out.below B1); replace M := hide (Mod.trans M.out (Mod.of b B1)); clear B1)
          | (go_at_call 17; refine (skipA T W _ b v l t 1 A1.out (by decide) (by decide)).mono ?_; rintro e w2 ⟨rfl, A2, M2⟩; rw [HV.out] at A2; replace A1 := hide A2; replace M := hide (Mod.trans M.out M2); clear A2 M2))
        go_roundg (gk - 1)
        case measure => omega
        case rel => exact .mk r A1.out (by omega) E.out M.out
end Go.Proofs.YtmoiifeflgopfaaGreatDoor
set_option linter.unusedVariables false
set_option linter.unusedSimpArgs false
namespace Go.Proofs.YtmoiifeflgopfaaGreatDoor
open Go.RowKit

theorem let_cases (x a c : Int) : (x = a) ∨ ((x == a) = false ∧ x = c) ∨ ((x == a) = false ∧ (x == c) = false) := by
  simp only [beq_eq_false_iff_ne]; omega
set_option maxHeartbeats 1000000 in
theorem isUrl_any (t : ByteArray) (w : World) : Calls Tryz.prog 36 #[.string t] w fun e w' => e = .returned (.bool (isUrlB (bl t))) ∧ Below w.heap.size w w' := by
  by_cases h3 : t.size = 3
  · have l0 : 0 < t.size := by omega
    have l1 : 1 < t.size := by omega
    have l2 : 2 < t.size := by omega
    have x0 := bl_nx t 0 l0
    have x1 := bl_nx t 1 l1
    have x2 := bl_nx t 2 l2
    have e3 : (bl t).length = 3 := by rw [bl_len]; exact h3
    have E : isUrlB (bl t) = (((nx (bl t) 0 == 117) || (nx (bl t) 0 == 85)) && ((nx (bl t) 1 == 114) || (nx (bl t) 1 == 82)) && ((nx (bl t) 2 == 108) || (nx (bl t) 2 == 76))) := by
      unfold isUrlB; rw [e3]; rfl
    rw [x0, x1, x2] at E
    replace E := hide E
    clear x0 x1 x2 e3
    rcases let_cases (t[0].toNat : Int) 117 85 with a | ⟨a, a'⟩ | ⟨a, a'⟩
    all_goals
      rcases let_cases (t[1].toNat : Int) 114 82 with c | ⟨c, c'⟩ | ⟨c, c'⟩
      all_goals
        rcases let_cases (t[2].toNat : Int) 108 76 with d | ⟨d, d'⟩ | ⟨d, d'⟩
        all_goals
          have F := hide (show (((t[0].toNat : Int) == 117 || (t[0].toNat : Int) == 85) && ((t[1].toNat : Int) == 114 || (t[1].toNat : Int) == 82) && ((t[2].toNat : Int) == 108 || (t[2].toNat : Int) == 76)) = _ from by simp only [*]; rfl)
          go_enter Tryz.func36, Tryz.ntmps36
          go_wp2
          go_quiet (fail)
          go_wp2
          go_ret
          exact ⟨ret_bool (by have e1 := E.out; have e2 := F.out; exact (e1.trans (e2.trans (by first | rfl | simp))).symm), below_drewN (Below.refl _ _) _⟩
  · have h3' : ((t.size : Int) == 3) = false := by simp; omega
    have h3'' : ((t.size : Int) != 3) = true := by simp; omega
    have E := hide (show isUrlB (bl t) = false by unfold isUrlB; rw [bl_len]; simp [h3])
    go_enter Tryz.func36, Tryz.ntmps36
    go_wp2
    go_ret
    exact ⟨ret_bool E.out.symm, Below.refl _ _⟩
end Go.Proofs.YtmoiifeflgopfaaGreatDoor
