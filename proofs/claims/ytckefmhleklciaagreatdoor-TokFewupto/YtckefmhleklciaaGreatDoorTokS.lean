/-
  Whether a quote comes, by the program.
-/
import Derived.Test.YtckefmhleklciaaGreatDoorTokR
import Derived.Outline
set_option linter.unusedVariables false
set_option linter.unusedSimpArgs false
namespace Go.Proofs.YtckefmhleklciaaGreatDoor
open Go.RowKit

theorem sbl_go {s : List Int} (h : isBl (nx s 0) = true) (g : isBl (nx s 1) = true) : sbl s = sbl (s.drop 1) := by
  cases s with
  | nil => exact absurd h (by decide)
  | cons x r =>
    have h' : isBl x = true := h
    have g' : isBl (nx r 0) = true := g
    show sbl (x :: r) = sbl r
    rw [sbl, if_pos (by rw [h', g']; rfl)]
theorem sbl_no {s : List Int} (h : (isBl (nx s 0) && isBl (nx s 1)) = false) : sbl s = s := by
  cases s with
  | nil => rfl
  | cons x r =>
    have h' : (isBl x && isBl (nx r 0)) = false := h
    rw [sbl, if_neg (by rw [h']; simp)]
set_option maxHeartbeats 1000000 in
theorem comesQuote_any (T : TypeId) (W w : World) (b : Nat) (v : Value) (l s : List Int) (h : At T W w b v l s) :
    Calls Tryz.prog 59 #[.pointer (some ⟨b, 0, none⟩)] w fun e w' => e = .returned (.bool (qut (sbl s))) ∧ At T W w' b v l (sbl s) ∧ w.grownBy w' (some b) := by
  have H := hide h
  clear h
  go_enter Tryz.func59, Tryz.ntmps59
  go_wp2
  go_loopg [] s.length (fun g wr => RelSk sbl T W w b v l s g wr)
  case atStart => exact .mk s H.out (Nat.le_refl _) rfl (Mod.refl _ _)
  case round =>
    clear H
    obtain ⟨t, A1, hg, R, M⟩ := hrel
    replace A1 := hide A1
    replace M := hide M
    obtain ⟨r, hr⟩ : ∃ r, t.drop 1 = r := ⟨_, rfl⟩
    have HV := hide (show t.drop (Int.toNat 1) = r from hr)
    have Q := hide (show qut t = (isQ (nx t 0) || (isBl (nx t 0) && isQ (nx t 1))) from rfl)
    cases hb0 : isBl (nx t 0)
    · have E := hide (R.out.trans (sbl_no (by rw [hb0]; rfl)))
      obtain ⟨x0, hx0⟩ : ∃ x, nx t 0 = x := ⟨_, rfl⟩
      rw [hx0] at hb0 Q
      have H0 := hide (show nx t (Int.toNat 0) = x0 from hx0)
      have H0n := hide hx0
      have B0 := hide hb0
      rw [hb0] at Q
      clear hb0 hr hx0
      cases hq : isQ x0
      all_goals
        rw [hq] at Q
        have HQ := hide hq
        clear hq
        go_wp2_with (first
          | (go_at_call 15; refine (nextA T W _ b v l t A1.out).mono ?_; rintro e w1 ⟨he, B1⟩; rw [H0n.out] at he; subst he; replace A1 := hide (A1.out.below B1); replace M := hide (Mod.trans M.out (Mod.of b B1)); clear B1)
          | (go_at_call 25; refine (isBlP_any _ _).mono ?_; rintro e w2 ⟨rfl, rfl⟩; rw [B0.out])
          | (go_at_call 23; refine (aheadA T W _ b _ l t A1.out).mono ?_; rintro e w1 ⟨y, rfl, HL, B1⟩; obtain ⟨g, lb, rfl, eg, hg'⟩ := HL; replace hg' := hide hg'; have BL := hide (Below.refl w1.heap.size w1); replace A1 := hide (A1.out.below B1); replace M := hide (Mod.trans M.out (Mod.of b B1)); clear B1)
          | (go_at_fn g; refine (hg'.out _ _ (by decide) (by decide) BL.out).mono ?_; rintro e w1 ⟨he, B1⟩; rw [H0.out] at he; subst he; replace BL := hide (bto BL.out B1); replace A1 := hide (A1.out.below B1); replace M := hide (Mod.trans M.out (Mod.of b B1)); clear B1)
          | (go_at_call 27; refine (isQP_any _ _).mono ?_; rintro e w2 ⟨rfl, rfl⟩; rw [HQ.out]))
        go_ret
        exact ⟨ret_bool (by rw [E.out, Q.out]; rfl), by rw [E.out]; exact A1.out, M.out⟩
    · cases hb1 : isBl (nx t 1)
      · have E := hide (R.out.trans (sbl_no (by rw [hb0, hb1]; rfl)))
        obtain ⟨x0, hx0⟩ : ∃ x, nx t 0 = x := ⟨_, rfl⟩
        obtain ⟨x1, hx1⟩ : ∃ x, nx t 1 = x := ⟨_, rfl⟩
        rw [hx0] at hb0
        rw [hx1] at hb1
        rw [hx0, hx1] at Q
        have H0 := hide (show nx t (Int.toNat 0) = x0 from hx0)
        have H1 := hide (show nx t (Int.toNat 1) = x1 from hx1)
        have H0n := hide hx0
        have B0 := hide hb0
        have BB := hide hb1
        rw [hb0] at Q
        have hq : isQ x0 = false := by
          unfold isBl at hb0; unfold isQ
          simp at hb0 ⊢; omega
        rw [hq] at Q
        have HQ := hide hq
        clear hb0 hb1 hr hx0 hx1 hq
        cases hq1 : isQ x1
        all_goals
          rw [hq1] at Q
          have HQ1 := hide hq1
          clear hq1
          go_wp2_with (first
            | (go_at_call 15; refine (nextA T W _ b v l t A1.out).mono ?_; rintro e w1 ⟨he, B1⟩; rw [H0n.out] at he; subst he; replace A1 := hide (A1.out.below B1); replace M := hide (Mod.trans M.out (Mod.of b B1)); clear B1)
            | (go_at_call 25; refine (isBlP_any _ _).mono ?_; rintro e w2 ⟨rfl, rfl⟩; (first | rw [B0.out] | rw [BB.out]))
            | (go_at_call 23; refine (aheadA T W _ b _ l t A1.out).mono ?_; rintro e w1 ⟨y, rfl, HL, B1⟩; obtain ⟨g, lb, rfl, eg, hg'⟩ := HL; replace hg' := hide hg'; have BL := hide (Below.refl w1.heap.size w1); replace A1 := hide (A1.out.below B1); replace M := hide (Mod.trans M.out (Mod.of b B1)); clear B1)
            | (go_at_fn g; refine (hg'.out _ _ (by decide) (by decide) BL.out).mono ?_; rintro e w1 ⟨he, B1⟩; (first | rw [H0.out] at he | rw [H1.out] at he); subst he; replace BL := hide (bto BL.out B1); replace A1 := hide (A1.out.below B1); replace M := hide (Mod.trans M.out (Mod.of b B1)); clear B1)
            | (go_at_call 27; refine (isQP_any _ _).mono ?_; rintro e w2 ⟨rfl, rfl⟩; (first | rw [HQ.out] | rw [HQ1.out])))
          go_ret
          exact ⟨ret_bool (by rw [E.out, Q.out]; rfl), by rw [E.out]; exact A1.out, M.out⟩
      · have E := R.out.trans (sbl_go hb0 hb1)
        rw [hr] at E
        replace E := hide E
        have hp := isBl_ne hb0
        have LU : r.length = t.length - 1 := by rw [← hr, List.length_drop]
        obtain ⟨x0, hx0⟩ : ∃ x, nx t 0 = x := ⟨_, rfl⟩
        obtain ⟨x1, hx1⟩ : ∃ x, nx t 1 = x := ⟨_, rfl⟩
        rw [hx0] at hb0
        rw [hx1] at hb1
        have H1 := hide (show nx t (Int.toNat 1) = x1 from hx1)
        have H0n := hide hx0
        have B0 := hide hb0
        have BB := hide hb1
        clear hb0 hb1 hr hx0 hx1 Q
        go_wp2_with (first
          | (go_at_call 15; refine (nextA T W _ b v l t A1.out).mono ?_; rintro e w1 ⟨he, B1⟩; rw [H0n.out] at he; subst he; replace A1 := hide (A1.out.below B1); replace M := hide (Mod.trans M.out (Mod.of b B1)); clear B1)
          | (go_at_call 25; refine (isBlP_any _ _).mono ?_; rintro e w2 ⟨rfl, rfl⟩; (first | rw [B0.out] | rw [BB.out]))
          | (go_at_call 23; refine (aheadA T W _ b _ l t A1.out).mono ?_; rintro e w1 ⟨y, rfl, HL, B1⟩; obtain ⟨g, lb, rfl, eg, hg'⟩ := HL; replace hg' := hide hg'; have BL := hide (Below.refl w1.heap.size w1); replace A1 := hide (A1.out.below B1); replace M := hide (Mod.trans M.out (Mod.of b B1)); clear B1)
          | (go_at_fn g; refine (hg'.out _ _ (by decide) (by decide) BL.out).mono ?_; rintro e w1 ⟨he, B1⟩; rw [H1.out] at he; subst he; replace BL := hide (bto BL.out B1); replace A1 := hide (A1.out.below B1); replace M := hide (Mod.trans M.out (Mod.of b B1)); clear B1)
          | (go_at_call 24; refine (skipA T W _ b v l t 1 A1.out (by decide) (by decide)).mono ?_; rintro e w2 ⟨rfl, A2, M2⟩; rw [HV.out] at A2; replace A1 := hide A2; replace M := hide (Mod.trans M.out M2); clear A2 M2))
        go_roundg (gk - 1)
        case measure => omega
        case rel => exact .mk r A1.out (by omega) E.out M.out
end Go.Proofs.YtckefmhleklciaaGreatDoor
