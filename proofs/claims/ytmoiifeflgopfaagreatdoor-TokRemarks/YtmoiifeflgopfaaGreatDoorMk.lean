/-
  An escape, a name, a number, by the program.
  Whether an exponent begins; a number taken, by the program.
-/
import Derived.Test.YtmoiifeflgopfaaGreatDoorMj
import Derived.Outline
set_option linter.unusedVariables false
set_option linter.unusedSimpArgs false
namespace Go.Proofs.YtmoiifeflgopfaaGreatDoor
open Go.RowKit

theorem tesc_end {s : List Int} (h : nx s 0 = -1) : tesc s = (65533, s) := by unfold tesc; rw [if_pos h]
theorem tesc_oneT {s : List Int} (h : nx s 0 ≠ -1) (g : hexv (nx s 0) < 0) : tesc s = (nx s 0, s.drop 1) := by unfold tesc; rw [if_neg h, if_pos g]
theorem tesc_hex {s : List Int} (h : nx s 0 ≠ -1) (g : ¬ hexv (nx s 0) < 0) (n : Int) (r : List Int) (hn : hexs 6 0 s = (n, r)) : tesc s = (if n = 0 then 65533 else chr n, if isBl (nx r 0) then r.drop 1 else r) := by
  unfold tesc; rw [if_neg h, if_neg g, hn]
set_option maxHeartbeats 1000000 in
theorem takeEscape_any (T : TypeId) (W w : World) (b : Nat) (v : Value) (l s u : List Int) (hu : s.drop 1 = u) (h : At T W w b v l s) :
    Calls Tryz.prog 51 #[.pointer (some ⟨b, 0, none⟩)] w fun e w' => e = .returned (.int .i32 (tesc u).1) ∧ At T W w' b v l (tesc u).2 ∧ w.grownBy w' (some b) := by
  have A1 := hide h
  have M := hide (Mod.refl w b)
  have D1 := hide (show s.drop (Int.toNat 1) = u from hu)
  clear h hu
  obtain ⟨tc, htc⟩ : ∃ x, tesc u = x := ⟨_, rfl⟩
  rw [htc]
  by_cases h0 : nx u 0 = -1
  · have F := hide (htc.symm.trans (tesc_end h0))
    have e1 : (nx u 0 == -1) = true := by simpa using h0
    clear h0 htc
    go_enter Tryz.func51, Tryz.ntmps51
    go_wp2_with (first
      | (go_at_call 10; refine (nextA T W _ b v l _ A1.out).mono ?_; rintro e w1 ⟨rfl, B1⟩; replace A1 := hide (A1.out.below B1); replace M := hide (Mod.trans M.out (Mod.of b B1)); clear B1)
      | (go_at_call 17; refine (skipA T W _ b v l _ 1 A1.out (by decide) (by decide)).mono ?_; rintro e w2 ⟨rfl, A2, M2⟩; rw [D1.out] at A2; replace A1 := hide A2; replace M := hide (Mod.trans M.out M2); clear A2 M2))
    go_ret
    exact ⟨ret_int (by rw [F.out]), by rw [F.out]; exact A1.out, M.out⟩
  · have e1 : (nx u 0 == -1) = false := by simpa using h0
    by_cases h1 : hexv (nx u 0) < 0
    · obtain ⟨r, hr⟩ : ∃ r, u.drop 1 = r := ⟨_, rfl⟩
      have F := hide (htc.symm.trans ((tesc_oneT h0 h1).trans (by rw [hr])))
      have X := hide (hx_no h1)
      have R1 := hide hr
      clear h0 h1 hr htc
      go_enter Tryz.func51, Tryz.ntmps51
      go_wp2_with (first
        | (go_at_call 10; refine (nextA T W _ b v l _ A1.out).mono ?_; rintro e w1 ⟨rfl, B1⟩; replace A1 := hide (A1.out.below B1); replace M := hide (Mod.trans M.out (Mod.of b B1)); clear B1)
        | (go_at_call 17; refine (skipA T W _ b v l _ 1 A1.out (by decide) (by decide)).mono ?_; rintro e w2 ⟨rfl, A2, M2⟩; rw [D1.out] at A2; replace A1 := hide A2; replace M := hide (Mod.trans M.out M2); clear A2 M2)
        | (go_at_call 66; refine (hexDigit_any _ _).mono ?_; rintro e w2 ⟨rfl, rfl⟩; rw [X.out.1, X.out.2])
        | (go_at_call 29; refine (takeA T W _ b v l _ A1.out).mono ?_; rintro e w2 ⟨rfl, A2, M2⟩; rw [R1.out] at A2; replace A1 := hide A2; replace M := hide (Mod.trans M.out M2); clear A2 M2))
      go_ret
      exact ⟨ret_int (by rw [F.out]), by rw [F.out]; exact A1.out, M.out⟩
    · obtain ⟨⟨n, r⟩, hn⟩ : ∃ x, hexs 6 0 u = x := ⟨_, rfl⟩
      have X := hide (hx_yes (c := nx u 0) (by omega))
      have HN := hide hn
      have F0 := htc.symm.trans (tesc_hex h0 h1 n r hn)
      clear h0 h1 hn htc
      obtain ⟨q, hq⟩ : ∃ q, r.drop 1 = q := ⟨_, rfl⟩
      rw [hq] at F0
      have R1 := hide (show r.drop (Int.toNat 1) = q from hq)
      clear hq
      cases hb : isBl (nx r 0)
      all_goals
        rw [hb] at F0
        have HB := hide hb
        clear hb
        by_cases hz : n = 0
        · subst hz
          have F := hide F0
          clear F0
          go_enter Tryz.func51, Tryz.ntmps51
          go_wp2_with (first
            | (go_at_call 10; refine (nextA T W _ b v l _ A1.out).mono ?_; rintro e w1 ⟨rfl, B1⟩; replace A1 := hide (A1.out.below B1); replace M := hide (Mod.trans M.out (Mod.of b B1)); clear B1)
            | (go_at_call 17; refine (skipA T W _ b v l _ 1 A1.out (by decide) (by decide)).mono ?_; rintro e w2 ⟨rfl, A2, M2⟩; (first | (rw [D1.out] at A2) | (rw [R1.out] at A2)); replace A1 := hide A2; replace M := hide (Mod.trans M.out M2); clear A2 M2)
            | (go_at_call 66; refine (hexDigit_any _ _).mono ?_; rintro e w2 ⟨rfl, rfl⟩; rw [X.out.1, X.out.2])
            | (go_at_call 67; refine (takeHex_any T W _ b v l _ A1.out).mono ?_; rintro e w2 ⟨he, A2, M2⟩; rw [HN.out] at he A2; subst he; replace A1 := hide A2; replace M := hide (Mod.trans M.out M2); clear A2 M2)
            | (go_at_call 18; refine (isBlP_any _ _).mono ?_; rintro e w2 ⟨rfl, rfl⟩; rw [HB.out]))
          go_ret
          exact ⟨ret_int (by rw [F.out]; rfl), by rw [F.out]; exact A1.out, M.out⟩
        · have z1 : (n == 0) = false := by simpa using hz
          rw [if_neg hz] at F0
          have F := hide F0
          clear F0 hz
          go_enter Tryz.func51, Tryz.ntmps51
          go_wp2_with (first
            | (go_at_call 10; refine (nextA T W _ b v l _ A1.out).mono ?_; rintro e w1 ⟨rfl, B1⟩; replace A1 := hide (A1.out.below B1); replace M := hide (Mod.trans M.out (Mod.of b B1)); clear B1)
            | (go_at_call 17; refine (skipA T W _ b v l _ 1 A1.out (by decide) (by decide)).mono ?_; rintro e w2 ⟨rfl, A2, M2⟩; (first | (rw [D1.out] at A2) | (rw [R1.out] at A2)); replace A1 := hide A2; replace M := hide (Mod.trans M.out M2); clear A2 M2)
            | (go_at_call 66; refine (hexDigit_any _ _).mono ?_; rintro e w2 ⟨rfl, rfl⟩; rw [X.out.1, X.out.2])
            | (go_at_call 67; refine (takeHex_any T W _ b v l _ A1.out).mono ?_; rintro e w2 ⟨he, A2, M2⟩; rw [HN.out] at he A2; subst he; replace A1 := hide A2; replace M := hide (Mod.trans M.out M2); clear A2 M2)
            | (go_at_call 18; refine (isBlP_any _ _).mono ?_; rintro e w2 ⟨rfl, rfl⟩; rw [HB.out])
            | (go_at_call 49; refine (character_any _ _).mono ?_; rintro e w2 ⟨rfl, rfl⟩))
          go_ret
          exact ⟨ret_int (by rw [F.out]), by rw [F.out]; exact A1.out, M.out⟩
end Go.Proofs.YtmoiifeflgopfaaGreatDoor
set_option linter.unusedVariables false
set_option linter.unusedSimpArgs false
namespace Go.Proofs.YtmoiifeflgopfaaGreatDoor
open Go.RowKit

theorem exB_s (s u : List Int) (hu : s.drop 1 = u) : exB (nx s 0) (nx s 1) (nx s 2) = (((nx s 0 == 101) || (nx s 0 == 69)) && isDig (nx (nmS u) 0)) := by
  subst hu
  unfold exB nmS
  rw [nx_drop]
  split
  · rw [nx_drop, nx_drop]
  · rw [nx_drop]
set_option maxHeartbeats 1000000 in
theorem expB_any (v : Value) (s : List Int) (w : World) (hv : Look 5 w v s) :
    Calls Tryz.prog 56 #[v] w fun e w' => e = .returned (.bool (exB (nx s 0) (nx s 1) (nx s 2))) ∧ Below w.heap.size w w' := by
  obtain ⟨u, hu⟩ : ∃ u, s.drop 1 = u := ⟨_, rfl⟩
  rw [exB_s s u hu]
  have HU := hide hu
  have HV := hide hv
  clear hu
  obtain ⟨g, lb, rfl, eg, hg⟩ := hv
  have HG := hide hg
  clear hg
  have B := hide (Below.refl w.heap.size w)
  have H0 := hide (show nx s (Int.toNat 0) = nx s 0 from rfl)
  have H1 := hide (show nx (nmS u) (Int.toNat 0) = nx (nmS u) 0 from rfl)
  generalize nx s 0 = a at H0 ⊢
  generalize hz : nx (nmS u) 0 = z at H1 ⊢
  clear hz
  by_cases h1 : a = 101
  · subst h1
    go_enter Tryz.func56, Tryz.ntmps56
    go_wp2_with (first
      | (go_at_fn g2; refine (HG2.out _ _ (by decide) (by decide) B2.out).mono ?_; rintro e w1 ⟨he, B1⟩; rw [H1.out] at he; subst he; replace B := hide (bto B.out B1); clear B1)
      | (go_at_fn g; refine (HG.out _ _ (by decide) (by decide) B.out).mono ?_; rintro e w1 ⟨he, B1⟩; rw [H0.out] at he; subst he; replace B := hide (bto B.out B1); clear B1)
      | (go_at_call 41; refine (behind_any 4 _ s 1 _ (HV.out.below B.out) (by decide) (by decide)).mono ?_; rintro e w3 ⟨x, rfl, HL, B3⟩; rw [HU.out] at HL; replace HL := hide HL; replace B := hide (bto B.out B3); clear B3)
      | (go_at_call 61; refine (behindSign_any _ u _ HL.out).mono ?_; rintro e w4 ⟨y, rfl, HM, B1⟩; obtain ⟨g2, lb2, rfl, eg2, hg2⟩ := HM; have HG2 := hide hg2; clear hg2; have B2 := hide (Below.refl w4.heap.size w4); replace B := hide (bto B.out B1); clear B1)
      | (go_at_call 22; refine (isDigP_any _ _).mono ?_; rintro e w2 ⟨rfl, rfl⟩))
    go_ret
    exact ⟨ret_bool (by simp), B.out⟩
  · have h1' : (a == 101) = false := by simpa using h1
    by_cases h2 : a = 69
    · subst h2
      go_enter Tryz.func56, Tryz.ntmps56
      go_wp2_with (first
        | (go_at_fn g2; refine (HG2.out _ _ (by decide) (by decide) B2.out).mono ?_; rintro e w1 ⟨he, B1⟩; rw [H1.out] at he; subst he; replace B := hide (bto B.out B1); clear B1)
        | (go_at_fn g; refine (HG.out _ _ (by decide) (by decide) B.out).mono ?_; rintro e w1 ⟨he, B1⟩; rw [H0.out] at he; subst he; replace B := hide (bto B.out B1); clear B1)
        | (go_at_call 41; refine (behind_any 4 _ s 1 _ (HV.out.below B.out) (by decide) (by decide)).mono ?_; rintro e w3 ⟨x, rfl, HL, B3⟩; rw [HU.out] at HL; replace HL := hide HL; replace B := hide (bto B.out B3); clear B3)
        | (go_at_call 61; refine (behindSign_any _ u _ HL.out).mono ?_; rintro e w4 ⟨y, rfl, HM, B1⟩; obtain ⟨g2, lb2, rfl, eg2, hg2⟩ := HM; have HG2 := hide hg2; clear hg2; have B2 := hide (Below.refl w4.heap.size w4); replace B := hide (bto B.out B1); clear B1)
        | (go_at_call 22; refine (isDigP_any _ _).mono ?_; rintro e w2 ⟨rfl, rfl⟩))
      go_ret
      exact ⟨ret_bool (by simp), B.out⟩
    · have h2' : (a == 69) = false := by simpa using h2
      have n1 : (a != 101) = true := by simpa using h1
      have n2 : (a != 69) = true := by simpa using h2
      go_enter Tryz.func56, Tryz.ntmps56
      go_wp2_with (go_at_fn g; refine (HG.out _ _ (by decide) (by decide) B.out).mono ?_; rintro e w1 ⟨he, B1⟩; rw [H0.out] at he; subst he; replace B := hide (bto B.out B1); clear B1)
      go_ret
      exact ⟨ret_bool (by simp [h1', h2']), B.out⟩
end Go.Proofs.YtmoiifeflgopfaaGreatDoor
