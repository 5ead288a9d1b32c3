/-
  A url, by the program.
  A word, by the program.
-/
import Derived.Test.YtmoiifeflgopfaaGreatDoorMn
import Derived.Outline
set_option linter.unusedVariables false
set_option linter.unusedSimpArgs false
namespace Go.Proofs.YtmoiifeflgopfaaGreatDoor
open Go.RowKit

theorem url_end {acc s : List Int} (h : nx s 0 = -1 ∨ nx s 0 = 41) : url acc s = (tkt 7 acc, s.drop 1) := by rw [url, dif_pos h]
theorem url_blg {acc s : List Int} (h : ¬ (nx s 0 = -1 ∨ nx s 0 = 41)) (h1 : isBl (nx s 0) = true) (g : nx (bls s) 0 = -1 ∨ nx (bls s) 0 = 41) : url acc s = url acc (bls s) := by rw [url, dif_neg h, dif_pos h1, if_pos g]
theorem url_blb {acc s : List Int} (h : ¬ (nx s 0 = -1 ∨ nx s 0 = 41)) (h1 : isBl (nx s 0) = true) (g : ¬ (nx (bls s) 0 = -1 ∨ nx (bls s) 0 = 41)) : url acc s = (tk 8, bad (bls s)) := by rw [url, dif_neg h, dif_pos h1, if_neg g]
theorem url_esc {acc s : List Int} (h : ¬ (nx s 0 = -1 ∨ nx s 0 = 41)) (h1 : isBl (nx s 0) = false) (g : es2 (nx s 0) (nx s 1) = true) : url acc s = url (acc ++ [(tesc (s.drop 1)).1]) (tesc (s.drop 1)).2 := by
  rw [url, dif_neg h, dif_neg (by simp [h1]), if_pos g]
theorem url_bar {acc s : List Int} (h : ¬ (nx s 0 = -1 ∨ nx s 0 = 41)) (h1 : isBl (nx s 0) = false) (g : es2 (nx s 0) (nx s 1) = false) (k : isBar (nx s 0) = true) : url acc s = (tk 8, bad s) := by
  rw [url, dif_neg h, dif_neg (by simp [h1]), if_neg (by simp [g]), if_pos k]
theorem url_go {acc s : List Int} (h : ¬ (nx s 0 = -1 ∨ nx s 0 = 41)) (h1 : isBl (nx s 0) = false) (g : es2 (nx s 0) (nx s 1) = false) (k : isBar (nx s 0) = false) : url acc s = url (acc ++ [nx s 0]) (s.drop 1) := by
  rw [url, dif_neg h, dif_neg (by simp [h1]), if_neg (by simp [g]), if_neg (by simp [k])]
set_option maxRecDepth 100000 in
set_option maxHeartbeats 1000000 in
theorem urlToken_any (T : TypeId) (W w : World) (b : Nat) (v : Value) (l s u : List Int) (hL : l.length ≤ 35184372088832) (hu : bls s = u) (h : At T W w b v l s) :
    Calls Tryz.prog 38 #[.pointer (some ⟨b, 0, none⟩)] w fun e w' => Tells e (url [] u).1 ∧ At T W w' b v l (url [] u).2 ∧ w.grownBy w' (some b) := by
  obtain ⟨i0, hi, hz0, hz1, hz2⟩ := info_parts info32
  have hb0 := h.lt
  have hul : u.length ≤ l.length := by have := h.len.1; have := bls_len s; rw [hu] at this; omega
  have hbw : b < (w.alloc tok0).heap.size := by simp; omega
  have A1 := hide (h.below (bplus (Below.refl _ _) tok0))
  have M := hide (Mod.of b (bplus (Below.refl w.heap.size w) tok0))
  have Z := hide (tok0_alloc w)
  have OW := hide (OwnM.nil b (w.alloc tok0) .i32 21)
  have U := hide hu
  clear h hu
  obtain ⟨w0, hw0⟩ : ∃ w0, w.alloc tok0 = w0 := ⟨_, rfl⟩
  rw [hw0] at hbw A1 M Z OW
  have hw0' : w.alloc (.cells #[.int .i64 0, .string ⟨#[]⟩, .int .i64 0, .int .i64 0, .bool false, .bool false] 32) = w0 := hw0
  have HZ := hide hw0'
  clear hw0 hw0'
  go_enter Tryz.func38, Tryz.ntmps38
  go_wp2_with (go_at_call 19; rw [HZ.out]; refine (skipBlanks_any T W _ b v l s A1.out).mono ?_; rintro e w2 ⟨rfl, A2, M2⟩; rw [U.out] at A2; replace A1 := hide A2; replace OW := hide (OW.out.mod hbw M2); clear A2 M2)
  go_loopg [3] u.length (fun g nv wr => RelTx url T W w0 b v l u u.length g nv wr)
  case atStart => exact .mk [] u A1.out (Nat.le_refl _) (by simp) OW.out rfl
  case round =>
    clear A1 OW U
    obtain ⟨xs, t, A1, hg, hx, OW, R⟩ := hrel
    replace A1 := hide A1
    replace OW := hide OW
    obtain ⟨na, nn, nc, rfl⟩ := (OW.out.nums (by omega)).shape
    obtain ⟨r, hr⟩ : ∃ r, t.drop 1 = r := ⟨_, rfl⟩
    have HV := hide (show t.drop (Int.toNat 1) = r from hr)
    have HV1 := hide hr
    obtain ⟨x, hx0⟩ : ∃ x, nx t 0 = x := ⟨_, rfl⟩
    have H0 := hide (show nx t (Int.toNat 0) = x from hx0)
    have H0n := hide hx0
    cases hen : enB x
    · have hno : ¬ (nx t 0 = -1 ∨ nx t 0 = 41) := by rw [hx0]; exact enB_no hen
      have hp : 0 < t.length := nx_pos fun e => hno (.inl e)
      have LU : r.length = t.length - 1 := by rw [← hr, List.length_drop]
      have HN := hide hen
      clear hen
      cases hbl : isBl x
      · have HB := hide hbl
        have hbl' : isBl (nx t 0) = false := by rw [hx0]; exact hbl
        clear hbl
        cases he : es2 (nx t 0) (nx t 1)
        · have HE := hide he
          cases hk : isBar x
          · have E := R.out.trans (url_go hno hbl' he (by rw [hx0]; exact hk))
            rw [hx0, hr] at E
            replace E := hide E
            have HR := hide hk
            clear hk he hno hbl' hr hx0
            go_wp2_with (first
              | (go_at_call 16; refine (aheadA T W _ b _ l t A1.out).mono ?_; rintro e w1 ⟨y, rfl, HL, B1⟩; have HK := hide HL; obtain ⟨g, lb, rfl, eg, hg'⟩ := HL; replace hg' := hide hg'; have BL := hide (Below.refl w1.heap.size w1); replace A1 := hide (A1.out.below B1); replace OW := hide (OW.out.mod hbw (Mod.of b B1)); clear B1)
              | (go_at_fn g; refine (hg'.out _ _ (by decide) (by decide) BL.out).mono ?_; rintro e w1 ⟨he, B1⟩; rw [H0.out] at he; subst he; replace BL := hide (bto BL.out B1); replace A1 := hide (A1.out.below B1); replace OW := hide (OW.out.mod hbw (Mod.of b B1)); clear B1)
              | (go_at_call 57; refine (endsUrl_any _ _).mono ?_; rintro e w2 ⟨rfl, rfl⟩; (first | rw [HN.out] | rw [HN2.out]))
              | (go_at_call 18; refine (isBlP_any _ _).mono ?_; rintro e w2 ⟨rfl, rfl⟩; rw [HB.out])
              | (go_at_call 40; refine (isEscape_any _ t _ ((HK.out.below BL.out).le (by decide))).mono ?_; rintro e w1 ⟨he, B1⟩; rw [HE.out] at he; subst he; replace A1 := hide (A1.out.below B1); replace OW := hide (OW.out.mod hbw (Mod.of b B1)); clear B1)
              | (go_at_call 59; refine (barred_any _ _).mono ?_; rintro e w2 ⟨rfl, rfl⟩; rw [HR.out])
              | (go_at_call 29; refine (takeA T W _ b _ l t A1.out).mono ?_; rintro e w2 ⟨he, A2, M2⟩; rw [H0n.out] at he; rw [HV1.out] at A2; subst he; replace A1 := hide A2; replace OW := hide (OW.out.mod hbw M2); clear A2 M2)
              | (at_builtin; refine wpList_append_own _ rfl _ _ 34 rfl w0.heap.size 21 i0 (.int .i32 0) 1 4 Tryz.underlying34 hi hz0 hz1 hz2 rfl (by decide) _ _ _ rfl (OW.out.1.alloc _) ⟨_, 0, none⟩ 1 1 [.int .i32 x] rfl rfl (news1 _ _ _) (by intro u hu; simp at hu; subst hu; rfl) (by unfold maxLen; omega) (by omega) (by have := OW.out.2.size; simp; omega) ?_; intro v' w1 hown' hgrow _; replace A1 := hide (A1.out.grow hbw OW.out hgrow); replace OW := hide (OW.out.grow (ys := [x]) hown' hgrow); clear hown' hgrow))
            go_roundg (gk - 1)
            case measure => omega
            case rel => exact .mk (xs ++ [x]) r A1.out (by omega) (by rw [List.length_append, List.length_singleton]; omega) OW.out E.out
          · have E := hide (R.out.trans (url_bar hno hbl' he (by rw [hx0]; exact hk)))
            have HR := hide hk
            clear hk he hno hbl' hr hx0
            go_wp2_with (first
              | (go_at_call 16; refine (aheadA T W _ b _ l t A1.out).mono ?_; rintro e w1 ⟨y, rfl, HL, B1⟩; have HK := hide HL; obtain ⟨g, lb, rfl, eg, hg'⟩ := HL; replace hg' := hide hg'; have BL := hide (Below.refl w1.heap.size w1); replace A1 := hide (A1.out.below B1); replace OW := hide (OW.out.mod hbw (Mod.of b B1)); clear B1)
              | (go_at_fn g; refine (hg'.out _ _ (by decide) (by decide) BL.out).mono ?_; rintro e w1 ⟨he, B1⟩; rw [H0.out] at he; subst he; replace BL := hide (bto BL.out B1); replace A1 := hide (A1.out.below B1); replace OW := hide (OW.out.mod hbw (Mod.of b B1)); clear B1)
              | (go_at_call 57; refine (endsUrl_any _ _).mono ?_; rintro e w2 ⟨rfl, rfl⟩; (first | rw [HN.out] | rw [HN2.out]))
              | (go_at_call 18; refine (isBlP_any _ _).mono ?_; rintro e w2 ⟨rfl, rfl⟩; rw [HB.out])
              | (go_at_call 40; refine (isEscape_any _ t _ ((HK.out.below BL.out).le (by decide))).mono ?_; rintro e w1 ⟨he, B1⟩; rw [HE.out] at he; subst he; replace A1 := hide (A1.out.below B1); replace OW := hide (OW.out.mod hbw (Mod.of b B1)); clear B1)
              | (go_at_call 59; refine (barred_any _ _).mono ?_; rintro e w2 ⟨rfl, rfl⟩; rw [HR.out])
              | (go_at_call 58; refine (badUrl_any T W _ b v l _ A1.out).mono ?_; rintro e w2 ⟨⟨z, he, hz⟩, A2, M2⟩; replace he : e = .returned (.agg #[.int .i64 8, .string z, .int .i64 0, .int .i64 0, .bool false, .bool false]) := he; subst he; replace hz := hide hz; replace A1 := hide A2; replace OW := hide (OW.out.mod hbw M2); obtain ⟨f0, f1, f2, f3, f4, f5, c0, c1, c2, c3, c4, c5⟩ := tok0_free (keep Z.out (Nat.ne_of_gt hb0) OW.out.2); clear A2 M2))
            have MM := Mod.trans M.out OW.out.2
            refine bodyPost_ret (v := tkV 8 z 0 0 false false) (by simp [results, Tryz.results38, go_sem, tkV, c0, c1, c2, c3, c4, c5]) rfl ?_
            exact ⟨by rw [E.out]; exact ⟨z, rfl, hz.out⟩, by rw [E.out]; repeat (first | (with_reducible exact A1.out) | (with_reducible refine At.put ?_ hb0 _ _)), by repeat (first | (with_reducible exact MM) | (with_reducible refine Mod.put ?_ (Nat.le_refl _) _ _))⟩
        · have HE := hide he
          have E := R.out.trans (url_esc hno hbl' he)
          rw [hr] at E
          have LT := tesc_len r
          obtain ⟨⟨x', z'⟩, hxr⟩ : ∃ z, tesc r = z := ⟨_, rfl⟩
          rw [hxr] at E LT
          have XR := hide hxr
          replace E := hide E
          have LZ : z'.length ≤ r.length := LT
          clear he hno hbl' hr hx0 hxr LT
          go_wp2_with (first
            | (go_at_call 16; refine (aheadA T W _ b _ l t A1.out).mono ?_; rintro e w1 ⟨y, rfl, HL, B1⟩; have HK := hide HL; obtain ⟨g, lb, rfl, eg, hg'⟩ := HL; replace hg' := hide hg'; have BL := hide (Below.refl w1.heap.size w1); replace A1 := hide (A1.out.below B1); replace OW := hide (OW.out.mod hbw (Mod.of b B1)); clear B1)
            | (go_at_fn g; refine (hg'.out _ _ (by decide) (by decide) BL.out).mono ?_; rintro e w1 ⟨he, B1⟩; rw [H0.out] at he; subst he; replace BL := hide (bto BL.out B1); replace A1 := hide (A1.out.below B1); replace OW := hide (OW.out.mod hbw (Mod.of b B1)); clear B1)
            | (go_at_call 57; refine (endsUrl_any _ _).mono ?_; rintro e w2 ⟨rfl, rfl⟩; (first | rw [HN.out] | rw [HN2.out]))
            | (go_at_call 18; refine (isBlP_any _ _).mono ?_; rintro e w2 ⟨rfl, rfl⟩; rw [HB.out])
            | (go_at_call 40; refine (isEscape_any _ t _ ((HK.out.below BL.out).le (by decide))).mono ?_; rintro e w1 ⟨he, B1⟩; rw [HE.out] at he; subst he; replace A1 := hide (A1.out.below B1); replace OW := hide (OW.out.mod hbw (Mod.of b B1)); clear B1)
            | (go_at_call 51; refine (takeEscape_any T W _ b _ l t r HV1.out A1.out).mono ?_; rintro e w2 ⟨he, A2, M2⟩; rw [XR.out] at he A2; subst he; replace A1 := hide A2; replace OW := hide (OW.out.mod hbw M2); clear A2 M2)
            | (at_builtin; refine wpList_append_own _ rfl _ _ 34 rfl w0.heap.size 21 i0 (.int .i32 0) 1 4 Tryz.underlying34 hi hz0 hz1 hz2 rfl (by decide) _ _ _ rfl (OW.out.1.alloc _) ⟨_, 0, none⟩ 1 1 [.int .i32 x'] rfl rfl (news1 _ _ _) (by intro u hu; simp at hu; subst hu; rfl) (by unfold maxLen; omega) (by omega) (by have := OW.out.2.size; simp; omega) ?_; intro v' w1 hown' hgrow _; replace A1 := hide (A1.out.grow hbw OW.out hgrow); replace OW := hide (OW.out.grow (ys := [x']) hown' hgrow); clear hown' hgrow))
          go_roundg (gk - 1)
          case measure => omega
          case rel => exact .mk (xs ++ [x']) z' A1.out (by omega) (by rw [List.length_append, List.length_singleton]; omega) OW.out E.out
      · have HB := hide hbl
        have hbl' : isBl (nx t 0) = true := by rw [hx0]; exact hbl
        have LY := bls_lt hbl'
        obtain ⟨y, hy⟩ : ∃ y, bls t = y := ⟨_, rfl⟩
        have HY := hide hy
        rw [hy] at LY
        cases hen2 : enB (nx y 0)
        · have E := R.out.trans (url_blb hno hbl' (by rw [hy]; exact enB_no hen2))
          rw [hy] at E
          replace E := hide E
          have HN2 := hide hen2
          clear hen2 hno hbl hbl' hr hx0 hy
          go_wp2_with (first
            | (go_at_call 16; refine (aheadA T W _ b _ l t A1.out).mono ?_; rintro e w1 ⟨y, rfl, HL, B1⟩; have HK := hide HL; obtain ⟨g, lb, rfl, eg, hg'⟩ := HL; replace hg' := hide hg'; have BL := hide (Below.refl w1.heap.size w1); replace A1 := hide (A1.out.below B1); replace OW := hide (OW.out.mod hbw (Mod.of b B1)); clear B1)
            | (go_at_fn g; refine (hg'.out _ _ (by decide) (by decide) BL.out).mono ?_; rintro e w1 ⟨he, B1⟩; rw [H0.out] at he; subst he; replace BL := hide (bto BL.out B1); replace A1 := hide (A1.out.below B1); replace OW := hide (OW.out.mod hbw (Mod.of b B1)); clear B1)
            | (go_at_call 57; refine (endsUrl_any _ _).mono ?_; rintro e w2 ⟨rfl, rfl⟩; (first | rw [HN.out] | rw [HN2.out]))
            | (go_at_call 18; refine (isBlP_any _ _).mono ?_; rintro e w2 ⟨rfl, rfl⟩; rw [HB.out])
            | (go_at_call 19; refine (skipBlanks_any T W _ b v l t A1.out).mono ?_; rintro e w2 ⟨rfl, A2, M2⟩; rw [HY.out] at A2; replace A1 := hide A2; replace OW := hide (OW.out.mod hbw M2); clear A2 M2)
            | (go_at_call 10; refine (nextA T W _ b v l y A1.out).mono ?_; rintro e w1 ⟨rfl, B1⟩; replace A1 := hide (A1.out.below B1); replace OW := hide (OW.out.mod hbw (Mod.of b B1)); clear B1)
            | (go_at_call 58; refine (badUrl_any T W _ b v l _ A1.out).mono ?_; rintro e w2 ⟨⟨z, he, hz⟩, A2, M2⟩; replace he : e = .returned (.agg #[.int .i64 8, .string z, .int .i64 0, .int .i64 0, .bool false, .bool false]) := he; subst he; replace hz := hide hz; replace A1 := hide A2; replace OW := hide (OW.out.mod hbw M2); obtain ⟨f0, f1, f2, f3, f4, f5, c0, c1, c2, c3, c4, c5⟩ := tok0_free (keep Z.out (Nat.ne_of_gt hb0) OW.out.2); clear A2 M2))
          have MM := Mod.trans M.out OW.out.2
          refine bodyPost_ret (v := tkV 8 z 0 0 false false) (by simp [results, Tryz.results38, go_sem, tkV, c0, c1, c2, c3, c4, c5]) rfl ?_
          exact ⟨by rw [E.out]; exact ⟨z, rfl, hz.out⟩, by rw [E.out]; repeat (first | (with_reducible exact A1.out) | (with_reducible refine At.put ?_ hb0 _ _)), by repeat (first | (with_reducible exact MM) | (with_reducible refine Mod.put ?_ (Nat.le_refl _) _ _))⟩
        · have E := R.out.trans (url_blg hno hbl' (by rw [hy]; exact enB_or hen2))
          rw [hy] at E
          replace E := hide E
          have HN2 := hide hen2
          clear hen2 hno hbl hbl' hr hx0 hy
          go_wp2_with (first
            | (go_at_call 16; refine (aheadA T W _ b _ l t A1.out).mono ?_; rintro e w1 ⟨y, rfl, HL, B1⟩; have HK := hide HL; obtain ⟨g, lb, rfl, eg, hg'⟩ := HL; replace hg' := hide hg'; have BL := hide (Below.refl w1.heap.size w1); replace A1 := hide (A1.out.below B1); replace OW := hide (OW.out.mod hbw (Mod.of b B1)); clear B1)
            | (go_at_fn g; refine (hg'.out _ _ (by decide) (by decide) BL.out).mono ?_; rintro e w1 ⟨he, B1⟩; rw [H0.out] at he; subst he; replace BL := hide (bto BL.out B1); replace A1 := hide (A1.out.below B1); replace OW := hide (OW.out.mod hbw (Mod.of b B1)); clear B1)
            | (go_at_call 57; refine (endsUrl_any _ _).mono ?_; rintro e w2 ⟨rfl, rfl⟩; (first | rw [HN.out] | rw [HN2.out]))
            | (go_at_call 18; refine (isBlP_any _ _).mono ?_; rintro e w2 ⟨rfl, rfl⟩; rw [HB.out])
            | (go_at_call 19; refine (skipBlanks_any T W _ b v l t A1.out).mono ?_; rintro e w2 ⟨rfl, A2, M2⟩; rw [HY.out] at A2; replace A1 := hide A2; replace OW := hide (OW.out.mod hbw M2); clear A2 M2)
            | (go_at_call 10; refine (nextA T W _ b v l y A1.out).mono ?_; rintro e w1 ⟨rfl, B1⟩; replace A1 := hide (A1.out.below B1); replace OW := hide (OW.out.mod hbw (Mod.of b B1)); clear B1))
          go_roundg (gk - 1)
          case measure => omega
          case rel => exact .mk xs y A1.out (by omega) (by omega) OW.out E.out
    · have E := R.out.trans (url_end (by rw [hx0]; exact enB_or hen))
      rw [hr] at E
      replace E := hide E
      have HN := hide hen
      clear hen hr hx0
      go_wp2_with (first
        | (go_at_call 16; refine (aheadA T W _ b _ l t A1.out).mono ?_; rintro e w1 ⟨y, rfl, HL, B1⟩; have HK := hide HL; obtain ⟨g, lb, rfl, eg, hg'⟩ := HL; replace hg' := hide hg'; have BL := hide (Below.refl w1.heap.size w1); replace A1 := hide (A1.out.below B1); replace OW := hide (OW.out.mod hbw (Mod.of b B1)); clear B1)
        | (go_at_fn g; refine (hg'.out _ _ (by decide) (by decide) BL.out).mono ?_; rintro e w1 ⟨he, B1⟩; rw [H0.out] at he; subst he; replace BL := hide (bto BL.out B1); replace A1 := hide (A1.out.below B1); replace OW := hide (OW.out.mod hbw (Mod.of b B1)); clear B1)
        | (go_at_call 57; refine (endsUrl_any _ _).mono ?_; rintro e w2 ⟨rfl, rfl⟩; (first | rw [HN.out] | rw [HN2.out]))
        | (go_at_call 17; refine (skipA T W _ b v l t 1 A1.out (by decide) (by decide)).mono ?_; rintro e w2 ⟨rfl, A2, M2⟩; rw [HV.out] at A2; replace A1 := hide A2; replace OW := hide (OW.out.mod hbw M2); clear A2 M2)
        | (go_at_call 30; refine (written_any xs _ _ (OW.out.nums (by omega)) (by omega)).mono ?_; rintro e w3 ⟨z, rfl, hz, B1⟩; replace hz := hide hz; replace A1 := hide (A1.out.below B1); replace OW := hide (OW.out.mod hbw (Mod.of b B1)); obtain ⟨f0, f1, f2, f3, f4, f5, c0, c1, c2, c3, c4, c5⟩ := tok0_free (keep Z.out (Nat.ne_of_gt hb0) OW.out.2); clear B1))
      have MM := Mod.trans M.out OW.out.2
      refine bodyPost_ret (v := tkV 7 z 0 0 false false) (by simp [results, Tryz.results38, go_sem, tkV, c0, c1, c2, c3, c4, c5]) rfl ?_
      exact ⟨.tkt (congrArg Prod.fst E.out) hz.out, by rw [E.out]; repeat (first | (with_reducible exact A1.out) | (with_reducible refine At.put ?_ hb0 _ _)), by repeat (first | (with_reducible exact MM) | (with_reducible refine Mod.put ?_ (Nat.le_refl _) _ _))⟩
end Go.Proofs.YtmoiifeflgopfaaGreatDoor
set_option linter.unusedVariables false
set_option linter.unusedSimpArgs false
namespace Go.Proofs.YtmoiifeflgopfaaGreatDoor
open Go.RowKit

set_option maxRecDepth 100000 in
set_option maxHeartbeats 1000000 in
theorem wordToken_any (T : TypeId) (W w : World) (b : Nat) (v : Value) (l s : List Int) (hL : l.length ≤ 35184372088832) (h : At T W w b v l s) :
    Calls Tryz.prog 25 #[.pointer (some ⟨b, 0, none⟩)] w fun e w' => Tells e (word s).1 ∧ At T W w' b v l (word s).2 ∧ w.grownBy w' (some b) := by
  have hb0 := h.lt
  have A1 := hide (h.below (bplus (Below.refl _ _) tok0))
  have M := hide (Mod.of b (bplus (Below.refl w.heap.size w) tok0))
  have Z := hide (tok0_alloc w)
  clear h
  obtain ⟨wd, hwd⟩ : ∃ x, word s = x := ⟨_, rfl⟩
  rw [hwd]
  unfold word at hwd
  obtain ⟨⟨n, r⟩, hn⟩ : ∃ x, nam [] s = x := ⟨_, rfl⟩
  have N := hide hn
  rw [hn] at hwd
  simp only at hwd
  obtain ⟨x, hx⟩ : ∃ x, nx r 0 = x := ⟨_, rfl⟩
  have X := hide hx
  rw [hx] at hwd
  obtain ⟨u, hu⟩ : ∃ u, r.drop 1 = u := ⟨_, rfl⟩
  have U := hide (show r.drop (Int.toNat 1) = u from hu)
  rw [hu] at hwd
  clear hn hx hu
  obtain ⟨iu, hiu⟩ : ∃ y, isUrlB (enc n) = y := ⟨_, rfl⟩
  have IU := hide (show ∀ t, bl t = enc n → isUrlB (bl t) = iu from fun t ht => by rw [ht]; exact hiu)
  rw [hiu] at hwd
  clear hiu
  by_cases h40 : x = 40
  · subst h40
    rw [if_neg (by simp)] at hwd
    cases iu
    · have E := hide (show wd = (tkt 2 n, u) from hwd.symm)
      clear hwd
      go_enter Tryz.func25, Tryz.ntmps25
      go_wp2_with (first
        | (go_at_call 35; refine (takeName_any T W _ b v l s hL A1.out).mono ?_; rintro e w2 ⟨t, rfl, ht, A2, M2⟩; rw [N.out] at ht A2; have UR := IU.out t ht; replace ht := hide ht; replace A1 := hide A2; replace M := hide (Mod.trans M.out M2); replace Z := hide (keep Z.out (Nat.ne_of_gt hb0) M2); clear A2 M2)
        | (go_at_call 10; refine (nextA T W _ b v l r A1.out).mono ?_; rintro e w1 ⟨he, B1⟩; rw [X.out] at he; subst he; replace A1 := hide (A1.out.below B1); replace M := hide (Mod.trans M.out (Mod.of b B1)); replace Z := hide (keep Z.out (Nat.ne_of_gt hb0) (Mod.of b B1)); clear B1)
        | (go_at_call 17; refine (skipA T W _ b v l r 1 A1.out (by decide) (by decide)).mono ?_; rintro e w2 ⟨rfl, A2, M2⟩; rw [U.out] at A2; replace A1 := hide A2; replace M := hide (Mod.trans M.out M2); replace Z := hide (keep Z.out (Nat.ne_of_gt hb0) M2); clear A2 M2)
        | (go_at_call 36; refine (isUrl_any _ _).mono ?_; rintro e w1 ⟨he, B1⟩; rw [UR] at he; subst he; replace A1 := hide (A1.out.below B1); replace M := hide (Mod.trans M.out (Mod.of b B1)); replace Z := hide (keep Z.out (Nat.ne_of_gt hb0) (Mod.of b B1)); obtain ⟨f0, f1, f2, f3, f4, f5, c0, c1, c2, c3, c4, c5⟩ := tok0_free Z.out; clear B1))
      have MM := M.out
      refine bodyPost_ret (v := tkV 2 t 0 0 false false) (by simp [results, Tryz.results25, go_sem, tkV, c0, c1, c2, c3, c4, c5]) rfl ?_
      exact ⟨.tkt (congrArg Prod.fst E.out) ht.out, by rw [E.out]; repeat (first | (with_reducible exact A1.out) | (with_reducible refine At.put ?_ hb0 _ _)), by repeat (first | (with_reducible exact MM) | (with_reducible refine Mod.put ?_ (Nat.le_refl _) _ _))⟩
    · rw [if_pos rfl] at hwd
      obtain ⟨q, hq⟩ : ∃ q, sbl u = q := ⟨_, rfl⟩
      rw [hq] at hwd
      have SQ := hide hq
      clear hq
      cases hqq : qut q
      · have QQ := hide hqq
        rw [hqq, if_neg (by simp)] at hwd
        obtain ⟨p, hp⟩ : ∃ p, bls q = p := ⟨_, rfl⟩
        rw [hp] at hwd
        have BQ := hide hp
        obtain ⟨⟨⟨k, tx, nu, de, wh, id⟩, r2⟩, hu2⟩ : ∃ x, url [] p = x := ⟨_, rfl⟩
        rw [hu2] at hwd
        have UU := hide hu2
        have E := hide hwd.symm
        clear hwd hqq hp hu2
        go_enter Tryz.func25, Tryz.ntmps25
        go_wp2_with (first
          | (go_at_call 35; refine (takeName_any T W _ b v l s hL A1.out).mono ?_; rintro e w2 ⟨t, rfl, ht, A2, M2⟩; rw [N.out] at ht A2; have UR := IU.out t ht; replace ht := hide ht; replace A1 := hide A2; replace M := hide (Mod.trans M.out M2); replace Z := hide (keep Z.out (Nat.ne_of_gt hb0) M2); clear A2 M2)
          | (go_at_call 10; refine (nextA T W _ b v l r A1.out).mono ?_; rintro e w1 ⟨he, B1⟩; rw [X.out] at he; subst he; replace A1 := hide (A1.out.below B1); replace M := hide (Mod.trans M.out (Mod.of b B1)); replace Z := hide (keep Z.out (Nat.ne_of_gt hb0) (Mod.of b B1)); clear B1)
          | (go_at_call 17; refine (skipA T W _ b v l r 1 A1.out (by decide) (by decide)).mono ?_; rintro e w2 ⟨rfl, A2, M2⟩; rw [U.out] at A2; replace A1 := hide A2; replace M := hide (Mod.trans M.out M2); replace Z := hide (keep Z.out (Nat.ne_of_gt hb0) M2); clear A2 M2)
          | (go_at_call 36; refine (isUrl_any _ _).mono ?_; rintro e w1 ⟨he, B1⟩; rw [UR] at he; subst he; replace A1 := hide (A1.out.below B1); replace M := hide (Mod.trans M.out (Mod.of b B1)); replace Z := hide (keep Z.out (Nat.ne_of_gt hb0) (Mod.of b B1)); clear B1)
          | (go_at_call 37; refine (comesQuote_any T W _ b v l u A1.out).mono ?_; rintro e w2 ⟨he, A2, M2⟩; rw [SQ.out] at he A2; rw [QQ.out] at he; subst he; replace A1 := hide A2; replace M := hide (Mod.trans M.out M2); replace Z := hide (keep Z.out (Nat.ne_of_gt hb0) M2); clear A2 M2)
          | (go_at_call 38; refine (urlToken_any T W _ b v l q p hL BQ.out A1.out).mono ?_; rintro e w2 ⟨⟨z, he, hz⟩, A2, M2⟩; rw [UU.out] at he hz A2; replace he : e = .returned (.agg #[.int .i64 k, .string z, .int .i64 nu, .int .i64 de, .bool wh, .bool id]) := he; subst he; replace hz := hide hz; replace A1 := hide A2; replace M := hide (Mod.trans M.out M2); replace Z := hide (keep Z.out (Nat.ne_of_gt hb0) M2); obtain ⟨f0, f1, f2, f3, f4, f5, c0, c1, c2, c3, c4, c5⟩ := tok0_free Z.out; clear A2 M2))
        have MM := M.out
        refine bodyPost_ret (v := tkV k z nu de wh id) (by simp [results, Tryz.results25, go_sem, tkV, c0, c1, c2, c3, c4, c5]) rfl ?_
        exact ⟨by rw [E.out]; exact ⟨z, rfl, hz.out⟩, by rw [E.out]; repeat (first | (with_reducible exact A1.out) | (with_reducible refine At.put ?_ hb0 _ _)), by repeat (first | (with_reducible exact MM) | (with_reducible refine Mod.put ?_ (Nat.le_refl _) _ _))⟩
      · have QQ := hide hqq
        rw [hqq, if_pos rfl] at hwd
        have E := hide hwd.symm
        clear hwd hqq
        go_enter Tryz.func25, Tryz.ntmps25
        go_wp2_with (first
          | (go_at_call 35; refine (takeName_any T W _ b v l s hL A1.out).mono ?_; rintro e w2 ⟨t, rfl, ht, A2, M2⟩; rw [N.out] at ht A2; have UR := IU.out t ht; replace ht := hide ht; replace A1 := hide A2; replace M := hide (Mod.trans M.out M2); replace Z := hide (keep Z.out (Nat.ne_of_gt hb0) M2); clear A2 M2)
          | (go_at_call 10; refine (nextA T W _ b v l r A1.out).mono ?_; rintro e w1 ⟨he, B1⟩; rw [X.out] at he; subst he; replace A1 := hide (A1.out.below B1); replace M := hide (Mod.trans M.out (Mod.of b B1)); replace Z := hide (keep Z.out (Nat.ne_of_gt hb0) (Mod.of b B1)); clear B1)
          | (go_at_call 17; refine (skipA T W _ b v l r 1 A1.out (by decide) (by decide)).mono ?_; rintro e w2 ⟨rfl, A2, M2⟩; rw [U.out] at A2; replace A1 := hide A2; replace M := hide (Mod.trans M.out M2); replace Z := hide (keep Z.out (Nat.ne_of_gt hb0) M2); clear A2 M2)
          | (go_at_call 36; refine (isUrl_any _ _).mono ?_; rintro e w1 ⟨he, B1⟩; rw [UR] at he; subst he; replace A1 := hide (A1.out.below B1); replace M := hide (Mod.trans M.out (Mod.of b B1)); replace Z := hide (keep Z.out (Nat.ne_of_gt hb0) (Mod.of b B1)); clear B1)
          | (go_at_call 37; refine (comesQuote_any T W _ b v l u A1.out).mono ?_; rintro e w2 ⟨he, A2, M2⟩; rw [SQ.out] at he A2; rw [QQ.out] at he; subst he; replace A1 := hide A2; replace M := hide (Mod.trans M.out M2); replace Z := hide (keep Z.out (Nat.ne_of_gt hb0) M2); obtain ⟨f0, f1, f2, f3, f4, f5, c0, c1, c2, c3, c4, c5⟩ := tok0_free Z.out; clear A2 M2))
        have MM := M.out
        refine bodyPost_ret (v := tkV 2 t 0 0 false false) (by simp [results, Tryz.results25, go_sem, tkV, c0, c1, c2, c3, c4, c5]) rfl ?_
        exact ⟨.tkt (congrArg Prod.fst E.out) ht.out, by rw [E.out]; repeat (first | (with_reducible exact A1.out) | (with_reducible refine At.put ?_ hb0 _ _)), by repeat (first | (with_reducible exact MM) | (with_reducible refine Mod.put ?_ (Nat.le_refl _) _ _))⟩
  · rw [if_pos h40] at hwd
    have E := hide hwd.symm
    have n40 : (x != 40) = true := by simpa using h40
    clear hwd
    go_enter Tryz.func25, Tryz.ntmps25
    go_wp2_with (first
      | (go_at_call 35; refine (takeName_any T W _ b v l s hL A1.out).mono ?_; rintro e w2 ⟨t, rfl, ht, A2, M2⟩; rw [N.out] at ht A2; have UR := IU.out t ht; replace ht := hide ht; replace A1 := hide A2; replace M := hide (Mod.trans M.out M2); replace Z := hide (keep Z.out (Nat.ne_of_gt hb0) M2); clear A2 M2)
      | (go_at_call 10; refine (nextA T W _ b v l r A1.out).mono ?_; rintro e w1 ⟨he, B1⟩; rw [X.out] at he; subst he; replace A1 := hide (A1.out.below B1); replace M := hide (Mod.trans M.out (Mod.of b B1)); replace Z := hide (keep Z.out (Nat.ne_of_gt hb0) (Mod.of b B1)); obtain ⟨f0, f1, f2, f3, f4, f5, c0, c1, c2, c3, c4, c5⟩ := tok0_free Z.out; clear B1))
    have MM := M.out
    refine bodyPost_ret (v := tkV 1 t 0 0 false false) (by simp [results, Tryz.results25, go_sem, tkV, c0, c1, c2, c3, c4, c5]) rfl ?_
    exact ⟨.tkt (congrArg Prod.fst E.out) ht.out, by rw [E.out]; repeat (first | (with_reducible exact A1.out) | (with_reducible refine At.put ?_ hb0 _ _)), by repeat (first | (with_reducible exact MM) | (with_reducible refine Mod.put ?_ (Nat.le_refl _) _ _))⟩
end Go.Proofs.YtmoiifeflgopfaaGreatDoor
