/-
  Whether a quote comes, by the program.
  Whether a name is url, by the program.
  A url, by the program.
  A word, by the program.
  A number, and what it is of, by the program.
-/
import Derived.Test.YtcclhdiphcfdfaaGreatDoorKi
import Derived.Outline
import Derived.Test.YtcclhdiphcfdfaaGreatDoorKf
set_option linter.unusedVariables false
set_option linter.unusedSimpArgs false
namespace Go.Proofs.YtcclhdiphcfdfaaGreatDoor
open Go.RowKit

theorem sbl_go {s : List Int} (h : isBl (nx s 0) = true) (g : isBl (nx s 1) = true) : sbl s = sbl (s.drop 1) := by
  cases s with
  | nil => exact absurd h (by decide)
  | cons x r =>
    have h' : isBl x = true := h
    have g' : isBl (nx r 0) = true := g
    show sbl (x :: r) = sbl r
    rw [sbl, if_pos (by rw [h', g']; rfl)]
theorem sbl_no {s : List Int} (h : (isBl (nx s 0) && isBl (nx s 1)) = false) : sbl s = s := by
  cases s with
  | nil => rfl
  | cons x r =>
    have h' : (isBl x && isBl (nx r 0)) = false := h
    rw [sbl, if_neg (by rw [h']; simp)]
set_option maxHeartbeats 1000000 in
theorem comesQuote_any (T : TypeId) (W w : World) (b : Nat) (v : Value) (l s : List Int) (h : At T W w b v l s) :
    Calls Tryz.prog 127 #[.pointer (some ⟨b, 0, none⟩)] w fun e w' => e = .returned (.bool (qut (sbl s))) ∧ At T W w' b v l (sbl s) ∧ w.grownBy w' (some b) := by
  have H := hide h
  clear h
  go_enter Tryz.func127, Tryz.ntmps127
  go_wp2
  go_loopg [] s.length (fun g wr => RelSk sbl T W w b v l s g wr)
  case atStart => exact .mk s H.out (Nat.le_refl _) rfl (Mod.refl _ _)
  case round =>
    clear H
    obtain ⟨t, A1, hg, R, M⟩ := hrel
    replace A1 := hide A1
    replace M := hide M
    obtain ⟨r, hr⟩ : ∃ r, t.drop 1 = r := ⟨_, rfl⟩
    have HV := hide (show t.drop (Int.toNat 1) = r from hr)
    have Q := hide (show qut t = (isQ (nx t 0) || (isBl (nx t 0) && isQ (nx t 1))) from rfl)
    cases hb0 : isBl (nx t 0)
    · have E := hide (R.out.trans (sbl_no (by rw [hb0]; rfl)))
      obtain ⟨x0, hx0⟩ : ∃ x, nx t 0 = x := ⟨_, rfl⟩
      rw [hx0] at hb0 Q
      have H0 := hide (show nx t (Int.toNat 0) = x0 from hx0)
      have H0n := hide hx0
      have B0 := hide hb0
      rw [hb0] at Q
      clear hb0 hr hx0
      cases hq : isQ x0
      all_goals
        rw [hq] at Q
        have HQ := hide hq
        clear hq
        go_wp2_with (first
          | (go_at_call 59; refine (nextA T W _ b v l t A1.out).mono ?_; rintro e w1 ⟨he, B1⟩; rw [H0n.out] at he; subst he; replace A1 := hide (A1.out.below B1); replace M := hide (Mod.trans M.out (Mod.of b B1)); clear B1)
          | (go_at_call 88; refine (isBlP_any _ _).mono ?_; rintro e w2 ⟨rfl, rfl⟩; rw [B0.out])
          | (go_at_call 86; refine (aheadA T W _ b _ l t A1.out).mono ?_; rintro e w1 ⟨y, rfl, HL, B1⟩; obtain ⟨g, lb, rfl, eg, hg'⟩ := HL; replace hg' := hide hg'; have BL := hide (Below.refl w1.heap.size w1); replace A1 := hide (A1.out.below B1); replace M := hide (Mod.trans M.out (Mod.of b B1)); clear B1)
          | (go_at_fn g; refine (hg'.out _ _ (by decide) (by decide) BL.out).mono ?_; rintro e w1 ⟨he, B1⟩; rw [H0.out] at he; subst he; replace BL := hide (bto BL.out B1); replace A1 := hide (A1.out.below B1); replace M := hide (Mod.trans M.out (Mod.of b B1)); clear B1)
          | (go_at_call 90; refine (isQP_any _ _).mono ?_; rintro e w2 ⟨rfl, rfl⟩; rw [HQ.out]))
        go_ret
        exact ⟨ret_bool (by rw [E.out, Q.out]; rfl), by rw [E.out]; exact A1.out, M.out⟩
    · cases hb1 : isBl (nx t 1)
      · have E := hide (R.out.trans (sbl_no (by rw [hb0, hb1]; rfl)))
        obtain ⟨x0, hx0⟩ : ∃ x, nx t 0 = x := ⟨_, rfl⟩
        obtain ⟨x1, hx1⟩ : ∃ x, nx t 1 = x := ⟨_, rfl⟩
        rw [hx0] at hb0
        rw [hx1] at hb1
        rw [hx0, hx1] at Q
        have H0 := hide (show nx t (Int.toNat 0) = x0 from hx0)
        have H1 := hide (show nx t (Int.toNat 1) = x1 from hx1)
        have H0n := hide hx0
        have B0 := hide hb0
        have BB := hide hb1
        rw [hb0] at Q
        have hq : isQ x0 = false := by
          unfold isBl at hb0; unfold isQ
          simp at hb0 ⊢; omega
        rw [hq] at Q
        have HQ := hide hq
        clear hb0 hb1 hr hx0 hx1 hq
        cases hq1 : isQ x1
        all_goals
          rw [hq1] at Q
          have HQ1 := hide hq1
          clear hq1
          go_wp2_with (first
            | (go_at_call 59; refine (nextA T W _ b v l t A1.out).mono ?_; rintro e w1 ⟨he, B1⟩; rw [H0n.out] at he; subst he; replace A1 := hide (A1.out.below B1); replace M := hide (Mod.trans M.out (Mod.of b B1)); clear B1)
            | (go_at_call 88; refine (isBlP_any _ _).mono ?_; rintro e w2 ⟨rfl, rfl⟩; (first | rw [B0.out] | rw [BB.out]))
            | (go_at_call 86; refine (aheadA T W _ b _ l t A1.out).mono ?_; rintro e w1 ⟨y, rfl, HL, B1⟩; obtain ⟨g, lb, rfl, eg, hg'⟩ := HL; replace hg' := hide hg'; have BL := hide (Below.refl w1.heap.size w1); replace A1 := hide (A1.out.below B1); replace M := hide (Mod.trans M.out (Mod.of b B1)); clear B1)
            | (go_at_fn g; refine (hg'.out _ _ (by decide) (by decide) BL.out).mono ?_; rintro e w1 ⟨he, B1⟩; (first | rw [H0.out] at he | rw [H1.out] at he); subst he; replace BL := hide (bto BL.out B1); replace A1 := hide (A1.out.below B1); replace M := hide (Mod.trans M.out (Mod.of b B1)); clear B1)
            | (go_at_call 90; refine (isQP_any _ _).mono ?_; rintro e w2 ⟨rfl, rfl⟩; (first | rw [HQ.out] | rw [HQ1.out])))
          go_ret
          exact ⟨ret_bool (by rw [E.out, Q.out]; rfl), by rw [E.out]; exact A1.out, M.out⟩
      · have E := R.out.trans (sbl_go hb0 hb1)
        rw [hr] at E
        replace E := hide E
        have hp := isBl_ne hb0
        have LU : r.length = t.length - 1 := by rw [← hr, List.length_drop]
        obtain ⟨x0, hx0⟩ : ∃ x, nx t 0 = x := ⟨_, rfl⟩
        obtain ⟨x1, hx1⟩ : ∃ x, nx t 1 = x := ⟨_, rfl⟩
        rw [hx0] at hb0
        rw [hx1] at hb1
        have H1 := hide (show nx t (Int.toNat 1) = x1 from hx1)
        have H0n := hide hx0
        have B0 := hide hb0
        have BB := hide hb1
        clear hb0 hb1 hr hx0 hx1 Q
        go_wp2_with (first
          | (go_at_call 59; refine (nextA T W _ b v l t A1.out).mono ?_; rintro e w1 ⟨he, B1⟩; rw [H0n.out] at he; subst he; replace A1 := hide (A1.out.below B1); replace M := hide (Mod.trans M.out (Mod.of b B1)); clear B1)
          | (go_at_call 88; refine (isBlP_any _ _).mono ?_; rintro e w2 ⟨rfl, rfl⟩; (first | rw [B0.out] | rw [BB.out]))
          | (go_at_call 86; refine (aheadA T W _ b _ l t A1.out).mono ?_; rintro e w1 ⟨y, rfl, HL, B1⟩; obtain ⟨g, lb, rfl, eg, hg'⟩ := HL; replace hg' := hide hg'; have BL := hide (Below.refl w1.heap.size w1); replace A1 := hide (A1.out.below B1); replace M := hide (Mod.trans M.out (Mod.of b B1)); clear B1)
          | (go_at_fn g; refine (hg'.out _ _ (by decide) (by decide) BL.out).mono ?_; rintro e w1 ⟨he, B1⟩; rw [H1.out] at he; subst he; replace BL := hide (bto BL.out B1); replace A1 := hide (A1.out.below B1); replace M := hide (Mod.trans M.out (Mod.of b B1)); clear B1)
          | (go_at_call 87; refine (skipA T W _ b v l t 1 A1.out (by decide) (by decide)).mono ?_; rintro e w2 ⟨rfl, A2, M2⟩; rw [HV.out] at A2; replace A1 := hide A2; replace M := hide (Mod.trans M.out M2); clear A2 M2))
        go_roundg (gk - 1)
        case measure => omega
        case rel => exact .mk r A1.out (by omega) E.out M.out
end Go.Proofs.YtcclhdiphcfdfaaGreatDoor
set_option linter.unusedVariables false
set_option linter.unusedSimpArgs false
namespace Go.Proofs.YtcclhdiphcfdfaaGreatDoor
open Go.RowKit

theorem let_cases (x a c : Int) : (x = a) ∨ ((x == a) = false ∧ x = c) ∨ ((x == a) = false ∧ (x == c) = false) := by
  simp only [beq_eq_false_iff_ne]; omega
set_option maxHeartbeats 1000000 in
theorem isUrl_any (t : ByteArray) (w : World) : Calls Tryz.prog 126 #[.string t] w fun e w' => e = .returned (.bool (isUrlB (bl t))) ∧ Below w.heap.size w w' := by
  by_cases h3 : t.size = 3
  · have l0 : 0 < t.size := by omega
    have l1 : 1 < t.size := by omega
    have l2 : 2 < t.size := by omega
    have x0 := bl_nx t 0 l0
    have x1 := bl_nx t 1 l1
    have x2 := bl_nx t 2 l2
    have e3 : (bl t).length = 3 := by rw [bl_len]; exact h3
    have E : isUrlB (bl t) = (((nx (bl t) 0 == 117) || (nx (bl t) 0 == 85)) && ((nx (bl t) 1 == 114) || (nx (bl t) 1 == 82)) && ((nx (bl t) 2 == 108) || (nx (bl t) 2 == 76))) := by
      unfold isUrlB; rw [e3]; rfl
    rw [x0, x1, x2] at E
    replace E := hide E
    clear x0 x1 x2 e3
    rcases let_cases (t[0].toNat : Int) 117 85 with a | ⟨a, a'⟩ | ⟨a, a'⟩
    all_goals
      rcases let_cases (t[1].toNat : Int) 114 82 with c | ⟨c, c'⟩ | ⟨c, c'⟩
      all_goals
        rcases let_cases (t[2].toNat : Int) 108 76 with d | ⟨d, d'⟩ | ⟨d, d'⟩
        all_goals
          have F := hide (show (((t[0].toNat : Int) == 117 || (t[0].toNat : Int) == 85) && ((t[1].toNat : Int) == 114 || (t[1].toNat : Int) == 82) && ((t[2].toNat : Int) == 108 || (t[2].toNat : Int) == 76)) = _ from by simp only [*]; rfl)
          go_enter Tryz.func126, Tryz.ntmps126
          go_wp2
          go_quiet (fail)
          go_wp2
          go_ret
          exact ⟨ret_bool (by have e1 := E.out; have e2 := F.out; exact (e1.trans (e2.trans (by first | rfl | simp))).symm), below_drewN (Below.refl _ _) _⟩
  · have h3' : ((t.size : Int) == 3) = false := by simp; omega
    have h3'' : ((t.size : Int) != 3) = true := by simp; omega
    have E := hide (show isUrlB (bl t) = false by unfold isUrlB; rw [bl_len]; simp [h3])
    go_enter Tryz.func126, Tryz.ntmps126
    go_wp2
    go_ret
    exact ⟨ret_bool E.out.symm, Below.refl _ _⟩
end Go.Proofs.YtcclhdiphcfdfaaGreatDoor
set_option linter.unusedVariables false
set_option linter.unusedSimpArgs false
namespace Go.Proofs.YtcclhdiphcfdfaaGreatDoor
open Go.RowKit

theorem url_end {acc s : List Int} (h : nx s 0 = -1 ∨ nx s 0 = 41) : url acc s = (tkt 7 acc, s.drop 1) := by rw [url, dif_pos h]
theorem url_blg {acc s : List Int} (h : ¬ (nx s 0 = -1 ∨ nx s 0 = 41)) (h1 : isBl (nx s 0) = true) (g : nx (bls s) 0 = -1 ∨ nx (bls s) 0 = 41) : url acc s = url acc (bls s) := by rw [url, dif_neg h, dif_pos h1, if_pos g]
theorem url_blb {acc s : List Int} (h : ¬ (nx s 0 = -1 ∨ nx s 0 = 41)) (h1 : isBl (nx s 0) = true) (g : ¬ (nx (bls s) 0 = -1 ∨ nx (bls s) 0 = 41)) : url acc s = (tk 8, bad (bls s)) := by rw [url, dif_neg h, dif_pos h1, if_neg g]
theorem url_esc {acc s : List Int} (h : ¬ (nx s 0 = -1 ∨ nx s 0 = 41)) (h1 : isBl (nx s 0) = false) (g : es2 (nx s 0) (nx s 1) = true) : url acc s = url (acc ++ [(tesc (s.drop 1)).1]) (tesc (s.drop 1)).2 := by
  rw [url, dif_neg h, dif_neg (by simp [h1]), if_pos g]
theorem url_bar {acc s : List Int} (h : ¬ (nx s 0 = -1 ∨ nx s 0 = 41)) (h1 : isBl (nx s 0) = false) (g : es2 (nx s 0) (nx s 1) = false) (k : isBar (nx s 0) = true) : url acc s = (tk 8, bad s) := by
  rw [url, dif_neg h, dif_neg (by simp [h1]), if_neg (by simp [g]), if_pos k]
theorem url_go {acc s : List Int} (h : ¬ (nx s 0 = -1 ∨ nx s 0 = 41)) (h1 : isBl (nx s 0) = false) (g : es2 (nx s 0) (nx s 1) = false) (k : isBar (nx s 0) = false) : url acc s = url (acc ++ [nx s 0]) (s.drop 1) := by
  rw [url, dif_neg h, dif_neg (by simp [h1]), if_neg (by simp [g]), if_neg (by simp [k])]
set_option maxRecDepth 100000 in
set_option maxHeartbeats 1000000 in
theorem urlToken_any (T : TypeId) (W w : World) (b : Nat) (v : Value) (l s u : List Int) (hL : l.length ≤ 35184372088832) (hu : bls s = u) (h : At T W w b v l s) :
    Calls Tryz.prog 128 #[.pointer (some ⟨b, 0, none⟩)] w fun e w' => Tells e (url [] u).1 ∧ At T W w' b v l (url [] u).2 ∧ w.grownBy w' (some b) := by
  obtain ⟨i0, hi, hz0, hz1, hz2⟩ := info_parts info32
  have hb0 := h.lt
  have hul : u.length ≤ l.length := by have := h.len.1; have := bls_len s; rw [hu] at this; omega
  have hbw : b < (w.alloc tok0).heap.size := by simp; omega
  have A1 := hide (h.below (bplus (Below.refl _ _) tok0))
  have M := hide (Mod.of b (bplus (Below.refl w.heap.size w) tok0))
  have Z := hide (tok0_alloc w)
  have OW := hide (OwnM.nil b (w.alloc tok0) .i32 21)
  have U := hide hu
  clear h hu
  obtain ⟨w0, hw0⟩ : ∃ w0, w.alloc tok0 = w0 := ⟨_, rfl⟩
  rw [hw0] at hbw A1 M Z OW
  have hw0' : w.alloc (.cells #[.int .i64 0, .string ⟨#[]⟩, .int .i64 0, .int .i64 0, .bool false, .bool false] 25) = w0 := hw0
  have HZ := hide hw0'
  clear hw0 hw0'
  go_enter Tryz.func128, Tryz.ntmps128
  go_wp2_with (go_at_call 89; rw [HZ.out]; refine (skipBlanks_any T W _ b v l s A1.out).mono ?_; rintro e w2 ⟨rfl, A2, M2⟩; rw [U.out] at A2; replace A1 := hide A2; replace OW := hide (OW.out.mod hbw M2); clear A2 M2)
  go_loopg [3] u.length (fun g nv wr => RelTx url T W w0 b v l u u.length g nv wr)
  case atStart => exact .mk [] u A1.out (Nat.le_refl _) (by simp) OW.out rfl
  case round =>
    clear A1 OW U
    obtain ⟨xs, t, A1, hg, hx, OW, R⟩ := hrel
    replace A1 := hide A1
    replace OW := hide OW
    obtain ⟨na, nn, nc, rfl⟩ := (OW.out.nums (by omega)).shape
    obtain ⟨r, hr⟩ : ∃ r, t.drop 1 = r := ⟨_, rfl⟩
    have HV := hide (show t.drop (Int.toNat 1) = r from hr)
    have HV1 := hide hr
    obtain ⟨x, hx0⟩ : ∃ x, nx t 0 = x := ⟨_, rfl⟩
    have H0 := hide (show nx t (Int.toNat 0) = x from hx0)
    have H0n := hide hx0
    cases hen : enB x
    · have hno : ¬ (nx t 0 = -1 ∨ nx t 0 = 41) := by rw [hx0]; exact enB_no hen
      have hp : 0 < t.length := nx_pos fun e => hno (.inl e)
      have LU : r.length = t.length - 1 := by rw [← hr, List.length_drop]
      have HN := hide hen
      clear hen
      cases hbl : isBl x
      · have HB := hide hbl
        have hbl' : isBl (nx t 0) = false := by rw [hx0]; exact hbl
        clear hbl
        cases he : es2 (nx t 0) (nx t 1)
        · have HE := hide he
          cases hk : isBar x
          · have E := R.out.trans (url_go hno hbl' he (by rw [hx0]; exact hk))
            rw [hx0, hr] at E
            replace E := hide E
            have HR := hide hk
            clear hk he hno hbl' hr hx0
            go_wp2_with (first
              | (go_at_call 86; refine (aheadA T W _ b _ l t A1.out).mono ?_; rintro e w1 ⟨y, rfl, HL, B1⟩; have HK := hide HL; obtain ⟨g, lb, rfl, eg, hg'⟩ := HL; replace hg' := hide hg'; have BL := hide (Below.refl w1.heap.size w1); replace A1 := hide (A1.out.below B1); replace OW := hide (OW.out.mod hbw (Mod.of b B1)); clear B1)
              | (go_at_fn g; refine (hg'.out _ _ (by decide) (by decide) BL.out).mono ?_; rintro e w1 ⟨he, B1⟩; rw [H0.out] at he; subst he; replace BL := hide (bto BL.out B1); replace A1 := hide (A1.out.below B1); replace OW := hide (OW.out.mod hbw (Mod.of b B1)); clear B1)
              | (go_at_call 168; refine (endsUrl_any _ _).mono ?_; rintro e w2 ⟨rfl, rfl⟩; (first | rw [HN.out] | rw [HN2.out]))
              | (go_at_call 88; refine (isBlP_any _ _).mono ?_; rintro e w2 ⟨rfl, rfl⟩; rw [HB.out])
              | (go_at_call 130; refine (isEscape_any _ t _ ((HK.out.below BL.out).le (by decide))).mono ?_; rintro e w1 ⟨he, B1⟩; rw [HE.out] at he; subst he; replace A1 := hide (A1.out.below B1); replace OW := hide (OW.out.mod hbw (Mod.of b B1)); clear B1)
              | (go_at_call 170; refine (barred_any _ _).mono ?_; rintro e w2 ⟨rfl, rfl⟩; rw [HR.out])
              | (go_at_call 119; refine (takeA T W _ b _ l t A1.out).mono ?_; rintro e w2 ⟨he, A2, M2⟩; rw [H0n.out] at he; rw [HV1.out] at A2; subst he; replace A1 := hide A2; replace OW := hide (OW.out.mod hbw M2); clear A2 M2)
              | (at_builtin; refine wpList_append_own _ rfl _ _ 43 rfl w0.heap.size 21 i0 (.int .i32 0) 1 4 Tryz.underlying43 hi hz0 hz1 hz2 rfl (by decide) _ _ _ rfl (OW.out.1.alloc _) ⟨_, 0, none⟩ 1 1 [.int .i32 x] rfl rfl (news1 _ _ _) (by intro u hu; simp at hu; subst hu; rfl) (by unfold maxLen; omega) (by omega) (by have := OW.out.2.size; simp; omega) ?_; intro v' w1 hown' hgrow _; replace A1 := hide (A1.out.grow hbw OW.out hgrow); replace OW := hide (OW.out.grow (ys := [x]) hown' hgrow); clear hown' hgrow))
            go_roundg (gk - 1)
            case measure => omega
            case rel => exact .mk (xs ++ [x]) r A1.out (by omega) (by rw [List.length_append, List.length_singleton]; omega) OW.out E.out
          · have E := hide (R.out.trans (url_bar hno hbl' he (by rw [hx0]; exact hk)))
            have HR := hide hk
            clear hk he hno hbl' hr hx0
            go_wp2_with (first
              | (go_at_call 86; refine (aheadA T W _ b _ l t A1.out).mono ?_; rintro e w1 ⟨y, rfl, HL, B1⟩; have HK := hide HL; obtain ⟨g, lb, rfl, eg, hg'⟩ := HL; replace hg' := hide hg'; have BL := hide (Below.refl w1.heap.size w1); replace A1 := hide (A1.out.below B1); replace OW := hide (OW.out.mod hbw (Mod.of b B1)); clear B1)
              | (go_at_fn g; refine (hg'.out _ _ (by decide) (by decide) BL.out).mono ?_; rintro e w1 ⟨he, B1⟩; rw [H0.out] at he; subst he; replace BL := hide (bto BL.out B1); replace A1 := hide (A1.out.below B1); replace OW := hide (OW.out.mod hbw (Mod.of b B1)); clear B1)
              | (go_at_call 168; refine (endsUrl_any _ _).mono ?_; rintro e w2 ⟨rfl, rfl⟩; (first | rw [HN.out] | rw [HN2.out]))
              | (go_at_call 88; refine (isBlP_any _ _).mono ?_; rintro e w2 ⟨rfl, rfl⟩; rw [HB.out])
              | (go_at_call 130; refine (isEscape_any _ t _ ((HK.out.below BL.out).le (by decide))).mono ?_; rintro e w1 ⟨he, B1⟩; rw [HE.out] at he; subst he; replace A1 := hide (A1.out.below B1); replace OW := hide (OW.out.mod hbw (Mod.of b B1)); clear B1)
              | (go_at_call 170; refine (barred_any _ _).mono ?_; rintro e w2 ⟨rfl, rfl⟩; rw [HR.out])
              | (go_at_call 169; refine (badUrl_any T W _ b v l _ A1.out).mono ?_; rintro e w2 ⟨⟨z, he, hz⟩, A2, M2⟩; replace he : e = .returned (.agg #[.int .i64 8, .string z, .int .i64 0, .int .i64 0, .bool false, .bool false]) := he; subst he; replace hz := hide hz; replace A1 := hide A2; replace OW := hide (OW.out.mod hbw M2); obtain ⟨f0, f1, f2, f3, f4, f5, c0, c1, c2, c3, c4, c5⟩ := tok0_free (keep Z.out (Nat.ne_of_gt hb0) OW.out.2); clear A2 M2))
            have MM := Mod.trans M.out OW.out.2
            refine bodyPost_ret (v := tkV 8 z 0 0 false false) (by simp [results, Tryz.results128, go_sem, tkV, c0, c1, c2, c3, c4, c5]) rfl ?_
            exact ⟨by rw [E.out]; exact ⟨z, rfl, hz.out⟩, by rw [E.out]; repeat (first | (with_reducible exact A1.out) | (with_reducible refine At.put ?_ hb0 _ _)), by repeat (first | (with_reducible exact MM) | (with_reducible refine Mod.put ?_ (Nat.le_refl _) _ _))⟩
        · have HE := hide he
          have E := R.out.trans (url_esc hno hbl' he)
          rw [hr] at E
          have LT := tesc_len r
          obtain ⟨⟨x', z'⟩, hxr⟩ : ∃ z, tesc r = z := ⟨_, rfl⟩
          rw [hxr] at E LT
          have XR := hide hxr
          replace E := hide E
          have LZ : z'.length ≤ r.length := LT
          clear he hno hbl' hr hx0 hxr LT
          go_wp2_with (first
            | (go_at_call 86; refine (aheadA T W _ b _ l t A1.out).mono ?_; rintro e w1 ⟨y, rfl, HL, B1⟩; have HK := hide HL; obtain ⟨g, lb, rfl, eg, hg'⟩ := HL; replace hg' := hide hg'; have BL := hide (Below.refl w1.heap.size w1); replace A1 := hide (A1.out.below B1); replace OW := hide (OW.out.mod hbw (Mod.of b B1)); clear B1)
            | (go_at_fn g; refine (hg'.out _ _ (by decide) (by decide) BL.out).mono ?_; rintro e w1 ⟨he, B1⟩; rw [H0.out] at he; subst he; replace BL := hide (bto BL.out B1); replace A1 := hide (A1.out.below B1); replace OW := hide (OW.out.mod hbw (Mod.of b B1)); clear B1)
            | (go_at_call 168; refine (endsUrl_any _ _).mono ?_; rintro e w2 ⟨rfl, rfl⟩; (first | rw [HN.out] | rw [HN2.out]))
            | (go_at_call 88; refine (isBlP_any _ _).mono ?_; rintro e w2 ⟨rfl, rfl⟩; rw [HB.out])
            | (go_at_call 130; refine (isEscape_any _ t _ ((HK.out.below BL.out).le (by decide))).mono ?_; rintro e w1 ⟨he, B1⟩; rw [HE.out] at he; subst he; replace A1 := hide (A1.out.below B1); replace OW := hide (OW.out.mod hbw (Mod.of b B1)); clear B1)
            | (go_at_call 162; refine (takeEscape_any T W _ b _ l t r HV1.out A1.out).mono ?_; rintro e w2 ⟨he, A2, M2⟩; rw [XR.out] at he A2; subst he; replace A1 := hide A2; replace OW := hide (OW.out.mod hbw M2); clear A2 M2)
            | (at_builtin; refine wpList_append_own _ rfl _ _ 43 rfl w0.heap.size 21 i0 (.int .i32 0) 1 4 Tryz.underlying43 hi hz0 hz1 hz2 rfl (by decide) _ _ _ rfl (OW.out.1.alloc _) ⟨_, 0, none⟩ 1 1 [.int .i32 x'] rfl rfl (news1 _ _ _) (by intro u hu; simp at hu; subst hu; rfl) (by unfold maxLen; omega) (by omega) (by have := OW.out.2.size; simp; omega) ?_; intro v' w1 hown' hgrow _; replace A1 := hide (A1.out.grow hbw OW.out hgrow); replace OW := hide (OW.out.grow (ys := [x']) hown' hgrow); clear hown' hgrow))
          go_roundg (gk - 1)
          case measure => omega
          case rel => exact .mk (xs ++ [x']) z' A1.out (by omega) (by rw [List.length_append, List.length_singleton]; omega) OW.out E.out
      · have HB := hide hbl
        have hbl' : isBl (nx t 0) = true := by rw [hx0]; exact hbl
        have LY := bls_lt hbl'
        obtain ⟨y, hy⟩ : ∃ y, bls t = y := ⟨_, rfl⟩
        have HY := hide hy
        rw [hy] at LY
        cases hen2 : enB (nx y 0)
        · have E := R.out.trans (url_blb hno hbl' (by rw [hy]; exact enB_no hen2))
          rw [hy] at E
          replace E := hide E
          have HN2 := hide hen2
          clear hen2 hno hbl hbl' hr hx0 hy
          go_wp2_with (first
            | (go_at_call 86; refine (aheadA T W _ b _ l t A1.out).mono ?_; rintro e w1 ⟨y, rfl, HL, B1⟩; have HK := hide HL; obtain ⟨g, lb, rfl, eg, hg'⟩ := HL; replace hg' := hide hg'; have BL := hide (Below.refl w1.heap.size w1); replace A1 := hide (A1.out.below B1); replace OW := hide (OW.out.mod hbw (Mod.of b B1)); clear B1)
            | (go_at_fn g; refine (hg'.out _ _ (by decide) (by decide) BL.out).mono ?_; rintro e w1 ⟨he, B1⟩; rw [H0.out] at he; subst he; replace BL := hide (bto BL.out B1); replace A1 := hide (A1.out.below B1); replace OW := hide (OW.out.mod hbw (Mod.of b B1)); clear B1)
            | (go_at_call 168; refine (endsUrl_any _ _).mono ?_; rintro e w2 ⟨rfl, rfl⟩; (first | rw [HN.out] | rw [HN2.out]))
            | (go_at_call 88; refine (isBlP_any _ _).mono ?_; rintro e w2 ⟨rfl, rfl⟩; rw [HB.out])
            | (go_at_call 89; refine (skipBlanks_any T W _ b v l t A1.out).mono ?_; rintro e w2 ⟨rfl, A2, M2⟩; rw [HY.out] at A2; replace A1 := hide A2; replace OW := hide (OW.out.mod hbw M2); clear A2 M2)
            | (go_at_call 59; refine (nextA T W _ b v l y A1.out).mono ?_; rintro e w1 ⟨rfl, B1⟩; replace A1 := hide (A1.out.below B1); replace OW := hide (OW.out.mod hbw (Mod.of b B1)); clear B1)
            | (go_at_call 169; refine (badUrl_any T W _ b v l _ A1.out).mono ?_; rintro e w2 ⟨⟨z, he, hz⟩, A2, M2⟩; replace he : e = .returned (.agg #[.int .i64 8, .string z, .int .i64 0, .int .i64 0, .bool false, .bool false]) := he; subst he; replace hz := hide hz; replace A1 := hide A2; replace OW := hide (OW.out.mod hbw M2); obtain ⟨f0, f1, f2, f3, f4, f5, c0, c1, c2, c3, c4, c5⟩ := tok0_free (keep Z.out (Nat.ne_of_gt hb0) OW.out.2); clear A2 M2))
          have MM := Mod.trans M.out OW.out.2
          refine bodyPost_ret (v := tkV 8 z 0 0 false false) (by simp [results, Tryz.results128, go_sem, tkV, c0, c1, c2, c3, c4, c5]) rfl ?_
          exact ⟨by rw [E.out]; exact ⟨z, rfl, hz.out⟩, by rw [E.out]; repeat (first | (with_reducible exact A1.out) | (with_reducible refine At.put ?_ hb0 _ _)), by repeat (first | (with_reducible exact MM) | (with_reducible refine Mod.put ?_ (Nat.le_refl _) _ _))⟩
        · have E := R.out.trans (url_blg hno hbl' (by rw [hy]; exact enB_or hen2))
          rw [hy] at E
          replace E := hide E
          have HN2 := hide hen2
          clear hen2 hno hbl hbl' hr hx0 hy
          go_wp2_with (first
            | (go_at_call 86; refine (aheadA T W _ b _ l t A1.out).mono ?_; rintro e w1 ⟨y, rfl, HL, B1⟩; have HK := hide HL; obtain ⟨g, lb, rfl, eg, hg'⟩ := HL; replace hg' := hide hg'; have BL := hide (Below.refl w1.heap.size w1); replace A1 := hide (A1.out.below B1); replace OW := hide (OW.out.mod hbw (Mod.of b B1)); clear B1)
            | (go_at_fn g; refine (hg'.out _ _ (by decide) (by decide) BL.out).mono ?_; rintro e w1 ⟨he, B1⟩; rw [H0.out] at he; subst he; replace BL := hide (bto BL.out B1); replace A1 := hide (A1.out.below B1); replace OW := hide (OW.out.mod hbw (Mod.of b B1)); clear B1)
            | (go_at_call 168; refine (endsUrl_any _ _).mono ?_; rintro e w2 ⟨rfl, rfl⟩; (first | rw [HN.out] | rw [HN2.out]))
            | (go_at_call 88; refine (isBlP_any _ _).mono ?_; rintro e w2 ⟨rfl, rfl⟩; rw [HB.out])
            | (go_at_call 89; refine (skipBlanks_any T W _ b v l t A1.out).mono ?_; rintro e w2 ⟨rfl, A2, M2⟩; rw [HY.out] at A2; replace A1 := hide A2; replace OW := hide (OW.out.mod hbw M2); clear A2 M2)
            | (go_at_call 59; refine (nextA T W _ b v l y A1.out).mono ?_; rintro e w1 ⟨rfl, B1⟩; replace A1 := hide (A1.out.below B1); replace OW := hide (OW.out.mod hbw (Mod.of b B1)); clear B1))
          go_roundg (gk - 1)
          case measure => omega
          case rel => exact .mk xs y A1.out (by omega) (by omega) OW.out E.out
    · have E := R.out.trans (url_end (by rw [hx0]; exact enB_or hen))
      rw [hr] at E
      replace E := hide E
      have HN := hide hen
      clear hen hr hx0
      go_wp2_with (first
        | (go_at_call 86; refine (aheadA T W _ b _ l t A1.out).mono ?_; rintro e w1 ⟨y, rfl, HL, B1⟩; have HK := hide HL; obtain ⟨g, lb, rfl, eg, hg'⟩ := HL; replace hg' := hide hg'; have BL := hide (Below.refl w1.heap.size w1); replace A1 := hide (A1.out.below B1); replace OW := hide (OW.out.mod hbw (Mod.of b B1)); clear B1)
        | (go_at_fn g; refine (hg'.out _ _ (by decide) (by decide) BL.out).mono ?_; rintro e w1 ⟨he, B1⟩; rw [H0.out] at he; subst he; replace BL := hide (bto BL.out B1); replace A1 := hide (A1.out.below B1); replace OW := hide (OW.out.mod hbw (Mod.of b B1)); clear B1)
        | (go_at_call 168; refine (endsUrl_any _ _).mono ?_; rintro e w2 ⟨rfl, rfl⟩; (first | rw [HN.out] | rw [HN2.out]))
        | (go_at_call 87; refine (skipA T W _ b v l t 1 A1.out (by decide) (by decide)).mono ?_; rintro e w2 ⟨rfl, A2, M2⟩; rw [HV.out] at A2; replace A1 := hide A2; replace OW := hide (OW.out.mod hbw M2); clear A2 M2)
        | (go_at_call 120; refine (written_any xs _ _ (OW.out.nums (by omega)) (by omega)).mono ?_; rintro e w3 ⟨z, rfl, hz, B1⟩; replace hz := hide hz; replace A1 := hide (A1.out.below B1); replace OW := hide (OW.out.mod hbw (Mod.of b B1)); obtain ⟨f0, f1, f2, f3, f4, f5, c0, c1, c2, c3, c4, c5⟩ := tok0_free (keep Z.out (Nat.ne_of_gt hb0) OW.out.2); clear B1))
      have MM := Mod.trans M.out OW.out.2
      refine bodyPost_ret (v := tkV 7 z 0 0 false false) (by simp [results, Tryz.results128, go_sem, tkV, c0, c1, c2, c3, c4, c5]) rfl ?_
      exact ⟨.tkt (congrArg Prod.fst E.out) hz.out, by rw [E.out]; repeat (first | (with_reducible exact A1.out) | (with_reducible refine At.put ?_ hb0 _ _)), by repeat (first | (with_reducible exact MM) | (with_reducible refine Mod.put ?_ (Nat.le_refl _) _ _))⟩
end Go.Proofs.YtcclhdiphcfdfaaGreatDoor
set_option linter.unusedVariables false
set_option linter.unusedSimpArgs false
namespace Go.Proofs.YtcclhdiphcfdfaaGreatDoor
open Go.RowKit

set_option maxRecDepth 100000 in
set_option maxHeartbeats 1000000 in
theorem wordToken_any (T : TypeId) (W w : World) (b : Nat) (v : Value) (l s : List Int) (hL : l.length ≤ 35184372088832) (h : At T W w b v l s) :
    Calls Tryz.prog 95 #[.pointer (some ⟨b, 0, none⟩)] w fun e w' => Tells e (word s).1 ∧ At T W w' b v l (word s).2 ∧ w.grownBy w' (some b) := by
  have hb0 := h.lt
  have A1 := hide (h.below (bplus (Below.refl _ _) tok0))
  have M := hide (Mod.of b (bplus (Below.refl w.heap.size w) tok0))
  have Z := hide (tok0_alloc w)
  clear h
  obtain ⟨wd, hwd⟩ : ∃ x, word s = x := ⟨_, rfl⟩
  rw [hwd]
  unfold word at hwd
  obtain ⟨⟨n, r⟩, hn⟩ : ∃ x, nam [] s = x := ⟨_, rfl⟩
  have N := hide hn
  rw [hn] at hwd
  simp only at hwd
  obtain ⟨x, hx⟩ : ∃ x, nx r 0 = x := ⟨_, rfl⟩
  have X := hide hx
  rw [hx] at hwd
  obtain ⟨u, hu⟩ : ∃ u, r.drop 1 = u := ⟨_, rfl⟩
  have U := hide (show r.drop (Int.toNat 1) = u from hu)
  rw [hu] at hwd
  clear hn hx hu
  obtain ⟨iu, hiu⟩ : ∃ y, isUrlB (enc n) = y := ⟨_, rfl⟩
  have IU := hide (show ∀ t, bl t = enc n → isUrlB (bl t) = iu from fun t ht => by rw [ht]; exact hiu)
  rw [hiu] at hwd
  clear hiu
  by_cases h40 : x = 40
  · subst h40
    rw [if_neg (by simp)] at hwd
    cases iu
    · have E := hide (show wd = (tkt 2 n, u) from hwd.symm)
      clear hwd
      go_enter Tryz.func95, Tryz.ntmps95
      go_wp2_with (first
        | (go_at_call 125; refine (takeName_any T W _ b v l s hL A1.out).mono ?_; rintro e w2 ⟨t, rfl, ht, A2, M2⟩; rw [N.out] at ht A2; have UR := IU.out t ht; replace ht := hide ht; replace A1 := hide A2; replace M := hide (Mod.trans M.out M2); replace Z := hide (keep Z.out (Nat.ne_of_gt hb0) M2); clear A2 M2)
        | (go_at_call 59; refine (nextA T W _ b v l r A1.out).mono ?_; rintro e w1 ⟨he, B1⟩; rw [X.out] at he; subst he; replace A1 := hide (A1.out.below B1); replace M := hide (Mod.trans M.out (Mod.of b B1)); replace Z := hide (keep Z.out (Nat.ne_of_gt hb0) (Mod.of b B1)); clear B1)
        | (go_at_call 87; refine (skipA T W _ b v l r 1 A1.out (by decide) (by decide)).mono ?_; rintro e w2 ⟨rfl, A2, M2⟩; rw [U.out] at A2; replace A1 := hide A2; replace M := hide (Mod.trans M.out M2); replace Z := hide (keep Z.out (Nat.ne_of_gt hb0) M2); clear A2 M2)
        | (go_at_call 126; refine (isUrl_any _ _).mono ?_; rintro e w1 ⟨he, B1⟩; rw [UR] at he; subst he; replace A1 := hide (A1.out.below B1); replace M := hide (Mod.trans M.out (Mod.of b B1)); replace Z := hide (keep Z.out (Nat.ne_of_gt hb0) (Mod.of b B1)); obtain ⟨f0, f1, f2, f3, f4, f5, c0, c1, c2, c3, c4, c5⟩ := tok0_free Z.out; clear B1))
      have MM := M.out
      refine bodyPost_ret (v := tkV 2 t 0 0 false false) (by simp [results, Tryz.results95, go_sem, tkV, c0, c1, c2, c3, c4, c5]) rfl ?_
      exact ⟨.tkt (congrArg Prod.fst E.out) ht.out, by rw [E.out]; repeat (first | (with_reducible exact A1.out) | (with_reducible refine At.put ?_ hb0 _ _)), by repeat (first | (with_reducible exact MM) | (with_reducible refine Mod.put ?_ (Nat.le_refl _) _ _))⟩
    · rw [if_pos rfl] at hwd
      obtain ⟨q, hq⟩ : ∃ q, sbl u = q := ⟨_, rfl⟩
      rw [hq] at hwd
      have SQ := hide hq
      clear hq
      cases hqq : qut q
      · have QQ := hide hqq
        rw [hqq, if_neg (by simp)] at hwd
        obtain ⟨p, hp⟩ : ∃ p, bls q = p := ⟨_, rfl⟩
        rw [hp] at hwd
        have BQ := hide hp
        obtain ⟨⟨⟨k, tx, nu, de, wh, id⟩, r2⟩, hu2⟩ : ∃ x, url [] p = x := ⟨_, rfl⟩
        rw [hu2] at hwd
        have UU := hide hu2
        have E := hide hwd.symm
        clear hwd hqq hp hu2
        go_enter Tryz.func95, Tryz.ntmps95
        go_wp2_with (first
          | (go_at_call 125; refine (takeName_any T W _ b v l s hL A1.out).mono ?_; rintro e w2 ⟨t, rfl, ht, A2, M2⟩; rw [N.out] at ht A2; have UR := IU.out t ht; replace ht := hide ht; replace A1 := hide A2; replace M := hide (Mod.trans M.out M2); replace Z := hide (keep Z.out (Nat.ne_of_gt hb0) M2); clear A2 M2)
          | (go_at_call 59; refine (nextA T W _ b v l r A1.out).mono ?_; rintro e w1 ⟨he, B1⟩; rw [X.out] at he; subst he; replace A1 := hide (A1.out.below B1); replace M := hide (Mod.trans M.out (Mod.of b B1)); replace Z := hide (keep Z.out (Nat.ne_of_gt hb0) (Mod.of b B1)); clear B1)
          | (go_at_call 87; refine (skipA T W _ b v l r 1 A1.out (by decide) (by decide)).mono ?_; rintro e w2 ⟨rfl, A2, M2⟩; rw [U.out] at A2; replace A1 := hide A2; replace M := hide (Mod.trans M.out M2); replace Z := hide (keep Z.out (Nat.ne_of_gt hb0) M2); clear A2 M2)
          | (go_at_call 126; refine (isUrl_any _ _).mono ?_; rintro e w1 ⟨he, B1⟩; rw [UR] at he; subst he; replace A1 := hide (A1.out.below B1); replace M := hide (Mod.trans M.out (Mod.of b B1)); replace Z := hide (keep Z.out (Nat.ne_of_gt hb0) (Mod.of b B1)); clear B1)
          | (go_at_call 127; refine (comesQuote_any T W _ b v l u A1.out).mono ?_; rintro e w2 ⟨he, A2, M2⟩; rw [SQ.out] at he A2; rw [QQ.out] at he; subst he; replace A1 := hide A2; replace M := hide (Mod.trans M.out M2); replace Z := hide (keep Z.out (Nat.ne_of_gt hb0) M2); clear A2 M2)
          | (go_at_call 128; refine (urlToken_any T W _ b v l q p hL BQ.out A1.out).mono ?_; rintro e w2 ⟨⟨z, he, hz⟩, A2, M2⟩; rw [UU.out] at he hz A2; replace he : e = .returned (.agg #[.int .i64 k, .string z, .int .i64 nu, .int .i64 de, .bool wh, .bool id]) := he; subst he; replace hz := hide hz; replace A1 := hide A2; replace M := hide (Mod.trans M.out M2); replace Z := hide (keep Z.out (Nat.ne_of_gt hb0) M2); obtain ⟨f0, f1, f2, f3, f4, f5, c0, c1, c2, c3, c4, c5⟩ := tok0_free Z.out; clear A2 M2))
        have MM := M.out
        refine bodyPost_ret (v := tkV k z nu de wh id) (by simp [results, Tryz.results95, go_sem, tkV, c0, c1, c2, c3, c4, c5]) rfl ?_
        exact ⟨by rw [E.out]; exact ⟨z, rfl, hz.out⟩, by rw [E.out]; repeat (first | (with_reducible exact A1.out) | (with_reducible refine At.put ?_ hb0 _ _)), by repeat (first | (with_reducible exact MM) | (with_reducible refine Mod.put ?_ (Nat.le_refl _) _ _))⟩
      · have QQ := hide hqq
        rw [hqq, if_pos rfl] at hwd
        have E := hide hwd.symm
        clear hwd hqq
        go_enter Tryz.func95, Tryz.ntmps95
        go_wp2_with (first
          | (go_at_call 125; refine (takeName_any T W _ b v l s hL A1.out).mono ?_; rintro e w2 ⟨t, rfl, ht, A2, M2⟩; rw [N.out] at ht A2; have UR := IU.out t ht; replace ht := hide ht; replace A1 := hide A2; replace M := hide (Mod.trans M.out M2); replace Z := hide (keep Z.out (Nat.ne_of_gt hb0) M2); clear A2 M2)
          | (go_at_call 59; refine (nextA T W _ b v l r A1.out).mono ?_; rintro e w1 ⟨he, B1⟩; rw [X.out] at he; subst he; replace A1 := hide (A1.out.below B1); replace M := hide (Mod.trans M.out (Mod.of b B1)); replace Z := hide (keep Z.out (Nat.ne_of_gt hb0) (Mod.of b B1)); clear B1)
          | (go_at_call 87; refine (skipA T W _ b v l r 1 A1.out (by decide) (by decide)).mono ?_; rintro e w2 ⟨rfl, A2, M2⟩; rw [U.out] at A2; replace A1 := hide A2; replace M := hide (Mod.trans M.out M2); replace Z := hide (keep Z.out (Nat.ne_of_gt hb0) M2); clear A2 M2)
          | (go_at_call 126; refine (isUrl_any _ _).mono ?_; rintro e w1 ⟨he, B1⟩; rw [UR] at he; subst he; replace A1 := hide (A1.out.below B1); replace M := hide (Mod.trans M.out (Mod.of b B1)); replace Z := hide (keep Z.out (Nat.ne_of_gt hb0) (Mod.of b B1)); clear B1)
          | (go_at_call 127; refine (comesQuote_any T W _ b v l u A1.out).mono ?_; rintro e w2 ⟨he, A2, M2⟩; rw [SQ.out] at he A2; rw [QQ.out] at he; subst he; replace A1 := hide A2; replace M := hide (Mod.trans M.out M2); replace Z := hide (keep Z.out (Nat.ne_of_gt hb0) M2); obtain ⟨f0, f1, f2, f3, f4, f5, c0, c1, c2, c3, c4, c5⟩ := tok0_free Z.out; clear A2 M2))
        have MM := M.out
        refine bodyPost_ret (v := tkV 2 t 0 0 false false) (by simp [results, Tryz.results95, go_sem, tkV, c0, c1, c2, c3, c4, c5]) rfl ?_
        exact ⟨.tkt (congrArg Prod.fst E.out) ht.out, by rw [E.out]; repeat (first | (with_reducible exact A1.out) | (with_reducible refine At.put ?_ hb0 _ _)), by repeat (first | (with_reducible exact MM) | (with_reducible refine Mod.put ?_ (Nat.le_refl _) _ _))⟩
  · rw [if_pos h40] at hwd
    have E := hide hwd.symm
    have n40 : (x != 40) = true := by simpa using h40
    clear hwd
    go_enter Tryz.func95, Tryz.ntmps95
    go_wp2_with (first
      | (go_at_call 125; refine (takeName_any T W _ b v l s hL A1.out).mono ?_; rintro e w2 ⟨t, rfl, ht, A2, M2⟩; rw [N.out] at ht A2; have UR := IU.out t ht; replace ht := hide ht; replace A1 := hide A2; replace M := hide (Mod.trans M.out M2); replace Z := hide (keep Z.out (Nat.ne_of_gt hb0) M2); clear A2 M2)
      | (go_at_call 59; refine (nextA T W _ b v l r A1.out).mono ?_; rintro e w1 ⟨he, B1⟩; rw [X.out] at he; subst he; replace A1 := hide (A1.out.below B1); replace M := hide (Mod.trans M.out (Mod.of b B1)); replace Z := hide (keep Z.out (Nat.ne_of_gt hb0) (Mod.of b B1)); obtain ⟨f0, f1, f2, f3, f4, f5, c0, c1, c2, c3, c4, c5⟩ := tok0_free Z.out; clear B1))
    have MM := M.out
    refine bodyPost_ret (v := tkV 1 t 0 0 false false) (by simp [results, Tryz.results95, go_sem, tkV, c0, c1, c2, c3, c4, c5]) rfl ?_
    exact ⟨.tkt (congrArg Prod.fst E.out) ht.out, by rw [E.out]; repeat (first | (with_reducible exact A1.out) | (with_reducible refine At.put ?_ hb0 _ _)), by repeat (first | (with_reducible exact MM) | (with_reducible refine Mod.put ?_ (Nat.le_refl _) _ _))⟩
end Go.Proofs.YtcclhdiphcfdfaaGreatDoor
set_option linter.unusedVariables false
set_option linter.unusedSimpArgs false
namespace Go.Proofs.YtcclhdiphcfdfaaGreatDoor
open Go.RowKit

/-- A token that is being made. -/
def tokO (k : Int) (t : ByteArray) (n d : Int) (wh i : Bool) : Obj := .cells #[.int .i64 k, .string t, .int .i64 n, .int .i64 d, .bool wh, .bool i] 25
structure Made6 (w : World) (r : Nat) (k : Int) (t : ByteArray) (n d : Int) (wh i : Bool) : Prop where
  f0 : w.frozen? ⟨r, 0, none⟩ = false
  f1 : w.frozen? ⟨r, 1, none⟩ = false
  c0 : w.cell? ⟨r, 0, none⟩ = some (.int .i64 k)
  c1 : w.cell? ⟨r, 1, none⟩ = some (.string t)
  c2 : w.cell? ⟨r, 2, none⟩ = some (.int .i64 n)
  c3 : w.cell? ⟨r, 3, none⟩ = some (.int .i64 d)
  c4 : w.cell? ⟨r, 4, none⟩ = some (.bool wh)
  c5 : w.cell? ⟨r, 5, none⟩ = some (.bool i)
theorem tokO_made {w : World} {r : Nat} {k : Int} {t : ByteArray} {n d : Int} {wh i : Bool} (h : w.heap[r]? = some (tokO k t n d wh i)) : Made6 w r k t n d wh i := by
  constructor <;> simp [World.frozen?, World.cell?, h, tokO]
theorem tokO_kind {w : World} {r : Nat} {k k' : Int} {t : ByteArray} {n d : Int} {wh i : Bool} (h : w.heap[r]? = some (tokO k t n d wh i)) : (w.setCell ⟨r, 0, none⟩ (.int .i64 k')).heap[r]? = some (tokO k' t n d wh i) := by
  unfold tokO at h
  exact (heap_set h 0 _).trans rfl
theorem heap2 (w : World) (o p : Obj) : ((w.alloc o).alloc p).heap[w.heap.size + 1]? = some p := by
  have h := Array.getElem?_push_size (xs := (w.alloc o).heap) (x := p)
  have e : (w.alloc o).heap.size = w.heap.size + 1 := by simp
  rw [e] at h
  exact h
theorem put_heap {w : World} {r m : Nat} {o : Obj} (h : w.heap[r]? = some o) (hm : r ≠ m) (i : Nat) (x : Value) : (w.setCell ⟨m, i, none⟩ x).heap[r]? = some o :=
  (Below.heap_setCell _ _ _ _ (by simpa using hm)).trans h
theorem nmT_len (s : List Int) : (nmT s).length ≤ s.length := by unfold nmT; rw [List.length_take]; omega
theorem numText {t : ByteArray} {s : List Int} {k : Nat} (h : bl t = enc (nmT s)) (hs : s.length ≤ k) (hk : k ≤ 250000000) : t.size ≤ 1000000000 := by
  have h1 := bl_len t
  have h2 := (enc_len (nmT s)).2
  have h3 := nmT_len s
  rw [h] at h1
  omega
set_option maxRecDepth 100000 in
set_option maxHeartbeats 2000000 in
theorem numberToken_any (T : TypeId) (W w : World) (b : Nat) (v : Value) (l s : List Int) (hL : l.length ≤ 250000000) (h0 : nx s 0 ≠ -1) (h : At T W w b v l s) :
    Calls Tryz.prog 93 #[.pointer (some ⟨b, 0, none⟩)] w fun e w' => Tells e (numb s).1 ∧ At T W w' b v l (numb s).2 ∧ w.grownBy w' (some b) := by
  have hb0 := h.lt
  have hsl := h.len.1
  have A1 := hide (h.below (bplus (Below.refl _ _) tok0))
  have M := hide (Mod.of b (bplus (Below.refl w.heap.size w) tok0))
  have Z := hide (tok0_alloc w)
  clear h
  have L9 := hide (show l.length ≤ 35184372088832 by omega)
  have TX := hide (fun (t : ByteArray) (ht : bl t = enc (nmT s)) => numText ht hsl hL)
  obtain ⟨n, hn⟩ : ∃ x, (dcT (enc (nmT s))).1.1 = x := ⟨_, rfl⟩
  obtain ⟨d, hd⟩ : ∃ x, (dcT (enc (nmT s))).1.2 = x := ⟨_, rfl⟩
  obtain ⟨wh, hwh⟩ : ∃ x, (dcT (enc (nmT s))).2 = x := ⟨_, rfl⟩
  obtain ⟨er, her⟩ : ∃ x, dE (enc (nmT s)) = x := ⟨_, rfl⟩
  have DV := hide (show ∀ t : ByteArray, bl t = enc (nmT s) → decV (bl t) = .tuple #[.agg #[.int .i64 n, .int .i64 d], .bool wh, .int .i64 er] from fun t ht => by
    rw [ht, ← hn, ← hd, ← hwh, ← her]; rfl)
  obtain ⟨nb, hnb⟩ : ∃ x, numb s = x := ⟨_, rfl⟩
  rw [hnb]
  unfold numb at hnb
  rw [hn, hd, hwh] at hnb
  clear hn hd hwh her hsl hL
  obtain ⟨z, hz⟩ : ∃ z, nmZ s = z := ⟨_, rfl⟩
  have ZE := hide hz
  rw [hz] at hnb
  clear hz
  obtain ⟨y, hy⟩ : ∃ y, nmB (nx z 0) (nx z 1) (nx z 2) = y := ⟨_, rfl⟩
  have Y := hide hy
  rw [hy] at hnb
  clear hy
  cases y
  · rw [if_neg (by simp)] at hnb
    obtain ⟨x, hx⟩ : ∃ x, nx z 0 = x := ⟨_, rfl⟩
    have X := hide hx
    rw [hx] at hnb
    clear hx
    by_cases h37 : x = 37
    · subst h37
      rw [if_pos rfl] at hnb
      obtain ⟨u, hu⟩ : ∃ u, z.drop 1 = u := ⟨_, rfl⟩
      have U := hide (show z.drop (Int.toNat 1) = u from hu)
      rw [hu] at hnb
      have E := hide hnb.symm
      clear hnb hu
      go_enter Tryz.func93, Tryz.ntmps93
      go_wp2_with (first
        | (go_at_call 123; refine (takeNumber_any T W _ b v l s L9.out h0 A1.out).mono ?_; rintro e w1 ⟨t, rfl, ht, A2, M2⟩; rw [ZE.out] at A2; replace ht := hide ht; replace A1 := hide A2; replace M := hide (Mod.trans M.out M2); replace Z := hide (keep Z.out (Nat.ne_of_gt hb0) M2); clear A2 M2)
        | (go_at_call 122; refine (decP_any t _ (TX.out t ht.out)).mono ?_; rintro e w2 ⟨he, B1⟩; rw [DV.out t ht.out] at he; subst he; replace A1 := hide (A1.out.below B1); replace M := hide (Mod.trans M.out (Mod.of b B1)); replace Z := hide (keep Z.out (Nat.ne_of_gt hb0) (Mod.of b B1)); have hm := A1.out.lt; have hrm := (Array.getElem?_eq_some_iff.1 Z.out).1; have hbm : b < w2.heap.size + 1 := Nat.lt_succ_of_lt hm; have hmb : w2.heap.size + 1 ≠ b := Nat.ne_of_gt hbm; have hwm : w.heap.size ≤ w2.heap.size + 1 := Nat.le_of_lt (Nat.lt_succ_of_lt hrm); have hrn : w.heap.size ≠ w2.heap.size + 1 := Nat.ne_of_lt (Nat.lt_succ_of_lt hrm); have hrn' : ¬ w2.heap.size + 1 = w.heap.size := Nat.ne_of_gt (Nat.lt_succ_of_lt hrm); clear B1 hm hrm)
        | (go_at_call 86; refine (aheadA T W _ b _ l _ (A1.out.below (bplus (bplus (Below.refl _ _) _) _))).mono ?_; rintro e w3 ⟨f, rfl, HL, B1⟩; replace HL := hide HL; have Q := hide ((B1.block (w2.heap.size + 1) (by simp)).trans (show _ = some (tokO 10 ⟨#[]⟩ n d wh false) from heap2 w2 _ _)); have B2 := bto (bplus (bplus (Below.refl w2.heap.size w2) _) _) B1; replace A1 := hide (A1.out.below B2); replace M := hide (Mod.trans M.out (Mod.of b B2)); replace Z := hide (keep Z.out (Nat.ne_of_gt hb0) (Mod.of b B2)); clear B1 B2)
        | (go_at_call 124; refine (nameB_any _ z _ (HL.out.le (by decide))).mono ?_; rintro e w4 ⟨he, B1⟩; rw [Y.out] at he; subst he; replace A1 := hide (A1.out.below B1); replace M := hide (Mod.trans M.out (Mod.of b B1)); replace Z := hide (keep Z.out (Nat.ne_of_gt hb0) (Mod.of b B1)); replace Q := hide (keep Q.out hmb (Mod.of b B1)); clear B1)
        | (go_at_call 59; refine (nextA T W _ b v l z A1.out).mono ?_; rintro e w5 ⟨he, B1⟩; rw [X.out] at he; subst he; replace A1 := hide (A1.out.below B1); replace M := hide (Mod.trans M.out (Mod.of b B1)); replace Z := hide (keep Z.out (Nat.ne_of_gt hb0) (Mod.of b B1)); replace Q := hide (keep Q.out hmb (Mod.of b B1)); clear B1)
        | (go_at_call 87; refine (skipA T W _ b v l z 1 A1.out (by decide) (by decide)).mono ?_; rintro e w6 ⟨rfl, A2, M2⟩; rw [U.out] at A2; replace A1 := hide A2; replace M := hide (Mod.trans M.out M2); replace Z := hide (keep Z.out (Nat.ne_of_gt hb0) M2); replace Q := hide (keep Q.out hmb M2); obtain ⟨f0, f1, f2, f3, f4, f5, c0, c1, c2, c3, c4, c5⟩ := tok0_free Z.out; obtain ⟨g0, g1, d0, d1, d2, d3, d4, d5⟩ := tokO_made Q.out; clear A2 M2))
      have MM := M.out
      refine bodyPost_ret (v := tkV 11 ⟨#[]⟩ n d wh false) (by simp [results, Tryz.results93, go_sem, tkV, c0, c1, c2, c3, c4, c5]) rfl ?_
      exact ⟨by rw [E.out]; exact ⟨_, rfl, rfl⟩, by rw [E.out]; repeat (first | (with_reducible exact A1.out) | (with_reducible refine At.put ?_ hb0 _ _) | (with_reducible refine At.put ?_ hbm _ _)), by repeat (first | (with_reducible exact MM) | (with_reducible refine Mod.put ?_ (Nat.le_refl _) _ _) | (with_reducible refine Mod.put ?_ hwm _ _))⟩
    · rw [if_neg h37] at hnb
      have e37 : (x == 37) = false := by simpa using h37
      have E := hide hnb.symm
      clear hnb
      go_enter Tryz.func93, Tryz.ntmps93
      go_wp2_with (first
        | (go_at_call 123; refine (takeNumber_any T W _ b v l s L9.out h0 A1.out).mono ?_; rintro e w1 ⟨t, rfl, ht, A2, M2⟩; rw [ZE.out] at A2; replace ht := hide ht; replace A1 := hide A2; replace M := hide (Mod.trans M.out M2); replace Z := hide (keep Z.out (Nat.ne_of_gt hb0) M2); clear A2 M2)
        | (go_at_call 122; refine (decP_any t _ (TX.out t ht.out)).mono ?_; rintro e w2 ⟨he, B1⟩; rw [DV.out t ht.out] at he; subst he; replace A1 := hide (A1.out.below B1); replace M := hide (Mod.trans M.out (Mod.of b B1)); replace Z := hide (keep Z.out (Nat.ne_of_gt hb0) (Mod.of b B1)); have hm := A1.out.lt; have hrm := (Array.getElem?_eq_some_iff.1 Z.out).1; have hbm : b < w2.heap.size + 1 := Nat.lt_succ_of_lt hm; have hmb : w2.heap.size + 1 ≠ b := Nat.ne_of_gt hbm; have hwm : w.heap.size ≤ w2.heap.size + 1 := Nat.le_of_lt (Nat.lt_succ_of_lt hrm); have hrn : w.heap.size ≠ w2.heap.size + 1 := Nat.ne_of_lt (Nat.lt_succ_of_lt hrm); have hrn' : ¬ w2.heap.size + 1 = w.heap.size := Nat.ne_of_gt (Nat.lt_succ_of_lt hrm); clear B1 hm hrm)
        | (go_at_call 86; refine (aheadA T W _ b _ l _ (A1.out.below (bplus (bplus (Below.refl _ _) _) _))).mono ?_; rintro e w3 ⟨f, rfl, HL, B1⟩; replace HL := hide HL; have Q := hide ((B1.block (w2.heap.size + 1) (by simp)).trans (show _ = some (tokO 10 ⟨#[]⟩ n d wh false) from heap2 w2 _ _)); have B2 := bto (bplus (bplus (Below.refl w2.heap.size w2) _) _) B1; replace A1 := hide (A1.out.below B2); replace M := hide (Mod.trans M.out (Mod.of b B2)); replace Z := hide (keep Z.out (Nat.ne_of_gt hb0) (Mod.of b B2)); clear B1 B2)
        | (go_at_call 124; refine (nameB_any _ z _ (HL.out.le (by decide))).mono ?_; rintro e w4 ⟨he, B1⟩; rw [Y.out] at he; subst he; replace A1 := hide (A1.out.below B1); replace M := hide (Mod.trans M.out (Mod.of b B1)); replace Z := hide (keep Z.out (Nat.ne_of_gt hb0) (Mod.of b B1)); replace Q := hide (keep Q.out hmb (Mod.of b B1)); clear B1)
        | (go_at_call 59; refine (nextA T W _ b v l z A1.out).mono ?_; rintro e w5 ⟨he, B1⟩; rw [X.out] at he; subst he; replace A1 := hide (A1.out.below B1); replace M := hide (Mod.trans M.out (Mod.of b B1)); replace Z := hide (keep Z.out (Nat.ne_of_gt hb0) (Mod.of b B1)); replace Q := hide (keep Q.out hmb (Mod.of b B1)); obtain ⟨f0, f1, f2, f3, f4, f5, c0, c1, c2, c3, c4, c5⟩ := tok0_free Z.out; obtain ⟨g0, g1, d0, d1, d2, d3, d4, d5⟩ := tokO_made Q.out; clear B1))
      have MM := M.out
      refine bodyPost_ret (v := tkV 10 ⟨#[]⟩ n d wh false) (by simp [results, Tryz.results93, go_sem, tkV, c0, c1, c2, c3, c4, c5]) rfl ?_
      exact ⟨by rw [E.out]; exact ⟨_, rfl, rfl⟩, by rw [E.out]; repeat (first | (with_reducible exact A1.out) | (with_reducible refine At.put ?_ hb0 _ _) | (with_reducible refine At.put ?_ hbm _ _)), by repeat (first | (with_reducible exact MM) | (with_reducible refine Mod.put ?_ (Nat.le_refl _) _ _) | (with_reducible refine Mod.put ?_ hwm _ _))⟩
  · rw [if_pos rfl] at hnb
    obtain ⟨⟨nm, r⟩, hnm⟩ : ∃ x, nam [] z = x := ⟨_, rfl⟩
    have NN := hide hnm
    rw [hnm] at hnb
    have E := hide hnb.symm
    clear hnb hnm
    go_enter Tryz.func93, Tryz.ntmps93
    go_wp2_with (first
      | (go_at_call 123; refine (takeNumber_any T W _ b v l s L9.out h0 A1.out).mono ?_; rintro e w1 ⟨t, rfl, ht, A2, M2⟩; rw [ZE.out] at A2; replace ht := hide ht; replace A1 := hide A2; replace M := hide (Mod.trans M.out M2); replace Z := hide (keep Z.out (Nat.ne_of_gt hb0) M2); clear A2 M2)
      | (go_at_call 122; refine (decP_any t _ (TX.out t ht.out)).mono ?_; rintro e w2 ⟨he, B1⟩; rw [DV.out t ht.out] at he; subst he; replace A1 := hide (A1.out.below B1); replace M := hide (Mod.trans M.out (Mod.of b B1)); replace Z := hide (keep Z.out (Nat.ne_of_gt hb0) (Mod.of b B1)); have hm := A1.out.lt; have hrm := (Array.getElem?_eq_some_iff.1 Z.out).1; have hbm : b < w2.heap.size + 1 := Nat.lt_succ_of_lt hm; have hmb : w2.heap.size + 1 ≠ b := Nat.ne_of_gt hbm; have hwm : w.heap.size ≤ w2.heap.size + 1 := Nat.le_of_lt (Nat.lt_succ_of_lt hrm); have hrn : w.heap.size ≠ w2.heap.size + 1 := Nat.ne_of_lt (Nat.lt_succ_of_lt hrm); have hrn' : ¬ w2.heap.size + 1 = w.heap.size := Nat.ne_of_gt (Nat.lt_succ_of_lt hrm); clear B1 hm hrm)
      | (go_at_call 86; refine (aheadA T W _ b _ l _ (A1.out.below (bplus (bplus (Below.refl _ _) _) _))).mono ?_; rintro e w3 ⟨f, rfl, HL, B1⟩; replace HL := hide HL; have Q := hide ((B1.block (w2.heap.size + 1) (by simp)).trans (show _ = some (tokO 10 ⟨#[]⟩ n d wh false) from heap2 w2 _ _)); have B2 := bto (bplus (bplus (Below.refl w2.heap.size w2) _) _) B1; replace A1 := hide (A1.out.below B2); replace M := hide (Mod.trans M.out (Mod.of b B2)); replace Z := hide (keep Z.out (Nat.ne_of_gt hb0) (Mod.of b B2)); clear B1 B2)
      | (go_at_call 124; refine (nameB_any _ z _ (HL.out.le (by decide))).mono ?_; rintro e w4 ⟨he, B1⟩; rw [Y.out] at he; subst he; replace A1 := hide (A1.out.below B1); replace M := hide (Mod.trans M.out (Mod.of b B1)); replace Z := hide (keep Z.out (Nat.ne_of_gt hb0) (Mod.of b B1)); replace Q := hide (keep Q.out hmb (Mod.of b B1)); obtain ⟨g0, g1, d0, d1, d2, d3, d4, d5⟩ := tokO_made Q.out; clear B1)
      | (go_at_call 125; refine (takeName_any T W _ b v l z L9.out (At.put A1.out hbm 0 (.int .i64 12))).mono ?_; rintro e w6 ⟨t', rfl, ht', A2, M2⟩; rw [NN.out] at ht' A2; replace ht' := hide ht'; replace A1 := hide A2; replace M := hide (Mod.trans (Mod.put M.out hwm 0 (.int .i64 12)) M2); replace Z := hide (keep (put_heap Z.out hrn 0 (.int .i64 12)) (Nat.ne_of_gt hb0) M2); replace Q := hide (keep (tokO_kind (k' := 12) Q.out) hmb M2); clear A2 M2 g0 g1 d0 d1 d2 d3 d4 d5; obtain ⟨f0, f1, f2, f3, f4, f5, c0, c1, c2, c3, c4, c5⟩ := tok0_free Z.out; obtain ⟨g0, g1, d0, d1, d2, d3, d4, d5⟩ := tokO_made Q.out))
    have MM := M.out
    refine bodyPost_ret (v := tkV 12 t' n d wh false) (by simp [results, Tryz.results93, go_sem, tkV, c0, c1, c2, c3, c4, c5]) rfl ?_
    exact ⟨by rw [E.out]; exact ⟨_, rfl, ht'.out⟩, by rw [E.out]; repeat (first | (with_reducible exact A1.out) | (with_reducible refine At.put ?_ hb0 _ _) | (with_reducible refine At.put ?_ hbm _ _)), by repeat (first | (with_reducible exact MM) | (with_reducible refine Mod.put ?_ (Nat.le_refl _) _ _) | (with_reducible refine Mod.put ?_ hwm _ _))⟩
end Go.Proofs.YtcclhdiphcfdfaaGreatDoor
