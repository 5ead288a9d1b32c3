/-
  The reference's urls.
-/
import Derived.Test.YtckefmhleklciaaGreatDoorLRefE
set_option linter.unusedVariables false
set_option linter.unusedSimpArgs false
namespace Go.Proofs.YtckefmhleklciaaGreatDoor
open Go.RowKit

theorem bar_cases {x : Int} (h : isBar x = true) : x = 34 ∨ x = 39 ∨ x = 40 ∨ x = 92 ∨ (x ≠ 34 ∧ x ≠ 39 ∧ x ≠ 40 ∧ x ≠ 92 ∧ isUn x = true) := by
  unfold isBar isQ at h
  simp only [Bool.or_eq_true, beq_iff_eq] at h
  by_cases h1 : x = 34
  · exact .inl h1
  by_cases h2 : x = 39
  · exact .inr (.inl h2)
  by_cases h3 : x = 40
  · exact .inr (.inr (.inl h3))
  by_cases h4 : x = 92
  · exact .inr (.inr (.inr (.inl h4)))
  rcases h with (((h | h) | h) | h) | h
  · exact absurd h h1
  · exact absurd h h2
  · exact absurd h h3
  · exact absurd h h4
  · exact .inr (.inr (.inr (.inr ⟨h1, h2, h3, h4, h⟩)))
set_option maxRecDepth 100000 in
set_option maxHeartbeats 4000000 in
theorem urlR_any (T : TypeId) (W w : World) (b : Nat) (v : Value) (l s0 s : List Int) (hL : l.length ≤ 35184372088832) (hbs : bls s0 = s) (h : At T W w b v l s0) :
    Calls Tryz.prog 74 #[.pointer (some ⟨b, 0, none⟩)] w fun e w' => Tells e (url [] s).1 ∧ AtR T W w' b v l (url [] s).2 ∧ w.grownBy w' (some b) := by
  obtain ⟨i0, hi, hz0, hz1, hz2⟩ := info_parts info32
  have hb0 := h.lt
  have nb1 : ¬ w.heap.size = b := by omega
  have nb2 : ¬ b = w.heap.size := by omega
  have hbw : b < (w.alloc tok0).heap.size := by simp; omega
  have A1 := hide (h.below (bplus (Below.refl _ _) tok0))
  have M0 := hide (Mod.of b (bplus (Below.refl w.heap.size w) tok0))
  have Z := hide (tok0_alloc w)
  have hsl : s.length ≤ l.length := by have := h.len.1; have := bls_len s0; rw [hbs] at this; omega
  have BS := hide hbs
  clear h hbs
  obtain ⟨w0, hw0⟩ : ∃ w0, w.alloc tok0 = w0 := ⟨_, rfl⟩
  rw [hw0] at hbw A1 M0 Z
  have hw0' : w.alloc (.cells #[.int .i64 0, .string ⟨#[]⟩, .int .i64 0, .int .i64 0, .bool false, .bool false] 34) = w0 := hw0
  have HZ := hide hw0'
  clear hw0 hw0'
  have OW := hide (OwnM.nil b w0 .i32 21)
  go_enter Tryz.func74, Tryz.ntmps74
  go_wp2_with (go_at_call 36; rw [HZ.out]; refine (blanksR_any T W _ b v l s0 A1.out).mono ?_; rintro e w6 ⟨rfl, A2, M2⟩; rw [BS.out] at A2; replace A1 := hide A2; replace OW := hide (OW.out.mod hbw M2); clear A2 M2)
  go_loopg [3] s.length (fun g nv wr => RelTx url T W w0 b v l s s.length g nv wr)
  case atStart => exact .mk [] s A1.out (Nat.le_refl _) (by simp) OW.out rfl
  case round =>
    clear A1 OW
    obtain ⟨xs, t, A1, hg, hx, OW, R⟩ := hrel
    obtain ⟨p, ST, hpl, hlb⟩ := A1.stand
    have hp9 : p ≤ 140737488355328 := by omega
    have HXN := hide (show xs.length ≤ 4611686018427387904 by omega)
    replace ST := hide ST
    replace OW := hide OW
    clear A1
    obtain ⟨x, hx0⟩ : ∃ x, nx t 0 = x := ⟨_, rfl⟩
    have H0 := hide (show nx t (Int.toNat 0) = x from hx0)
    obtain ⟨y, hy0⟩ : ∃ y, nx t 1 = y := ⟨_, rfl⟩
    have H1 := hide (show nx t (Int.toNat 1) = y from hy0)
    obtain ⟨t1, ht1⟩ : ∃ u, t.drop 1 = u := ⟨_, rfl⟩
    have T1 := hide ht1
    have lt1 : t1.length = t.length - 1 := by rw [← ht1, List.length_drop]
    by_cases hd : x = -1 ∨ x = 41
    · have E := hide (R.out.trans (url_end (by rw [hx0]; exact hd)))
      clear hx0 hy0 ht1
      rcases hd with rfl | rfl
      all_goals
        go_wp2_with (first
          | (go_at_call 18; refine (standAt_any T W _ b v l t p _ ST.out (by decide) (by decide)).mono ?_; rintro e w1 ⟨he, B1⟩; (first | (rw [H0.out] at he) | (rw [H1.out] at he)); subst he; replace ST := hide (ST.out.below B1); replace OW := hide (OW.out.mod hbw (Mod.of b B1)); (try clear c1 f1); have c1 := ST.out.c1; have f1 := ST.out.f1; (try clear f0 f2 f3 f4 f5 c0 c2 c3 c4 c5 g1 d1); obtain ⟨f0, g1, f2, f3, f4, f5, c0, d1, c2, c3, c4, c5⟩ := tok0_free (keep Z.out (Nat.ne_of_gt hb0) OW.out.2); clear B1)
          | (go_at_call 45; have OW2 := OW.out.mod hbw (ST.out.mod ((p : Int) + 1)); refine (textR_any xs _ _ (OW2.nums HXN.out) (by omega)).mono ?_; rintro e w3 ⟨z, rfl, hz, B1⟩; replace hz := hide hz; replace ST := hide ((ST.out.inc 1 ((p : Int) + 1) (by omega) (by omega)).below B1); replace OW := hide (OW2.mod hbw (Mod.of b B1)); clear B1 OW2 c1 f1; (try clear f0 f2 f3 f4 f5 c0 c2 c3 c4 c5 g1 d1); obtain ⟨f0, g1, f2, f3, f4, f5, c0, d1, c2, c3, c4, c5⟩ := tok0_free (keep Z.out (Nat.ne_of_gt hb0) OW.out.2)))
        have FA := ST.out.atR (by omega)
        have MM := Mod.trans M0.out OW.out.2
        refine bodyPost_ret (v := tkV 7 z 0 0 false false) (by simp [results, Tryz.results74, go_sem, tkV, c0, d1, c2, c3, c4, c5]) rfl ?_
        exact ⟨.tkt (congrArg Prod.fst E.out) hz.out, by rw [E.out]; repeat (first | (with_reducible exact FA) | (with_reducible refine AtR.put ?_ hb0 _ _)), by repeat (first | (with_reducible exact MM) | (with_reducible refine Mod.put ?_ (Nat.le_refl _) _ _))⟩
    · have e1 : (x == -1) = false := by simp; intro e; exact hd (.inl e)
      have e2 : (x == 41) = false := by simp; intro e; exact hd (.inr e)
      have L := nx_pos (s := t) (by rw [hx0]; intro e; exact hd (.inl e))
      obtain ⟨yb, hyb⟩ : ∃ q, isBl x = q := ⟨_, rfl⟩
      have YB := hide hyb
      cases yb
      · obtain ⟨ye, hye⟩ : ∃ q, es2 x y = q := ⟨_, rfl⟩
        have YE := hide hye
        cases ye
        · obtain ⟨yk, hyk⟩ : ∃ q, isBar x = q := ⟨_, rfl⟩
          cases yk
          · have E := R.out.trans (url_go (by rw [hx0]; exact hd) (by rw [hx0]; exact hyb) (by rw [hx0, hy0]; exact hye) (by rw [hx0]; exact hyk))
            rw [hx0, ht1] at E
            replace E := hide E
            have hbr : isQ x = false ∧ (x == 40) = false ∧ (x == 92) = false ∧ isUn x = false := by unfold isBar at hyk; simp only [Bool.or_eq_false_iff] at hyk; exact ⟨hyk.1.1.1, hyk.1.1.2, hyk.1.2, hyk.2⟩
            obtain ⟨b1, b2, b3, b4⟩ := hbr
            have YU := hide b4
            have b5 : (x == 34) = false ∧ (x == 39) = false := by unfold isQ at b1; simpa using b1
            obtain ⟨b6, b7⟩ := b5
            clear hx0 hy0 ht1 hyb hye hyk b1 b4 hd
            go_wp2_with (first
              | (go_at_call 18; refine (standAt_any T W _ b v l t p _ ST.out (by decide) (by decide)).mono ?_; rintro e w1 ⟨he, B1⟩; (first | (rw [H0.out] at he) | (rw [H1.out] at he)); subst he; replace ST := hide (ST.out.below B1); replace OW := hide (OW.out.mod hbw (Mod.of b B1)); (try clear c1 f1); have c1 := ST.out.c1; have f1 := ST.out.f1; (try clear f0 f2 f3 f4 f5 c0 c2 c3 c4 c5 g1 d1); obtain ⟨f0, g1, f2, f3, f4, f5, c0, d1, c2, c3, c4, c5⟩ := tok0_free (keep Z.out (Nat.ne_of_gt hb0) OW.out.2); clear B1)
              | (go_at_call 35; refine (isBlR_any _ _).mono ?_; rintro e w2 ⟨rfl, rfl⟩; rw [YB.out])
              | (go_at_call 99; refine (isUnR_any _ _).mono ?_; rintro e w2 ⟨rfl, rfl⟩; rw [YU.out])
              | (go_at_call 39; refine (escR_any _ _ _).mono ?_; rintro e w2 ⟨rfl, rfl⟩; rw [YE.out])
              | (at_builtin; refine wpList_append_own _ rfl _ _ 22 rfl w0.heap.size 21 i0 (.int .i32 0) 1 4 Tryz.underlying22 hi hz0 hz1 hz2 rfl (by decide) _ _ _ rfl (OW.out.1.alloc _) ⟨_, 0, none⟩ 1 1 [.int .i32 x] rfl rfl (news1 _ _ _) (by intro u hu; simp at hu; subst hu; rfl) (by unfold maxLen; omega) (by omega) (by have := OW.out.2.size; simp; omega) ?_; intro v' w5 hown' hgrow _; replace ST := hide (ST.out.grow hbw OW.out hgrow); replace OW := hide (OW.out.grow (ys := [x]) hown' hgrow); (try clear c1 f1); have c1 := ST.out.c1; have f1 := ST.out.f1; clear hown' hgrow; clear f0 f2 f3 f4 f5 c0 c2 c3 c4 c5 g1 d1))
            go_roundg (gk - 1)
            case measure => omega
            case rel => exact .mk (xs ++ [x]) t1 (by have := ST.out.inc 1 ((p : Int) + 1) (by omega) (by omega); rw [T1.out] at this; exact this.at (by omega)) (by omega) (by rw [List.length_append, List.length_singleton]; omega) (OW.out.mod hbw (ST.out.mod _)) E.out
          · have E := hide (R.out.trans (url_bar (by rw [hx0]; exact hd) (by rw [hx0]; exact hyb) (by rw [hx0, hy0]; exact hye) (by rw [hx0]; exact hyk)))
            obtain ⟨yu, hyu⟩ : ∃ q, isUn x = q := ⟨_, rfl⟩
            have YU := hide hyu
            have hbr : x = 34 ∨ x = 39 ∨ x = 40 ∨ x = 92 ∨ (x ≠ 34 ∧ x ≠ 39 ∧ x ≠ 40 ∧ x ≠ 92 ∧ yu = true) := by rw [← hyu]; exact bar_cases hyk
            clear hx0 hy0 ht1 hyb hye hyk hyu hd
            rcases hbr with rfl | rfl | rfl | rfl | ⟨b1, b2, b3, b4, rfl⟩
            · skip
              go_wp2_with (first
                | (go_at_call 18; refine (standAt_any T W _ b v l t p _ ST.out (by decide) (by decide)).mono ?_; rintro e w1 ⟨he, B1⟩; (first | (rw [H0.out] at he) | (rw [H1.out] at he)); subst he; replace ST := hide (ST.out.below B1); replace OW := hide (OW.out.mod hbw (Mod.of b B1)); (try clear c1 f1); have c1 := ST.out.c1; have f1 := ST.out.f1; (try clear f0 f2 f3 f4 f5 c0 c2 c3 c4 c5 g1 d1); obtain ⟨f0, g1, f2, f3, f4, f5, c0, d1, c2, c3, c4, c5⟩ := tok0_free (keep Z.out (Nat.ne_of_gt hb0) OW.out.2); clear B1)
                | (go_at_call 35; refine (isBlR_any _ _).mono ?_; rintro e w2 ⟨rfl, rfl⟩; rw [YB.out])
                | (go_at_call 99; refine (isUnR_any _ _).mono ?_; rintro e w2 ⟨rfl, rfl⟩; rw [YU.out])
                | (go_at_call 39; refine (escR_any _ _ _).mono ?_; rintro e w2 ⟨rfl, rfl⟩; rw [YE.out])
                | (go_at_call 98; refine (restR_any T W _ b v l t (ST.out.at (by omega))).mono ?_; rintro e w8 ⟨⟨z8, he, hz8⟩, A2, M2⟩; replace he : e = .returned (.agg #[.int .i64 8, .string z8, .int .i64 0, .int .i64 0, .bool false, .bool false]) := he; subst he; replace hz8 := hide hz8; have A3 := hide A2; replace OW := hide (OW.out.mod hbw M2); clear A2 M2; (try clear c1 f1); (try clear f0 f2 f3 f4 f5 c0 c2 c3 c4 c5 g1 d1); obtain ⟨f0, g1, f2, f3, f4, f5, c0, d1, c2, c3, c4, c5⟩ := tok0_free (keep Z.out (Nat.ne_of_gt hb0) OW.out.2)))
              have FA := A3.out
              have MM := Mod.trans M0.out OW.out.2
              refine bodyPost_ret (v := tkV 8 z8 0 0 false false) (by simp [results, Tryz.results74, go_sem, tkV, c0, d1, c2, c3, c4, c5]) rfl ?_
              exact ⟨by rw [E.out]; exact ⟨z8, rfl, hz8.out⟩, by rw [E.out]; repeat (first | (with_reducible exact FA) | (with_reducible refine AtR.put ?_ hb0 _ _)), by repeat (first | (with_reducible exact MM) | (with_reducible refine Mod.put ?_ (Nat.le_refl _) _ _))⟩
            · skip
              go_wp2_with (first
                | (go_at_call 18; refine (standAt_any T W _ b v l t p _ ST.out (by decide) (by decide)).mono ?_; rintro e w1 ⟨he, B1⟩; (first | (rw [H0.out] at he) | (rw [H1.out] at he)); subst he; replace ST := hide (ST.out.below B1); replace OW := hide (OW.out.mod hbw (Mod.of b B1)); (try clear c1 f1); have c1 := ST.out.c1; have f1 := ST.out.f1; (try clear f0 f2 f3 f4 f5 c0 c2 c3 c4 c5 g1 d1); obtain ⟨f0, g1, f2, f3, f4, f5, c0, d1, c2, c3, c4, c5⟩ := tok0_free (keep Z.out (Nat.ne_of_gt hb0) OW.out.2); clear B1)
                | (go_at_call 35; refine (isBlR_any _ _).mono ?_; rintro e w2 ⟨rfl, rfl⟩; rw [YB.out])
                | (go_at_call 99; refine (isUnR_any _ _).mono ?_; rintro e w2 ⟨rfl, rfl⟩; rw [YU.out])
                | (go_at_call 39; refine (escR_any _ _ _).mono ?_; rintro e w2 ⟨rfl, rfl⟩; rw [YE.out])
                | (go_at_call 98; refine (restR_any T W _ b v l t (ST.out.at (by omega))).mono ?_; rintro e w8 ⟨⟨z8, he, hz8⟩, A2, M2⟩; replace he : e = .returned (.agg #[.int .i64 8, .string z8, .int .i64 0, .int .i64 0, .bool false, .bool false]) := he; subst he; replace hz8 := hide hz8; have A3 := hide A2; replace OW := hide (OW.out.mod hbw M2); clear A2 M2; (try clear c1 f1); (try clear f0 f2 f3 f4 f5 c0 c2 c3 c4 c5 g1 d1); obtain ⟨f0, g1, f2, f3, f4, f5, c0, d1, c2, c3, c4, c5⟩ := tok0_free (keep Z.out (Nat.ne_of_gt hb0) OW.out.2)))
              have FA := A3.out
              have MM := Mod.trans M0.out OW.out.2
              refine bodyPost_ret (v := tkV 8 z8 0 0 false false) (by simp [results, Tryz.results74, go_sem, tkV, c0, d1, c2, c3, c4, c5]) rfl ?_
              exact ⟨by rw [E.out]; exact ⟨z8, rfl, hz8.out⟩, by rw [E.out]; repeat (first | (with_reducible exact FA) | (with_reducible refine AtR.put ?_ hb0 _ _)), by repeat (first | (with_reducible exact MM) | (with_reducible refine Mod.put ?_ (Nat.le_refl _) _ _))⟩
            · skip
              go_wp2_with (first
                | (go_at_call 18; refine (standAt_any T W _ b v l t p _ ST.out (by decide) (by decide)).mono ?_; rintro e w1 ⟨he, B1⟩; (first | (rw [H0.out] at he) | (rw [H1.out] at he)); subst he; replace ST := hide (ST.out.below B1); replace OW := hide (OW.out.mod hbw (Mod.of b B1)); (try clear c1 f1); have c1 := ST.out.c1; have f1 := ST.out.f1; (try clear f0 f2 f3 f4 f5 c0 c2 c3 c4 c5 g1 d1); obtain ⟨f0, g1, f2, f3, f4, f5, c0, d1, c2, c3, c4, c5⟩ := tok0_free (keep Z.out (Nat.ne_of_gt hb0) OW.out.2); clear B1)
                | (go_at_call 35; refine (isBlR_any _ _).mono ?_; rintro e w2 ⟨rfl, rfl⟩; rw [YB.out])
                | (go_at_call 99; refine (isUnR_any _ _).mono ?_; rintro e w2 ⟨rfl, rfl⟩; rw [YU.out])
                | (go_at_call 39; refine (escR_any _ _ _).mono ?_; rintro e w2 ⟨rfl, rfl⟩; rw [YE.out])
                | (go_at_call 98; refine (restR_any T W _ b v l t (ST.out.at (by omega))).mono ?_; rintro e w8 ⟨⟨z8, he, hz8⟩, A2, M2⟩; replace he : e = .returned (.agg #[.int .i64 8, .string z8, .int .i64 0, .int .i64 0, .bool false, .bool false]) := he; subst he; replace hz8 := hide hz8; have A3 := hide A2; replace OW := hide (OW.out.mod hbw M2); clear A2 M2; (try clear c1 f1); (try clear f0 f2 f3 f4 f5 c0 c2 c3 c4 c5 g1 d1); obtain ⟨f0, g1, f2, f3, f4, f5, c0, d1, c2, c3, c4, c5⟩ := tok0_free (keep Z.out (Nat.ne_of_gt hb0) OW.out.2)))
              have FA := A3.out
              have MM := Mod.trans M0.out OW.out.2
              refine bodyPost_ret (v := tkV 8 z8 0 0 false false) (by simp [results, Tryz.results74, go_sem, tkV, c0, d1, c2, c3, c4, c5]) rfl ?_
              exact ⟨by rw [E.out]; exact ⟨z8, rfl, hz8.out⟩, by rw [E.out]; repeat (first | (with_reducible exact FA) | (with_reducible refine AtR.put ?_ hb0 _ _)), by repeat (first | (with_reducible exact MM) | (with_reducible refine Mod.put ?_ (Nat.le_refl _) _ _))⟩
            · have yu0 : yu = false := by have := YU.out; rw [← this]; decide
              subst yu0
              go_wp2_with (first
                | (go_at_call 18; refine (standAt_any T W _ b v l t p _ ST.out (by decide) (by decide)).mono ?_; rintro e w1 ⟨he, B1⟩; (first | (rw [H0.out] at he) | (rw [H1.out] at he)); subst he; replace ST := hide (ST.out.below B1); replace OW := hide (OW.out.mod hbw (Mod.of b B1)); (try clear c1 f1); have c1 := ST.out.c1; have f1 := ST.out.f1; (try clear f0 f2 f3 f4 f5 c0 c2 c3 c4 c5 g1 d1); obtain ⟨f0, g1, f2, f3, f4, f5, c0, d1, c2, c3, c4, c5⟩ := tok0_free (keep Z.out (Nat.ne_of_gt hb0) OW.out.2); clear B1)
                | (go_at_call 35; refine (isBlR_any _ _).mono ?_; rintro e w2 ⟨rfl, rfl⟩; rw [YB.out])
                | (go_at_call 99; refine (isUnR_any _ _).mono ?_; rintro e w2 ⟨rfl, rfl⟩; rw [YU.out])
                | (go_at_call 39; refine (escR_any _ _ _).mono ?_; rintro e w2 ⟨rfl, rfl⟩; rw [YE.out])
                | (go_at_call 98; refine (restR_any T W _ b v l t (ST.out.at (by omega))).mono ?_; rintro e w8 ⟨⟨z8, he, hz8⟩, A2, M2⟩; replace he : e = .returned (.agg #[.int .i64 8, .string z8, .int .i64 0, .int .i64 0, .bool false, .bool false]) := he; subst he; replace hz8 := hide hz8; have A3 := hide A2; replace OW := hide (OW.out.mod hbw M2); clear A2 M2; (try clear c1 f1); (try clear f0 f2 f3 f4 f5 c0 c2 c3 c4 c5 g1 d1); obtain ⟨f0, g1, f2, f3, f4, f5, c0, d1, c2, c3, c4, c5⟩ := tok0_free (keep Z.out (Nat.ne_of_gt hb0) OW.out.2)))
              have FA := A3.out
              have MM := Mod.trans M0.out OW.out.2
              refine bodyPost_ret (v := tkV 8 z8 0 0 false false) (by simp [results, Tryz.results74, go_sem, tkV, c0, d1, c2, c3, c4, c5]) rfl ?_
              exact ⟨by rw [E.out]; exact ⟨z8, rfl, hz8.out⟩, by rw [E.out]; repeat (first | (with_reducible exact FA) | (with_reducible refine AtR.put ?_ hb0 _ _)), by repeat (first | (with_reducible exact MM) | (with_reducible refine Mod.put ?_ (Nat.le_refl _) _ _))⟩
            · have n1 : (x == 34) = false := by simpa using b1
              have n2 : (x == 39) = false := by simpa using b2
              have n3 : (x == 40) = false := by simpa using b3
              go_wp2_with (first
                | (go_at_call 18; refine (standAt_any T W _ b v l t p _ ST.out (by decide) (by decide)).mono ?_; rintro e w1 ⟨he, B1⟩; (first | (rw [H0.out] at he) | (rw [H1.out] at he)); subst he; replace ST := hide (ST.out.below B1); replace OW := hide (OW.out.mod hbw (Mod.of b B1)); (try clear c1 f1); have c1 := ST.out.c1; have f1 := ST.out.f1; (try clear f0 f2 f3 f4 f5 c0 c2 c3 c4 c5 g1 d1); obtain ⟨f0, g1, f2, f3, f4, f5, c0, d1, c2, c3, c4, c5⟩ := tok0_free (keep Z.out (Nat.ne_of_gt hb0) OW.out.2); clear B1)
                | (go_at_call 35; refine (isBlR_any _ _).mono ?_; rintro e w2 ⟨rfl, rfl⟩; rw [YB.out])
                | (go_at_call 99; refine (isUnR_any _ _).mono ?_; rintro e w2 ⟨rfl, rfl⟩; rw [YU.out])
                | (go_at_call 39; refine (escR_any _ _ _).mono ?_; rintro e w2 ⟨rfl, rfl⟩; rw [YE.out])
                | (go_at_call 98; refine (restR_any T W _ b v l t (ST.out.at (by omega))).mono ?_; rintro e w8 ⟨⟨z8, he, hz8⟩, A2, M2⟩; replace he : e = .returned (.agg #[.int .i64 8, .string z8, .int .i64 0, .int .i64 0, .bool false, .bool false]) := he; subst he; replace hz8 := hide hz8; have A3 := hide A2; replace OW := hide (OW.out.mod hbw M2); clear A2 M2; (try clear c1 f1); (try clear f0 f2 f3 f4 f5 c0 c2 c3 c4 c5 g1 d1); obtain ⟨f0, g1, f2, f3, f4, f5, c0, d1, c2, c3, c4, c5⟩ := tok0_free (keep Z.out (Nat.ne_of_gt hb0) OW.out.2)))
              have FA := A3.out
              have MM := Mod.trans M0.out OW.out.2
              refine bodyPost_ret (v := tkV 8 z8 0 0 false false) (by simp [results, Tryz.results74, go_sem, tkV, c0, d1, c2, c3, c4, c5]) rfl ?_
              exact ⟨by rw [E.out]; exact ⟨z8, rfl, hz8.out⟩, by rw [E.out]; repeat (first | (with_reducible exact FA) | (with_reducible refine AtR.put ?_ hb0 _ _)), by repeat (first | (with_reducible exact MM) | (with_reducible refine Mod.put ?_ (Nat.le_refl _) _ _))⟩
        · have E := R.out.trans (url_esc (by rw [hx0]; exact hd) (by rw [hx0]; exact hyb) (by rw [hx0, hy0]; exact hye))
          rw [ht1] at E
          obtain rfl : x = 92 := by unfold es2 at hye; simp at hye; exact hye.1
          have YU := hide (show isUn 92 = false by decide)
          have LT := tesc_len t1
          obtain ⟨⟨z, r⟩, hzr⟩ : ∃ q, tesc t1 = q := ⟨_, rfl⟩
          rw [hzr] at E LT
          have TZ := hide hzr
          replace E := hide E
          clear hx0 hy0 ht1 hyb hye hd hzr
          go_wp2_with (first
            | (go_at_call 18; refine (standAt_any T W _ b v l t p _ ST.out (by decide) (by decide)).mono ?_; rintro e w1 ⟨he, B1⟩; (first | (rw [H0.out] at he) | (rw [H1.out] at he)); subst he; replace ST := hide (ST.out.below B1); replace OW := hide (OW.out.mod hbw (Mod.of b B1)); (try clear c1 f1); have c1 := ST.out.c1; have f1 := ST.out.f1; (try clear f0 f2 f3 f4 f5 c0 c2 c3 c4 c5 g1 d1); obtain ⟨f0, g1, f2, f3, f4, f5, c0, d1, c2, c3, c4, c5⟩ := tok0_free (keep Z.out (Nat.ne_of_gt hb0) OW.out.2); clear B1)
            | (go_at_call 35; refine (isBlR_any _ _).mono ?_; rintro e w2 ⟨rfl, rfl⟩; rw [YB.out])
            | (go_at_call 99; refine (isUnR_any _ _).mono ?_; rintro e w2 ⟨rfl, rfl⟩; rw [YU.out])
            | (go_at_call 39; refine (escR_any _ _ _).mono ?_; rintro e w2 ⟨rfl, rfl⟩; rw [YE.out])
            | (go_at_call 68; refine (takenR_any T W _ b v l t1 (by have := ST.out.inc 1 ((p : Int) + 1) (by omega) (by omega); rw [T1.out] at this; exact this.at (by omega))).mono ?_; rintro e w4 ⟨he, A2, M2⟩; rw [TZ.out] at he A2; subst he; replace OW := hide (OW.out.mod hbw (Mod.trans (ST.out.mod ((p : Int) + 1)) M2)); have A1 := hide A2; clear A2 M2 ST c1 f1; clear f0 f2 f3 f4 f5 c0 c2 c3 c4 c5 g1 d1)
            | (at_builtin; refine wpList_append_own _ rfl _ _ 22 rfl w0.heap.size 21 i0 (.int .i32 0) 1 4 Tryz.underlying22 hi hz0 hz1 hz2 rfl (by decide) _ _ _ rfl (OW.out.1.alloc _) ⟨_, 0, none⟩ 1 1 [.int .i32 z] rfl rfl (news1 _ _ _) (by intro u hu; simp at hu; subst hu; rfl) (by unfold maxLen; omega) (by omega) (by have := OW.out.2.size; simp; omega) ?_; intro v' w5 hown' hgrow _; replace A1 := hide (A1.out.grow hbw OW.out hgrow); replace OW := hide (OW.out.grow (ys := [z]) hown' hgrow); clear hown' hgrow))
          go_roundg (gk - 1)
          case measure => omega
          case rel => exact .mk (xs ++ [z]) r A1.out (by omega) (by rw [List.length_append, List.length_singleton]; omega) OW.out E.out
      · obtain ⟨u, hu⟩ : ∃ u, bls t = u := ⟨_, rfl⟩
        have UB := hide hu
        have LU := bls_lt (s := t) (by rw [hx0]; exact hyb)
        rw [hu] at LU
        obtain ⟨k, hk0⟩ : ∃ k, nx u 0 = k := ⟨_, rfl⟩
        have HU := hide (show nx u (Int.toNat 0) = k from hk0)
        by_cases hg2 : k = -1 ∨ k = 41
        · have E := R.out.trans (url_blg (by rw [hx0]; exact hd) (by rw [hx0]; exact hyb) (by rw [hu, hk0]; exact hg2))
          rw [hu] at E
          replace E := hide E
          clear hx0 hy0 ht1 hyb hu hk0 hd
          rcases hg2 with rfl | rfl
          · skip
            go_wp2_with (first
              | (go_at_call 18; refine (standAt_any T W _ b v l t p _ ST.out (by decide) (by decide)).mono ?_; rintro e w1 ⟨he, B1⟩; (first | (rw [H0.out] at he) | (rw [H1.out] at he)); subst he; replace ST := hide (ST.out.below B1); replace OW := hide (OW.out.mod hbw (Mod.of b B1)); (try clear c1 f1); have c1 := ST.out.c1; have f1 := ST.out.f1; (try clear f0 f2 f3 f4 f5 c0 c2 c3 c4 c5 g1 d1); obtain ⟨f0, g1, f2, f3, f4, f5, c0, d1, c2, c3, c4, c5⟩ := tok0_free (keep Z.out (Nat.ne_of_gt hb0) OW.out.2); clear B1)
              | (go_at_call 35; refine (isBlR_any _ _).mono ?_; rintro e w2 ⟨rfl, rfl⟩; rw [YB.out])
              | (go_at_call 36; refine (blanksR_any T W _ b v l t (ST.out.at (by omega))).mono ?_; rintro e w6 ⟨rfl, A2, M2⟩; rw [UB.out] at A2; have A1 := hide A2; replace OW := hide (OW.out.mod hbw M2); clear A2 M2 ST c1 f1; (try clear f0 f2 f3 f4 f5 c0 c2 c3 c4 c5 g1 d1); obtain ⟨f0, g1, f2, f3, f4, f5, c0, d1, c2, c3, c4, c5⟩ := tok0_free (keep Z.out (Nat.ne_of_gt hb0) OW.out.2))
              | (go_at_call 18; refine (atR_any T W _ b v l u _ A1.out.r (by decide) (by decide)).mono ?_; rintro e w7 ⟨he, B1⟩; rw [HU.out] at he; subst he; replace A1 := hide (A1.out.below B1); replace OW := hide (OW.out.mod hbw (Mod.of b B1)); clear B1; (try clear f0 f2 f3 f4 f5 c0 c2 c3 c4 c5 g1 d1); obtain ⟨f0, g1, f2, f3, f4, f5, c0, d1, c2, c3, c4, c5⟩ := tok0_free (keep Z.out (Nat.ne_of_gt hb0) OW.out.2)))
            go_roundg (gk - 1)
            case measure => omega
            case rel => exact .mk xs u A1.out (by omega) (by omega) OW.out E.out
          · skip
            go_wp2_with (first
              | (go_at_call 18; refine (standAt_any T W _ b v l t p _ ST.out (by decide) (by decide)).mono ?_; rintro e w1 ⟨he, B1⟩; (first | (rw [H0.out] at he) | (rw [H1.out] at he)); subst he; replace ST := hide (ST.out.below B1); replace OW := hide (OW.out.mod hbw (Mod.of b B1)); (try clear c1 f1); have c1 := ST.out.c1; have f1 := ST.out.f1; (try clear f0 f2 f3 f4 f5 c0 c2 c3 c4 c5 g1 d1); obtain ⟨f0, g1, f2, f3, f4, f5, c0, d1, c2, c3, c4, c5⟩ := tok0_free (keep Z.out (Nat.ne_of_gt hb0) OW.out.2); clear B1)
              | (go_at_call 35; refine (isBlR_any _ _).mono ?_; rintro e w2 ⟨rfl, rfl⟩; rw [YB.out])
              | (go_at_call 36; refine (blanksR_any T W _ b v l t (ST.out.at (by omega))).mono ?_; rintro e w6 ⟨rfl, A2, M2⟩; rw [UB.out] at A2; have A1 := hide A2; replace OW := hide (OW.out.mod hbw M2); clear A2 M2 ST c1 f1; (try clear f0 f2 f3 f4 f5 c0 c2 c3 c4 c5 g1 d1); obtain ⟨f0, g1, f2, f3, f4, f5, c0, d1, c2, c3, c4, c5⟩ := tok0_free (keep Z.out (Nat.ne_of_gt hb0) OW.out.2))
              | (go_at_call 18; refine (atR_any T W _ b v l u _ A1.out.r (by decide) (by decide)).mono ?_; rintro e w7 ⟨he, B1⟩; rw [HU.out] at he; subst he; replace A1 := hide (A1.out.below B1); replace OW := hide (OW.out.mod hbw (Mod.of b B1)); clear B1; (try clear f0 f2 f3 f4 f5 c0 c2 c3 c4 c5 g1 d1); obtain ⟨f0, g1, f2, f3, f4, f5, c0, d1, c2, c3, c4, c5⟩ := tok0_free (keep Z.out (Nat.ne_of_gt hb0) OW.out.2)))
            go_roundg (gk - 1)
            case measure => omega
            case rel => exact .mk xs u A1.out (by omega) (by omega) OW.out E.out
        · have E := R.out.trans (url_blb (by rw [hx0]; exact hd) (by rw [hx0]; exact hyb) (by rw [hu, hk0]; exact hg2))
          rw [hu] at E
          replace E := hide E
          have n1 : (k != -1) = true := by simp; intro e; exact hg2 (.inl e)
          have n2 : (k != 41) = true := by simp; intro e; exact hg2 (.inr e)
          clear hx0 hy0 ht1 hyb hu hk0 hd hg2
          go_wp2_with (first
            | (go_at_call 18; refine (standAt_any T W _ b v l t p _ ST.out (by decide) (by decide)).mono ?_; rintro e w1 ⟨he, B1⟩; (first | (rw [H0.out] at he) | (rw [H1.out] at he)); subst he; replace ST := hide (ST.out.below B1); replace OW := hide (OW.out.mod hbw (Mod.of b B1)); (try clear c1 f1); have c1 := ST.out.c1; have f1 := ST.out.f1; (try clear f0 f2 f3 f4 f5 c0 c2 c3 c4 c5 g1 d1); obtain ⟨f0, g1, f2, f3, f4, f5, c0, d1, c2, c3, c4, c5⟩ := tok0_free (keep Z.out (Nat.ne_of_gt hb0) OW.out.2); clear B1)
            | (go_at_call 35; refine (isBlR_any _ _).mono ?_; rintro e w2 ⟨rfl, rfl⟩; rw [YB.out])
            | (go_at_call 36; refine (blanksR_any T W _ b v l t (ST.out.at (by omega))).mono ?_; rintro e w6 ⟨rfl, A2, M2⟩; rw [UB.out] at A2; have A1 := hide A2; replace OW := hide (OW.out.mod hbw M2); clear A2 M2 ST c1 f1; (try clear f0 f2 f3 f4 f5 c0 c2 c3 c4 c5 g1 d1); obtain ⟨f0, g1, f2, f3, f4, f5, c0, d1, c2, c3, c4, c5⟩ := tok0_free (keep Z.out (Nat.ne_of_gt hb0) OW.out.2))
            | (go_at_call 18; refine (atR_any T W _ b v l u _ A1.out.r (by decide) (by decide)).mono ?_; rintro e w7 ⟨he, B1⟩; rw [HU.out] at he; subst he; replace A1 := hide (A1.out.below B1); replace OW := hide (OW.out.mod hbw (Mod.of b B1)); clear B1; (try clear f0 f2 f3 f4 f5 c0 c2 c3 c4 c5 g1 d1); obtain ⟨f0, g1, f2, f3, f4, f5, c0, d1, c2, c3, c4, c5⟩ := tok0_free (keep Z.out (Nat.ne_of_gt hb0) OW.out.2))
            | (go_at_call 98; refine (restR_any T W _ b v l u A1.out).mono ?_; rintro e w8 ⟨⟨z8, he, hz8⟩, A2, M2⟩; replace he : e = .returned (.agg #[.int .i64 8, .string z8, .int .i64 0, .int .i64 0, .bool false, .bool false]) := he; subst he; replace hz8 := hide hz8; have A3 := hide A2; replace OW := hide (OW.out.mod hbw M2); clear A2 M2; (try clear c1 f1); (try clear f0 f2 f3 f4 f5 c0 c2 c3 c4 c5 g1 d1); obtain ⟨f0, g1, f2, f3, f4, f5, c0, d1, c2, c3, c4, c5⟩ := tok0_free (keep Z.out (Nat.ne_of_gt hb0) OW.out.2)))
          have FA := A3.out
          have MM := Mod.trans M0.out OW.out.2
          refine bodyPost_ret (v := tkV 8 z8 0 0 false false) (by simp [results, Tryz.results74, go_sem, tkV, c0, d1, c2, c3, c4, c5]) rfl ?_
          exact ⟨by rw [E.out]; exact ⟨z8, rfl, hz8.out⟩, by rw [E.out]; repeat (first | (with_reducible exact FA) | (with_reducible refine AtR.put ?_ hb0 _ _)), by repeat (first | (with_reducible exact MM) | (with_reducible refine Mod.put ?_ (Nat.le_refl _) _ _))⟩
end Go.Proofs.YtckefmhleklciaaGreatDoor
