/-
  The reference's urls.
  The reference's names by letters alike.
  The reference's words.
  Digits times a power of ten, by the reference.
-/
import Derived.Test.YtlkocepoohhglaaDoorA21
import Derived.Laws.IdiomStrings
import Derived.Test.YtlkocepoohhglaaDoorA14
import Derived.Lib.SmallJoins
import Derived.Lib.ConvBytes
import Derived.Deep.RegionWith
set_option linter.unusedVariables false
set_option linter.unusedSimpArgs false
namespace Go.Proofs.YtlkocepoohhglaaDoor
open Go.RowKit

theorem bar_cases {x : Int} (h : isBar x = true) : x = 34 ∨ x = 39 ∨ x = 40 ∨ x = 92 ∨ (x ≠ 34 ∧ x ≠ 39 ∧ x ≠ 40 ∧ x ≠ 92 ∧ isUn x = true) := by
  unfold isBar isQ at h
  simp only [Bool.or_eq_true, beq_iff_eq] at h
  by_cases h1 : x = 34
  · exact .inl h1
  by_cases h2 : x = 39
  · exact .inr (.inl h2)
  by_cases h3 : x = 40
  · exact .inr (.inr (.inl h3))
  by_cases h4 : x = 92
  · exact .inr (.inr (.inr (.inl h4)))
  rcases h with (((h | h) | h) | h) | h
  · exact absurd h h1
  · exact absurd h h2
  · exact absurd h h3
  · exact absurd h h4
  · exact .inr (.inr (.inr (.inr ⟨h1, h2, h3, h4, h⟩)))
set_option maxRecDepth 100000 in
set_option maxHeartbeats 4000000 in
theorem urlR_any (T : TypeId) (W w : World) (b : Nat) (v : Value) (l s0 s : List Int) (hL : l.length ≤ 35184372088832) (hbs : bls s0 = s) (h : At T W w b v l s0) :
    Calls Tryd.prog 79 #[.pointer (some ⟨b, 0, none⟩)] w fun e w' => Tells e (url [] s).1 ∧ AtR T W w' b v l (url [] s).2 ∧ w.grownBy w' (some b) := by
  obtain ⟨i0, hi, hz0, hz1, hz2⟩ := info_parts info32
  have hb0 := h.lt
  have nb1 : ¬ w.heap.size = b := by omega
  have nb2 : ¬ b = w.heap.size := by omega
  have hbw : b < (w.alloc tok0).heap.size := by simp; omega
  have A1 := hide (h.below (bplus (Below.refl _ _) tok0))
  have M0 := hide (Mod.of b (bplus (Below.refl w.heap.size w) tok0))
  have Z := hide (tok0_alloc w)
  have hsl : s.length ≤ l.length := by have := h.len.1; have := bls_len s0; rw [hbs] at this; omega
  have BS := hide hbs
  clear h hbs
  obtain ⟨w0, hw0⟩ : ∃ w0, w.alloc tok0 = w0 := ⟨_, rfl⟩
  rw [hw0] at hbw A1 M0 Z
  have hw0' : w.alloc (.cells #[.int .i64 0, .string ⟨#[]⟩, .int .i64 0, .int .i64 0, .bool false, .bool false] 66) = w0 := hw0
  have HZ := hide hw0'
  clear hw0 hw0'
  have OW := hide (OwnM.nil b w0 .i32 21)
  go_enter Tryd.func79, Tryd.ntmps79
  go_wp2_with (go_at_call 62; rw [HZ.out]; refine (blanksR_any T W _ b v l s0 A1.out).mono ?_; rintro e w6 ⟨rfl, A2, M2⟩; rw [BS.out] at A2; replace A1 := hide A2; replace OW := hide (OW.out.mod hbw M2); clear A2 M2)
  go_loopg [3] s.length (fun g nv wr => RelTx url T W w0 b v l s s.length g nv wr)
  case atStart => exact .mk [] s A1.out (Nat.le_refl _) (by simp) OW.out rfl
  case round =>
    clear A1 OW
    obtain ⟨xs, t, A1, hg, hx, OW, R⟩ := hrel
    obtain ⟨p, ST, hpl, hlb⟩ := A1.stand
    have hp9 : p ≤ 140737488355328 := by omega
    have HXN := hide (show xs.length ≤ 4611686018427387904 by omega)
    replace ST := hide ST
    replace OW := hide OW
    clear A1
    obtain ⟨x, hx0⟩ : ∃ x, nx t 0 = x := ⟨_, rfl⟩
    have H0 := hide (show nx t (Int.toNat 0) = x from hx0)
    obtain ⟨y, hy0⟩ : ∃ y, nx t 1 = y := ⟨_, rfl⟩
    have H1 := hide (show nx t (Int.toNat 1) = y from hy0)
    obtain ⟨t1, ht1⟩ : ∃ u, t.drop 1 = u := ⟨_, rfl⟩
    have T1 := hide ht1
    have lt1 : t1.length = t.length - 1 := by rw [← ht1, List.length_drop]
    by_cases hd : x = -1 ∨ x = 41
    · have E := hide (R.out.trans (url_end (by rw [hx0]; exact hd)))
      clear hx0 hy0 ht1
      rcases hd with rfl | rfl
      all_goals
        go_wp2_with (first
          | (go_at_call 55; refine (standAt_any T W _ b v l t p _ ST.out (by decide) (by decide)).mono ?_; rintro e w1 ⟨he, B1⟩; (first | (rw [H0.out] at he) | (rw [H1.out] at he)); subst he; replace ST := hide (ST.out.below B1); replace OW := hide (OW.out.mod hbw (Mod.of b B1)); (try clear c1 f1); have c1 := ST.out.c1; have f1 := ST.out.f1; (try clear f0 f2 f3 f4 f5 c0 c2 c3 c4 c5 g1 d1); obtain ⟨f0, g1, f2, f3, f4, f5, c0, d1, c2, c3, c4, c5⟩ := tok0_free (keep Z.out (Nat.ne_of_gt hb0) OW.out.2); clear B1)
          | (go_at_call 71; have OW2 := OW.out.mod hbw (ST.out.mod ((p : Int) + 1)); refine (textR_any xs _ _ (OW2.nums HXN.out) (by omega)).mono ?_; rintro e w3 ⟨z, rfl, hz, B1⟩; replace hz := hide hz; replace ST := hide ((ST.out.inc 1 ((p : Int) + 1) (by omega) (by omega)).below B1); replace OW := hide (OW2.mod hbw (Mod.of b B1)); clear B1 OW2 c1 f1; (try clear f0 f2 f3 f4 f5 c0 c2 c3 c4 c5 g1 d1); obtain ⟨f0, g1, f2, f3, f4, f5, c0, d1, c2, c3, c4, c5⟩ := tok0_free (keep Z.out (Nat.ne_of_gt hb0) OW.out.2)))
        have FA := ST.out.atR (by omega)
        have MM := Mod.trans M0.out OW.out.2
        refine bodyPost_ret (v := tkV 7 z 0 0 false false) (by simp [results, Tryd.results79, go_sem, tkV, c0, d1, c2, c3, c4, c5]) rfl ?_
        exact ⟨.tkt (congrArg Prod.fst E.out) hz.out, by rw [E.out]; repeat (first | (with_reducible exact FA) | (with_reducible refine AtR.put ?_ hb0 _ _)), by repeat (first | (with_reducible exact MM) | (with_reducible refine Mod.put ?_ (Nat.le_refl _) _ _))⟩
    · have e1 : (x == -1) = false := by simp; intro e; exact hd (.inl e)
      have e2 : (x == 41) = false := by simp; intro e; exact hd (.inr e)
      have L := nx_pos (s := t) (by rw [hx0]; intro e; exact hd (.inl e))
      obtain ⟨yb, hyb⟩ : ∃ q, isBl x = q := ⟨_, rfl⟩
      have YB := hide hyb
      cases yb
      · obtain ⟨ye, hye⟩ : ∃ q, es2 x y = q := ⟨_, rfl⟩
        have YE := hide hye
        cases ye
        · obtain ⟨yk, hyk⟩ : ∃ q, isBar x = q := ⟨_, rfl⟩
          cases yk
          · have E := R.out.trans (url_go (by rw [hx0]; exact hd) (by rw [hx0]; exact hyb) (by rw [hx0, hy0]; exact hye) (by rw [hx0]; exact hyk))
            rw [hx0, ht1] at E
            replace E := hide E
            have hbr : isQ x = false ∧ (x == 40) = false ∧ (x == 92) = false ∧ isUn x = false := by unfold isBar at hyk; simp only [Bool.or_eq_false_iff] at hyk; exact ⟨hyk.1.1.1, hyk.1.1.2, hyk.1.2, hyk.2⟩
            obtain ⟨b1, b2, b3, b4⟩ := hbr
            have YU := hide b4
            have b5 : (x == 34) = false ∧ (x == 39) = false := by unfold isQ at b1; simpa using b1
            obtain ⟨b6, b7⟩ := b5
            clear hx0 hy0 ht1 hyb hye hyk b1 b4 hd
            go_wp2_with (first
              | (go_at_call 55; refine (standAt_any T W _ b v l t p _ ST.out (by decide) (by decide)).mono ?_; rintro e w1 ⟨he, B1⟩; (first | (rw [H0.out] at he) | (rw [H1.out] at he)); subst he; replace ST := hide (ST.out.below B1); replace OW := hide (OW.out.mod hbw (Mod.of b B1)); (try clear c1 f1); have c1 := ST.out.c1; have f1 := ST.out.f1; (try clear f0 f2 f3 f4 f5 c0 c2 c3 c4 c5 g1 d1); obtain ⟨f0, g1, f2, f3, f4, f5, c0, d1, c2, c3, c4, c5⟩ := tok0_free (keep Z.out (Nat.ne_of_gt hb0) OW.out.2); clear B1)
              | (go_at_call 61; refine (isBlR_any _ _).mono ?_; rintro e w2 ⟨rfl, rfl⟩; rw [YB.out])
              | (go_at_call 88; refine (isUnR_any _ _).mono ?_; rintro e w2 ⟨rfl, rfl⟩; rw [YU.out])
              | (go_at_call 65; refine (escR_any _ _ _).mono ?_; rintro e w2 ⟨rfl, rfl⟩; rw [YE.out])
              | (at_builtin; refine wpList_append_own _ rfl _ _ 81 rfl w0.heap.size 21 i0 (.int .i32 0) 1 4 Tryd.underlying81 hi hz0 hz1 hz2 rfl (by decide) _ _ _ rfl (OW.out.1.alloc _) ⟨_, 0, none⟩ 1 1 [.int .i32 x] rfl rfl (news1 _ _ _) (by intro u hu; simp at hu; subst hu; rfl) (by unfold maxLen; omega) (by omega) (by have := OW.out.2.size; simp; omega) ?_; intro v' w5 hown' hgrow _; replace ST := hide (ST.out.grow hbw OW.out hgrow); replace OW := hide (OW.out.grow (ys := [x]) hown' hgrow); (try clear c1 f1); have c1 := ST.out.c1; have f1 := ST.out.f1; clear hown' hgrow; clear f0 f2 f3 f4 f5 c0 c2 c3 c4 c5 g1 d1))
            go_roundg (gk - 1)
            case measure => omega
            case rel => exact .mk (xs ++ [x]) t1 (by have := ST.out.inc 1 ((p : Int) + 1) (by omega) (by omega); rw [T1.out] at this; exact this.at (by omega)) (by omega) (by rw [List.length_append, List.length_singleton]; omega) (OW.out.mod hbw (ST.out.mod _)) E.out
          · have E := hide (R.out.trans (url_bar (by rw [hx0]; exact hd) (by rw [hx0]; exact hyb) (by rw [hx0, hy0]; exact hye) (by rw [hx0]; exact hyk)))
            obtain ⟨yu, hyu⟩ : ∃ q, isUn x = q := ⟨_, rfl⟩
            have YU := hide hyu
            have hbr : x = 34 ∨ x = 39 ∨ x = 40 ∨ x = 92 ∨ (x ≠ 34 ∧ x ≠ 39 ∧ x ≠ 40 ∧ x ≠ 92 ∧ yu = true) := by rw [← hyu]; exact bar_cases hyk
            clear hx0 hy0 ht1 hyb hye hyk hyu hd
            rcases hbr with rfl | rfl | rfl | rfl | ⟨b1, b2, b3, b4, rfl⟩
            · skip
              go_wp2_with (first
                | (go_at_call 55; refine (standAt_any T W _ b v l t p _ ST.out (by decide) (by decide)).mono ?_; rintro e w1 ⟨he, B1⟩; (first | (rw [H0.out] at he) | (rw [H1.out] at he)); subst he; replace ST := hide (ST.out.below B1); replace OW := hide (OW.out.mod hbw (Mod.of b B1)); (try clear c1 f1); have c1 := ST.out.c1; have f1 := ST.out.f1; (try clear f0 f2 f3 f4 f5 c0 c2 c3 c4 c5 g1 d1); obtain ⟨f0, g1, f2, f3, f4, f5, c0, d1, c2, c3, c4, c5⟩ := tok0_free (keep Z.out (Nat.ne_of_gt hb0) OW.out.2); clear B1)
                | (go_at_call 61; refine (isBlR_any _ _).mono ?_; rintro e w2 ⟨rfl, rfl⟩; rw [YB.out])
                | (go_at_call 88; refine (isUnR_any _ _).mono ?_; rintro e w2 ⟨rfl, rfl⟩; rw [YU.out])
                | (go_at_call 65; refine (escR_any _ _ _).mono ?_; rintro e w2 ⟨rfl, rfl⟩; rw [YE.out])
                | (go_at_call 87; refine (restR_any T W _ b v l t (ST.out.at (by omega))).mono ?_; rintro e w8 ⟨⟨z8, he, hz8⟩, A2, M2⟩; replace he : e = .returned (.agg #[.int .i64 8, .string z8, .int .i64 0, .int .i64 0, .bool false, .bool false]) := he; subst he; replace hz8 := hide hz8; have A3 := hide A2; replace OW := hide (OW.out.mod hbw M2); clear A2 M2; (try clear c1 f1); (try clear f0 f2 f3 f4 f5 c0 c2 c3 c4 c5 g1 d1); obtain ⟨f0, g1, f2, f3, f4, f5, c0, d1, c2, c3, c4, c5⟩ := tok0_free (keep Z.out (Nat.ne_of_gt hb0) OW.out.2)))
              have FA := A3.out
              have MM := Mod.trans M0.out OW.out.2
              refine bodyPost_ret (v := tkV 8 z8 0 0 false false) (by simp [results, Tryd.results79, go_sem, tkV, c0, d1, c2, c3, c4, c5]) rfl ?_
              exact ⟨by rw [E.out]; exact ⟨z8, rfl, hz8.out⟩, by rw [E.out]; repeat (first | (with_reducible exact FA) | (with_reducible refine AtR.put ?_ hb0 _ _)), by repeat (first | (with_reducible exact MM) | (with_reducible refine Mod.put ?_ (Nat.le_refl _) _ _))⟩
            · skip
              go_wp2_with (first
                | (go_at_call 55; refine (standAt_any T W _ b v l t p _ ST.out (by decide) (by decide)).mono ?_; rintro e w1 ⟨he, B1⟩; (first | (rw [H0.out] at he) | (rw [H1.out] at he)); subst he; replace ST := hide (ST.out.below B1); replace OW := hide (OW.out.mod hbw (Mod.of b B1)); (try clear c1 f1); have c1 := ST.out.c1; have f1 := ST.out.f1; (try clear f0 f2 f3 f4 f5 c0 c2 c3 c4 c5 g1 d1); obtain ⟨f0, g1, f2, f3, f4, f5, c0, d1, c2, c3, c4, c5⟩ := tok0_free (keep Z.out (Nat.ne_of_gt hb0) OW.out.2); clear B1)
                | (go_at_call 61; refine (isBlR_any _ _).mono ?_; rintro e w2 ⟨rfl, rfl⟩; rw [YB.out])
                | (go_at_call 88; refine (isUnR_any _ _).mono ?_; rintro e w2 ⟨rfl, rfl⟩; rw [YU.out])
                | (go_at_call 65; refine (escR_any _ _ _).mono ?_; rintro e w2 ⟨rfl, rfl⟩; rw [YE.out])
                | (go_at_call 87; refine (restR_any T W _ b v l t (ST.out.at (by omega))).mono ?_; rintro e w8 ⟨⟨z8, he, hz8⟩, A2, M2⟩; replace he : e = .returned (.agg #[.int .i64 8, .string z8, .int .i64 0, .int .i64 0, .bool false, .bool false]) := he; subst he; replace hz8 := hide hz8; have A3 := hide A2; replace OW := hide (OW.out.mod hbw M2); clear A2 M2; (try clear c1 f1); (try clear f0 f2 f3 f4 f5 c0 c2 c3 c4 c5 g1 d1); obtain ⟨f0, g1, f2, f3, f4, f5, c0, d1, c2, c3, c4, c5⟩ := tok0_free (keep Z.out (Nat.ne_of_gt hb0) OW.out.2)))
              have FA := A3.out
              have MM := Mod.trans M0.out OW.out.2
              refine bodyPost_ret (v := tkV 8 z8 0 0 false false) (by simp [results, Tryd.results79, go_sem, tkV, c0, d1, c2, c3, c4, c5]) rfl ?_
              exact ⟨by rw [E.out]; exact ⟨z8, rfl, hz8.out⟩, by rw [E.out]; repeat (first | (with_reducible exact FA) | (with_reducible refine AtR.put ?_ hb0 _ _)), by repeat (first | (with_reducible exact MM) | (with_reducible refine Mod.put ?_ (Nat.le_refl _) _ _))⟩
            · skip
              go_wp2_with (first
                | (go_at_call 55; refine (standAt_any T W _ b v l t p _ ST.out (by decide) (by decide)).mono ?_; rintro e w1 ⟨he, B1⟩; (first | (rw [H0.out] at he) | (rw [H1.out] at he)); subst he; replace ST := hide (ST.out.below B1); replace OW := hide (OW.out.mod hbw (Mod.of b B1)); (try clear c1 f1); have c1 := ST.out.c1; have f1 := ST.out.f1; (try clear f0 f2 f3 f4 f5 c0 c2 c3 c4 c5 g1 d1); obtain ⟨f0, g1, f2, f3, f4, f5, c0, d1, c2, c3, c4, c5⟩ := tok0_free (keep Z.out (Nat.ne_of_gt hb0) OW.out.2); clear B1)
                | (go_at_call 61; refine (isBlR_any _ _).mono ?_; rintro e w2 ⟨rfl, rfl⟩; rw [YB.out])
                | (go_at_call 88; refine (isUnR_any _ _).mono ?_; rintro e w2 ⟨rfl, rfl⟩; rw [YU.out])
                | (go_at_call 65; refine (escR_any _ _ _).mono ?_; rintro e w2 ⟨rfl, rfl⟩; rw [YE.out])
                | (go_at_call 87; refine (restR_any T W _ b v l t (ST.out.at (by omega))).mono ?_; rintro e w8 ⟨⟨z8, he, hz8⟩, A2, M2⟩; replace he : e = .returned (.agg #[.int .i64 8, .string z8, .int .i64 0, .int .i64 0, .bool false, .bool false]) := he; subst he; replace hz8 := hide hz8; have A3 := hide A2; replace OW := hide (OW.out.mod hbw M2); clear A2 M2; (try clear c1 f1); (try clear f0 f2 f3 f4 f5 c0 c2 c3 c4 c5 g1 d1); obtain ⟨f0, g1, f2, f3, f4, f5, c0, d1, c2, c3, c4, c5⟩ := tok0_free (keep Z.out (Nat.ne_of_gt hb0) OW.out.2)))
              have FA := A3.out
              have MM := Mod.trans M0.out OW.out.2
              refine bodyPost_ret (v := tkV 8 z8 0 0 false false) (by simp [results, Tryd.results79, go_sem, tkV, c0, d1, c2, c3, c4, c5]) rfl ?_
              exact ⟨by rw [E.out]; exact ⟨z8, rfl, hz8.out⟩, by rw [E.out]; repeat (first | (with_reducible exact FA) | (with_reducible refine AtR.put ?_ hb0 _ _)), by repeat (first | (with_reducible exact MM) | (with_reducible refine Mod.put ?_ (Nat.le_refl _) _ _))⟩
            · have yu0 : yu = false := by have := YU.out; rw [← this]; decide
              subst yu0
              go_wp2_with (first
                | (go_at_call 55; refine (standAt_any T W _ b v l t p _ ST.out (by decide) (by decide)).mono ?_; rintro e w1 ⟨he, B1⟩; (first | (rw [H0.out] at he) | (rw [H1.out] at he)); subst he; replace ST := hide (ST.out.below B1); replace OW := hide (OW.out.mod hbw (Mod.of b B1)); (try clear c1 f1); have c1 := ST.out.c1; have f1 := ST.out.f1; (try clear f0 f2 f3 f4 f5 c0 c2 c3 c4 c5 g1 d1); obtain ⟨f0, g1, f2, f3, f4, f5, c0, d1, c2, c3, c4, c5⟩ := tok0_free (keep Z.out (Nat.ne_of_gt hb0) OW.out.2); clear B1)
                | (go_at_call 61; refine (isBlR_any _ _).mono ?_; rintro e w2 ⟨rfl, rfl⟩; rw [YB.out])
                | (go_at_call 88; refine (isUnR_any _ _).mono ?_; rintro e w2 ⟨rfl, rfl⟩; rw [YU.out])
                | (go_at_call 65; refine (escR_any _ _ _).mono ?_; rintro e w2 ⟨rfl, rfl⟩; rw [YE.out])
                | (go_at_call 87; refine (restR_any T W _ b v l t (ST.out.at (by omega))).mono ?_; rintro e w8 ⟨⟨z8, he, hz8⟩, A2, M2⟩; replace he : e = .returned (.agg #[.int .i64 8, .string z8, .int .i64 0, .int .i64 0, .bool false, .bool false]) := he; subst he; replace hz8 := hide hz8; have A3 := hide A2; replace OW := hide (OW.out.mod hbw M2); clear A2 M2; (try clear c1 f1); (try clear f0 f2 f3 f4 f5 c0 c2 c3 c4 c5 g1 d1); obtain ⟨f0, g1, f2, f3, f4, f5, c0, d1, c2, c3, c4, c5⟩ := tok0_free (keep Z.out (Nat.ne_of_gt hb0) OW.out.2)))
              have FA := A3.out
              have MM := Mod.trans M0.out OW.out.2
              refine bodyPost_ret (v := tkV 8 z8 0 0 false false) (by simp [results, Tryd.results79, go_sem, tkV, c0, d1, c2, c3, c4, c5]) rfl ?_
              exact ⟨by rw [E.out]; exact ⟨z8, rfl, hz8.out⟩, by rw [E.out]; repeat (first | (with_reducible exact FA) | (with_reducible refine AtR.put ?_ hb0 _ _)), by repeat (first | (with_reducible exact MM) | (with_reducible refine Mod.put ?_ (Nat.le_refl _) _ _))⟩
            · have n1 : (x == 34) = false := by simpa using b1
              have n2 : (x == 39) = false := by simpa using b2
              have n3 : (x == 40) = false := by simpa using b3
              go_wp2_with (first
                | (go_at_call 55; refine (standAt_any T W _ b v l t p _ ST.out (by decide) (by decide)).mono ?_; rintro e w1 ⟨he, B1⟩; (first | (rw [H0.out] at he) | (rw [H1.out] at he)); subst he; replace ST := hide (ST.out.below B1); replace OW := hide (OW.out.mod hbw (Mod.of b B1)); (try clear c1 f1); have c1 := ST.out.c1; have f1 := ST.out.f1; (try clear f0 f2 f3 f4 f5 c0 c2 c3 c4 c5 g1 d1); obtain ⟨f0, g1, f2, f3, f4, f5, c0, d1, c2, c3, c4, c5⟩ := tok0_free (keep Z.out (Nat.ne_of_gt hb0) OW.out.2); clear B1)
                | (go_at_call 61; refine (isBlR_any _ _).mono ?_; rintro e w2 ⟨rfl, rfl⟩; rw [YB.out])
                | (go_at_call 88; refine (isUnR_any _ _).mono ?_; rintro e w2 ⟨rfl, rfl⟩; rw [YU.out])
                | (go_at_call 65; refine (escR_any _ _ _).mono ?_; rintro e w2 ⟨rfl, rfl⟩; rw [YE.out])
                | (go_at_call 87; refine (restR_any T W _ b v l t (ST.out.at (by omega))).mono ?_; rintro e w8 ⟨⟨z8, he, hz8⟩, A2, M2⟩; replace he : e = .returned (.agg #[.int .i64 8, .string z8, .int .i64 0, .int .i64 0, .bool false, .bool false]) := he; subst he; replace hz8 := hide hz8; have A3 := hide A2; replace OW := hide (OW.out.mod hbw M2); clear A2 M2; (try clear c1 f1); (try clear f0 f2 f3 f4 f5 c0 c2 c3 c4 c5 g1 d1); obtain ⟨f0, g1, f2, f3, f4, f5, c0, d1, c2, c3, c4, c5⟩ := tok0_free (keep Z.out (Nat.ne_of_gt hb0) OW.out.2)))
              have FA := A3.out
              have MM := Mod.trans M0.out OW.out.2
              refine bodyPost_ret (v := tkV 8 z8 0 0 false false) (by simp [results, Tryd.results79, go_sem, tkV, c0, d1, c2, c3, c4, c5]) rfl ?_
              exact ⟨by rw [E.out]; exact ⟨z8, rfl, hz8.out⟩, by rw [E.out]; repeat (first | (with_reducible exact FA) | (with_reducible refine AtR.put ?_ hb0 _ _)), by repeat (first | (with_reducible exact MM) | (with_reducible refine Mod.put ?_ (Nat.le_refl _) _ _))⟩
        · have E := R.out.trans (url_esc (by rw [hx0]; exact hd) (by rw [hx0]; exact hyb) (by rw [hx0, hy0]; exact hye))
          rw [ht1] at E
          obtain rfl : x = 92 := by unfold es2 at hye; simp at hye; exact hye.1
          have YU := hide (show isUn 92 = false by decide)
          have LT := tesc_len t1
          obtain ⟨⟨z, r⟩, hzr⟩ : ∃ q, tesc t1 = q := ⟨_, rfl⟩
          rw [hzr] at E LT
          have TZ := hide hzr
          replace E := hide E
          clear hx0 hy0 ht1 hyb hye hd hzr
          go_wp2_with (first
            | (go_at_call 55; refine (standAt_any T W _ b v l t p _ ST.out (by decide) (by decide)).mono ?_; rintro e w1 ⟨he, B1⟩; (first | (rw [H0.out] at he) | (rw [H1.out] at he)); subst he; replace ST := hide (ST.out.below B1); replace OW := hide (OW.out.mod hbw (Mod.of b B1)); (try clear c1 f1); have c1 := ST.out.c1; have f1 := ST.out.f1; (try clear f0 f2 f3 f4 f5 c0 c2 c3 c4 c5 g1 d1); obtain ⟨f0, g1, f2, f3, f4, f5, c0, d1, c2, c3, c4, c5⟩ := tok0_free (keep Z.out (Nat.ne_of_gt hb0) OW.out.2); clear B1)
            | (go_at_call 61; refine (isBlR_any _ _).mono ?_; rintro e w2 ⟨rfl, rfl⟩; rw [YB.out])
            | (go_at_call 88; refine (isUnR_any _ _).mono ?_; rintro e w2 ⟨rfl, rfl⟩; rw [YU.out])
            | (go_at_call 65; refine (escR_any _ _ _).mono ?_; rintro e w2 ⟨rfl, rfl⟩; rw [YE.out])
            | (go_at_call 74; refine (takenR_any T W _ b v l t1 (by have := ST.out.inc 1 ((p : Int) + 1) (by omega) (by omega); rw [T1.out] at this; exact this.at (by omega))).mono ?_; rintro e w4 ⟨he, A2, M2⟩; rw [TZ.out] at he A2; subst he; replace OW := hide (OW.out.mod hbw (Mod.trans (ST.out.mod ((p : Int) + 1)) M2)); have A1 := hide A2; clear A2 M2 ST c1 f1; clear f0 f2 f3 f4 f5 c0 c2 c3 c4 c5 g1 d1)
            | (at_builtin; refine wpList_append_own _ rfl _ _ 81 rfl w0.heap.size 21 i0 (.int .i32 0) 1 4 Tryd.underlying81 hi hz0 hz1 hz2 rfl (by decide) _ _ _ rfl (OW.out.1.alloc _) ⟨_, 0, none⟩ 1 1 [.int .i32 z] rfl rfl (news1 _ _ _) (by intro u hu; simp at hu; subst hu; rfl) (by unfold maxLen; omega) (by omega) (by have := OW.out.2.size; simp; omega) ?_; intro v' w5 hown' hgrow _; replace A1 := hide (A1.out.grow hbw OW.out hgrow); replace OW := hide (OW.out.grow (ys := [z]) hown' hgrow); clear hown' hgrow))
          go_roundg (gk - 1)
          case measure => omega
          case rel => exact .mk (xs ++ [z]) r A1.out (by omega) (by rw [List.length_append, List.length_singleton]; omega) OW.out E.out
      · obtain ⟨u, hu⟩ : ∃ u, bls t = u := ⟨_, rfl⟩
        have UB := hide hu
        have LU := bls_lt (s := t) (by rw [hx0]; exact hyb)
        rw [hu] at LU
        obtain ⟨k, hk0⟩ : ∃ k, nx u 0 = k := ⟨_, rfl⟩
        have HU := hide (show nx u (Int.toNat 0) = k from hk0)
        by_cases hg2 : k = -1 ∨ k = 41
        · have E := R.out.trans (url_blg (by rw [hx0]; exact hd) (by rw [hx0]; exact hyb) (by rw [hu, hk0]; exact hg2))
          rw [hu] at E
          replace E := hide E
          clear hx0 hy0 ht1 hyb hu hk0 hd
          rcases hg2 with rfl | rfl
          · skip
            go_wp2_with (first
              | (go_at_call 55; refine (standAt_any T W _ b v l t p _ ST.out (by decide) (by decide)).mono ?_; rintro e w1 ⟨he, B1⟩; (first | (rw [H0.out] at he) | (rw [H1.out] at he)); subst he; replace ST := hide (ST.out.below B1); replace OW := hide (OW.out.mod hbw (Mod.of b B1)); (try clear c1 f1); have c1 := ST.out.c1; have f1 := ST.out.f1; (try clear f0 f2 f3 f4 f5 c0 c2 c3 c4 c5 g1 d1); obtain ⟨f0, g1, f2, f3, f4, f5, c0, d1, c2, c3, c4, c5⟩ := tok0_free (keep Z.out (Nat.ne_of_gt hb0) OW.out.2); clear B1)
              | (go_at_call 61; refine (isBlR_any _ _).mono ?_; rintro e w2 ⟨rfl, rfl⟩; rw [YB.out])
              | (go_at_call 62; refine (blanksR_any T W _ b v l t (ST.out.at (by omega))).mono ?_; rintro e w6 ⟨rfl, A2, M2⟩; rw [UB.out] at A2; have A1 := hide A2; replace OW := hide (OW.out.mod hbw M2); clear A2 M2 ST c1 f1; (try clear f0 f2 f3 f4 f5 c0 c2 c3 c4 c5 g1 d1); obtain ⟨f0, g1, f2, f3, f4, f5, c0, d1, c2, c3, c4, c5⟩ := tok0_free (keep Z.out (Nat.ne_of_gt hb0) OW.out.2))
              | (go_at_call 55; refine (atR_any T W _ b v l u _ A1.out.r (by decide) (by decide)).mono ?_; rintro e w7 ⟨he, B1⟩; rw [HU.out] at he; subst he; replace A1 := hide (A1.out.below B1); replace OW := hide (OW.out.mod hbw (Mod.of b B1)); clear B1; (try clear f0 f2 f3 f4 f5 c0 c2 c3 c4 c5 g1 d1); obtain ⟨f0, g1, f2, f3, f4, f5, c0, d1, c2, c3, c4, c5⟩ := tok0_free (keep Z.out (Nat.ne_of_gt hb0) OW.out.2)))
            go_roundg (gk - 1)
            case measure => omega
            case rel => exact .mk xs u A1.out (by omega) (by omega) OW.out E.out
          · skip
            go_wp2_with (first
              | (go_at_call 55; refine (standAt_any T W _ b v l t p _ ST.out (by decide) (by decide)).mono ?_; rintro e w1 ⟨he, B1⟩; (first | (rw [H0.out] at he) | (rw [H1.out] at he)); subst he; replace ST := hide (ST.out.below B1); replace OW := hide (OW.out.mod hbw (Mod.of b B1)); (try clear c1 f1); have c1 := ST.out.c1; have f1 := ST.out.f1; (try clear f0 f2 f3 f4 f5 c0 c2 c3 c4 c5 g1 d1); obtain ⟨f0, g1, f2, f3, f4, f5, c0, d1, c2, c3, c4, c5⟩ := tok0_free (keep Z.out (Nat.ne_of_gt hb0) OW.out.2); clear B1)
              | (go_at_call 61; refine (isBlR_any _ _).mono ?_; rintro e w2 ⟨rfl, rfl⟩; rw [YB.out])
              | (go_at_call 62; refine (blanksR_any T W _ b v l t (ST.out.at (by omega))).mono ?_; rintro e w6 ⟨rfl, A2, M2⟩; rw [UB.out] at A2; have A1 := hide A2; replace OW := hide (OW.out.mod hbw M2); clear A2 M2 ST c1 f1; (try clear f0 f2 f3 f4 f5 c0 c2 c3 c4 c5 g1 d1); obtain ⟨f0, g1, f2, f3, f4, f5, c0, d1, c2, c3, c4, c5⟩ := tok0_free (keep Z.out (Nat.ne_of_gt hb0) OW.out.2))
              | (go_at_call 55; refine (atR_any T W _ b v l u _ A1.out.r (by decide) (by decide)).mono ?_; rintro e w7 ⟨he, B1⟩; rw [HU.out] at he; subst he; replace A1 := hide (A1.out.below B1); replace OW := hide (OW.out.mod hbw (Mod.of b B1)); clear B1; (try clear f0 f2 f3 f4 f5 c0 c2 c3 c4 c5 g1 d1); obtain ⟨f0, g1, f2, f3, f4, f5, c0, d1, c2, c3, c4, c5⟩ := tok0_free (keep Z.out (Nat.ne_of_gt hb0) OW.out.2)))
            go_roundg (gk - 1)
            case measure => omega
            case rel => exact .mk xs u A1.out (by omega) (by omega) OW.out E.out
        · have E := R.out.trans (url_blb (by rw [hx0]; exact hd) (by rw [hx0]; exact hyb) (by rw [hu, hk0]; exact hg2))
          rw [hu] at E
          replace E := hide E
          have n1 : (k != -1) = true := by simp; intro e; exact hg2 (.inl e)
          have n2 : (k != 41) = true := by simp; intro e; exact hg2 (.inr e)
          clear hx0 hy0 ht1 hyb hu hk0 hd hg2
          go_wp2_with (first
            | (go_at_call 55; refine (standAt_any T W _ b v l t p _ ST.out (by decide) (by decide)).mono ?_; rintro e w1 ⟨he, B1⟩; (first | (rw [H0.out] at he) | (rw [H1.out] at he)); subst he; replace ST := hide (ST.out.below B1); replace OW := hide (OW.out.mod hbw (Mod.of b B1)); (try clear c1 f1); have c1 := ST.out.c1; have f1 := ST.out.f1; (try clear f0 f2 f3 f4 f5 c0 c2 c3 c4 c5 g1 d1); obtain ⟨f0, g1, f2, f3, f4, f5, c0, d1, c2, c3, c4, c5⟩ := tok0_free (keep Z.out (Nat.ne_of_gt hb0) OW.out.2); clear B1)
            | (go_at_call 61; refine (isBlR_any _ _).mono ?_; rintro e w2 ⟨rfl, rfl⟩; rw [YB.out])
            | (go_at_call 62; refine (blanksR_any T W _ b v l t (ST.out.at (by omega))).mono ?_; rintro e w6 ⟨rfl, A2, M2⟩; rw [UB.out] at A2; have A1 := hide A2; replace OW := hide (OW.out.mod hbw M2); clear A2 M2 ST c1 f1; (try clear f0 f2 f3 f4 f5 c0 c2 c3 c4 c5 g1 d1); obtain ⟨f0, g1, f2, f3, f4, f5, c0, d1, c2, c3, c4, c5⟩ := tok0_free (keep Z.out (Nat.ne_of_gt hb0) OW.out.2))
            | (go_at_call 55; refine (atR_any T W _ b v l u _ A1.out.r (by decide) (by decide)).mono ?_; rintro e w7 ⟨he, B1⟩; rw [HU.out] at he; subst he; replace A1 := hide (A1.out.below B1); replace OW := hide (OW.out.mod hbw (Mod.of b B1)); clear B1; (try clear f0 f2 f3 f4 f5 c0 c2 c3 c4 c5 g1 d1); obtain ⟨f0, g1, f2, f3, f4, f5, c0, d1, c2, c3, c4, c5⟩ := tok0_free (keep Z.out (Nat.ne_of_gt hb0) OW.out.2))
            | (go_at_call 87; refine (restR_any T W _ b v l u A1.out).mono ?_; rintro e w8 ⟨⟨z8, he, hz8⟩, A2, M2⟩; replace he : e = .returned (.agg #[.int .i64 8, .string z8, .int .i64 0, .int .i64 0, .bool false, .bool false]) := he; subst he; replace hz8 := hide hz8; have A3 := hide A2; replace OW := hide (OW.out.mod hbw M2); clear A2 M2; (try clear c1 f1); (try clear f0 f2 f3 f4 f5 c0 c2 c3 c4 c5 g1 d1); obtain ⟨f0, g1, f2, f3, f4, f5, c0, d1, c2, c3, c4, c5⟩ := tok0_free (keep Z.out (Nat.ne_of_gt hb0) OW.out.2)))
          have FA := A3.out
          have MM := Mod.trans M0.out OW.out.2
          refine bodyPost_ret (v := tkV 8 z8 0 0 false false) (by simp [results, Tryd.results79, go_sem, tkV, c0, d1, c2, c3, c4, c5]) rfl ?_
          exact ⟨by rw [E.out]; exact ⟨z8, rfl, hz8.out⟩, by rw [E.out]; repeat (first | (with_reducible exact FA) | (with_reducible refine AtR.put ?_ hb0 _ _)), by repeat (first | (with_reducible exact MM) | (with_reducible refine Mod.put ?_ (Nat.le_refl _) _ _))⟩
end Go.Proofs.YtlkocepoohhglaaDoor
set_option linter.unusedVariables false
set_option linter.unusedSimpArgs false
namespace Go.Proofs.YtlkocepoohhglaaDoor
open Go.RowKit

def low1 (c : Int) : Int := if 65 ≤ c ∧ c ≤ 90 then c + 32 else c
/-- Bytes in a block of the call's own, as far as they have been made lower. -/
structure LowW (w wr : World) (m n k : Nat) (bs : List Int) : Prop where
  bel : Below w.heap.size w wr
  lt : m < wr.heap.size
  ge : w.heap.size ≤ m
  cell : ∀ i, i < n → wr.cell? ⟨m, i, none⟩ = some (.int .u8 (if i < k then low1 (gt bs i) else gt bs i))
  free : ∀ i, i < n → wr.frozen? ⟨m, i, none⟩ = false
theorem LowW.skip {w wr : World} {m n k : Nat} {bs : List Int} (h : LowW w wr m n k bs) (e : low1 (gt bs k) = gt bs k) : LowW w wr m n (k + 1) bs :=
  ⟨h.bel, h.lt, h.ge, fun i hi => by
    rw [h.cell i hi]
    by_cases h1 : i < k
    · rw [if_pos h1, if_pos (by omega)]
    · by_cases h2 : i = k
      · subst h2; rw [if_neg h1, if_pos (by omega), e]
      · rw [if_neg h1, if_neg (by omega)], h.free⟩
theorem LowW.set {w wr : World} {m n k : Nat} {bs : List Int} (h : LowW w wr m n k bs) (hk : k < n) (x : Int) (hx : x = low1 (gt bs k)) : LowW w (wr.setCell ⟨m, k, none⟩ (.int .u8 x)) m n (k + 1) bs := by
  have hm := h.ge
  refine ⟨h.bel.setCell (p := ⟨m, k, none⟩) hm _, by simpa using h.lt, h.ge, fun i hi => ?_, fun i hi => ?_⟩
  · by_cases h2 : i = k
    · subst h2
      rw [if_pos (by omega), ← hx]
      have c := h.cell i hi
      exact World.cell?_setCell_same wr ⟨m, i, none⟩ _ (by rw [c])
    · rw [World.cell?_setCell_other wr ⟨m, k, none⟩ ⟨m, i, none⟩ _ (by simp; try omega), h.cell i hi]
      by_cases h1 : i < k
      · rw [if_pos h1, if_pos (by omega)]
      · rw [if_neg h1, if_neg (by omega)]
  · have := h.free i hi
    simpa using this
def RelLw (w : World) (m n : Nat) (bs : List Int) (i : Value) (wr : World) : Prop := ∃ k : Nat, k ≤ n ∧ i = .int .i64 k ∧ Hid (LowW w wr m n k bs)
theorem RelLw.mk {w : World} {m n : Nat} {bs : List Int} (k : Nat) {i : Value} {wr : World} (h1 : k ≤ n) (h2 : i = .int .i64 k) (h3 : LowW w wr m n k bs) : RelLw w m n bs i wr := ⟨k, h1, h2, h3⟩
theorem low_start (w : World) (s : ByteArray) (c : Nat) (q : Nat × Nat) (hq : s.size ≤ q.1) : LowW w (w.drew.alloc (.cells (bytesRow s c) 5 q)) w.heap.size s.size 0 (bl s) := by
  have hb : (w.drew.alloc (.cells (bytesRow s c) 5 q)).heap[w.heap.size]? = some (.cells (bytesRow s c) 5 q) := heap_alloc_new w.drew _
  refine ⟨bplus (Below.refl _ _).drew _, (Array.getElem?_eq_some_iff.1 hb).1, Nat.le_refl _, fun i hi => ?_, fun i hi => ?_⟩
  · rw [cell_blk hb, bytesRow_at s c i hi, if_neg (by omega)]
    have := bl_at s i hi
    rw [← this]; rfl
  · obtain ⟨lo, hi'⟩ := q
    unfold World.frozen?
    rw [hb]
    simp only at hq
    simp; omega
theorem LowW.nums {w wr : World} {m n c : Nat} {bs : List Int} (h : LowW w wr m n n bs) (hn : n = bs.length) (h0 : 0 < n) (h9 : n ≤ 1000000000) (hc : n ≤ c) (hc9 : c ≤ 9223372036854775807) : Nums .u8 wr (.slice (some ⟨m, 0, none⟩) n c) (bs.map low1) :=
  .inr ⟨m, 0, n, c, rfl, by rw [List.length_map]; exact hn, h0, h.lt, hc, by omega, hc9, fun i hi => by
    rw [Nat.zero_add, h.cell i hi, if_pos hi]
    simp [gt, List.getD_eq_getElem?_getD, List.getElem?_eq_getElem (show i < bs.length by omega)]⟩
theorem by_low {bs : List Int} (h : By bs) : By (bs.map low1) := fun x hx => by
  obtain ⟨y, hy, rfl⟩ := List.mem_map.1 hx
  have := h y hy
  unfold low1
  split <;> omega
theorem conv_low {w wr : World} {m n : Nat} {bs : List Int} (h : LowW w wr m n n bs) (hn : n = bs.length) (hb : By bs) (c : Nat) : ∃ t, bl t = bs.map low1 ∧ (convert 55 9 (.slice (some ⟨m, 0, none⟩) n c)).run Tryd.prog wr = .ok (.string t) wr := by
  refine ⟨⟨(l8 (bs.map low1)).toArray⟩, by unfold bl; simpa using l8_back (by_low hb), ?_⟩
  have hl : n = (l8 (bs.map low1)).length := by unfold l8; rw [List.length_map, List.length_map]; exact hn
  have k := run_convert_bytes_back (P := Tryd.prog) wr 55 9 5 ⟨m, 0, none⟩ c (l8 (bs.map low1)) Tryd.underlying55 Tryd.underlying5 Tryd.underlying9 (fun j hj => by
    rw [Addr.add_lit, Nat.zero_add, h.cell j (by omega), if_pos (by omega)]
    congr 2
    have e := l8_back (by_low hb)
    have : low1 (gt bs j) = ((l8 (bs.map low1)).map (fun b => (b.toNat : Int))).getD j 0 := by
      rw [e]
      simp [gt, List.getD_eq_getElem?_getD, List.getElem?_map, List.getElem?_eq_getElem (show j < bs.length by omega)]
    rw [this]
    simp [List.getD_eq_getElem?_getD, List.getElem?_map, List.getElem?_eq_getElem hj])
  rw [← hl] at k
  exact k
theorem low_id {c : Int} (h : ¬ (65 ≤ c ∧ c ≤ 90)) : low1 c = c := by unfold low1; rw [if_neg h]
theorem low_up {c : Int} (h : 65 ≤ c ∧ c ≤ 90) : low1 c = c + 32 := by unfold low1; rw [if_pos h]
theorem cap_ge (w : World) (n : Nat) (e : TypeId) : n ≤ grownCap w n 0 e := by
  unfold grownCap
  simp only [Question.cut]
  omega
set_option maxRecDepth 100000 in
set_option maxHeartbeats 1000000 in
theorem lowerR_any (s : ByteArray) (w : World) (hs : s.size ≤ 1000000000) :
    Calls Tryd.prog 28 #[.string s] w fun e w' => ∃ t, e = .returned (.string t) ∧ bl t = (bl s).map low1 ∧ Below w.heap.size w w' := by
  have kc := fun (w : World) (s : ByteArray) => run_bytes_of_string (P := Tryd.prog) w 9 55 5 s Tryd.underlying9 Tryd.underlying55 Tryd.underlying5
  obtain ⟨c, hc⟩ : ∃ c, grownCap w s.size 0 5 = c := ⟨_, rfl⟩
  have hnc := cap_ge w s.size 5
  rw [hc] at hnc
  have L0 := hide (low_start w s c ((bytesRow s c).size, (bytesRow s c).size + 1) (by simp [bytesRow]))
  have HS := hide (bl_len s)
  have BY := hide (bl_by s)
  generalize hn : s.size = n at *
  generalize bl s = bs at *
  obtain ⟨w1, hw1⟩ : ∃ x, w.drew.alloc (.cells (bytesRow s c) 5 ((bytesRow s c).size, (bytesRow s c).size + 1)) = x := ⟨_, rfl⟩
  rw [hw1] at L0
  have kc1 : (convert 9 55 (.string s)).run Tryd.prog w = .ok (.slice (some ⟨w.heap.size, 0, none⟩) n c) w1 := by
    rw [kc w s, hn, hc, hw1]
  clear kc hw1 hc hn
  go_enter Tryd.func28, Tryd.ntmps28
  go_wp2
  clear kc1
  go_loopw [10] (fun i wr => RelLw w w.heap.size n bs i wr) (fun i _ => n - (intOf i).toNat)
  case atStart => exact .mk 0 (by omega) rfl L0.out
  case round =>
    clear L0
    obtain ⟨k, hk, rfl, LW⟩ := hrel
    by_cases hlt : k < n
    · have p0 := LW.out.cell k hlt
      rw [if_neg (by omega)] at p0
      have f0 := LW.out.free k hlt
      have bx := BY.out.at (show k < bs.length by rw [HS.out]; exact hlt)
      obtain ⟨x, hx⟩ : ∃ x, gt bs k = x := ⟨_, rfl⟩
      have hx' : bs.getD k 0 = x := hx
      rw [hx'] at bx
      rw [hx] at p0
      have X := hide hx
      clear hx hx'
      by_cases hu : 65 ≤ x ∧ x ≤ 90
      · obtain ⟨u1, u2⟩ := hu
        have u3 : ¬ 90 < x := by omega
        go_wp2
        exact ⟨.mk (k + 1) (by omega) (by go_num) (LW.out.set hlt _ (by rw [X.out, low_up ⟨u1, u2⟩])), by simp [intOf]; omega⟩
      · have S := hide (LW.out.skip (by rw [X.out]; exact low_id hu))
        by_cases u1 : 65 ≤ x
        · have u2 : ¬ x ≤ 90 := fun h => hu ⟨u1, h⟩
          go_wp2
          exact ⟨.mk (k + 1) (by omega) (by go_num) S.out, by simp [intOf]; omega⟩
        · go_wp2
          exact ⟨.mk (k + 1) (by omega) (by go_num) S.out, by simp [intOf]; omega⟩
    · obtain rfl : k = n := by omega
      obtain ⟨t, ht, hcv⟩ := conv_low LW.out HS.out.symm BY.out c
      replace ht := hide ht
      go_wp2
      go_ret
      exact ⟨_, rfl, ht.out, LW.out.bel⟩
theorem low_117 (c : Int) : low1 c = 117 ↔ c = 117 ∨ c = 85 := by unfold low1; split <;> omega
theorem low_114 (c : Int) : low1 c = 114 ↔ c = 114 ∨ c = 82 := by unfold low1; split <;> omega
theorem low_108 (c : Int) : low1 c = 108 ↔ c = 108 ∨ c = 76 := by unfold low1; split <;> omega
theorem like_url (b : List Int) : (b.map low1 = [117, 114, 108]) ↔ isUrlB b = true := by
  match b with
  | [] => simp [isUrlB]
  | [_] => simp [isUrlB]
  | [_, _] => simp [isUrlB]
  | [x, y, z] =>
    have e0 : nx [x, y, z] 0 = x := rfl
    have e1 : nx [x, y, z] 1 = y := rfl
    have e2 : nx [x, y, z] 2 = z := rfl
    unfold isUrlB
    rw [e0, e1, e2]
    simp [low_117, low_114, low_108, and_assoc]
  | _ :: _ :: _ :: _ :: r => simp [isUrlB]
theorem low_url : List.map low1 (bl ⟨#[117, 114, 108]⟩) = [117, 114, 108] := by decide
theorem like_no {bs : List Int} {t1 t2 : ByteArray} (h : ¬ bs.map low1 = [117, 114, 108]) (h1 : bl t1 = bs.map low1) (h2 : bl t2 = List.map low1 (bl ⟨#[117, 114, 108]⟩)) : ¬ t1 = t2 := fun e => by
  subst e
  exact h (h1.symm.trans (h2.trans low_url))
theorem tl_ne {t1 t2 : ByteArray} (h : ¬ t1 = t2) : ¬ t1.toList = t2.toList := fun e => by
  rw [Lib.toList_data, Lib.toList_data] at e
  refine h ?_
  cases t1; cases t2
  simpa using Array.toList_inj.1 e
theorem like_yes {bs : List Int} {t1 t2 : ByteArray} (h : bs.map low1 = [117, 114, 108]) (h1 : bl t1 = bs.map low1) (h2 : bl t2 = List.map low1 (bl ⟨#[117, 114, 108]⟩)) : t1 = t2 :=
  bl_inj (h1.trans (h.trans (h2.trans low_url).symm))
set_option maxRecDepth 100000 in
set_option maxHeartbeats 1000000 in
theorem likeR_any (s : ByteArray) (w : World) (hs : s.size ≤ 1000000000) :
    Calls Tryd.prog 19 #[.string s, .string ⟨#[117, 114, 108]⟩] w fun e w' => e = .returned (.bool (isUrlB (bl s))) ∧ Below w.heap.size w w' := by
  have CS := hide (fun W => lowerR_any s W hs)
  have CU := hide (fun W => lowerR_any ⟨#[117, 114, 108]⟩ W (by decide))
  have LU := like_url (bl s)
  clear hs
  generalize bl s = bs at *
  cases hu : isUrlB bs
  · replace LU := hide (show ¬ bs.map low1 = [117, 114, 108] from fun e => by rw [LU.1 e] at hu; cases hu)
    go_enter Tryd.func19, Tryd.ntmps19
    go_wp2_with (first
      | (go_at_call_of 28 (Value.string s); refine (CS.out _).mono ?_; rintro e w1 ⟨t1, rfl, h1, B1⟩; replace h1 := hide h1; replace B1 := hide B1)
      | (go_at_call 28; refine (CU.out _).mono ?_; rintro e w2 ⟨t2, rfl, h2, B2⟩; replace B1 := hide (bto B1.out B2); have ne := like_no LU.out h1.out h2; clear h2 B2))
    go_ret
    exact ⟨ret_bool (by simp [tl_ne ne]), B1.out⟩
  · replace LU := hide (LU.2 hu)
    go_enter Tryd.func19, Tryd.ntmps19
    go_wp2_with (first
      | (go_at_call_of 28 (Value.string s); refine (CS.out _).mono ?_; rintro e w1 ⟨t1, rfl, h1, B1⟩; replace h1 := hide h1; replace B1 := hide B1)
      | (go_at_call 28; refine (CU.out _).mono ?_; rintro e w2 ⟨t2, rfl, h2, B2⟩; replace B1 := hide (bto B1.out B2); have eq := like_yes LU.out h1.out h2; clear h2 B2; subst eq))
    go_ret
    exact ⟨ret_bool (by simp), B1.out⟩
end Go.Proofs.YtlkocepoohhglaaDoor
set_option linter.unusedVariables false
set_option linter.unusedSimpArgs false
namespace Go.Proofs.YtlkocepoohhglaaDoor
open Go.RowKit

theorem nam_sum (n : Nat) : ∀ acc s : List Int, s.length ≤ n → (nam acc s).1.length + (nam acc s).2.length ≤ acc.length + s.length := by
  induction n with
  | zero =>
    intro acc s h
    obtain rfl : s = [] := List.eq_nil_of_length_eq_zero (by omega)
    rw [nam_end (by decide) (by decide)]; simp
  | succ n ih =>
    intro acc s h
    by_cases h1 : isLet (nx s 0) = true
    · have := isLet_ne h1
      rw [nam_let h1]
      have := ih (acc ++ [nx s 0]) (s.drop 1) (by rw [List.length_drop]; omega)
      rw [List.length_append, List.length_singleton, List.length_drop] at this; omega
    · have h1' : isLet (nx s 0) = false := by simpa using h1
      by_cases h2 : es2 (nx s 0) (nx s 1) = true
      · have := es2_ne h2
        have q := tesc_len (s.drop 1)
        rw [List.length_drop] at q
        rw [nam_esc h1' h2]
        have := ih (acc ++ [(tesc (s.drop 1)).1]) (tesc (s.drop 1)).2 (by omega)
        rw [List.length_append, List.length_singleton] at this; omega
      · rw [nam_end h1' (by simpa using h2)]; simp
theorem nam_size {s : List Int} {t : ByteArray} {k : Nat} (h : bl t = enc (nam [] s).1) (hs : s.length ≤ k) (hk : k ≤ 250000000) : t.size ≤ 1000000000 := by
  have h1 := bl_len t
  have h2 := (enc_len (nam [] s).1).2
  have h3 := nam_sum s.length [] s (Nat.le_refl _)
  rw [h] at h1
  simp at h3
  omega
theorem sblR_go {s : List Int} (h0 : isBl (nx s 0) = true) (h1 : isBl (nx s 1) = true) : sbl s = sbl (s.drop 1) := by
  cases s with
  | nil => exact absurd h0 (by decide)
  | cons x r =>
    have e0 : isBl x = true := h0
    have e1 : isBl (nx r 0) = true := h1
    show (if isBl x && isBl (nx r 0) then sbl r else x :: r) = sbl r
    rw [e0, e1]; rfl
theorem sblR_no {s : List Int} (h : (isBl (nx s 0) && isBl (nx s 1)) = false) : sbl s = s := by
  cases s with
  | nil => rfl
  | cons x r =>
    have e : (isBl x && isBl (nx r 0)) = false := h
    show (if isBl x && isBl (nx r 0) then sbl r else x :: r) = x :: r
    rw [e]; rfl
set_option maxRecDepth 100000 in
set_option maxHeartbeats 4000000 in
theorem wordR_any (T : TypeId) (W w : World) (b : Nat) (v : Value) (l s : List Int) (hL : l.length ≤ 250000000) (h : At T W w b v l s) :
    Calls Tryd.prog 70 #[.pointer (some ⟨b, 0, none⟩)] w fun e w' => Tells e (word s).1 ∧ AtR T W w' b v l (word s).2 ∧ w.grownBy w' (some b) := by
  have hb0 := h.lt
  have nb1 : ¬ w.heap.size = b := by omega
  have nb2 : ¬ b = w.heap.size := by omega
  have hbw : b < (w.alloc tok0).heap.size := by simp; omega
  have A1 := hide (h.below (bplus (Below.refl _ _) tok0))
  have M0 := hide (Mod.of b (bplus (Below.refl w.heap.size w) tok0))
  have Z := hide (tok0_alloc w)
  have hsl := h.len.1
  have SZF := hide (fun (t : ByteArray) (ht : bl t = enc (nam [] s).1) => nam_size ht hsl hL)
  have L9 := hide (show l.length ≤ 35184372088832 by omega)
  clear h
  obtain ⟨w0, hw0⟩ : ∃ w0, w.alloc tok0 = w0 := ⟨_, rfl⟩
  rw [hw0] at hbw A1 M0 Z
  have hw0' : w.alloc (.cells #[.int .i64 0, .string ⟨#[]⟩, .int .i64 0, .int .i64 0, .bool false, .bool false] 66) = w0 := hw0
  have HZ := hide hw0'
  clear hw0 hw0'
  obtain ⟨wd, hwd⟩ : ∃ x, word s = x := ⟨_, rfl⟩
  have W0 := hide hwd
  unfold word at hwd
  obtain ⟨⟨n, r⟩, hn⟩ : ∃ x, nam [] s = x := ⟨_, rfl⟩
  have NN := hide hn
  rw [hn] at hwd SZF
  simp only at hwd
  obtain ⟨x, hx⟩ : ∃ x, nx r 0 = x := ⟨_, rfl⟩
  have H0 := hide (show nx r (Int.toNat 0) = x from hx)
  rw [hx] at hwd
  obtain ⟨u, hu⟩ : ∃ u, r.drop 1 = u := ⟨_, rfl⟩
  have U := hide hu
  have lu : u.length = r.length - 1 := by rw [← hu, List.length_drop]
  rw [hu] at hwd
  have PR : x = 40 → 0 < r.length := fun e => nx_pos (by rw [hx, e]; decide)
  clear hn hx hu
  obtain ⟨iu, hiu⟩ : ∃ y, isUrlB (enc n) = y := ⟨_, rfl⟩
  have IU := hide (show ∀ t, bl t = enc n → isUrlB (bl t) = iu from fun t ht => by rw [ht]; exact hiu)
  rw [hiu] at hwd
  clear hiu
  by_cases h40 : x = 40
  · subst h40
    have LR := PR rfl
    rw [if_neg (by simp)] at hwd
    cases iu
    · have E := hide (W0.out.trans (show wd = (tkt 2 n, u) from hwd.symm))
      clear hwd
      go_enter Tryd.func70, Tryd.ntmps70
      go_wp2_with (first
        | (go_at_call 67; rw [HZ.out]; refine (nameR_any T W _ b _ l s L9.out A1.out).mono ?_; rintro e w2 ⟨t, rfl, ht, A2, M2⟩; rw [NN.out] at ht A2; have UR := IU.out t ht; have SZ := hide (SZF.out t ht); replace ht := hide ht; have A1 := hide A2; have M := hide M2; clear A2 M2; obtain ⟨p, ST, hpl, hlb⟩ := A1.out.stand; have hp9 : p ≤ 140737488355328 := (by omega); replace ST := hide ST; clear A1)
        | (go_at_call 55; refine (standAt_any T W _ b v l r p _ ST.out (by decide) (by decide)).mono ?_; rintro e w1 ⟨he, B1⟩; (first | (rw [H0.out] at he)); subst he; replace ST := hide (ST.out.below B1); replace M := hide (Mod.trans M.out (Mod.of b B1)); (try clear c1 f1); have c1 := ST.out.c1; have f1 := ST.out.f1; (try clear f0 f2 f3 f4 f5 c0 c2 c3 c4 c5 g1 d1); obtain ⟨f0, g1, f2, f3, f4, f5, c0, d1, c2, c3, c4, c5⟩ := tok0_free (keep Z.out (Nat.ne_of_gt hb0) M.out); clear B1)
        | (go_at_call 19; refine (likeR_any t _ SZ.out).mono ?_; rintro e w6 ⟨he, B1⟩; rw [UR] at he; subst he; have S2 := ST.out.inc 1 ((p : Int) + 1) (by omega) (by omega); rw [U.out] at S2; replace M := hide (Mod.trans (Mod.trans M.out (ST.out.mod ((p : Int) + 1))) (Mod.of b B1)); replace ST := hide (S2.below B1); clear S2 B1 c1 f1; (try clear f0 f2 f3 f4 f5 c0 c2 c3 c4 c5 g1 d1); obtain ⟨f0, g1, f2, f3, f4, f5, c0, d1, c2, c3, c4, c5⟩ := tok0_free (keep Z.out (Nat.ne_of_gt hb0) M.out)))
      have FA := ST.out.atR (by omega)
      have MM := Mod.trans M0.out M.out
      refine bodyPost_ret (v := tkV 2 t 0 0 false false) (by simp [results, Tryd.results70, go_sem, tkV, c0, d1, c2, c3, c4, c5]) rfl ?_
      exact ⟨.tkt (congrArg Prod.fst E.out) ht.out, by rw [E.out]; repeat (first | (with_reducible exact FA) | (with_reducible refine AtR.put ?_ hb0 _ _)), by repeat (first | (with_reducible exact MM) | (with_reducible refine Mod.put ?_ (Nat.le_refl _) _ _))⟩
    · rw [if_pos rfl] at hwd
      go_enter Tryd.func70, Tryd.ntmps70
      go_wp2_with (first
        | (go_at_call 67; rw [HZ.out]; refine (nameR_any T W _ b _ l s L9.out A1.out).mono ?_; rintro e w2 ⟨t, rfl, ht, A2, M2⟩; rw [NN.out] at ht A2; have UR := IU.out t ht; have SZ := hide (SZF.out t ht); replace ht := hide ht; have A1 := hide A2; have M := hide M2; clear A2 M2; obtain ⟨p, ST, hpl, hlb⟩ := A1.out.stand; have hp9 : p ≤ 140737488355328 := (by omega); replace ST := hide ST; clear A1)
        | (go_at_call 55; refine (standAt_any T W _ b v l r p _ ST.out (by decide) (by decide)).mono ?_; rintro e w1 ⟨he, B1⟩; (first | (rw [H0.out] at he)); subst he; replace ST := hide (ST.out.below B1); replace M := hide (Mod.trans M.out (Mod.of b B1)); (try clear c1 f1); have c1 := ST.out.c1; have f1 := ST.out.f1; (try clear f0 f2 f3 f4 f5 c0 c2 c3 c4 c5 g1 d1); obtain ⟨f0, g1, f2, f3, f4, f5, c0, d1, c2, c3, c4, c5⟩ := tok0_free (keep Z.out (Nat.ne_of_gt hb0) M.out); clear B1)
        | (go_at_call 19; refine (likeR_any t _ SZ.out).mono ?_; rintro e w6 ⟨he, B1⟩; rw [UR] at he; subst he; have S2 := ST.out.inc 1 ((p : Int) + 1) (by omega) (by omega); rw [U.out] at S2; replace M := hide (Mod.trans (Mod.trans M.out (ST.out.mod ((p : Int) + 1))) (Mod.of b B1)); replace ST := hide (S2.below B1); clear S2 B1 c1 f1; (try clear f0 f2 f3 f4 f5 c0 c2 c3 c4 c5 g1 d1); obtain ⟨f0, g1, f2, f3, f4, f5, c0, d1, c2, c3, c4, c5⟩ := tok0_free (keep Z.out (Nat.ne_of_gt hb0) M.out)))
      go_loopg [] u.length (fun g wr => RelSk sbl T W w0 b v l u g wr)
      case atStart => exact .mk u (ST.out.at (by omega)) (Nat.le_refl _) rfl M.out
      case round =>
        clear ST M hpl hp9 f0 f2 f3 f4 f5 c0 c2 c3 c4 c5 g1 d1
        obtain ⟨q, A1, hg, R, M⟩ := hrel
        obtain ⟨p, ST, hpl, _⟩ := A1.stand
        have hp9 : p ≤ 140737488355328 := by omega
        replace ST := hide ST
        replace M := hide M
        clear A1
        obtain ⟨x0, hx0⟩ : ∃ x, nx q 0 = x := ⟨_, rfl⟩
        have H0 := hide (show nx q (Int.toNat 0) = x0 from hx0)
        obtain ⟨x1, hx1⟩ : ∃ x, nx q 1 = x := ⟨_, rfl⟩
        have H1 := hide (show nx q (Int.toNat 1) = x1 from hx1)
        obtain ⟨y0, hy0⟩ : ∃ y, isBl x0 = y := ⟨_, rfl⟩
        have YB0 := hide hy0
        obtain ⟨y1, hy1⟩ : ∃ y, isBl x1 = y := ⟨_, rfl⟩
        have YB1 := hide hy1
        by_cases hgo : y0 = true ∧ y1 = true
        · obtain ⟨rfl, rfl⟩ := hgo
          have L := isBl_ne (s := q) (by rw [hx0]; exact hy0)
          have E := hide (R.out.trans (sblR_go (by rw [hx0]; exact hy0) (by rw [hx1]; exact hy1)))
          clear hx0 hx1 hy0 hy1
          go_wp2_with (first
            | (go_at_call 55; refine (standAt_any T W _ b v l q p _ ST.out (by decide) (by decide)).mono ?_; rintro e w1 ⟨he, B1⟩; (first | (rw [H0.out] at he) | (rw [H1.out] at he)); subst he; replace ST := hide (ST.out.below B1); replace M := hide (Mod.trans M.out (Mod.of b B1)); (try clear c1 f1); have c1 := ST.out.c1; have f1 := ST.out.f1; (try clear f0 f2 f3 f4 f5 c0 c2 c3 c4 c5 g1 d1); obtain ⟨f0, g1, f2, f3, f4, f5, c0, d1, c2, c3, c4, c5⟩ := tok0_free (keep Z.out (Nat.ne_of_gt hb0) M.out); clear B1)
            | (go_at_call 61; refine (isBlR_any _ _).mono ?_; rintro e w7 ⟨rfl, rfl⟩; (first | (rw [YB0.out]) | (rw [YB1.out]))))
          go_roundg (gk - 1)
          case measure => omega
          case rel => exact .mk (q.drop 1) ((ST.out.inc 1 _ (by omega) (by omega)).at (by omega)) (by rw [List.length_drop]; omega) E.out (Mod.trans M.out (ST.out.mod _))
        · have SQ : sbl u = q := R.out.trans (sblR_no (by rw [hx0, hx1, hy0, hy1]; cases y0 <;> cases y1 <;> simp_all))
          rw [SQ] at hwd
          have QT : qut q = (isQ x0 || (isBl x0 && isQ x1)) := by unfold qut; rw [hx0, hx1]
          rw [QT, hy0] at hwd
          cases y0
          · by_cases a34 : x0 = 34
            · subst a34
              rw [show (isQ 34 || (false && isQ x1)) = true from rfl] at hwd
              clear SQ QT R hx0 hx1 hy0 hy1 hgo
              rw [if_pos rfl] at hwd
              have E := hide (W0.out.trans hwd.symm)
              clear hwd
              go_wp2_with (first
                | (go_at_call 55; refine (standAt_any T W _ b v l q p _ ST.out (by decide) (by decide)).mono ?_; rintro e w1 ⟨he, B1⟩; (first | (rw [H0.out] at he) | (rw [H1.out] at he)); subst he; replace ST := hide (ST.out.below B1); replace M := hide (Mod.trans M.out (Mod.of b B1)); (try clear c1 f1); have c1 := ST.out.c1; have f1 := ST.out.f1; (try clear f0 f2 f3 f4 f5 c0 c2 c3 c4 c5 g1 d1); obtain ⟨f0, g1, f2, f3, f4, f5, c0, d1, c2, c3, c4, c5⟩ := tok0_free (keep Z.out (Nat.ne_of_gt hb0) M.out); clear B1)
                | (go_at_call 61; refine (isBlR_any _ _).mono ?_; rintro e w7 ⟨rfl, rfl⟩; (first | (rw [YB0.out]) | (rw [YB1.out]))))
              have FA := ST.out.atR (by omega)
              have MM := Mod.trans M0.out M.out
              refine bodyPost_ret (v := tkV 2 t 0 0 false false) (by simp [results, Tryd.results70, go_sem, tkV, c0, d1, c2, c3, c4, c5]) rfl ?_
              exact ⟨.tkt (congrArg Prod.fst E.out) ht.out, by rw [E.out]; repeat (first | (with_reducible exact FA) | (with_reducible refine AtR.put ?_ hb0 _ _)), by repeat (first | (with_reducible exact MM) | (with_reducible refine Mod.put ?_ (Nat.le_refl _) _ _))⟩
            by_cases a39 : x0 = 39
            · subst a39
              rw [show (isQ 39 || (false && isQ x1)) = true from rfl] at hwd
              clear SQ QT R hx0 hx1 hy0 hy1 hgo
              rw [if_pos rfl] at hwd
              have E := hide (W0.out.trans hwd.symm)
              clear hwd
              go_wp2_with (first
                | (go_at_call 55; refine (standAt_any T W _ b v l q p _ ST.out (by decide) (by decide)).mono ?_; rintro e w1 ⟨he, B1⟩; (first | (rw [H0.out] at he) | (rw [H1.out] at he)); subst he; replace ST := hide (ST.out.below B1); replace M := hide (Mod.trans M.out (Mod.of b B1)); (try clear c1 f1); have c1 := ST.out.c1; have f1 := ST.out.f1; (try clear f0 f2 f3 f4 f5 c0 c2 c3 c4 c5 g1 d1); obtain ⟨f0, g1, f2, f3, f4, f5, c0, d1, c2, c3, c4, c5⟩ := tok0_free (keep Z.out (Nat.ne_of_gt hb0) M.out); clear B1)
                | (go_at_call 61; refine (isBlR_any _ _).mono ?_; rintro e w7 ⟨rfl, rfl⟩; (first | (rw [YB0.out]) | (rw [YB1.out]))))
              have FA := ST.out.atR (by omega)
              have MM := Mod.trans M0.out M.out
              refine bodyPost_ret (v := tkV 2 t 0 0 false false) (by simp [results, Tryd.results70, go_sem, tkV, c0, d1, c2, c3, c4, c5]) rfl ?_
              exact ⟨.tkt (congrArg Prod.fst E.out) ht.out, by rw [E.out]; repeat (first | (with_reducible exact FA) | (with_reducible refine AtR.put ?_ hb0 _ _)), by repeat (first | (with_reducible exact MM) | (with_reducible refine Mod.put ?_ (Nat.le_refl _) _ _))⟩
            · have n34 : (x0 == 34) = false := by simpa using a34
              have n39 : (x0 == 39) = false := by simpa using a39
              rw [show (isQ x0 || (false && isQ x1)) = false by simp [isQ, a34, a39]] at hwd
              clear SQ QT R hx0 hx1 hy0 hy1 hgo
              rw [if_neg (by simp)] at hwd
              obtain ⟨p2, hp2⟩ : ∃ z, bls q = z := ⟨_, rfl⟩
              rw [hp2] at hwd
              have BQ := hide hp2
              obtain ⟨⟨⟨k, tx, nu, de, wh, id⟩, r2⟩, hu2⟩ : ∃ z, url [] p2 = z := ⟨_, rfl⟩
              rw [hu2] at hwd
              have UU := hide hu2
              have E := hide (W0.out.trans hwd.symm)
              clear hwd hp2 hu2
              go_wp2_with (first
                | (go_at_call 55; refine (standAt_any T W _ b v l q p _ ST.out (by decide) (by decide)).mono ?_; rintro e w1 ⟨he, B1⟩; (first | (rw [H0.out] at he) | (rw [H1.out] at he)); subst he; replace ST := hide (ST.out.below B1); replace M := hide (Mod.trans M.out (Mod.of b B1)); (try clear c1 f1); have c1 := ST.out.c1; have f1 := ST.out.f1; (try clear f0 f2 f3 f4 f5 c0 c2 c3 c4 c5 g1 d1); obtain ⟨f0, g1, f2, f3, f4, f5, c0, d1, c2, c3, c4, c5⟩ := tok0_free (keep Z.out (Nat.ne_of_gt hb0) M.out); clear B1)
                | (go_at_call 61; refine (isBlR_any _ _).mono ?_; rintro e w7 ⟨rfl, rfl⟩; (first | (rw [YB0.out]) | (rw [YB1.out])))
                | (go_at_call 79; refine (urlR_any T W _ b _ l q p2 L9.out BQ.out (ST.out.at (by omega))).mono ?_; rintro e w8 ⟨⟨z8, he, hz8⟩, A2, M2⟩; rw [UU.out] at he hz8 A2; replace he : e = .returned (.agg #[.int .i64 k, .string z8, .int .i64 nu, .int .i64 de, .bool wh, .bool id]) := he; subst he; replace hz8 := hide hz8; have A3 := hide A2; replace M := hide (Mod.trans M.out M2); clear A2 M2 c1 f1; (try clear f0 f2 f3 f4 f5 c0 c2 c3 c4 c5 g1 d1); obtain ⟨f0, g1, f2, f3, f4, f5, c0, d1, c2, c3, c4, c5⟩ := tok0_free (keep Z.out (Nat.ne_of_gt hb0) M.out)))
              have FA := A3.out
              have MM := Mod.trans M0.out M.out
              refine bodyPost_ret (v := tkV k z8 nu de wh id) (by simp [results, Tryd.results70, go_sem, tkV, c0, d1, c2, c3, c4, c5]) rfl ?_
              exact ⟨by rw [E.out]; exact ⟨z8, rfl, hz8.out⟩, by rw [E.out]; repeat (first | (with_reducible exact FA) | (with_reducible refine AtR.put ?_ hb0 _ _)), by repeat (first | (with_reducible exact MM) | (with_reducible refine Mod.put ?_ (Nat.le_refl _) _ _))⟩
          · have hb0 : isQ x0 = false := by
              unfold isBl at hy0
              simp only [Bool.or_eq_true, beq_iff_eq] at hy0
              simp only [isQ, Bool.or_eq_false_iff, beq_eq_false_iff_ne]
              omega
            have y1f : y1 = false := by
              cases y1
              · rfl
              · exact absurd ⟨rfl, rfl⟩ hgo
            subst y1f
            rw [hb0] at hwd
            by_cases a34 : x1 = 34
            · subst a34
              rw [show (false || (true && isQ 34)) = true from rfl] at hwd
              clear SQ QT R hx0 hx1 hy0 hy1 hgo hb0
              rw [if_pos rfl] at hwd
              have E := hide (W0.out.trans hwd.symm)
              clear hwd
              go_wp2_with (first
                | (go_at_call 55; refine (standAt_any T W _ b v l q p _ ST.out (by decide) (by decide)).mono ?_; rintro e w1 ⟨he, B1⟩; (first | (rw [H0.out] at he) | (rw [H1.out] at he)); subst he; replace ST := hide (ST.out.below B1); replace M := hide (Mod.trans M.out (Mod.of b B1)); (try clear c1 f1); have c1 := ST.out.c1; have f1 := ST.out.f1; (try clear f0 f2 f3 f4 f5 c0 c2 c3 c4 c5 g1 d1); obtain ⟨f0, g1, f2, f3, f4, f5, c0, d1, c2, c3, c4, c5⟩ := tok0_free (keep Z.out (Nat.ne_of_gt hb0) M.out); clear B1)
                | (go_at_call 61; refine (isBlR_any _ _).mono ?_; rintro e w7 ⟨rfl, rfl⟩; (first | (rw [YB0.out]) | (rw [YB1.out]))))
              have FA := ST.out.atR (by omega)
              have MM := Mod.trans M0.out M.out
              refine bodyPost_ret (v := tkV 2 t 0 0 false false) (by simp [results, Tryd.results70, go_sem, tkV, c0, d1, c2, c3, c4, c5]) rfl ?_
              exact ⟨.tkt (congrArg Prod.fst E.out) ht.out, by rw [E.out]; repeat (first | (with_reducible exact FA) | (with_reducible refine AtR.put ?_ hb0 _ _)), by repeat (first | (with_reducible exact MM) | (with_reducible refine Mod.put ?_ (Nat.le_refl _) _ _))⟩
            by_cases a39 : x1 = 39
            · subst a39
              rw [show (false || (true && isQ 39)) = true from rfl] at hwd
              clear SQ QT R hx0 hx1 hy0 hy1 hgo hb0
              rw [if_pos rfl] at hwd
              have E := hide (W0.out.trans hwd.symm)
              clear hwd
              go_wp2_with (first
                | (go_at_call 55; refine (standAt_any T W _ b v l q p _ ST.out (by decide) (by decide)).mono ?_; rintro e w1 ⟨he, B1⟩; (first | (rw [H0.out] at he) | (rw [H1.out] at he)); subst he; replace ST := hide (ST.out.below B1); replace M := hide (Mod.trans M.out (Mod.of b B1)); (try clear c1 f1); have c1 := ST.out.c1; have f1 := ST.out.f1; (try clear f0 f2 f3 f4 f5 c0 c2 c3 c4 c5 g1 d1); obtain ⟨f0, g1, f2, f3, f4, f5, c0, d1, c2, c3, c4, c5⟩ := tok0_free (keep Z.out (Nat.ne_of_gt hb0) M.out); clear B1)
                | (go_at_call 61; refine (isBlR_any _ _).mono ?_; rintro e w7 ⟨rfl, rfl⟩; (first | (rw [YB0.out]) | (rw [YB1.out]))))
              have FA := ST.out.atR (by omega)
              have MM := Mod.trans M0.out M.out
              refine bodyPost_ret (v := tkV 2 t 0 0 false false) (by simp [results, Tryd.results70, go_sem, tkV, c0, d1, c2, c3, c4, c5]) rfl ?_
              exact ⟨.tkt (congrArg Prod.fst E.out) ht.out, by rw [E.out]; repeat (first | (with_reducible exact FA) | (with_reducible refine AtR.put ?_ hb0 _ _)), by repeat (first | (with_reducible exact MM) | (with_reducible refine Mod.put ?_ (Nat.le_refl _) _ _))⟩
            · have n34 : (x1 == 34) = false := by simpa using a34
              have n39 : (x1 == 39) = false := by simpa using a39
              rw [show (false || (true && isQ x1)) = false by simp [isQ, a34, a39]] at hwd
              clear SQ QT R hx0 hx1 hy0 hy1 hgo hb0
              rw [if_neg (by simp)] at hwd
              obtain ⟨p2, hp2⟩ : ∃ z, bls q = z := ⟨_, rfl⟩
              rw [hp2] at hwd
              have BQ := hide hp2
              obtain ⟨⟨⟨k, tx, nu, de, wh, id⟩, r2⟩, hu2⟩ : ∃ z, url [] p2 = z := ⟨_, rfl⟩
              rw [hu2] at hwd
              have UU := hide hu2
              have E := hide (W0.out.trans hwd.symm)
              clear hwd hp2 hu2
              go_wp2_with (first
                | (go_at_call 55; refine (standAt_any T W _ b v l q p _ ST.out (by decide) (by decide)).mono ?_; rintro e w1 ⟨he, B1⟩; (first | (rw [H0.out] at he) | (rw [H1.out] at he)); subst he; replace ST := hide (ST.out.below B1); replace M := hide (Mod.trans M.out (Mod.of b B1)); (try clear c1 f1); have c1 := ST.out.c1; have f1 := ST.out.f1; (try clear f0 f2 f3 f4 f5 c0 c2 c3 c4 c5 g1 d1); obtain ⟨f0, g1, f2, f3, f4, f5, c0, d1, c2, c3, c4, c5⟩ := tok0_free (keep Z.out (Nat.ne_of_gt hb0) M.out); clear B1)
                | (go_at_call 61; refine (isBlR_any _ _).mono ?_; rintro e w7 ⟨rfl, rfl⟩; (first | (rw [YB0.out]) | (rw [YB1.out])))
                | (go_at_call 79; refine (urlR_any T W _ b _ l q p2 L9.out BQ.out (ST.out.at (by omega))).mono ?_; rintro e w8 ⟨⟨z8, he, hz8⟩, A2, M2⟩; rw [UU.out] at he hz8 A2; replace he : e = .returned (.agg #[.int .i64 k, .string z8, .int .i64 nu, .int .i64 de, .bool wh, .bool id]) := he; subst he; replace hz8 := hide hz8; have A3 := hide A2; replace M := hide (Mod.trans M.out M2); clear A2 M2 c1 f1; (try clear f0 f2 f3 f4 f5 c0 c2 c3 c4 c5 g1 d1); obtain ⟨f0, g1, f2, f3, f4, f5, c0, d1, c2, c3, c4, c5⟩ := tok0_free (keep Z.out (Nat.ne_of_gt hb0) M.out)))
              have FA := A3.out
              have MM := Mod.trans M0.out M.out
              refine bodyPost_ret (v := tkV k z8 nu de wh id) (by simp [results, Tryd.results70, go_sem, tkV, c0, d1, c2, c3, c4, c5]) rfl ?_
              exact ⟨by rw [E.out]; exact ⟨z8, rfl, hz8.out⟩, by rw [E.out]; repeat (first | (with_reducible exact FA) | (with_reducible refine AtR.put ?_ hb0 _ _)), by repeat (first | (with_reducible exact MM) | (with_reducible refine Mod.put ?_ (Nat.le_refl _) _ _))⟩
  · rw [if_pos h40] at hwd
    have E := hide (W0.out.trans hwd.symm)
    have n40 : (x != 40) = true := by simpa using h40
    clear hwd
    go_enter Tryd.func70, Tryd.ntmps70
    go_wp2_with (first
      | (go_at_call 67; rw [HZ.out]; refine (nameR_any T W _ b _ l s L9.out A1.out).mono ?_; rintro e w2 ⟨t, rfl, ht, A2, M2⟩; rw [NN.out] at ht A2; have UR := IU.out t ht; have SZ := hide (SZF.out t ht); replace ht := hide ht; have A1 := hide A2; have M := hide M2; clear A2 M2; obtain ⟨p, ST, hpl, hlb⟩ := A1.out.stand; have hp9 : p ≤ 140737488355328 := (by omega); replace ST := hide ST; clear A1)
      | (go_at_call 55; refine (standAt_any T W _ b v l r p _ ST.out (by decide) (by decide)).mono ?_; rintro e w1 ⟨he, B1⟩; (first | (rw [H0.out] at he)); subst he; replace ST := hide (ST.out.below B1); replace M := hide (Mod.trans M.out (Mod.of b B1)); (try clear c1 f1); have c1 := ST.out.c1; have f1 := ST.out.f1; (try clear f0 f2 f3 f4 f5 c0 c2 c3 c4 c5 g1 d1); obtain ⟨f0, g1, f2, f3, f4, f5, c0, d1, c2, c3, c4, c5⟩ := tok0_free (keep Z.out (Nat.ne_of_gt hb0) M.out); clear B1)
      | (go_at_call 19; refine (likeR_any t _ SZ.out).mono ?_; rintro e w6 ⟨he, B1⟩; rw [UR] at he; subst he; have S2 := ST.out.inc 1 ((p : Int) + 1) (by omega) (by omega); rw [U.out] at S2; replace M := hide (Mod.trans (Mod.trans M.out (ST.out.mod ((p : Int) + 1))) (Mod.of b B1)); replace ST := hide (S2.below B1); clear S2 B1 c1 f1; (try clear f0 f2 f3 f4 f5 c0 c2 c3 c4 c5 g1 d1); obtain ⟨f0, g1, f2, f3, f4, f5, c0, d1, c2, c3, c4, c5⟩ := tok0_free (keep Z.out (Nat.ne_of_gt hb0) M.out)))
    have FA := ST.out.atR (by omega)
    have MM := Mod.trans M0.out M.out
    refine bodyPost_ret (v := tkV 1 t 0 0 false false) (by simp [results, Tryd.results70, go_sem, tkV, c0, d1, c2, c3, c4, c5]) rfl ?_
    exact ⟨.tkt (congrArg Prod.fst E.out) ht.out, by rw [E.out]; repeat (first | (with_reducible exact FA) | (with_reducible refine AtR.put ?_ hb0 _ _)), by repeat (first | (with_reducible exact MM) | (with_reducible refine Mod.put ?_ (Nat.le_refl _) _ _))⟩
end Go.Proofs.YtlkocepoohhglaaDoor
set_option linter.unusedVariables false
set_option linter.unusedSimpArgs false
namespace Go.Proofs.YtlkocepoohhglaaDoor
open Go.RowKit

theorem c0_go {D : List Int} {k : Nat} (h : nx D k = 48) : cut0 (D.drop k) = cut0 (D.drop (k + 1)) := by
  rw [nx_cons (by omega), h]
  unfold cut0
  rw [List.dropWhile_cons_of_pos (by rfl)]
theorem c0_stop {D : List Int} {k : Nat} (h : nx D k ≠ 48) : cut0 (D.drop k) = D.drop k := by
  by_cases hk : k < D.length
  · have e : D.drop k = nx D k :: D.drop (k + 1) := by
      rw [List.drop_eq_getElem_cons hk]
      congr 1
      simp [nx, List.getD_eq_getElem?_getD, List.getElem?_eq_getElem hk]
    rw [e]; unfold cut0
    rw [List.dropWhile_cons_of_neg (by simpa using h)]
  · rw [List.drop_of_length_le (by omega)]; rfl
theorem cR_go {F : List Int} {j : Nat} (h : nx F j = 48) : cutR (F.take (j + 1)) = cutR (F.take j) := by
  rw [nx_take (by omega), h]
  unfold cutR
  rw [List.reverse_append]
  show ((48 :: (F.take j).reverse).dropWhile _).reverse = _
  rw [List.dropWhile_cons_of_pos (by rfl)]
theorem cR_stop {F : List Int} {j : Nat} (h : nx F j ≠ 48) (h2 : nx F j ≠ -1) : cutR (F.take (j + 1)) = F.take (j + 1) := by
  rw [nx_take h2]
  unfold cutR
  rw [List.reverse_append]
  show ((nx F j :: (F.take j).reverse).dropWhile _).reverse = _
  rw [List.dropWhile_cons_of_neg (by simpa using h)]
  simp
def Rel1 (D : List Int) (n : Nat) (a : Value) : Prop := ∃ k : Nat, k ≤ n ∧ a = .int .i64 k ∧ Hid (cut0 D = cut0 (D.drop k))
theorem Rel1.mk {D : List Int} {n : Nat} {a : Value} (k : Nat) (h1 : k ≤ n) (h2 : a = .int .i64 k) (h3 : cut0 D = cut0 (D.drop k)) : Rel1 D n a := ⟨k, h1, h2, h3⟩
def Rel2 (D : List Int) (n k : Nat) (e0 : Int) (e b : Value) : Prop := ∃ m : Nat, k + 1 ≤ m ∧ m ≤ n ∧ b = .int .i64 m ∧ e = .int .i64 (e0 + ((n - m : Nat) : Int)) ∧ Hid (cutR (D.drop k) = cutR ((D.drop k).take (m - k)))
theorem Rel2.mk {D : List Int} {n k : Nat} {e0 : Int} {e b : Value} (m : Nat) (h0 : k + 1 ≤ m) (h1 : m ≤ n) (h2 : b = .int .i64 m) (h3 : e = .int .i64 (e0 + ((n - m : Nat) : Int))) (h4 : cutR (D.drop k) = cutR ((D.drop k).take (m - k))) : Rel2 D n k e0 e b := ⟨m, h0, h1, h2, h3, h4⟩
def Rel3 (ds : List Int) (n i : Value) : Prop := ∃ k m : Nat, k ≤ ds.length ∧ i = .int .i64 k ∧ n = .int .u64 m ∧ m < 1000000000000000000 ∧ Hid (m = natOf (ds.take k))
theorem Rel3.mk {ds : List Int} {n i : Value} (k m : Nat) (h1 : k ≤ ds.length) (h2 : i = .int .i64 k) (h3 : n = .int .u64 m) (h4 : m < 1000000000000000000) (h5 : m = natOf (ds.take k)) : Rel3 ds n i := ⟨k, m, h1, h2, h3, h4, h5⟩
theorem natOf_take_lt {l : List Int} (h : Digs l) (hl : l.length ≤ 18) (k : Nat) : natOf (l.take k) < 1000000000000000000 := Nat.lt_of_le_of_lt (natOf_take l k) (natOf_lt h hl)
theorem over_any (w : World) : Calls Tryd.prog 85 #[] w fun e w' => e = .returned (.agg #[.int .i64 0, .int .i64 0]) ∧ ∃ c, w' = w.alloc (.cells c 23) := by
  go_enter Tryd.func85, Tryd.ntmps85
  go_wp2
  refine bodyPost_ret (v := .agg #[.int .i64 0, .int .i64 0]) (by simp [results, Tryd.results85, go_sem]) rfl ⟨rfl, _, rfl⟩
theorem intR_any (n : Int) (w : World) : Calls Tryd.prog 95 #[.int .i64 n] w fun e w' => e = .returned (.agg #[.int .i64 n, .int .i64 1]) ∧ ∃ c, w' = w.alloc (.cells c 23) := by
  go_enter Tryd.func95, Tryd.ntmps95
  go_wp2
  refine bodyPost_ret (v := .agg #[.int .i64 n, .int .i64 1]) (by simp [results, Tryd.results95, go_sem]) rfl ⟨rfl, _, rfl⟩
def RelPw (P : Nat) (d t : Value) : Prop := ∃ m k : Nat, d = .int .u64 m ∧ t = .int .i64 k ∧ 1 ≤ m ∧ m ≤ 4611686018427387904 ∧ k ≤ 62 ∧ Hid (m * 2 ^ k = P)
theorem RelPw.mk {P : Nat} {d t : Value} (m k : Nat) (h1 : d = .int .u64 m) (h2 : t = .int .i64 k) (h3 : 1 ≤ m) (h4 : m ≤ 4611686018427387904) (h5 : k ≤ 62) (h6 : m * 2 ^ k = P) : RelPw P d t := ⟨m, k, h1, h2, h3, h4, h5, h6⟩
theorem pw_le {m k t : Nat} (h : m * 2 ^ k = 2 ^ t) (hk : 1 ≤ k) (ht : t ≤ 62) : m * 2 ≤ 4611686018427387904 := by
  obtain ⟨j, rfl⟩ : ∃ j, k = j + 1 := ⟨k - 1, by omega⟩
  have h1 : 1 ≤ 2 ^ j := Nat.pow_pos (by omega)
  have h2 : m * 2 * 1 ≤ m * 2 * 2 ^ j := Nat.mul_le_mul_left _ h1
  have h3 : 2 ^ t ≤ 2 ^ 62 := Nat.pow_le_pow_right (by omega) ht
  have h4 : (2 : Nat) ^ 62 = 4611686018427387904 := by decide
  rw [Nat.pow_succ, Nat.mul_comm (2 ^ j), ← Nat.mul_assoc] at h
  omega
theorem dn_over2 {a b : Nat} (h : 62 < a ∨ 27 < b) : ¬ 2 ^ a * 5 ^ b ≤ 9223372036854775807 := by
  have p5 : 1 ≤ 5 ^ b := Nat.pow_pos (by omega)
  have p2 : 1 ≤ 2 ^ a := Nat.pow_pos (by omega)
  rcases h with h | h
  · have h1 : 2 ^ 63 ≤ 2 ^ a := Nat.pow_le_pow_right (by omega) h
    have h2 : (2 : Nat) ^ 63 = 9223372036854775808 := by decide
    have h3 : 2 ^ a * 1 ≤ 2 ^ a * 5 ^ b := Nat.mul_le_mul_left _ p5
    omega
  · have h1 : 5 ^ 28 ≤ 5 ^ b := Nat.pow_le_pow_right (by omega) h
    have h2 : (9223372036854775807 : Nat) < 5 ^ 28 := by decide
    have h3 : 1 * 5 ^ b ≤ 2 ^ a * 5 ^ b := Nat.mul_le_mul_right _ p2
    omega
theorem fr_up {n q : Nat} : fr n (q : Int) = fracUp n q := by unfold fr; rw [if_pos (by omega)]; simp
theorem fr_dn {n q : Nat} (h : 1 ≤ q) : fr n (-(q : Int)) = fracDn n q := by unfold fr; rw [if_neg (by omega)]; simp
theorem fracUp_no {n q P : Nat} (h : n * 10 ^ q = P) (g : ¬ P ≤ 9223372036854775807) : fracUp n q = (0, 0) := by unfold fracUp; rw [h, if_neg g]
theorem fracUp_yes {n q P : Nat} (h : n * 10 ^ q = P) (g : P ≤ 9223372036854775807) : fracUp n q = ((P : Int), 1) := by unfold fracUp; rw [h, if_pos g]
theorem fracDn_no {n q m t m' t' : Nat} (h : strip 2 n q = (m, t)) (h' : strip 5 m q = (m', t')) (g : ¬ 2 ^ t * 5 ^ t' ≤ 9223372036854775807) : fracDn n q = (0, 0) := by
  unfold fracDn; rw [h]; dsimp only; rw [h']; dsimp only; rw [if_neg g]
theorem fracDn_yes {n q m t m' t' P : Nat} (h : strip 2 n q = (m, t)) (h' : strip 5 m q = (m', t')) (hP : 2 ^ t * 5 ^ t' = P) (g : P ≤ 9223372036854775807) : fracDn n q = ((m' : Int), (P : Int)) := by
  unfold fracDn; rw [h]; dsimp only; rw [h']; dsimp only; rw [hP, if_pos g]
set_option maxRecDepth 100000 in
set_option maxHeartbeats 4000000 in
theorem valueR_any (b : Bool) (s : ByteArray) (e : Int) (w : World) (hl : s.size ≤ 1000000000) (he : -18014398509481984 ≤ e ∧ e ≤ 18014398509481984) (hd : Digs (bl s)) :
    Calls Tryd.prog 86 #[.bool b, .string s, .int .i64 e] w fun e' w' => e' = .returned (ratV (valOf b (bl s) e).1 (valOf b (bl s) e).2) ∧ Below w.heap.size w w' := by
  have BEL := hide (Below.refl w.heap.size w)
  go_enter Tryd.func86, Tryd.ntmps86
  go_wp2
  go_loop [7] (fun a => Rel1 (bl s) s.size a) (fun a => s.size - (intOf a).toNat)
  case atStart => exact .mk 0 (by omega) rfl rfl
  case round =>
    obtain ⟨k, hk, rfl, R1⟩ := hrel
    by_cases hlt : k < s.size
    · have cx := bl_nx s k hlt
      by_cases hz : nx (bl s) k = 48
      · have R2 := hide (R1.out.trans (c0_go hz))
        have hb : ((s[k].toNat : Int) == 48) = true := by rw [← cx, hz]; rfl
        clear cx hz
        go_wp2
        go_round
        case rel => exact .mk (k + 1) (by omega) (by go_num) R2.out
        case measure => simp [intOf]; omega
      · have C0 := hide (R1.out.trans (c0_stop hz))
        have NZ := hide hz
        have hb : ((s[k].toNat : Int) == 48) = false := by rw [← cx]; simpa using hz
        have hne : ((k : Int) == s.size) = false := by simp; omega
        clear cx hz R1
        go_wp2
        clear hb hne
        go_loop [2, 8] (fun e' b' => Rel2 (bl s) s.size k e e' b') (fun _ b' => (intOf b').toNat)
        case atStart => exact .mk s.size (by omega) (Nat.le_refl _) rfl (by congr 1; omega) (by rw [List.take_of_length_le (by rw [List.length_drop, bl_len]; omega)])
        case round =>
          obtain ⟨m, hm0, hm, rfl, rfl, R2⟩ := hrel
          obtain ⟨j, rfl⟩ : ∃ j, m = j + 1 := ⟨m - 1, by omega⟩
          have hj : j < s.size := by omega
          have cy := bl_nx s j hj
          have X := hide (show nx ((bl s).drop k) (j - k) = nx (bl s) j by rw [nx_drop]; congr 1; omega)
          have J := hide (show j + 1 - k = (j - k) + 1 by omega)
          have hj1 : ((j + 1 : Nat) : Int) - 1 = j := by omega
          by_cases hz2 : nx (bl s) j = 48
          · have hjk : j ≠ k := by rintro rfl; exact NZ.out hz2
            have R3 := hide (show cutR ((bl s).drop k) = cutR (((bl s).drop k).take (j - k)) by
              rw [R2.out, J.out]; exact cR_go (X.out.trans hz2))
            have hb : ((s[j].toNat : Int) == 48) = true := by rw [← cy, hz2]; rfl
            clear cy hz2
            go_wp2
            go_round
            case rel => exact .mk j (by omega) (by omega) (by go_num) (by congr 1; omega) R3.out
            case measure => first | (simp [intOf]; done) | (simp [intOf]; omega)
          · have CN := hide (show cutR (cut0 (bl s)) = ((bl s).drop k).take (j + 1 - k) by
              rw [C0.out, R2.out, J.out]; exact cR_stop (by rw [X.out]; exact hz2) (by rw [X.out, cy]; omega))
            have hb : ((s[j].toNat : Int) == 48) = false := by rw [← cy]; simpa using hz2
            have LC := hide (show (cutR (cut0 (bl s))).length = j + 1 - k by rw [CN.out, List.length_take, List.length_drop, bl_len]; omega)
            have L0 := hide (show (cut0 (bl s)).length = s.size - k by rw [C0.out, List.length_drop, bl_len])
            have NE := hide (show cutR (cut0 (bl s)) ≠ [] by intro h; have := LC.out; rw [h] at this; simp at this; omega)
            have hjk : k ≤ j := by omega
            clear cy hz2 R2
            by_cases h18 : 18 < j + 1 - k
            · have V := hide (val_over (b := b) (k := e) NE.out (by rw [LC.out]; exact h18))
              have h18' : (18 : Int) < ((j + 1 : Nat) : Int) - k := by omega
              go_wp2_with (go_at_call 85; refine (over_any _).mono ?_; rintro e1 w1 ⟨rfl, c, rfl⟩)
              refine bodyPost_ret (v := .agg #[.int .i64 0, .int .i64 0]) (by simp [results, Tryd.results86, go_sem]) rfl ?_
              exact ⟨by rw [V.out]; rfl, by repeat (first | (with_reducible exact BEL.out) | (with_reducible refine Below.setCell ?_ (by simp) _) | (with_reducible refine bplus ?_ _) | (with_reducible exact Below.refl _ _))⟩
            · have h18' : ¬ (18 : Int) < ((j + 1 : Nat) : Int) - k := by omega
              have h18n : j + 1 - k ≤ 18 := by omega
              have V := hide (val_fr (b := b) (k := e) NE.out (by rw [LC.out]; exact h18n))
              have DG := hide hd.cut.2
              have TS := hide (show (s.extract k (j + 1)).size = j + 1 - k by rw [← bl_len, bl_mid, List.length_take, List.length_drop, bl_len]; omega)
              have TB := hide (show bl (s.extract k (j + 1)) = cutR (cut0 (bl s)) by rw [bl_mid, CN.out])
              obtain ⟨t, ht⟩ : ∃ t, s.extract k (j + 1) = t := ⟨_, rfl⟩
              obtain ⟨cs, hcs⟩ : ∃ cs, cutR (cut0 (bl s)) = cs := ⟨_, rfl⟩
              have CS := hide hcs
              rw [ht] at TS TB
              rw [hcs] at TB DG V LC NE
              have kc := fun W => Lib.run_convert_string_bytes (P := Tryd.prog) W 9 55 5 t (u := .string) Tryd.underlying9 Tryd.underlying55 Tryd.underlying5
              have hkj : (k : Int) ≤ ((j + 1 : Nat) : Int) := by omega
              have hjs : ((j + 1 : Nat) : Int) ≤ s.size := by omega
              go_wp2
              have hB0 : Below (w.alloc (.cells #[.int .i64 0, .int .i64 0] 23)).heap.size (w.alloc (.cells #[.int .i64 0, .int .i64 0] 23)) (Lib.bytesWorld (w.alloc (.cells #[.int .i64 0, .int .i64 0] 23)) 5 t) := Joins.below_bytesWorld _ _ _ _ (Nat.le_refl _)
              have BEL := hide (show Below w.heap.size w (Lib.bytesWorld (w.alloc (.cells #[.int .i64 0, .int .i64 0] 23)) 5 t) from bto (bplus (Below.refl _ _) _) hB0)
              have CB := hide (show ∀ i, i < t.size → ((Lib.bytesWorld (w.alloc (.cells #[.int .i64 0, .int .i64 0] 23)) 5 t)).cell? ⟨w.heap.size + 1, i, none⟩ = some (.int .u8 (nx cs i)) from fun i hi => by
                have h1 := Lib.bytesWorld_cell (w.alloc (.cells #[.int .i64 0, .int .i64 0] 23)) 5 t i hi
                rw [show (w.alloc (.cells #[.int .i64 0, .int .i64 0] 23)).heap.size = w.heap.size + 1 by simp] at h1
                rw [h1, ← TB.out, bl_nx t i hi]
                congr 3
                rw [List.getD_eq_getElem?_getD, List.getElem?_eq_getElem (show i < t.data.toList.length by rw [Array.length_toList]; exact hi)]
                simp [ByteArray.getElem_eq_getElem_data])
              have m0 : ((Lib.bytesWorld (w.alloc (.cells #[.int .i64 0, .int .i64 0] 23)) 5 t)).cell? ⟨w.heap.size, 0, none⟩ = some (.int .i64 0) := by rw [hB0.cell (p := ⟨w.heap.size, 0, none⟩) (by simp)]; simp [go_sem]
              have m1 : ((Lib.bytesWorld (w.alloc (.cells #[.int .i64 0, .int .i64 0] 23)) 5 t)).cell? ⟨w.heap.size, 1, none⟩ = some (.int .i64 0) := by rw [hB0.cell (p := ⟨w.heap.size, 1, none⟩) (by simp)]; simp [go_sem]
              have f0 : ((Lib.bytesWorld (w.alloc (.cells #[.int .i64 0, .int .i64 0] 23)) 5 t)).frozen? ⟨w.heap.size, 0, none⟩ = false := by rw [hB0.frozen (p := ⟨w.heap.size, 0, none⟩) (by simp)]; simp [go_sem]
              have f1 : ((Lib.bytesWorld (w.alloc (.cells #[.int .i64 0, .int .i64 0] 23)) 5 t)).frozen? ⟨w.heap.size, 1, none⟩ = false := by rw [hB0.frozen (p := ⟨w.heap.size, 1, none⟩) (by simp)]; simp [go_sem]
              have zN := World.block_lt_of_cell? _ _ m0
              generalize grownCap (w.alloc (.cells #[.int .i64 0, .int .i64 0] 23)) t.size 0 5 = gc at *
              clear hB0 kc
              generalize (Lib.bytesWorld (w.alloc (.cells #[.int .i64 0, .int .i64 0] 23)) 5 t) = W3 at *
              have ht9 : t.size ≤ 18 := by rw [TS.out]; exact h18n
              have TL := hide (show cs.length = t.size by rw [← bl_len, TB.out])
              have H18 := hide h18n
              have P0 := hide (show e + ((s.size - (j + 1) : Nat) : Int) = e + ((((cut0 (bl s)).length - cs.length) : Nat) : Int) by rw [L0.out, LC.out]; congr 2; omega)
              have hp1 : -18014398509481984 ≤ e + ((s.size - (j + 1) : Nat) : Int) ∧ e + ((s.size - (j + 1) : Nat) : Int) ≤ 18014399509481984 := by omega
              rw [← P0.out] at V
              generalize e + ((s.size - (j + 1) : Nat) : Int) = p at *
              clear h18 h18' h18n hjk hj1 hkj hjs hb ht hcs
              go_loop [9, 52] (fun n i => Rel3 cs n i) (fun _ i => cs.length - (intOf i).toNat)
              case atStart => exact .mk 0 0 (by omega) rfl rfl (by omega) (by simp [natOf])
              case round =>
                obtain ⟨i, m, hi, rfl, rfl, hm, R3⟩ := hrel
                by_cases hil : i < cs.length
                · have hit : i < t.size := by rw [← TL.out]; exact hil
                  have cz := CB.out i hit
                  obtain ⟨s1, s2, s3⟩ := natOf_step DG.out hil
                  have hm' := natOf_take_lt DG.out (by rw [TL.out]; exact ht9) (i + 1)
                  rw [s1, ← R3.out] at hm'
                  have S := hide s1
                  have HI := hide hil
                  have hit2 : (i : Int) < t.size := by omega
                  clear s1 hil
                  generalize nx cs i = x at *
                  go_wp2
                  go_round
                  case rel => exact .mk (i + 1) (m * 10 + (x - 48).toNat) HI.out (by go_num) (by congr 1; omega) (by omega) (by rw [S.out, ← R3.out])
                  case measure => have := HI.out; simp [intOf]; omega
                · have N := hide (show m = natOf cs by rw [R3.out, List.take_of_length_le (by omega)])
                  have hit2 : ¬ (i : Int) < t.size := by rw [TL.out] at hil; omega
                  have m1' : 1 ≤ m := by
                    rw [N.out, ← CS.out]
                    exact cnt_pos hd (by rw [CS.out]; exact NE.out)
                  rw [← N.out] at V
                  clear hil R3
                  by_cases hp : 0 ≤ p
                  · obtain ⟨q, rfl⟩ := Int.eq_ofNat_of_zero_le hp
                    rw [fr_up] at V
                    have hq9 : q ≤ 1152921504606846976 := by omega
                    obtain ⟨P, hP⟩ : ∃ P, m * 10 ^ q = P := ⟨_, rfl⟩
                    have HP := hide hP
                    clear hP hp hp1
                    go_wp2
                    go_loop [2, 9] (fun e n => RelMul 10 P n e) (fun e _ => (intOf e).toNat)
                    case atStart => exact .mk m q rfl rfl m1' (by omega) hq9 HP.out
                    case round =>
                      obtain ⟨m2, k2, rfl, rfl, a1, a2, a3, R4⟩ := hrel
                      by_cases hk : 0 < k2
                      · by_cases hm2 : m2 ≤ 922337203685477580
                        · have R5 := hide (pow_go R4.out hk)
                          have b1 : (m2 : Int) ≤ 922337203685477580 := by omega
                          have b2 : (0 : Int) < k2 := by omega
                          go_wp2
                          go_round
                          case rel => exact .mk (m2 * 10) (k2 - 1) (by go_num) (by go_num) (by omega) (by omega) (by omega) R5.out
                          case measure => first | (simp [intOf]; done) | (simp [intOf]; omega)
                        · have F := hide (fracUp_no HP.out (show ¬ P ≤ 9223372036854775807 by rw [← R4.out]; exact pow_over (by omega) (by omega) hk))
                          have b1 : 922337203685477580 < (m2 : Int) := by omega
                          have b2 : (0 : Int) < k2 := by omega
                          go_wp2_with (go_at_call 85; refine (over_any _).mono ?_; rintro e1 w1 ⟨rfl, c, rfl⟩)
                          refine bodyPost_ret (v := .agg #[.int .i64 0, .int .i64 0]) (by simp [results, Tryd.results86, go_sem, m0, m1, zN, Nat.ne_of_lt zN, Nat.ne_of_gt zN]) rfl ?_
                          exact ⟨by rw [V.out, F.out]; cases b <;> rfl, by repeat (first | (with_reducible exact BEL.out) | (with_reducible refine Below.setCell ?_ (by simp) _) | (with_reducible refine bplus ?_ _))⟩
                      · obtain rfl : k2 = 0 := by omega
                        have PM := hide (show m2 = P by have := R4.out; rw [Nat.pow_zero, Nat.mul_one] at this; exact this)
                        have F := hide (fracUp_yes HP.out (show P ≤ 9223372036854775807 by rw [← PM.out]; exact a2))
                        rw [← PM.out] at F
                        clear R4
                        cases b
                        · go_wp2
                          refine wp_loop_rounds 1 ?_
                          rw [rounds_succ]
                          go_wp2
                          refine wp_loop_rounds 1 ?_
                          rw [rounds_succ]
                          go_wp2
                          refine wp_loop_rounds 1 ?_
                          rw [rounds_succ]
                          go_wp2
                          refine wp_loop_rounds 1 ?_
                          rw [rounds_succ]
                          go_wp2
                          refine bodyPost_ret (v := .agg #[.int .i64 ((m2 : Int)), .int .i64 1]) (by simp [results, Tryd.results86, go_sem, m0, m1, zN, Nat.ne_of_lt zN, Nat.ne_of_gt zN]) rfl ?_
                          exact ⟨by rw [V.out, F.out]; rfl, by repeat (first | (with_reducible exact BEL.out) | (with_reducible refine Below.setCell ?_ (by simp) _) | (with_reducible refine bplus ?_ _))⟩
                        · go_wp2
                          refine wp_loop_rounds 1 ?_
                          rw [rounds_succ]
                          go_wp2
                          refine wp_loop_rounds 1 ?_
                          rw [rounds_succ]
                          go_wp2
                          refine wp_loop_rounds 1 ?_
                          rw [rounds_succ]
                          go_wp2
                          refine wp_loop_rounds 1 ?_
                          rw [rounds_succ]
                          go_wp2
                          refine bodyPost_ret (v := .agg #[.int .i64 (-(m2 : Int)), .int .i64 1]) (by simp [results, Tryd.results86, go_sem, m0, m1, zN, Nat.ne_of_lt zN, Nat.ne_of_gt zN]) rfl ?_
                          exact ⟨by rw [V.out, F.out]; rfl, by repeat (first | (with_reducible exact BEL.out) | (with_reducible refine Below.setCell ?_ (by simp) _) | (with_reducible refine bplus ?_ _))⟩
                  · obtain ⟨q, hq⟩ := Int.eq_ofNat_of_zero_le (show 0 ≤ -p by omega)
                    obtain rfl : p = -(q : Int) := by omega
                    have hq1 : 1 ≤ q := by omega
                    have hq9 : q ≤ 1152921504606846976 := by omega
                    rw [fr_dn hq1] at V
                    have hq2 : (0 : Int) < q := by omega
                    clear hq hp hp1 P0
                    go_wp2
                    refine wp_loop_rounds 1 ?_
                    rw [rounds_succ]
                    go_wp2
                    go_loop [9, 13] (fun n t => RelDiv 2 m q n t) (fun _ t => (intOf t).toNat)
                    case atStart => exact .mk m q rfl (by first | rfl | (congr 1; omega)) m1' (by omega) hq9 rfl
                    case round =>
                      obtain ⟨m2, t2, rfl, rfl, a1, a2, a3, R4⟩ := hrel
                      by_cases hg : 0 < t2 ∧ m2 % 2 = 0
                      · obtain ⟨hk, hm2⟩ := hg
                        obtain ⟨j2, rfl⟩ : ∃ j2, t2 = j2 + 1 := ⟨t2 - 1, by omega⟩
                        have R5 := hide (R4.out.trans (strip_go hm2))
                        have hk2 : (0 : Int) < ((j2 + 1 : Nat) : Int) := by omega
                        have hb2 : ((m2 : Int) % 2 == 0) = true := by simp; omega
                        go_wp2
                        go_round
                        case rel => exact .mk (m2 / 2) j2 (by go_num) (by go_num) (by omega) (by omega) (by omega) R5.out
                        case measure => first | (simp [intOf]; done) | (simp [intOf]; omega)
                      · have E2 := hide (show strip 2 m q = (m2, t2) by
                          rw [R4.out]
                          by_cases hk : t2 = 0
                          · subst hk; rfl
                          · exact strip_stop (fun h => hg ⟨by omega, h⟩))
                        clear R4
                        by_cases hk : 0 < t2
                        · have hb3 : ((m2 : Int) % 2 == 0) = false := by simp; omega
                          have hk2 : (0 : Int) < (t2 : Int) := by omega
                          clear hg
                          go_wp2
                          go_loop [9, 14] (fun n t => RelDiv 5 m2 q n t) (fun _ t => (intOf t).toNat)
                          case atStart => exact .mk m2 q rfl (by first | rfl | (congr 1; omega)) a1 (by omega) hq9 rfl
                          case round =>
                            obtain ⟨m5, t5, rfl, rfl, a1, a2, a3, R6⟩ := hrel
                            by_cases hg : 0 < t5 ∧ m5 % 5 = 0
                            · obtain ⟨hk, hm2⟩ := hg
                              obtain ⟨j5, rfl⟩ : ∃ j5, t5 = j5 + 1 := ⟨t5 - 1, by omega⟩
                              have R5 := hide (R6.out.trans (strip_go hm2))
                              have hk2 : (0 : Int) < ((j5 + 1 : Nat) : Int) := by omega
                              have hb2 : ((m5 : Int) % 5 == 0) = true := by simp; omega
                              go_wp2
                              go_round
                              case rel => exact .mk (m5 / 5) j5 (by go_num) (by go_num) (by omega) (by omega) (by omega) R5.out
                              case measure => first | (simp [intOf]; done) | (simp [intOf]; omega)
                            · have E5 := hide (show strip 5 m2 q = (m5, t5) by
                                rw [R6.out]
                                by_cases hk : t5 = 0
                                · subst hk; rfl
                                · exact strip_stop (fun h => hg ⟨by omega, h⟩))
                              clear R6
                              by_cases hk : 0 < t5
                              · have hb3 : ((m5 : Int) % 5 == 0) = false := by simp; omega
                                have hk2 : (0 : Int) < (t5 : Int) := by omega
                                clear hg
                                by_cases hov : 62 < t2 ∨ 27 < t5
                                · have F := hide (fracDn_no E2.out E5.out (dn_over2 hov))
                                  rcases (show 62 < t2 ∨ (t2 ≤ 62 ∧ 27 < t5) by omega) with o1 | ⟨o1, o2⟩
                                  · have o3 : (62 : Int) < ((t2 : Nat) : Int) := by omega
                                    clear hov
                                    go_wp2_with (go_at_call 85; refine (over_any _).mono ?_; rintro e1 w1 ⟨rfl, c, rfl⟩)
                                    refine bodyPost_ret (v := .agg #[.int .i64 0, .int .i64 0]) (by simp [results, Tryd.results86, go_sem, m0, m1, zN, Nat.ne_of_lt zN, Nat.ne_of_gt zN]) rfl ?_
                                    exact ⟨by rw [V.out, F.out]; cases b <;> rfl, by repeat (first | (with_reducible exact BEL.out) | (with_reducible refine Below.setCell ?_ (by simp) _) | (with_reducible refine bplus ?_ _))⟩
                                  · have o3 : ¬ (62 : Int) < ((t2 : Nat) : Int) := by omega
                                    have o4 : (27 : Int) < ((t5 : Nat) : Int) := by omega
                                    clear hov
                                    go_wp2_with (go_at_call 85; refine (over_any _).mono ?_; rintro e1 w1 ⟨rfl, c, rfl⟩)
                                    refine bodyPost_ret (v := .agg #[.int .i64 0, .int .i64 0]) (by simp [results, Tryd.results86, go_sem, m0, m1, zN, Nat.ne_of_lt zN, Nat.ne_of_gt zN]) rfl ?_
                                    exact ⟨by rw [V.out, F.out]; cases b <;> rfl, by repeat (first | (with_reducible exact BEL.out) | (with_reducible refine Below.setCell ?_ (by simp) _) | (with_reducible refine bplus ?_ _))⟩
                                · have o1 : t2 ≤ 62 := by omega
                                  have o2 : t5 ≤ 27 := by omega
                                  have o3 : ¬ (62 : Int) < ((t2 : Nat) : Int) := by omega
                                  have o4 : ¬ (27 : Int) < ((t5 : Nat) : Int) := by omega
                                  clear hov
                                  go_wp2
                                  go_loop [12, 13] (fun d t => RelPw (2 ^ t2) d t) (fun _ t => (intOf t).toNat)
                                  case atStart => exact .mk 1 t2 rfl rfl (by omega) (by omega) o1 (by omega)
                                  case round =>
                                    obtain ⟨d, x2, rfl, rfl, d1, d2, d3, R7⟩ := hrel
                                    by_cases hx : 0 < x2
                                    · have R8 := hide (pow_go R7.out hx)
                                      have d4 := pw_le R7.out hx o1
                                      have hx2 : (0 : Int) < x2 := by omega
                                      go_wp2
                                      go_round
                                      case rel => exact .mk (d * 2) (x2 - 1) (by go_num) (by go_num) (by omega) (by omega) (by omega) R8.out
                                      case measure => first | (simp [intOf]; done) | (simp [intOf]; omega)
                                    · obtain rfl : x2 = 0 := by omega
                                      have PD := hide (show d = 2 ^ t2 by have := R7.out; rw [Nat.pow_zero, Nat.mul_one] at this; exact this)
                                      obtain ⟨P, hP⟩ : ∃ P, 2 ^ t2 * 5 ^ t5 = P := ⟨_, rfl⟩
                                      have HP := hide hP
                                      clear hP R7
                                      go_wp2
                                      go_loop [12, 14] (fun d t => RelMul 5 P d t) (fun _ t => (intOf t).toNat)
                                      case atStart => exact .mk d t5 rfl rfl d1 (by omega) (by omega) (by rw [PD.out]; exact HP.out)
                                      case round =>
                                        obtain ⟨d', x5, rfl, rfl, b1, b2, b3, R9⟩ := hrel
                                        by_cases hx5 : 0 < x5
                                        · by_cases hd5 : d' ≤ 1844674407370955161
                                          · have R8 := hide (pow_go R9.out hx5)
                                            have g1 : (d' : Int) ≤ 1844674407370955161 := by omega
                                            have g2 : (0 : Int) < x5 := by omega
                                            go_wp2
                                            go_round
                                            case rel => exact .mk (d' * 5) (x5 - 1) (by go_num) (by go_num) (by omega) (by omega) (by omega) R8.out
                                            case measure => first | (simp [intOf]; done) | (simp [intOf]; omega)
                                          · have F := hide (fracDn_no E2.out E5.out (show ¬ 2 ^ t2 * 5 ^ t5 ≤ 9223372036854775807 by rw [HP.out, ← R9.out]; exact pow_over (by omega) (by omega) hx5))
                                            have g1 : 1844674407370955161 < (d' : Int) := by omega
                                            have g2 : (0 : Int) < x5 := by omega
                                            go_wp2_with (go_at_call 85; refine (over_any _).mono ?_; rintro e1 w1 ⟨rfl, c, rfl⟩)
                                            refine bodyPost_ret (v := .agg #[.int .i64 0, .int .i64 0]) (by simp [results, Tryd.results86, go_sem, m0, m1, zN, Nat.ne_of_lt zN, Nat.ne_of_gt zN]) rfl ?_
                                            exact ⟨by rw [V.out, F.out]; cases b <;> rfl, by repeat (first | (with_reducible exact BEL.out) | (with_reducible refine Below.setCell ?_ (by simp) _) | (with_reducible refine bplus ?_ _))⟩
                                        · obtain rfl : x5 = 0 := by omega
                                          have PM := hide (show d' = P by have := R9.out; rw [Nat.pow_zero, Nat.mul_one] at this; exact this)
                                          have F := hide (fracDn_yes E2.out E5.out HP.out (show P ≤ 9223372036854775807 by rw [← PM.out]; exact b2))
                                          rw [← PM.out] at F
                                          clear R9
                                          cases b
                                          · go_wp2
                                            refine bodyPost_ret (v := .agg #[.int .i64 ((m5 : Nat) : Int), .int .i64 (d' : Int)]) (by simp [results, Tryd.results86, go_sem, m0, m1, zN, Nat.ne_of_lt zN, Nat.ne_of_gt zN]) rfl ?_
                                            exact ⟨by rw [V.out, F.out]; rfl, by repeat (first | (with_reducible exact BEL.out) | (with_reducible refine Below.setCell ?_ (by simp) _) | (with_reducible refine bplus ?_ _))⟩
                                          · go_wp2
                                            refine bodyPost_ret (v := .agg #[.int .i64 (-((m5 : Nat) : Int)), .int .i64 (d' : Int)]) (by simp [results, Tryd.results86, go_sem, m0, m1, zN, Nat.ne_of_lt zN, Nat.ne_of_gt zN]) rfl ?_
                                            exact ⟨by rw [V.out, F.out]; rfl, by repeat (first | (with_reducible exact BEL.out) | (with_reducible refine Below.setCell ?_ (by simp) _) | (with_reducible refine bplus ?_ _))⟩
                              · obtain rfl : t5 = 0 := by omega
                                clear hg
                                by_cases hov : 62 < t2 ∨ 27 < 0
                                · have F := hide (fracDn_no E2.out E5.out (dn_over2 hov))
                                  rcases (show 62 < t2 ∨ (t2 ≤ 62 ∧ 27 < 0) by omega) with o1 | ⟨o1, o2⟩
                                  · have o3 : (62 : Int) < ((t2 : Nat) : Int) := by omega
                                    clear hov
                                    go_wp2_with (go_at_call 85; refine (over_any _).mono ?_; rintro e1 w1 ⟨rfl, c, rfl⟩)
                                    refine bodyPost_ret (v := .agg #[.int .i64 0, .int .i64 0]) (by simp [results, Tryd.results86, go_sem, m0, m1, zN, Nat.ne_of_lt zN, Nat.ne_of_gt zN]) rfl ?_
                                    exact ⟨by rw [V.out, F.out]; cases b <;> rfl, by repeat (first | (with_reducible exact BEL.out) | (with_reducible refine Below.setCell ?_ (by simp) _) | (with_reducible refine bplus ?_ _))⟩
                                  · exact absurd o2 (by omega)
                                · have o1 : t2 ≤ 62 := by omega
                                  have o2 : 0 ≤ 27 := by omega
                                  have o3 : ¬ (62 : Int) < ((t2 : Nat) : Int) := by omega
                                  have o4 : ¬ (27 : Int) < ((0 : Nat) : Int) := by omega
                                  clear hov
                                  go_wp2
                                  go_loop [12, 13] (fun d t => RelPw (2 ^ t2) d t) (fun _ t => (intOf t).toNat)
                                  case atStart => exact .mk 1 t2 rfl rfl (by omega) (by omega) o1 (by omega)
                                  case round =>
                                    obtain ⟨d, x2, rfl, rfl, d1, d2, d3, R7⟩ := hrel
                                    by_cases hx : 0 < x2
                                    · have R8 := hide (pow_go R7.out hx)
                                      have d4 := pw_le R7.out hx o1
                                      have hx2 : (0 : Int) < x2 := by omega
                                      go_wp2
                                      go_round
                                      case rel => exact .mk (d * 2) (x2 - 1) (by go_num) (by go_num) (by omega) (by omega) (by omega) R8.out
                                      case measure => first | (simp [intOf]; done) | (simp [intOf]; omega)
                                    · obtain rfl : x2 = 0 := by omega
                                      have PD := hide (show d = 2 ^ t2 by have := R7.out; rw [Nat.pow_zero, Nat.mul_one] at this; exact this)
                                      obtain ⟨P, hP⟩ : ∃ P, 2 ^ t2 * 5 ^ 0 = P := ⟨_, rfl⟩
                                      have HP := hide hP
                                      clear hP R7
                                      go_wp2
                                      go_loop [12, 14] (fun d t => RelMul 5 P d t) (fun _ t => (intOf t).toNat)
                                      case atStart => exact .mk d 0 rfl rfl d1 (by omega) (by omega) (by rw [PD.out]; exact HP.out)
                                      case round =>
                                        obtain ⟨d', x5, rfl, rfl, b1, b2, b3, R9⟩ := hrel
                                        by_cases hx5 : 0 < x5
                                        · by_cases hd5 : d' ≤ 1844674407370955161
                                          · have R8 := hide (pow_go R9.out hx5)
                                            have g1 : (d' : Int) ≤ 1844674407370955161 := by omega
                                            have g2 : (0 : Int) < x5 := by omega
                                            go_wp2
                                            go_round
                                            case rel => exact .mk (d' * 5) (x5 - 1) (by go_num) (by go_num) (by omega) (by omega) (by omega) R8.out
                                            case measure => first | (simp [intOf]; done) | (simp [intOf]; omega)
                                          · have F := hide (fracDn_no E2.out E5.out (show ¬ 2 ^ t2 * 5 ^ 0 ≤ 9223372036854775807 by rw [HP.out, ← R9.out]; exact pow_over (by omega) (by omega) hx5))
                                            have g1 : 1844674407370955161 < (d' : Int) := by omega
                                            have g2 : (0 : Int) < x5 := by omega
                                            go_wp2_with (go_at_call 85; refine (over_any _).mono ?_; rintro e1 w1 ⟨rfl, c, rfl⟩)
                                            refine bodyPost_ret (v := .agg #[.int .i64 0, .int .i64 0]) (by simp [results, Tryd.results86, go_sem, m0, m1, zN, Nat.ne_of_lt zN, Nat.ne_of_gt zN]) rfl ?_
                                            exact ⟨by rw [V.out, F.out]; cases b <;> rfl, by repeat (first | (with_reducible exact BEL.out) | (with_reducible refine Below.setCell ?_ (by simp) _) | (with_reducible refine bplus ?_ _))⟩
                                        · obtain rfl : x5 = 0 := by omega
                                          have PM := hide (show d' = P by have := R9.out; rw [Nat.pow_zero, Nat.mul_one] at this; exact this)
                                          have F := hide (fracDn_yes E2.out E5.out HP.out (show P ≤ 9223372036854775807 by rw [← PM.out]; exact b2))
                                          rw [← PM.out] at F
                                          clear R9
                                          cases b
                                          · go_wp2
                                            refine bodyPost_ret (v := .agg #[.int .i64 ((m5 : Nat) : Int), .int .i64 (d' : Int)]) (by simp [results, Tryd.results86, go_sem, m0, m1, zN, Nat.ne_of_lt zN, Nat.ne_of_gt zN]) rfl ?_
                                            exact ⟨by rw [V.out, F.out]; rfl, by repeat (first | (with_reducible exact BEL.out) | (with_reducible refine Below.setCell ?_ (by simp) _) | (with_reducible refine bplus ?_ _))⟩
                                          · go_wp2
                                            refine bodyPost_ret (v := .agg #[.int .i64 (-((m5 : Nat) : Int)), .int .i64 (d' : Int)]) (by simp [results, Tryd.results86, go_sem, m0, m1, zN, Nat.ne_of_lt zN, Nat.ne_of_gt zN]) rfl ?_
                                            exact ⟨by rw [V.out, F.out]; rfl, by repeat (first | (with_reducible exact BEL.out) | (with_reducible refine Below.setCell ?_ (by simp) _) | (with_reducible refine bplus ?_ _))⟩
                        · obtain rfl : t2 = 0 := by omega
                          clear hg
                          go_wp2
                          go_loop [9, 14] (fun n t => RelDiv 5 m2 q n t) (fun _ t => (intOf t).toNat)
                          case atStart => exact .mk m2 q rfl (by first | rfl | (congr 1; omega)) a1 (by omega) hq9 rfl
                          case round =>
                            obtain ⟨m5, t5, rfl, rfl, a1, a2, a3, R6⟩ := hrel
                            by_cases hg : 0 < t5 ∧ m5 % 5 = 0
                            · obtain ⟨hk, hm2⟩ := hg
                              obtain ⟨j5, rfl⟩ : ∃ j5, t5 = j5 + 1 := ⟨t5 - 1, by omega⟩
                              have R5 := hide (R6.out.trans (strip_go hm2))
                              have hk2 : (0 : Int) < ((j5 + 1 : Nat) : Int) := by omega
                              have hb2 : ((m5 : Int) % 5 == 0) = true := by simp; omega
                              go_wp2
                              go_round
                              case rel => exact .mk (m5 / 5) j5 (by go_num) (by go_num) (by omega) (by omega) (by omega) R5.out
                              case measure => first | (simp [intOf]; done) | (simp [intOf]; omega)
                            · have E5 := hide (show strip 5 m2 q = (m5, t5) by
                                rw [R6.out]
                                by_cases hk : t5 = 0
                                · subst hk; rfl
                                · exact strip_stop (fun h => hg ⟨by omega, h⟩))
                              clear R6
                              by_cases hk : 0 < t5
                              · have hb3 : ((m5 : Int) % 5 == 0) = false := by simp; omega
                                have hk2 : (0 : Int) < (t5 : Int) := by omega
                                clear hg
                                by_cases hov : 62 < 0 ∨ 27 < t5
                                · have F := hide (fracDn_no E2.out E5.out (dn_over2 hov))
                                  rcases (show 62 < 0 ∨ (0 ≤ 62 ∧ 27 < t5) by omega) with o1 | ⟨o1, o2⟩
                                  · exact absurd o1 (by omega)
                                  · have o3 : ¬ (62 : Int) < ((0 : Nat) : Int) := by omega
                                    have o4 : (27 : Int) < ((t5 : Nat) : Int) := by omega
                                    clear hov
                                    go_wp2_with (go_at_call 85; refine (over_any _).mono ?_; rintro e1 w1 ⟨rfl, c, rfl⟩)
                                    refine bodyPost_ret (v := .agg #[.int .i64 0, .int .i64 0]) (by simp [results, Tryd.results86, go_sem, m0, m1, zN, Nat.ne_of_lt zN, Nat.ne_of_gt zN]) rfl ?_
                                    exact ⟨by rw [V.out, F.out]; cases b <;> rfl, by repeat (first | (with_reducible exact BEL.out) | (with_reducible refine Below.setCell ?_ (by simp) _) | (with_reducible refine bplus ?_ _))⟩
                                · have o1 : 0 ≤ 62 := by omega
                                  have o2 : t5 ≤ 27 := by omega
                                  have o3 : ¬ (62 : Int) < ((0 : Nat) : Int) := by omega
                                  have o4 : ¬ (27 : Int) < ((t5 : Nat) : Int) := by omega
                                  clear hov
                                  go_wp2
                                  go_loop [12, 13] (fun d t => RelPw (2 ^ 0) d t) (fun _ t => (intOf t).toNat)
                                  case atStart => exact .mk 1 0 rfl rfl (by omega) (by omega) o1 (by omega)
                                  case round =>
                                    obtain ⟨d, x2, rfl, rfl, d1, d2, d3, R7⟩ := hrel
                                    by_cases hx : 0 < x2
                                    · have R8 := hide (pow_go R7.out hx)
                                      have d4 := pw_le R7.out hx o1
                                      have hx2 : (0 : Int) < x2 := by omega
                                      go_wp2
                                      go_round
                                      case rel => exact .mk (d * 2) (x2 - 1) (by go_num) (by go_num) (by omega) (by omega) (by omega) R8.out
                                      case measure => first | (simp [intOf]; done) | (simp [intOf]; omega)
                                    · obtain rfl : x2 = 0 := by omega
                                      have PD := hide (show d = 2 ^ 0 by have := R7.out; rw [Nat.pow_zero, Nat.mul_one] at this; exact this)
                                      obtain ⟨P, hP⟩ : ∃ P, 2 ^ 0 * 5 ^ t5 = P := ⟨_, rfl⟩
                                      have HP := hide hP
                                      clear hP R7
                                      go_wp2
                                      go_loop [12, 14] (fun d t => RelMul 5 P d t) (fun _ t => (intOf t).toNat)
                                      case atStart => exact .mk d t5 rfl rfl d1 (by omega) (by omega) (by rw [PD.out]; exact HP.out)
                                      case round =>
                                        obtain ⟨d', x5, rfl, rfl, b1, b2, b3, R9⟩ := hrel
                                        by_cases hx5 : 0 < x5
                                        · by_cases hd5 : d' ≤ 1844674407370955161
                                          · have R8 := hide (pow_go R9.out hx5)
                                            have g1 : (d' : Int) ≤ 1844674407370955161 := by omega
                                            have g2 : (0 : Int) < x5 := by omega
                                            go_wp2
                                            go_round
                                            case rel => exact .mk (d' * 5) (x5 - 1) (by go_num) (by go_num) (by omega) (by omega) (by omega) R8.out
                                            case measure => first | (simp [intOf]; done) | (simp [intOf]; omega)
                                          · have F := hide (fracDn_no E2.out E5.out (show ¬ 2 ^ 0 * 5 ^ t5 ≤ 9223372036854775807 by rw [HP.out, ← R9.out]; exact pow_over (by omega) (by omega) hx5))
                                            have g1 : 1844674407370955161 < (d' : Int) := by omega
                                            have g2 : (0 : Int) < x5 := by omega
                                            go_wp2_with (go_at_call 85; refine (over_any _).mono ?_; rintro e1 w1 ⟨rfl, c, rfl⟩)
                                            refine bodyPost_ret (v := .agg #[.int .i64 0, .int .i64 0]) (by simp [results, Tryd.results86, go_sem, m0, m1, zN, Nat.ne_of_lt zN, Nat.ne_of_gt zN]) rfl ?_
                                            exact ⟨by rw [V.out, F.out]; cases b <;> rfl, by repeat (first | (with_reducible exact BEL.out) | (with_reducible refine Below.setCell ?_ (by simp) _) | (with_reducible refine bplus ?_ _))⟩
                                        · obtain rfl : x5 = 0 := by omega
                                          have PM := hide (show d' = P by have := R9.out; rw [Nat.pow_zero, Nat.mul_one] at this; exact this)
                                          have F := hide (fracDn_yes E2.out E5.out HP.out (show P ≤ 9223372036854775807 by rw [← PM.out]; exact b2))
                                          rw [← PM.out] at F
                                          clear R9
                                          cases b
                                          · go_wp2
                                            refine bodyPost_ret (v := .agg #[.int .i64 ((m5 : Nat) : Int), .int .i64 (d' : Int)]) (by simp [results, Tryd.results86, go_sem, m0, m1, zN, Nat.ne_of_lt zN, Nat.ne_of_gt zN]) rfl ?_
                                            exact ⟨by rw [V.out, F.out]; rfl, by repeat (first | (with_reducible exact BEL.out) | (with_reducible refine Below.setCell ?_ (by simp) _) | (with_reducible refine bplus ?_ _))⟩
                                          · go_wp2
                                            refine bodyPost_ret (v := .agg #[.int .i64 (-((m5 : Nat) : Int)), .int .i64 (d' : Int)]) (by simp [results, Tryd.results86, go_sem, m0, m1, zN, Nat.ne_of_lt zN, Nat.ne_of_gt zN]) rfl ?_
                                            exact ⟨by rw [V.out, F.out]; rfl, by repeat (first | (with_reducible exact BEL.out) | (with_reducible refine Below.setCell ?_ (by simp) _) | (with_reducible refine bplus ?_ _))⟩
                              · obtain rfl : t5 = 0 := by omega
                                clear hg
                                by_cases hov : 62 < 0 ∨ 27 < 0
                                · have F := hide (fracDn_no E2.out E5.out (dn_over2 hov))
                                  rcases (show 62 < 0 ∨ (0 ≤ 62 ∧ 27 < 0) by omega) with o1 | ⟨o1, o2⟩
                                  · exact absurd o1 (by omega)
                                  · exact absurd o2 (by omega)
                                · have o1 : 0 ≤ 62 := by omega
                                  have o2 : 0 ≤ 27 := by omega
                                  have o3 : ¬ (62 : Int) < ((0 : Nat) : Int) := by omega
                                  have o4 : ¬ (27 : Int) < ((0 : Nat) : Int) := by omega
                                  clear hov
                                  go_wp2
                                  go_loop [12, 13] (fun d t => RelPw (2 ^ 0) d t) (fun _ t => (intOf t).toNat)
                                  case atStart => exact .mk 1 0 rfl rfl (by omega) (by omega) o1 (by omega)
                                  case round =>
                                    obtain ⟨d, x2, rfl, rfl, d1, d2, d3, R7⟩ := hrel
                                    by_cases hx : 0 < x2
                                    · have R8 := hide (pow_go R7.out hx)
                                      have d4 := pw_le R7.out hx o1
                                      have hx2 : (0 : Int) < x2 := by omega
                                      go_wp2
                                      go_round
                                      case rel => exact .mk (d * 2) (x2 - 1) (by go_num) (by go_num) (by omega) (by omega) (by omega) R8.out
                                      case measure => first | (simp [intOf]; done) | (simp [intOf]; omega)
                                    · obtain rfl : x2 = 0 := by omega
                                      have PD := hide (show d = 2 ^ 0 by have := R7.out; rw [Nat.pow_zero, Nat.mul_one] at this; exact this)
                                      obtain ⟨P, hP⟩ : ∃ P, 2 ^ 0 * 5 ^ 0 = P := ⟨_, rfl⟩
                                      have HP := hide hP
                                      clear hP R7
                                      go_wp2
                                      go_loop [12, 14] (fun d t => RelMul 5 P d t) (fun _ t => (intOf t).toNat)
                                      case atStart => exact .mk d 0 rfl rfl d1 (by omega) (by omega) (by rw [PD.out]; exact HP.out)
                                      case round =>
                                        obtain ⟨d', x5, rfl, rfl, b1, b2, b3, R9⟩ := hrel
                                        by_cases hx5 : 0 < x5
                                        · by_cases hd5 : d' ≤ 1844674407370955161
                                          · have R8 := hide (pow_go R9.out hx5)
                                            have g1 : (d' : Int) ≤ 1844674407370955161 := by omega
                                            have g2 : (0 : Int) < x5 := by omega
                                            go_wp2
                                            go_round
                                            case rel => exact .mk (d' * 5) (x5 - 1) (by go_num) (by go_num) (by omega) (by omega) (by omega) R8.out
                                            case measure => first | (simp [intOf]; done) | (simp [intOf]; omega)
                                          · have F := hide (fracDn_no E2.out E5.out (show ¬ 2 ^ 0 * 5 ^ 0 ≤ 9223372036854775807 by rw [HP.out, ← R9.out]; exact pow_over (by omega) (by omega) hx5))
                                            have g1 : 1844674407370955161 < (d' : Int) := by omega
                                            have g2 : (0 : Int) < x5 := by omega
                                            go_wp2_with (go_at_call 85; refine (over_any _).mono ?_; rintro e1 w1 ⟨rfl, c, rfl⟩)
                                            refine bodyPost_ret (v := .agg #[.int .i64 0, .int .i64 0]) (by simp [results, Tryd.results86, go_sem, m0, m1, zN, Nat.ne_of_lt zN, Nat.ne_of_gt zN]) rfl ?_
                                            exact ⟨by rw [V.out, F.out]; cases b <;> rfl, by repeat (first | (with_reducible exact BEL.out) | (with_reducible refine Below.setCell ?_ (by simp) _) | (with_reducible refine bplus ?_ _))⟩
                                        · obtain rfl : x5 = 0 := by omega
                                          have PM := hide (show d' = P by have := R9.out; rw [Nat.pow_zero, Nat.mul_one] at this; exact this)
                                          have F := hide (fracDn_yes E2.out E5.out HP.out (show P ≤ 9223372036854775807 by rw [← PM.out]; exact b2))
                                          rw [← PM.out] at F
                                          clear R9
                                          cases b
                                          · go_wp2
                                            refine bodyPost_ret (v := .agg #[.int .i64 ((m5 : Nat) : Int), .int .i64 (d' : Int)]) (by simp [results, Tryd.results86, go_sem, m0, m1, zN, Nat.ne_of_lt zN, Nat.ne_of_gt zN]) rfl ?_
                                            exact ⟨by rw [V.out, F.out]; rfl, by repeat (first | (with_reducible exact BEL.out) | (with_reducible refine Below.setCell ?_ (by simp) _) | (with_reducible refine bplus ?_ _))⟩
                                          · go_wp2
                                            refine bodyPost_ret (v := .agg #[.int .i64 (-((m5 : Nat) : Int)), .int .i64 (d' : Int)]) (by simp [results, Tryd.results86, go_sem, m0, m1, zN, Nat.ne_of_lt zN, Nat.ne_of_gt zN]) rfl ?_
                                            exact ⟨by rw [V.out, F.out]; rfl, by repeat (first | (with_reducible exact BEL.out) | (with_reducible refine Below.setCell ?_ (by simp) _) | (with_reducible refine bplus ?_ _))⟩
    · have hkn : k = s.size := by omega
      have V := hide (val_zero (b := b) (D := bl s) (k := e) (show cutR (cut0 (bl s)) = [] by rw [R1.out, List.drop_of_length_le (by rw [bl_len]; omega)]; rfl))
      have hne : ((k : Int) == s.size) = true := by simp; omega
      clear hkn
      go_wp2_with (go_at_call 95; refine (intR_any _ _).mono ?_; rintro e1 w1 ⟨rfl, c, rfl⟩)
      refine bodyPost_ret (v := .agg #[.int .i64 0, .int .i64 1]) (by simp [results, Tryd.results86, go_sem]) rfl ?_
      exact ⟨by rw [V.out]; rfl, by repeat (first | (with_reducible exact BEL.out) | (with_reducible refine Below.setCell ?_ (by simp) _) | (with_reducible refine bplus ?_ _) | (with_reducible exact Below.refl _ _))⟩
end Go.Proofs.YtlkocepoohhglaaDoor
