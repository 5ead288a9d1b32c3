/-
  The reference's rest of a bad url, its texts, its urls.
-/
import Derived.Test.YtckefmhleklciaaGreatDoorLRefD
set_option linter.unusedVariables false
set_option linter.unusedSimpArgs false
namespace Go.Proofs.YtckefmhleklciaaGreatDoor
open Go.RowKit

theorem news1q (w : World) (n : Nat) (h : w.heap.size = n) (u : Value) (t : TypeId) : ∀ j x, [u][j]? = some x → (w.alloc (.cells #[u] t)).cell? ((⟨n, 0, none⟩ : Addr).add j) = some x := by
  subst h; exact news1 w u t
set_option maxRecDepth 100000 in
set_option maxHeartbeats 2000000 in
theorem restR_any (T : TypeId) (W w : World) (b : Nat) (v : Value) (l s : List Int) (h : At T W w b v l s) :
    Calls Tryz.prog 98 #[.pointer (some ⟨b, 0, none⟩)] w fun e w' => Tells e (tk 8) ∧ AtR T W w' b v l (bad s) ∧ w.grownBy w' (some b) := by
  have hb0 := h.lt
  have nb1 : ¬ w.heap.size = b := by omega
  have nb2 : ¬ b = w.heap.size := by omega
  have hbw : b < (w.alloc tok0).heap.size := by simp; omega
  have A1 := hide (h.below (bplus (Below.refl _ _) tok0))
  have M0 := hide (Mod.of b (bplus (Below.refl w.heap.size w) tok0))
  have Z := hide (tok0_alloc w)
  clear h
  go_enter Tryz.func98, Tryz.ntmps98
  go_wp2
  go_loopg [] s.length (fun g wr => RelSk bad T W (w.alloc tok0) b v l s g wr)
  case atStart => exact .mk s A1.out (Nat.le_refl _) rfl (Mod.refl _ _)
  case round =>
    clear A1
    obtain ⟨t, A1, hg, R, M⟩ := hrel
    obtain ⟨p, ST, hpl, hlb⟩ := A1.stand
    have hp9 : p ≤ 140737488355328 := by omega
    replace ST := hide ST
    replace M := hide M
    clear A1
    obtain ⟨x, hx0⟩ : ∃ x, nx t 0 = x := ⟨_, rfl⟩
    have H0 := hide (show nx t (Int.toNat 0) = x from hx0)
    obtain ⟨y, hy0⟩ : ∃ y, nx t 1 = y := ⟨_, rfl⟩
    have H1 := hide (show nx t (Int.toNat 1) = y from hy0)
    obtain ⟨t1, ht1⟩ : ∃ u, t.drop 1 = u := ⟨_, rfl⟩
    have T1 := hide ht1
    have lt1 : t1.length = t.length - 1 := by rw [← ht1, List.length_drop]
    have HY := hide (show nx t1 (Int.toNat 0) = y by rw [← ht1]; show nx (t.drop 1) 0 = y; rw [nx_drop]; exact hy0)
    by_cases hd : x = -1 ∨ x = 41
    · have E := hide (R.out.trans (bad_end (by rw [hx0]; exact hd)))
      clear hx0 hy0 ht1
      rcases hd with rfl | rfl
      all_goals
        go_wp2_with (first
          | (go_at_call 18; refine (standAt_any T W _ b v l t p _ ST.out (by decide) (by decide)).mono ?_; rintro e w1 ⟨he, B1⟩; (first | (rw [H0.out] at he)); subst he; replace ST := hide (ST.out.below B1); replace M := hide (Mod.trans M.out (Mod.of b B1)); (try clear c1 f1); have c1 := ST.out.c1; have f1 := ST.out.f1; (try clear f0 f2 f3 f4 f5 c0 c2 c3 c4 c5 g1 d1); obtain ⟨f0, g1, f2, f3, f4, f5, c0, d1, c2, c3, c4, c5⟩ := tok0_free (keep Z.out (Nat.ne_of_gt hb0) M.out); clear B1))
        have FA := (ST.out.inc 1 ((p : Int) + 1) (by omega) (by omega)).atR (by omega)
        have MM := Mod.trans M0.out (Mod.trans M.out (ST.out.mod ((p : Int) + 1)))
        refine bodyPost_ret (v := tkV 8 ⟨#[]⟩ 0 0 false false) (by simp [results, Tryz.results98, go_sem, tkV, c0, d1, c2, c3, c4, c5]) rfl ?_
        exact ⟨.tk rfl, by rw [E.out]; repeat (first | (with_reducible exact FA) | (with_reducible refine AtR.put ?_ hb0 _ _)), by repeat (first | (with_reducible exact MM) | (with_reducible refine Mod.put ?_ (Nat.le_refl _) _ _))⟩
    · have e1 : (x == -1) = false := by simp; intro e; exact hd (.inl e)
      have e2 : (x == 41) = false := by simp; intro e; exact hd (.inr e)
      have L := nx_pos (s := t) (by rw [hx0]; intro e; exact hd (.inl e))
      obtain ⟨q, he⟩ : ∃ q, es2 x y = q := ⟨_, rfl⟩
      have YE := hide he
      cases q
      · have E := R.out.trans (bad_go (by rw [hx0]; exact hd) (by rw [hx0, hy0]; exact he))
        rw [ht1] at E
        replace E := hide E
        clear hx0 hy0 ht1 he hd
        go_wp2_with (first
          | (go_at_call 39; refine (escR_any _ _ _).mono ?_; rintro e w2 ⟨rfl, rfl⟩; rw [YE.out])
          | (go_at_call 18; refine (standAt_any T W _ b v l t p _ ST.out (by decide) (by decide)).mono ?_; rintro e w1 ⟨he, B1⟩; (first | (rw [H0.out] at he)); subst he; replace ST := hide (ST.out.below B1); replace M := hide (Mod.trans M.out (Mod.of b B1)); (try clear c1 f1); have c1 := ST.out.c1; have f1 := ST.out.f1; (try clear f0 f2 f3 f4 f5 c0 c2 c3 c4 c5 g1 d1); obtain ⟨f0, g1, f2, f3, f4, f5, c0, d1, c2, c3, c4, c5⟩ := tok0_free (keep Z.out (Nat.ne_of_gt hb0) M.out); clear B1)
          | (go_at_call 18; refine (standAt_any T W _ b v l t1 (p + 1) _ (by have := ST.out.inc 1 ((p : Int) + 1) (by omega) (by omega); rw [T1.out] at this; exact this) (by decide) (by decide)).mono ?_; rintro e w1 ⟨he, B1⟩; rw [HY.out] at he; subst he; have ST2 := ST.out.inc 1 ((p : Int) + 1) (by omega) (by omega); rw [T1.out] at ST2; replace M := hide (Mod.trans (Mod.trans M.out (ST.out.mod ((p : Int) + 1))) (Mod.of b B1)); replace ST := hide (ST2.below B1); clear ST2 B1 c1 f1; (try clear f0 f2 f3 f4 f5 c0 c2 c3 c4 c5 g1 d1); obtain ⟨f0, g1, f2, f3, f4, f5, c0, d1, c2, c3, c4, c5⟩ := tok0_free (keep Z.out (Nat.ne_of_gt hb0) M.out)))
        go_roundg (gk - 1)
        case measure => omega
        case rel => exact .mk t1 (ST.out.at (by omega)) (by omega) E.out M.out
      · have E := R.out.trans (bad_esc (by rw [hx0]; exact hd) (by rw [hx0, hy0]; exact he))
        rw [ht1] at E
        have LT := tesc_len t1
        obtain ⟨⟨z, r⟩, hzr⟩ : ∃ q, tesc t1 = q := ⟨_, rfl⟩
        rw [hzr] at E LT
        have TZ := hide hzr
        replace E := hide E
        clear hx0 hy0 ht1 he hd hzr
        go_wp2_with (first
          | (go_at_call 39; refine (escR_any _ _ _).mono ?_; rintro e w2 ⟨rfl, rfl⟩; rw [YE.out])
          | (go_at_call 18; refine (standAt_any T W _ b v l t p _ ST.out (by decide) (by decide)).mono ?_; rintro e w1 ⟨he, B1⟩; (first | (rw [H0.out] at he)); subst he; replace ST := hide (ST.out.below B1); replace M := hide (Mod.trans M.out (Mod.of b B1)); (try clear c1 f1); have c1 := ST.out.c1; have f1 := ST.out.f1; (try clear f0 f2 f3 f4 f5 c0 c2 c3 c4 c5 g1 d1); obtain ⟨f0, g1, f2, f3, f4, f5, c0, d1, c2, c3, c4, c5⟩ := tok0_free (keep Z.out (Nat.ne_of_gt hb0) M.out); clear B1)
          | (go_at_call 18; refine (standAt_any T W _ b v l t1 (p + 1) _ (by have := ST.out.inc 1 ((p : Int) + 1) (by omega) (by omega); rw [T1.out] at this; exact this) (by decide) (by decide)).mono ?_; rintro e w1 ⟨he, B1⟩; rw [HY.out] at he; subst he; have ST2 := ST.out.inc 1 ((p : Int) + 1) (by omega) (by omega); rw [T1.out] at ST2; replace M := hide (Mod.trans (Mod.trans M.out (ST.out.mod ((p : Int) + 1))) (Mod.of b B1)); replace ST := hide (ST2.below B1); clear ST2 B1 c1 f1; (try clear f0 f2 f3 f4 f5 c0 c2 c3 c4 c5 g1 d1); obtain ⟨f0, g1, f2, f3, f4, f5, c0, d1, c2, c3, c4, c5⟩ := tok0_free (keep Z.out (Nat.ne_of_gt hb0) M.out))
          | (go_at_call 68; refine (takenR_any T W _ b v l t1 (ST.out.at (by omega))).mono ?_; rintro e w4 ⟨he, A2, M2⟩; rw [TZ.out] at he A2; subst he; replace M := hide (Mod.trans M.out M2); have A1 := hide A2; clear A2 M2 f0 f2 f3 f4 f5 c0 c2 c3 c4 c5 g1 d1))
        go_roundg (gk - 1)
        case measure => omega
        case rel => exact .mk r A1.out (by omega) E.out M.out
set_option maxRecDepth 100000 in
set_option maxHeartbeats 4000000 in
theorem textR1_any (T : TypeId) (W w : World) (b : Nat) (v : Value) (l s : List Int) (q : Int) (hq : q = 34 ∨ q = 39) (hL : l.length ≤ 35184372088832) (h : At T W w b v l s) :
    Calls Tryz.prog 37 #[.pointer (some ⟨b, 0, none⟩), .int .i32 q] w fun e w' => Tells e (str q [] s).1 ∧ AtR T W w' b v l (str q [] s).2 ∧ w.grownBy w' (some b) := by
  obtain ⟨i0, hi, hz0, hz1, hz2⟩ := info_parts info32
  have hb0 := h.lt
  have nb1 : ¬ w.heap.size = b := by omega
  have nb2 : ¬ b = w.heap.size := by omega
  have hbw : b < (w.alloc tok0).heap.size := by simp; omega
  have A1 := hide (h.below (bplus (Below.refl _ _) tok0))
  have M0 := hide (Mod.of b (bplus (Below.refl w.heap.size w) tok0))
  have Z := hide (tok0_alloc w)
  have hsl := h.len.1
  clear h
  obtain ⟨w0, hw0⟩ : ∃ w0, w.alloc tok0 = w0 := ⟨_, rfl⟩
  rw [hw0] at hbw A1 M0 Z
  have hw0' : w.alloc (.cells #[.int .i64 0, .string ⟨#[]⟩, .int .i64 0, .int .i64 0, .bool false, .bool false] 34) = w0 := hw0
  have HZ := hide hw0'
  clear hw0 hw0'
  have q1 : (q == -1) = false := by simp; omega
  have q2 : (q == 10) = false := by simp; omega
  have q3 : (q == 92) = false := by simp; omega
  go_enter Tryz.func37, Tryz.ntmps37
  go_wp2
  rw [HZ.out]
  go_loopg [5] s.length (fun g nv wr => RelTx (str q) T W w0 b v l s s.length g nv wr)
  case atStart => exact .mk [] s A1.out (Nat.le_refl _) (by simp) (OwnM.nil _ _ _ _) rfl
  case round =>
    clear A1
    obtain ⟨xs, t, A1, hg, hx, OW, R⟩ := hrel
    obtain ⟨p, ST, hpl, hlb⟩ := A1.stand
    have hp9 : p ≤ 140737488355328 := by omega
    replace ST := hide ST
    replace OW := hide OW
    clear A1
    obtain ⟨x, hx0⟩ : ∃ x, nx t 0 = x := ⟨_, rfl⟩
    have H0 := hide (show nx t (Int.toNat 0) = x from hx0)
    obtain ⟨y, hy0⟩ : ∃ y, nx t 1 = y := ⟨_, rfl⟩
    have H1 := hide (show nx t (Int.toNat 1) = y from hy0)
    obtain ⟨t1, ht1⟩ : ∃ u, t.drop 1 = u := ⟨_, rfl⟩
    have T1 := hide ht1
    have lt1 : t1.length = t.length - 1 := by rw [← ht1, List.length_drop]
    by_cases d1' : x = -1 ∨ x = q
    · have E := hide (R.out.trans (str_end (by rw [hx0]; exact d1')))
      have n10 : (x == 10) = false := by rcases d1' with rfl | rfl; rfl; exact q2
      have n92 : (x == 92) = false := by rcases d1' with rfl | rfl; rfl; exact q3
      clear hx0 hy0 ht1
      have HXN := hide (show xs.length ≤ 4611686018427387904 by omega)
      rcases d1' with rfl | rfl
      all_goals
        go_wp2_with (first
          | (go_at_call 18; refine (standAt_any T W _ b v l t p _ ST.out (by decide) (by decide)).mono ?_; rintro e w1 ⟨he, B1⟩; (first | (rw [H0.out] at he) | (rw [H1.out] at he)); subst he; replace ST := hide (ST.out.below B1); replace OW := hide (OW.out.mod hbw (Mod.of b B1)); (try clear c1 f1); have c1 := ST.out.c1; have f1 := ST.out.f1; (try clear f0 f2 f3 f4 f5 c0 c2 c3 c4 c5 g1 d1); obtain ⟨f0, g1, f2, f3, f4, f5, c0, d1, c2, c3, c4, c5⟩ := tok0_free (keep Z.out (Nat.ne_of_gt hb0) OW.out.2); clear B1)
          | (go_at_call 45; have OW2 := OW.out.mod hbw (ST.out.mod ((p : Int) + 1)); refine (textR_any xs _ _ (OW2.nums HXN.out) (by omega)).mono ?_; rintro e w3 ⟨z, rfl, hz, B1⟩; replace hz := hide hz; replace ST := hide ((ST.out.inc 1 ((p : Int) + 1) (by omega) (by omega)).below B1); replace OW := hide (OW2.mod hbw (Mod.of b B1)); clear B1 OW2 c1 f1; (try clear f0 f2 f3 f4 f5 c0 c2 c3 c4 c5 g1 d1); obtain ⟨f0, g1, f2, f3, f4, f5, c0, d1, c2, c3, c4, c5⟩ := tok0_free (keep Z.out (Nat.ne_of_gt hb0) OW.out.2)))
        have FA := ST.out.atR (by omega)
        have MM := Mod.trans M0.out OW.out.2
        refine bodyPost_ret (v := tkV 5 z 0 0 false false) (by simp [results, Tryz.results37, go_sem, tkV, c0, d1, c2, c3, c4, c5]) rfl ?_
        exact ⟨.tkt (congrArg Prod.fst E.out) hz.out, by rw [E.out]; repeat (first | (with_reducible exact FA) | (with_reducible refine AtR.put ?_ hb0 _ _)), by repeat (first | (with_reducible exact MM) | (with_reducible refine Mod.put ?_ (Nat.le_refl _) _ _))⟩
    · by_cases d2' : x = 10
      · have E := hide (R.out.trans (str_bad (by rw [hx0]; exact d1') (hx0.trans d2')))
        subst d2'
        clear hx0 hy0 ht1
        go_wp2_with (first
          | (go_at_call 18; refine (standAt_any T W _ b v l t p _ ST.out (by decide) (by decide)).mono ?_; rintro e w1 ⟨he, B1⟩; (first | (rw [H0.out] at he) | (rw [H1.out] at he)); subst he; replace ST := hide (ST.out.below B1); replace OW := hide (OW.out.mod hbw (Mod.of b B1)); (try clear c1 f1); have c1 := ST.out.c1; have f1 := ST.out.f1; (try clear f0 f2 f3 f4 f5 c0 c2 c3 c4 c5 g1 d1); obtain ⟨f0, g1, f2, f3, f4, f5, c0, d1, c2, c3, c4, c5⟩ := tok0_free (keep Z.out (Nat.ne_of_gt hb0) OW.out.2); clear B1))
        have FA := ST.out.atR (by omega)
        have MM := Mod.trans M0.out OW.out.2
        refine bodyPost_ret (v := tkV 6 ⟨#[]⟩ 0 0 false false) (by simp [results, Tryz.results37, go_sem, tkV, c0, d1, c2, c3, c4, c5]) rfl ?_
        exact ⟨.tk (congrArg Prod.fst E.out), by rw [E.out]; repeat (first | (with_reducible exact FA) | (with_reducible refine AtR.put ?_ hb0 _ _)), by repeat (first | (with_reducible exact MM) | (with_reducible refine Mod.put ?_ (Nat.le_refl _) _ _))⟩
      · have hp : 0 < t.length := nx_pos (by rw [hx0]; exact fun e => d1' (.inl e))
        have e1 : (x == -1) = false := by simp; exact fun e => d1' (.inl e)
        have e2 : (x == q) = false := by simp; exact fun e => d1' (.inr e)
        have e3 : (x == 10) = false := by simpa using d2'
        by_cases d3 : x = 92
        · have E0 := R.out.trans (str_esc (by rw [hx0]; exact d1') (hx0.trans d3))
          subst d3
          unfold esX at E0
          rw [hy0, ht1] at E0
          by_cases y1 : y = -1
          · rw [if_pos y1] at E0
            simp only [List.append_nil] at E0
            have E := hide E0
            subst y1
            clear hx0 hy0 ht1 E0
            go_wp2_with (first
              | (go_at_call 18; refine (standAt_any T W _ b v l t p _ ST.out (by decide) (by decide)).mono ?_; rintro e w1 ⟨he, B1⟩; (first | (rw [H0.out] at he) | (rw [H1.out] at he)); subst he; replace ST := hide (ST.out.below B1); replace OW := hide (OW.out.mod hbw (Mod.of b B1)); (try clear c1 f1); have c1 := ST.out.c1; have f1 := ST.out.f1; (try clear f0 f2 f3 f4 f5 c0 c2 c3 c4 c5 g1 d1); obtain ⟨f0, g1, f2, f3, f4, f5, c0, d1, c2, c3, c4, c5⟩ := tok0_free (keep Z.out (Nat.ne_of_gt hb0) OW.out.2); clear B1))
            go_roundg (gk - 1)
            case measure => omega
            case rel => exact .mk xs t1 (by have := ST.out.inc 1 ((p : Int) + 1) (by omega) (by omega); rw [T1.out] at this; exact this.at (by omega)) (by omega) (by omega) (OW.out.mod hbw (ST.out.mod _)) E.out
          · rw [if_neg y1] at E0
            have ey1 : (y == -1) = false := by simpa using y1
            by_cases y2 : y = 10
            · rw [if_pos y2] at E0
              simp only [List.append_nil] at E0
              have E := hide E0
              have L2 : 1 < t.length := nx_len (s := t) (k := 1) (by omega)
              subst y2
              clear hx0 hy0 ht1 E0
              go_wp2_with (first
                | (go_at_call 18; refine (standAt_any T W _ b v l t p _ ST.out (by decide) (by decide)).mono ?_; rintro e w1 ⟨he, B1⟩; (first | (rw [H0.out] at he) | (rw [H1.out] at he)); subst he; replace ST := hide (ST.out.below B1); replace OW := hide (OW.out.mod hbw (Mod.of b B1)); (try clear c1 f1); have c1 := ST.out.c1; have f1 := ST.out.f1; (try clear f0 f2 f3 f4 f5 c0 c2 c3 c4 c5 g1 d1); obtain ⟨f0, g1, f2, f3, f4, f5, c0, d1, c2, c3, c4, c5⟩ := tok0_free (keep Z.out (Nat.ne_of_gt hb0) OW.out.2); clear B1))
              go_roundg (gk - 1)
              case measure => omega
              case rel => exact .mk xs (t.drop 2) ((ST.out.inc 2 ((p : Int) + 2) (by omega) (by omega)).at (by omega)) (by rw [List.length_drop]; omega) (by rw [List.length_drop]; omega) (OW.out.mod hbw (ST.out.mod _)) E.out
            · rw [if_neg y2] at E0
              have ey2 : (y == 10) = false := by simpa using y2
              have LT := tesc_len t1
              obtain ⟨⟨z, r⟩, hzr⟩ : ∃ q, tesc t1 = q := ⟨_, rfl⟩
              rw [hzr] at E0 LT
              have TZ := hide hzr
              have E := hide E0
              clear hx0 hy0 ht1 E0 hzr
              go_wp2_with (first
                | (go_at_call 18; refine (standAt_any T W _ b v l t p _ ST.out (by decide) (by decide)).mono ?_; rintro e w1 ⟨he, B1⟩; (first | (rw [H0.out] at he) | (rw [H1.out] at he)); subst he; replace ST := hide (ST.out.below B1); replace OW := hide (OW.out.mod hbw (Mod.of b B1)); (try clear c1 f1); have c1 := ST.out.c1; have f1 := ST.out.f1; (try clear f0 f2 f3 f4 f5 c0 c2 c3 c4 c5 g1 d1); obtain ⟨f0, g1, f2, f3, f4, f5, c0, d1, c2, c3, c4, c5⟩ := tok0_free (keep Z.out (Nat.ne_of_gt hb0) OW.out.2); clear B1)
                | (go_at_call 68; refine (takenR_any T W _ b v l t1 (by have := ST.out.inc 1 ((p : Int) + 1) (by omega) (by omega); rw [T1.out] at this; exact this.at (by omega))).mono ?_; rintro e w4 ⟨he, A2, M2⟩; rw [TZ.out] at he A2; subst he; replace OW := hide (OW.out.mod hbw (Mod.trans (ST.out.mod ((p : Int) + 1)) M2)); have A1 := hide A2; clear A2 M2 ST c1 f1; clear f0 f2 f3 f4 f5 c0 c2 c3 c4 c5 g1 d1)
                | (at_builtin; refine wpList_append_own _ rfl _ _ 22 rfl w0.heap.size 21 i0 (.int .i32 0) 1 4 Tryz.underlying22 hi hz0 hz1 hz2 rfl (by decide) _ _ _ rfl (OW.out.1.alloc _) ⟨_, 0, none⟩ 1 1 [.int .i32 z] rfl rfl (news1 _ _ _) (by intro u hu; simp at hu; subst hu; rfl) (by unfold maxLen; omega) (by omega) (by have := OW.out.2.size; simp; omega) ?_; intro v' w5 hown' hgrow _; replace A1 := hide (A1.out.grow hbw OW.out hgrow); replace OW := hide (OW.out.grow (ys := [z]) hown' hgrow); clear hown' hgrow))
              go_roundg (gk - 1)
              case measure => omega
              case rel => exact .mk (xs ++ [z]) r A1.out (by omega) (by rw [List.length_append, List.length_singleton]; omega) OW.out E.out
        · have e4 : (x == 92) = false := by simpa using d3
          have E := R.out.trans (str_go (by rw [hx0]; exact d1') (by rw [hx0]; exact d2') (by rw [hx0]; exact d3))
          rw [hx0, ht1] at E
          replace E := hide E
          clear hx0 hy0 ht1
          go_wp2_with (first
            | (go_at_call 18; refine (standAt_any T W _ b v l t p _ ST.out (by decide) (by decide)).mono ?_; rintro e w1 ⟨he, B1⟩; (first | (rw [H0.out] at he) | (rw [H1.out] at he)); subst he; replace ST := hide (ST.out.below B1); replace OW := hide (OW.out.mod hbw (Mod.of b B1)); (try clear c1 f1); have c1 := ST.out.c1; have f1 := ST.out.f1; (try clear f0 f2 f3 f4 f5 c0 c2 c3 c4 c5 g1 d1); obtain ⟨f0, g1, f2, f3, f4, f5, c0, d1, c2, c3, c4, c5⟩ := tok0_free (keep Z.out (Nat.ne_of_gt hb0) OW.out.2); clear B1)
            | (at_builtin; have O2 := hide (OW.out.mod hbw (ST.out.mod ((p : Int) + 1))); have S2 := ST.out.inc 1 ((p : Int) + 1) (by omega) (by omega); rw [T1.out] at S2; refine wpList_append_own _ rfl _ _ 22 rfl w0.heap.size 21 i0 (.int .i32 0) 1 4 Tryz.underlying22 hi hz0 hz1 hz2 rfl (by decide) _ _ _ rfl (O2.out.1.alloc _) ⟨_, 0, none⟩ 1 1 [.int .i32 x] rfl rfl (news1q _ _ (by simp) _ _) (by intro u hu; simp at hu; subst hu; rfl) (by unfold maxLen; omega) (by omega) (by have := O2.out.2.size; simp at this ⊢; omega) ?_; intro v' w5 hown' hgrow _; replace ST := hide (S2.grow hbw O2.out hgrow); replace OW := hide (O2.out.grow (ys := [x]) hown' hgrow); clear hown' hgrow S2 O2 c1 f1 f0 f2 f3 f4 f5 c0 c2 c3 c4 c5 g1 d1))
          go_roundg (gk - 1)
          case measure => omega
          case rel => exact .mk (xs ++ [x]) t1 (ST.out.at (by omega)) (by omega) (by rw [List.length_append, List.length_singleton]; omega) OW.out E.out
end Go.Proofs.YtckefmhleklciaaGreatDoor
