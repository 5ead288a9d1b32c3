/-
  A string, by the program.
-/
import Derived.Test.YtckefmhleklciaaGreatDoorTokN
import Derived.Outline
set_option linter.unusedVariables false
set_option linter.unusedSimpArgs false
namespace Go.Proofs.YtckefmhleklciaaGreatDoor
open Go.RowKit

theorem str_end {q : Int} {acc s : List Int} (h : nx s 0 = -1 ∨ nx s 0 = q) : str q acc s = (tkt 5 acc, s.drop 1) := by rw [str, dif_pos h]
theorem str_bad {q : Int} {acc s : List Int} (h : ¬ (nx s 0 = -1 ∨ nx s 0 = q)) (h1 : nx s 0 = 10) : str q acc s = (tk 6, s) := by rw [str, dif_neg h, dif_pos h1]
theorem str_esc {q : Int} {acc s : List Int} (h : ¬ (nx s 0 = -1 ∨ nx s 0 = q)) (h1 : nx s 0 = 92) : str q acc s = str q (acc ++ (esX s).1) (esX s).2 := by
  rw [str, dif_neg h, dif_neg (by omega), dif_pos h1]
  unfold esX
  split
  · simp
  · split
    · simp
    · rfl
theorem str_go {q : Int} {acc s : List Int} (h : ¬ (nx s 0 = -1 ∨ nx s 0 = q)) (h1 : nx s 0 ≠ 10) (h2 : nx s 0 ≠ 92) : str q acc s = str q (acc ++ [nx s 0]) (s.drop 1) := by
  rw [str, dif_neg h, dif_neg h1, dif_neg h2]
/-- The state of the loop that takes a string, a url. -/
def RelTx (f : List Int → List Int → Tk × List Int) (T : TypeId) (W w0 : World) (b : Nat) (v : Value) (l s : List Int) (N g : Nat) (nv : Value) (wr : World) : Prop :=
  ∃ xs t, At T W wr b v l t ∧ t.length ≤ g ∧ xs.length + t.length ≤ N ∧ OwnM b w0 .i32 21 wr nv xs ∧ Hid (f [] s = f xs t)
theorem RelTx.mk {f : List Int → List Int → Tk × List Int} {T : TypeId} {W w0 : World} {b : Nat} {v : Value} {l s : List Int} {N g : Nat} {nv : Value} {wr : World} (xs t : List Int) (h1 : At T W wr b v l t) (h2 : t.length ≤ g) (h3 : xs.length + t.length ≤ N) (h4 : OwnM b w0 .i32 21 wr nv xs) (h5 : f [] s = f xs t) : RelTx f T W w0 b v l s N g nv wr := ⟨xs, t, h1, h2, h3, h4, h5⟩
set_option maxRecDepth 100000 in
set_option maxHeartbeats 1000000 in
theorem stringToken_any (T : TypeId) (W w : World) (b : Nat) (v : Value) (l s u : List Int) (q : Int) (hq : q = 34 ∨ q = 39) (hL : l.length ≤ 35184372088832) (hs : nx s 0 = q) (hu : s.drop 1 = u) (h : At T W w b v l s) :
    Calls Tryz.prog 28 #[.pointer (some ⟨b, 0, none⟩)] w fun e w' => Tells e (str q [] u).1 ∧ At T W w' b v l (str q [] u).2 ∧ w.grownBy w' (some b) := by
  obtain ⟨i0, hi, hz0, hz1, hz2⟩ := info_parts info32
  have hb0 := h.lt
  have hul : u.length ≤ l.length := by have := h.len.1; rw [← hu, List.length_drop]; omega
  have hbw : b < (w.alloc tok0).heap.size := by simp; omega
  have A1 := hide (h.below (bplus (Below.refl _ _) tok0))
  have M := hide (Mod.of b (bplus (Below.refl w.heap.size w) tok0))
  have Z := hide (tok0_alloc w)
  have OW := hide (OwnM.nil b (w.alloc tok0) .i32 21)
  have X := hide hs
  have U := hide hu
  clear h hs hu
  obtain ⟨w0, hw0⟩ : ∃ w0, w.alloc tok0 = w0 := ⟨_, rfl⟩
  rw [hw0] at hbw A1 M Z OW
  have hw0' : w.alloc (.cells #[.int .i64 0, .string ⟨#[]⟩, .int .i64 0, .int .i64 0, .bool false, .bool false] 34) = w0 := hw0
  have HZ := hide hw0'
  clear hw0 hw0'
  rcases hq with rfl | rfl
  · go_enter Tryz.func28, Tryz.ntmps28
    go_wp2_with (first
      | (go_at_call 51; rw [HZ.out]; refine (takeA T W _ b v l s A1.out).mono ?_; rintro e w2 ⟨he, A2, M2⟩; rw [X.out] at he; rw [U.out] at A2; subst he; replace A1 := hide A2; replace OW := hide (OW.out.mod hbw M2); clear A2 M2))
    go_loopg [4] u.length (fun g nv wr => RelTx (str 34) T W w0 b v l u u.length g nv wr)
    case atStart => exact .mk [] u A1.out (Nat.le_refl _) (by simp) OW.out rfl
    case round =>
      clear A1 OW X U
      obtain ⟨xs, t, A1, hg, hx, OW, R⟩ := hrel
      replace A1 := hide A1
      replace OW := hide OW
      obtain ⟨na, nn, nc, rfl⟩ := (OW.out.nums (by omega)).shape
      obtain ⟨r, hr⟩ : ∃ r, t.drop 1 = r := ⟨_, rfl⟩
      have HV := hide (show t.drop (Int.toNat 1) = r from hr)
      have HV1 := hide hr
      obtain ⟨x, hx0⟩ : ∃ x, nx t 0 = x := ⟨_, rfl⟩
      have H0 := hide hx0
      by_cases d1 : x = -1 ∨ x = 34
      · have E := R.out.trans (str_end (by rw [hx0]; exact d1))
        rw [hr] at E
        replace E := hide E
        clear hr hx0
        rcases d1 with rfl | rfl
        all_goals
          go_wp2_with (first
          | (go_at_call 15; refine (nextA T W _ b v l t A1.out).mono ?_; rintro e w1 ⟨he, B1⟩; rw [H0.out] at he; subst he; replace A1 := hide (A1.out.below B1); replace OW := hide (OW.out.mod hbw (Mod.of b B1)); obtain ⟨f0, f1, f2, f3, f4, f5, c0, c1, c2, c3, c4, c5⟩ := tok0_free (keep Z.out (Nat.ne_of_gt hb0) OW.out.2); clear B1)
          | (go_at_call 24; refine (skipA T W _ b v l t 1 A1.out (by decide) (by decide)).mono ?_; rintro e w2 ⟨rfl, A2, M2⟩; rw [HV.out] at A2; replace A1 := hide A2; replace OW := hide (OW.out.mod hbw M2); clear A2 M2 f0 f1 f2 f3 f4 f5 c0 c1 c2 c3 c4 c5)
          | (go_at_call 52; refine (written_any xs _ _ (OW.out.nums (by omega)) (by omega)).mono ?_; rintro e w3 ⟨z, rfl, hz, B1⟩; replace hz := hide hz; replace A1 := hide (A1.out.below B1); replace OW := hide (OW.out.mod hbw (Mod.of b B1)); obtain ⟨f0, f1, f2, f3, f4, f5, c0, c1, c2, c3, c4, c5⟩ := tok0_free (keep Z.out (Nat.ne_of_gt hb0) OW.out.2); clear B1))
          have MM := Mod.trans M.out OW.out.2
          refine bodyPost_ret (v := tkV 5 z 0 0 false false) (by simp [results, Tryz.results28, go_sem, tkV, c0, c1, c2, c3, c4, c5]) rfl ?_
          exact ⟨.tkt (congrArg Prod.fst E.out) hz.out, by rw [E.out]; repeat (first | (with_reducible exact A1.out) | (with_reducible refine At.put ?_ hb0 _ _)), by repeat (first | (with_reducible exact MM) | (with_reducible refine Mod.put ?_ (Nat.le_refl _) _ _))⟩
      · by_cases d2 : x = 10
        · have E := hide (R.out.trans (str_bad (by rw [hx0]; exact d1) (hx0.trans d2)))
          subst d2
          clear hr hx0
          go_wp2_with (first
          | (go_at_call 15; refine (nextA T W _ b v l t A1.out).mono ?_; rintro e w1 ⟨he, B1⟩; rw [H0.out] at he; subst he; replace A1 := hide (A1.out.below B1); replace OW := hide (OW.out.mod hbw (Mod.of b B1)); obtain ⟨f0, f1, f2, f3, f4, f5, c0, c1, c2, c3, c4, c5⟩ := tok0_free (keep Z.out (Nat.ne_of_gt hb0) OW.out.2); clear B1))
          have MM := Mod.trans M.out OW.out.2
          refine bodyPost_ret (v := tkV 6 ⟨#[]⟩ 0 0 false false) (by simp [results, Tryz.results28, go_sem, tkV, c0, c1, c2, c3, c4, c5]) rfl ?_
          exact ⟨.tk (congrArg Prod.fst E.out), by rw [E.out]; repeat (first | (with_reducible exact A1.out) | (with_reducible refine At.put ?_ hb0 _ _)), by repeat (first | (with_reducible exact MM) | (with_reducible refine Mod.put ?_ (Nat.le_refl _) _ _))⟩
        · have hp : 0 < t.length := nx_pos (by rw [hx0]; exact fun e => d1 (.inl e))
          have e1 : (x == -1) = false := by simp; exact fun e => d1 (.inl e)
          have e2 : (x == 34) = false := by simp; exact fun e => d1 (.inr e)
          have e3 : (x == 10) = false := by simpa using d2
          by_cases d3 : x = 92
          · have E := hide (R.out.trans (str_esc (by rw [hx0]; exact d1) (hx0.trans d3)))
            have L2 := esX_two t hp
            subst d3
            clear hr hx0
            go_wp2_with (first
          | (go_at_call 15; refine (nextA T W _ b v l t A1.out).mono ?_; rintro e w1 ⟨he, B1⟩; rw [H0.out] at he; subst he; replace A1 := hide (A1.out.below B1); replace OW := hide (OW.out.mod hbw (Mod.of b B1)); obtain ⟨f0, f1, f2, f3, f4, f5, c0, c1, c2, c3, c4, c5⟩ := tok0_free (keep Z.out (Nat.ne_of_gt hb0) OW.out.2); clear B1)
          | (go_at_call 53; refine (appEsc_any T W w0 _ b v _ l t xs hbw (by omega) A1.out OW.out).mono ?_; rintro e w2 ⟨nv', rfl, A2, O2⟩; replace A1 := hide A2; replace OW := hide O2; clear A2 O2 f0 f1 f2 f3 f4 f5 c0 c1 c2 c3 c4 c5))
            go_roundg (gk - 1)
            case measure => omega
            case rel => exact .mk _ _ A1.out (by omega) (by rw [List.length_append]; omega) OW.out E.out
          · have e4 : (x == 92) = false := by simpa using d3
            have E := R.out.trans (str_go (by rw [hx0]; exact d1) (by rw [hx0]; exact d2) (by rw [hx0]; exact d3))
            rw [hx0, hr] at E
            replace E := hide E
            have LU : r.length = t.length - 1 := by rw [← hr, List.length_drop]
            clear hr hx0
            go_wp2_with (first
          | (go_at_call 15; refine (nextA T W _ b v l t A1.out).mono ?_; rintro e w1 ⟨he, B1⟩; rw [H0.out] at he; subst he; replace A1 := hide (A1.out.below B1); replace OW := hide (OW.out.mod hbw (Mod.of b B1)); obtain ⟨f0, f1, f2, f3, f4, f5, c0, c1, c2, c3, c4, c5⟩ := tok0_free (keep Z.out (Nat.ne_of_gt hb0) OW.out.2); clear B1)
          | (go_at_call 51; refine (takeA T W _ b _ l t A1.out).mono ?_; rintro e w2 ⟨he, A2, M2⟩; rw [H0.out] at he; rw [HV1.out] at A2; subst he; replace A1 := hide A2; replace OW := hide (OW.out.mod hbw M2); clear A2 M2 f0 f1 f2 f3 f4 f5 c0 c1 c2 c3 c4 c5)
          | (at_builtin; refine wpList_append_own _ rfl _ _ 22 rfl w0.heap.size 21 i0 (.int .i32 0) 1 4 Tryz.underlying22 hi hz0 hz1 hz2 rfl (by decide) _ _ _ rfl (OW.out.1.alloc _) ⟨_, 0, none⟩ 1 1 [.int .i32 x] rfl rfl (news1 _ _ _) (by intro u hu; simp at hu; subst hu; rfl) (by unfold maxLen; omega) (by omega) (by have := OW.out.2.size; simp; omega) ?_; intro v' w1 hown' hgrow _; replace A1 := hide (A1.out.grow hbw OW.out hgrow); replace OW := hide (OW.out.grow (ys := [x]) hown' hgrow); clear hown' hgrow))
            go_roundg (gk - 1)
            case measure => omega
            case rel => exact .mk (xs ++ [x]) r A1.out (by omega) (by rw [List.length_append, List.length_singleton]; omega) OW.out E.out
  · go_enter Tryz.func28, Tryz.ntmps28
    go_wp2_with (first
      | (go_at_call 51; rw [HZ.out]; refine (takeA T W _ b v l s A1.out).mono ?_; rintro e w2 ⟨he, A2, M2⟩; rw [X.out] at he; rw [U.out] at A2; subst he; replace A1 := hide A2; replace OW := hide (OW.out.mod hbw M2); clear A2 M2))
    go_loopg [4] u.length (fun g nv wr => RelTx (str 39) T W w0 b v l u u.length g nv wr)
    case atStart => exact .mk [] u A1.out (Nat.le_refl _) (by simp) OW.out rfl
    case round =>
      clear A1 OW X U
      obtain ⟨xs, t, A1, hg, hx, OW, R⟩ := hrel
      replace A1 := hide A1
      replace OW := hide OW
      obtain ⟨na, nn, nc, rfl⟩ := (OW.out.nums (by omega)).shape
      obtain ⟨r, hr⟩ : ∃ r, t.drop 1 = r := ⟨_, rfl⟩
      have HV := hide (show t.drop (Int.toNat 1) = r from hr)
      have HV1 := hide hr
      obtain ⟨x, hx0⟩ : ∃ x, nx t 0 = x := ⟨_, rfl⟩
      have H0 := hide hx0
      by_cases d1 : x = -1 ∨ x = 39
      · have E := R.out.trans (str_end (by rw [hx0]; exact d1))
        rw [hr] at E
        replace E := hide E
        clear hr hx0
        rcases d1 with rfl | rfl
        all_goals
          go_wp2_with (first
          | (go_at_call 15; refine (nextA T W _ b v l t A1.out).mono ?_; rintro e w1 ⟨he, B1⟩; rw [H0.out] at he; subst he; replace A1 := hide (A1.out.below B1); replace OW := hide (OW.out.mod hbw (Mod.of b B1)); obtain ⟨f0, f1, f2, f3, f4, f5, c0, c1, c2, c3, c4, c5⟩ := tok0_free (keep Z.out (Nat.ne_of_gt hb0) OW.out.2); clear B1)
          | (go_at_call 24; refine (skipA T W _ b v l t 1 A1.out (by decide) (by decide)).mono ?_; rintro e w2 ⟨rfl, A2, M2⟩; rw [HV.out] at A2; replace A1 := hide A2; replace OW := hide (OW.out.mod hbw M2); clear A2 M2 f0 f1 f2 f3 f4 f5 c0 c1 c2 c3 c4 c5)
          | (go_at_call 52; refine (written_any xs _ _ (OW.out.nums (by omega)) (by omega)).mono ?_; rintro e w3 ⟨z, rfl, hz, B1⟩; replace hz := hide hz; replace A1 := hide (A1.out.below B1); replace OW := hide (OW.out.mod hbw (Mod.of b B1)); obtain ⟨f0, f1, f2, f3, f4, f5, c0, c1, c2, c3, c4, c5⟩ := tok0_free (keep Z.out (Nat.ne_of_gt hb0) OW.out.2); clear B1))
          have MM := Mod.trans M.out OW.out.2
          refine bodyPost_ret (v := tkV 5 z 0 0 false false) (by simp [results, Tryz.results28, go_sem, tkV, c0, c1, c2, c3, c4, c5]) rfl ?_
          exact ⟨.tkt (congrArg Prod.fst E.out) hz.out, by rw [E.out]; repeat (first | (with_reducible exact A1.out) | (with_reducible refine At.put ?_ hb0 _ _)), by repeat (first | (with_reducible exact MM) | (with_reducible refine Mod.put ?_ (Nat.le_refl _) _ _))⟩
      · by_cases d2 : x = 10
        · have E := hide (R.out.trans (str_bad (by rw [hx0]; exact d1) (hx0.trans d2)))
          subst d2
          clear hr hx0
          go_wp2_with (first
          | (go_at_call 15; refine (nextA T W _ b v l t A1.out).mono ?_; rintro e w1 ⟨he, B1⟩; rw [H0.out] at he; subst he; replace A1 := hide (A1.out.below B1); replace OW := hide (OW.out.mod hbw (Mod.of b B1)); obtain ⟨f0, f1, f2, f3, f4, f5, c0, c1, c2, c3, c4, c5⟩ := tok0_free (keep Z.out (Nat.ne_of_gt hb0) OW.out.2); clear B1))
          have MM := Mod.trans M.out OW.out.2
          refine bodyPost_ret (v := tkV 6 ⟨#[]⟩ 0 0 false false) (by simp [results, Tryz.results28, go_sem, tkV, c0, c1, c2, c3, c4, c5]) rfl ?_
          exact ⟨.tk (congrArg Prod.fst E.out), by rw [E.out]; repeat (first | (with_reducible exact A1.out) | (with_reducible refine At.put ?_ hb0 _ _)), by repeat (first | (with_reducible exact MM) | (with_reducible refine Mod.put ?_ (Nat.le_refl _) _ _))⟩
        · have hp : 0 < t.length := nx_pos (by rw [hx0]; exact fun e => d1 (.inl e))
          have e1 : (x == -1) = false := by simp; exact fun e => d1 (.inl e)
          have e2 : (x == 39) = false := by simp; exact fun e => d1 (.inr e)
          have e3 : (x == 10) = false := by simpa using d2
          by_cases d3 : x = 92
          · have E := hide (R.out.trans (str_esc (by rw [hx0]; exact d1) (hx0.trans d3)))
            have L2 := esX_two t hp
            subst d3
            clear hr hx0
            go_wp2_with (first
          | (go_at_call 15; refine (nextA T W _ b v l t A1.out).mono ?_; rintro e w1 ⟨he, B1⟩; rw [H0.out] at he; subst he; replace A1 := hide (A1.out.below B1); replace OW := hide (OW.out.mod hbw (Mod.of b B1)); obtain ⟨f0, f1, f2, f3, f4, f5, c0, c1, c2, c3, c4, c5⟩ := tok0_free (keep Z.out (Nat.ne_of_gt hb0) OW.out.2); clear B1)
          | (go_at_call 53; refine (appEsc_any T W w0 _ b v _ l t xs hbw (by omega) A1.out OW.out).mono ?_; rintro e w2 ⟨nv', rfl, A2, O2⟩; replace A1 := hide A2; replace OW := hide O2; clear A2 O2 f0 f1 f2 f3 f4 f5 c0 c1 c2 c3 c4 c5))
            go_roundg (gk - 1)
            case measure => omega
            case rel => exact .mk _ _ A1.out (by omega) (by rw [List.length_append]; omega) OW.out E.out
          · have e4 : (x == 92) = false := by simpa using d3
            have E := R.out.trans (str_go (by rw [hx0]; exact d1) (by rw [hx0]; exact d2) (by rw [hx0]; exact d3))
            rw [hx0, hr] at E
            replace E := hide E
            have LU : r.length = t.length - 1 := by rw [← hr, List.length_drop]
            clear hr hx0
            go_wp2_with (first
          | (go_at_call 15; refine (nextA T W _ b v l t A1.out).mono ?_; rintro e w1 ⟨he, B1⟩; rw [H0.out] at he; subst he; replace A1 := hide (A1.out.below B1); replace OW := hide (OW.out.mod hbw (Mod.of b B1)); obtain ⟨f0, f1, f2, f3, f4, f5, c0, c1, c2, c3, c4, c5⟩ := tok0_free (keep Z.out (Nat.ne_of_gt hb0) OW.out.2); clear B1)
          | (go_at_call 51; refine (takeA T W _ b _ l t A1.out).mono ?_; rintro e w2 ⟨he, A2, M2⟩; rw [H0.out] at he; rw [HV1.out] at A2; subst he; replace A1 := hide A2; replace OW := hide (OW.out.mod hbw M2); clear A2 M2 f0 f1 f2 f3 f4 f5 c0 c1 c2 c3 c4 c5)
          | (at_builtin; refine wpList_append_own _ rfl _ _ 22 rfl w0.heap.size 21 i0 (.int .i32 0) 1 4 Tryz.underlying22 hi hz0 hz1 hz2 rfl (by decide) _ _ _ rfl (OW.out.1.alloc _) ⟨_, 0, none⟩ 1 1 [.int .i32 x] rfl rfl (news1 _ _ _) (by intro u hu; simp at hu; subst hu; rfl) (by unfold maxLen; omega) (by omega) (by have := OW.out.2.size; simp; omega) ?_; intro v' w1 hown' hgrow _; replace A1 := hide (A1.out.grow hbw OW.out hgrow); replace OW := hide (OW.out.grow (ys := [x]) hown' hgrow); clear hown' hgrow))
            go_roundg (gk - 1)
            case measure => omega
            case rel => exact .mk (xs ++ [x]) r A1.out (by omega) (by rw [List.length_append, List.length_singleton]; omega) OW.out E.out
end Go.Proofs.YtckefmhleklciaaGreatDoor
