/-
  What begins with a dash, by the program.
-/
import Derived.Test.YtckefmhleklciaaGreatDoorTokW
import Derived.Test.YtckefmhleklciaaGreatDoorTokV
import Derived.Outline
set_option linter.unusedVariables false
set_option linter.unusedSimpArgs false
namespace Go.Proofs.YtckefmhleklciaaGreatDoor
open Go.RowKit

/-- What begins with a dash. -/
def dash (s : List Int) : Tk × List Int :=
  if nuB (nx s 0) (nx s 1) (nx s 2) then numb s
  else if nx s 1 = 45 ∧ nx s 2 = 62 then (tk 15, s.drop 3)
  else if nmB (nx s 0) (nx s 1) (nx s 2) then word s else one s
theorem st_dash (s : List Int) (h : nx s 0 = 45) : stB s [45, 45, 62] = decide (nx s 1 = 45 ∧ nx s 2 = 62) := by
  have e1 : nx (s.drop 1) 0 = nx s 1 := nx_drop s 1 0
  have e2 : nx ((s.drop 1).drop 1) 0 = nx s 2 := by rw [nx_drop, nx_drop]
  simp only [stB, h, e1, e2]
  by_cases g1 : nx s 1 = 45 <;> by_cases g2 : nx s 2 = 62 <;> simp [g1, g2]
set_option maxRecDepth 100000 in
set_option maxHeartbeats 2000000 in
theorem dashToken_any (T : TypeId) (W w : World) (b : Nat) (v : Value) (l s : List Int) (hL : l.length ≤ 250000000) (h45 : nx s 0 = 45) (h : At T W w b v l s) :
    Calls Tryz.prog 66 #[.pointer (some ⟨b, 0, none⟩)] w fun e w' => Tells e (dash s).1 ∧ At T W w' b v l (dash s).2 ∧ w.grownBy w' (some b) := by
  have hb0 := h.lt
  have A1 := hide (h.below (bplus (Below.refl _ _) tok0))
  have M := hide (Mod.of b (bplus (Below.refl w.heap.size w) tok0))
  have Z := hide (tok0_alloc w)
  clear h
  have L0 := hide hL
  have L9 := hide (show l.length ≤ 35184372088832 by omega)
  clear hL
  have H1 := hide (show nx s 0 ≠ -1 by omega)
  obtain ⟨wd, hwd⟩ : ∃ x, dash s = x := ⟨_, rfl⟩
  rw [hwd]
  unfold dash at hwd
  obtain ⟨yn, hyn⟩ : ∃ x, nuB (nx s 0) (nx s 1) (nx s 2) = x := ⟨_, rfl⟩
  have YN := hide hyn
  rw [hyn] at hwd
  clear hyn
  cases yn
  · rw [if_neg (by simp)] at hwd
    have ST := st_dash s h45
    by_cases hc : nx s 1 = 45 ∧ nx s 2 = 62
    · rw [decide_eq_true hc] at ST
      rw [if_pos hc] at hwd
      replace ST := hide ST
      obtain ⟨u, hu⟩ : ∃ u, s.drop 3 = u := ⟨_, rfl⟩
      have U := hide (show s.drop (Int.toNat 3) = u from hu)
      rw [hu] at hwd
      have E := hide hwd.symm
      clear hwd hu hc h45
      go_enter Tryz.func66, Tryz.ntmps66
      go_wp2_with (first
        | (go_at_call 23; refine (aheadA T W _ b _ l _ A1.out).mono ?_; rintro e w1 ⟨f, rfl, HL, B1⟩; have HK := hide HL; obtain ⟨g, lb, rfl, eg, hg'⟩ := HL; replace hg' := hide hg'; have BL := hide (Below.refl w1.heap.size w1); replace A1 := hide (A1.out.below B1); replace M := hide (Mod.trans M.out (Mod.of b B1)); replace Z := hide (keep Z.out (Nat.ne_of_gt hb0) (Mod.of b B1)); clear B1)
        | (go_at_call 65; refine (numB_any _ s _ ((HK.out.below BL.out).le (by decide))).mono ?_; rintro e w4 ⟨he, B1⟩; rw [YN.out] at he; subst he; replace BL := hide (bto BL.out B1); replace A1 := hide (A1.out.below B1); replace M := hide (Mod.trans M.out (Mod.of b B1)); replace Z := hide (keep Z.out (Nat.ne_of_gt hb0) (Mod.of b B1)); clear B1)
        | (go_at_call 22; refine (stands_any 9 _ _ s [45, 45, 62] _ (HK.out.below (bplus BL.out _)) (Nums.lit _ 21 [45, 45, 62] 3 rfl (by omega) (by omega)) (by decide) (by decide) (by decide)).mono ?_; rintro e w4 ⟨he, B1⟩; rw [ST.out] at he; subst he; replace BL := hide (bto BL.out (bto (bplus (Below.refl _ _) _) B1)); replace A1 := hide (A1.out.below (bto (bplus (Below.refl _ _) _) B1)); replace M := hide (Mod.trans M.out (Mod.of b (bto (bplus (Below.refl _ _) _) B1))); replace Z := hide (keep Z.out (Nat.ne_of_gt hb0) (Mod.of b (bto (bplus (Below.refl _ _) _) B1))); clear B1)
        | (go_at_call 24; refine (skipA T W _ b v l s 3 A1.out (by decide) (by decide)).mono ?_; rintro e w7 ⟨rfl, A2, M2⟩; rw [U.out] at A2; replace A1 := hide A2; replace M := hide (Mod.trans M.out M2); replace Z := hide (keep Z.out (Nat.ne_of_gt hb0) M2); obtain ⟨f0, f1, f2, f3, f4, f5, c0, c1, c2, c3, c4, c5⟩ := tok0_free Z.out; clear A2 M2))
      have MM := M.out
      refine bodyPost_ret (v := tkV 15 ⟨#[]⟩ 0 0 false false) (by simp [results, Tryz.results66, go_sem, tkV, c0, c1, c2, c3, c4, c5]) rfl ?_
      exact ⟨.tk (congrArg Prod.fst E.out), by rw [E.out]; repeat (first | (with_reducible exact A1.out) | (with_reducible refine At.put ?_ hb0 _ _)), by repeat (first | (with_reducible exact MM) | (with_reducible refine Mod.put ?_ (Nat.le_refl _) _ _))⟩
    · rw [decide_eq_false hc] at ST
      rw [if_neg hc] at hwd
      replace ST := hide ST
      obtain ⟨ym, hym⟩ : ∃ x, nmB (nx s 0) (nx s 1) (nx s 2) = x := ⟨_, rfl⟩
      have YM := hide hym
      rw [hym] at hwd
      clear hym hc h45
      cases ym
      · rw [if_neg (by simp)] at hwd
        obtain ⟨⟨⟨k, tx, nu, de, wh, id⟩, r2⟩, hu2⟩ : ∃ x, one s = x := ⟨_, rfl⟩
        rw [hu2] at hwd
        have UU := hide hu2
        have E := hide hwd.symm
        clear hwd hu2
        go_enter Tryz.func66, Tryz.ntmps66
        go_wp2_with (first
          | (go_at_call 23; refine (aheadA T W _ b _ l _ A1.out).mono ?_; rintro e w1 ⟨f, rfl, HL, B1⟩; have HK := hide HL; obtain ⟨g, lb, rfl, eg, hg'⟩ := HL; replace hg' := hide hg'; have BL := hide (Below.refl w1.heap.size w1); replace A1 := hide (A1.out.below B1); replace M := hide (Mod.trans M.out (Mod.of b B1)); replace Z := hide (keep Z.out (Nat.ne_of_gt hb0) (Mod.of b B1)); clear B1)
          | (go_at_call 65; refine (numB_any _ s _ ((HK.out.below BL.out).le (by decide))).mono ?_; rintro e w4 ⟨he, B1⟩; rw [YN.out] at he; subst he; replace BL := hide (bto BL.out B1); replace A1 := hide (A1.out.below B1); replace M := hide (Mod.trans M.out (Mod.of b B1)); replace Z := hide (keep Z.out (Nat.ne_of_gt hb0) (Mod.of b B1)); clear B1)
          | (go_at_call 22; refine (stands_any 9 _ _ s [45, 45, 62] _ (HK.out.below (bplus BL.out _)) (Nums.lit _ 21 [45, 45, 62] 3 rfl (by omega) (by omega)) (by decide) (by decide) (by decide)).mono ?_; rintro e w4 ⟨he, B1⟩; rw [ST.out] at he; subst he; replace BL := hide (bto BL.out (bto (bplus (Below.refl _ _) _) B1)); replace A1 := hide (A1.out.below (bto (bplus (Below.refl _ _) _) B1)); replace M := hide (Mod.trans M.out (Mod.of b (bto (bplus (Below.refl _ _) _) B1))); replace Z := hide (keep Z.out (Nat.ne_of_gt hb0) (Mod.of b (bto (bplus (Below.refl _ _) _) B1))); clear B1)
          | (go_at_call 56; refine (nameB_any _ s _ ((HK.out.below BL.out).le (by decide))).mono ?_; rintro e w4 ⟨he, B1⟩; rw [YM.out] at he; subst he; replace BL := hide (bto BL.out B1); replace A1 := hide (A1.out.below B1); replace M := hide (Mod.trans M.out (Mod.of b B1)); replace Z := hide (keep Z.out (Nat.ne_of_gt hb0) (Mod.of b B1)); clear B1)
          | (go_at_call 67; refine (oneToken_any T W _ b v l s A1.out).mono ?_; rintro e w6 ⟨⟨z, he, hz⟩, A2, M2⟩; rw [UU.out] at he hz A2; replace he : e = .returned (.agg #[.int .i64 k, .string z, .int .i64 nu, .int .i64 de, .bool wh, .bool id]) := he; subst he; replace hz := hide hz; replace A1 := hide A2; replace M := hide (Mod.trans M.out M2); replace Z := hide (keep Z.out (Nat.ne_of_gt hb0) M2); obtain ⟨f0, f1, f2, f3, f4, f5, c0, c1, c2, c3, c4, c5⟩ := tok0_free Z.out; clear A2 M2))
        have MM := M.out
        refine bodyPost_ret (v := tkV k z nu de wh id) (by simp [results, Tryz.results66, go_sem, tkV, c0, c1, c2, c3, c4, c5]) rfl ?_
        exact ⟨by rw [E.out]; exact ⟨z, rfl, hz.out⟩, by rw [E.out]; repeat (first | (with_reducible exact A1.out) | (with_reducible refine At.put ?_ hb0 _ _)), by repeat (first | (with_reducible exact MM) | (with_reducible refine Mod.put ?_ (Nat.le_refl _) _ _))⟩
      · rw [if_pos rfl] at hwd
        obtain ⟨⟨⟨k, tx, nu, de, wh, id⟩, r2⟩, hu2⟩ : ∃ x, word s = x := ⟨_, rfl⟩
        rw [hu2] at hwd
        have UU := hide hu2
        have E := hide hwd.symm
        clear hwd hu2
        go_enter Tryz.func66, Tryz.ntmps66
        go_wp2_with (first
          | (go_at_call 23; refine (aheadA T W _ b _ l _ A1.out).mono ?_; rintro e w1 ⟨f, rfl, HL, B1⟩; have HK := hide HL; obtain ⟨g, lb, rfl, eg, hg'⟩ := HL; replace hg' := hide hg'; have BL := hide (Below.refl w1.heap.size w1); replace A1 := hide (A1.out.below B1); replace M := hide (Mod.trans M.out (Mod.of b B1)); replace Z := hide (keep Z.out (Nat.ne_of_gt hb0) (Mod.of b B1)); clear B1)
          | (go_at_call 65; refine (numB_any _ s _ ((HK.out.below BL.out).le (by decide))).mono ?_; rintro e w4 ⟨he, B1⟩; rw [YN.out] at he; subst he; replace BL := hide (bto BL.out B1); replace A1 := hide (A1.out.below B1); replace M := hide (Mod.trans M.out (Mod.of b B1)); replace Z := hide (keep Z.out (Nat.ne_of_gt hb0) (Mod.of b B1)); clear B1)
          | (go_at_call 22; refine (stands_any 9 _ _ s [45, 45, 62] _ (HK.out.below (bplus BL.out _)) (Nums.lit _ 21 [45, 45, 62] 3 rfl (by omega) (by omega)) (by decide) (by decide) (by decide)).mono ?_; rintro e w4 ⟨he, B1⟩; rw [ST.out] at he; subst he; replace BL := hide (bto BL.out (bto (bplus (Below.refl _ _) _) B1)); replace A1 := hide (A1.out.below (bto (bplus (Below.refl _ _) _) B1)); replace M := hide (Mod.trans M.out (Mod.of b (bto (bplus (Below.refl _ _) _) B1))); replace Z := hide (keep Z.out (Nat.ne_of_gt hb0) (Mod.of b (bto (bplus (Below.refl _ _) _) B1))); clear B1)
          | (go_at_call 56; refine (nameB_any _ s _ ((HK.out.below BL.out).le (by decide))).mono ?_; rintro e w4 ⟨he, B1⟩; rw [YM.out] at he; subst he; replace BL := hide (bto BL.out B1); replace A1 := hide (A1.out.below B1); replace M := hide (Mod.trans M.out (Mod.of b B1)); replace Z := hide (keep Z.out (Nat.ne_of_gt hb0) (Mod.of b B1)); clear B1)
          | (go_at_call 32; refine (wordToken_any T W _ b v l s L9.out A1.out).mono ?_; rintro e w6 ⟨⟨z, he, hz⟩, A2, M2⟩; rw [UU.out] at he hz A2; replace he : e = .returned (.agg #[.int .i64 k, .string z, .int .i64 nu, .int .i64 de, .bool wh, .bool id]) := he; subst he; replace hz := hide hz; replace A1 := hide A2; replace M := hide (Mod.trans M.out M2); replace Z := hide (keep Z.out (Nat.ne_of_gt hb0) M2); obtain ⟨f0, f1, f2, f3, f4, f5, c0, c1, c2, c3, c4, c5⟩ := tok0_free Z.out; clear A2 M2))
        have MM := M.out
        refine bodyPost_ret (v := tkV k z nu de wh id) (by simp [results, Tryz.results66, go_sem, tkV, c0, c1, c2, c3, c4, c5]) rfl ?_
        exact ⟨by rw [E.out]; exact ⟨z, rfl, hz.out⟩, by rw [E.out]; repeat (first | (with_reducible exact A1.out) | (with_reducible refine At.put ?_ hb0 _ _)), by repeat (first | (with_reducible exact MM) | (with_reducible refine Mod.put ?_ (Nat.le_refl _) _ _))⟩
  · rw [if_pos rfl] at hwd
    clear h45
    obtain ⟨⟨⟨k, tx, nu, de, wh, id⟩, r2⟩, hu2⟩ : ∃ x, numb s = x := ⟨_, rfl⟩
    rw [hu2] at hwd
    have UU := hide hu2
    have E := hide hwd.symm
    clear hwd hu2
    go_enter Tryz.func66, Tryz.ntmps66
    go_wp2_with (first
      | (go_at_call 23; refine (aheadA T W _ b _ l _ A1.out).mono ?_; rintro e w1 ⟨f, rfl, HL, B1⟩; have HK := hide HL; obtain ⟨g, lb, rfl, eg, hg'⟩ := HL; replace hg' := hide hg'; have BL := hide (Below.refl w1.heap.size w1); replace A1 := hide (A1.out.below B1); replace M := hide (Mod.trans M.out (Mod.of b B1)); replace Z := hide (keep Z.out (Nat.ne_of_gt hb0) (Mod.of b B1)); clear B1)
      | (go_at_call 65; refine (numB_any _ s _ ((HK.out.below BL.out).le (by decide))).mono ?_; rintro e w4 ⟨he, B1⟩; rw [YN.out] at he; subst he; replace BL := hide (bto BL.out B1); replace A1 := hide (A1.out.below B1); replace M := hide (Mod.trans M.out (Mod.of b B1)); replace Z := hide (keep Z.out (Nat.ne_of_gt hb0) (Mod.of b B1)); clear B1)
      | (go_at_call 30; refine (numberToken_any T W _ b v l s L0.out H1.out A1.out).mono ?_; rintro e w6 ⟨⟨z, he, hz⟩, A2, M2⟩; rw [UU.out] at he hz A2; replace he : e = .returned (.agg #[.int .i64 k, .string z, .int .i64 nu, .int .i64 de, .bool wh, .bool id]) := he; subst he; replace hz := hide hz; replace A1 := hide A2; replace M := hide (Mod.trans M.out M2); replace Z := hide (keep Z.out (Nat.ne_of_gt hb0) M2); obtain ⟨f0, f1, f2, f3, f4, f5, c0, c1, c2, c3, c4, c5⟩ := tok0_free Z.out; clear A2 M2))
    have MM := M.out
    refine bodyPost_ret (v := tkV k z nu de wh id) (by simp [results, Tryz.results66, go_sem, tkV, c0, c1, c2, c3, c4, c5]) rfl ?_
    exact ⟨by rw [E.out]; exact ⟨z, rfl, hz.out⟩, by rw [E.out]; repeat (first | (with_reducible exact A1.out) | (with_reducible refine At.put ?_ hb0 _ _)), by repeat (first | (with_reducible exact MM) | (with_reducible refine Mod.put ?_ (Nat.le_refl _) _ _))⟩
end Go.Proofs.YtckefmhleklciaaGreatDoor
