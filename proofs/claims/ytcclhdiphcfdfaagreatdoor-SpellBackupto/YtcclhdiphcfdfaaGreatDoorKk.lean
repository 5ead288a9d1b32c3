/-
  What begins with a dash, by the program.
  What begins with a sign, by the program.
-/
import Derived.Test.YtcclhdiphcfdfaaGreatDoorKj
import Derived.Outline
set_option linter.unusedVariables false
set_option linter.unusedSimpArgs false
namespace Go.Proofs.YtcclhdiphcfdfaaGreatDoor
open Go.RowKit

/-- What begins with a dash. -/
def dash (s : List Int) : Tk × List Int :=
  if nuB (nx s 0) (nx s 1) (nx s 2) then numb s
  else if nx s 1 = 45 ∧ nx s 2 = 62 then (tk 15, s.drop 3)
  else if nmB (nx s 0) (nx s 1) (nx s 2) then word s else one s
theorem st_dash (s : List Int) (h : nx s 0 = 45) : stB s [45, 45, 62] = decide (nx s 1 = 45 ∧ nx s 2 = 62) := by
  have e1 : nx (s.drop 1) 0 = nx s 1 := nx_drop s 1 0
  have e2 : nx ((s.drop 1).drop 1) 0 = nx s 2 := by rw [nx_drop, nx_drop]
  simp only [stB, h, e1, e2]
  by_cases g1 : nx s 1 = 45 <;> by_cases g2 : nx s 2 = 62 <;> simp [g1, g2]
set_option maxRecDepth 100000 in
set_option maxHeartbeats 2000000 in
theorem dashToken_any (T : TypeId) (W w : World) (b : Nat) (v : Value) (l s : List Int) (hL : l.length ≤ 250000000) (h45 : nx s 0 = 45) (h : At T W w b v l s) :
    Calls Tryz.prog 134 #[.pointer (some ⟨b, 0, none⟩)] w fun e w' => Tells e (dash s).1 ∧ At T W w' b v l (dash s).2 ∧ w.grownBy w' (some b) := by
  have hb0 := h.lt
  have A1 := hide (h.below (bplus (Below.refl _ _) tok0))
  have M := hide (Mod.of b (bplus (Below.refl w.heap.size w) tok0))
  have Z := hide (tok0_alloc w)
  clear h
  have L0 := hide hL
  have L9 := hide (show l.length ≤ 35184372088832 by omega)
  clear hL
  have H1 := hide (show nx s 0 ≠ -1 by omega)
  obtain ⟨wd, hwd⟩ : ∃ x, dash s = x := ⟨_, rfl⟩
  rw [hwd]
  unfold dash at hwd
  obtain ⟨yn, hyn⟩ : ∃ x, nuB (nx s 0) (nx s 1) (nx s 2) = x := ⟨_, rfl⟩
  have YN := hide hyn
  rw [hyn] at hwd
  clear hyn
  cases yn
  · rw [if_neg (by simp)] at hwd
    have ST := st_dash s h45
    by_cases hc : nx s 1 = 45 ∧ nx s 2 = 62
    · rw [decide_eq_true hc] at ST
      rw [if_pos hc] at hwd
      replace ST := hide ST
      obtain ⟨u, hu⟩ : ∃ u, s.drop 3 = u := ⟨_, rfl⟩
      have U := hide (show s.drop (Int.toNat 3) = u from hu)
      rw [hu] at hwd
      have E := hide hwd.symm
      clear hwd hu hc h45
      go_enter Tryz.func134, Tryz.ntmps134
      go_wp2_with (first
        | (go_at_call 86; refine (aheadA T W _ b _ l _ A1.out).mono ?_; rintro e w1 ⟨f, rfl, HL, B1⟩; have HK := hide HL; obtain ⟨g, lb, rfl, eg, hg'⟩ := HL; replace hg' := hide hg'; have BL := hide (Below.refl w1.heap.size w1); replace A1 := hide (A1.out.below B1); replace M := hide (Mod.trans M.out (Mod.of b B1)); replace Z := hide (keep Z.out (Nat.ne_of_gt hb0) (Mod.of b B1)); clear B1)
        | (go_at_call 133; refine (numB_any _ s _ ((HK.out.below BL.out).le (by decide))).mono ?_; rintro e w4 ⟨he, B1⟩; rw [YN.out] at he; subst he; replace BL := hide (bto BL.out B1); replace A1 := hide (A1.out.below B1); replace M := hide (Mod.trans M.out (Mod.of b B1)); replace Z := hide (keep Z.out (Nat.ne_of_gt hb0) (Mod.of b B1)); clear B1)
        | (go_at_call 85; refine (stands_any 9 _ _ s [45, 45, 62] _ (HK.out.below (bplus BL.out _)) (Nums.lit _ 21 [45, 45, 62] 3 rfl (by omega) (by omega)) (by decide) (by decide) (by decide)).mono ?_; rintro e w4 ⟨he, B1⟩; rw [ST.out] at he; subst he; replace BL := hide (bto BL.out (bto (bplus (Below.refl _ _) _) B1)); replace A1 := hide (A1.out.below (bto (bplus (Below.refl _ _) _) B1)); replace M := hide (Mod.trans M.out (Mod.of b (bto (bplus (Below.refl _ _) _) B1))); replace Z := hide (keep Z.out (Nat.ne_of_gt hb0) (Mod.of b (bto (bplus (Below.refl _ _) _) B1))); clear B1)
        | (go_at_call 87; refine (skipA T W _ b v l s 3 A1.out (by decide) (by decide)).mono ?_; rintro e w7 ⟨rfl, A2, M2⟩; rw [U.out] at A2; replace A1 := hide A2; replace M := hide (Mod.trans M.out M2); replace Z := hide (keep Z.out (Nat.ne_of_gt hb0) M2); obtain ⟨f0, f1, f2, f3, f4, f5, c0, c1, c2, c3, c4, c5⟩ := tok0_free Z.out; clear A2 M2))
      have MM := M.out
      refine bodyPost_ret (v := tkV 15 ⟨#[]⟩ 0 0 false false) (by simp [results, Tryz.results134, go_sem, tkV, c0, c1, c2, c3, c4, c5]) rfl ?_
      exact ⟨.tk (congrArg Prod.fst E.out), by rw [E.out]; repeat (first | (with_reducible exact A1.out) | (with_reducible refine At.put ?_ hb0 _ _)), by repeat (first | (with_reducible exact MM) | (with_reducible refine Mod.put ?_ (Nat.le_refl _) _ _))⟩
    · rw [decide_eq_false hc] at ST
      rw [if_neg hc] at hwd
      replace ST := hide ST
      obtain ⟨ym, hym⟩ : ∃ x, nmB (nx s 0) (nx s 1) (nx s 2) = x := ⟨_, rfl⟩
      have YM := hide hym
      rw [hym] at hwd
      clear hym hc h45
      cases ym
      · rw [if_neg (by simp)] at hwd
        obtain ⟨⟨⟨k, tx, nu, de, wh, id⟩, r2⟩, hu2⟩ : ∃ x, one s = x := ⟨_, rfl⟩
        rw [hu2] at hwd
        have UU := hide hu2
        have E := hide hwd.symm
        clear hwd hu2
        go_enter Tryz.func134, Tryz.ntmps134
        go_wp2_with (first
          | (go_at_call 86; refine (aheadA T W _ b _ l _ A1.out).mono ?_; rintro e w1 ⟨f, rfl, HL, B1⟩; have HK := hide HL; obtain ⟨g, lb, rfl, eg, hg'⟩ := HL; replace hg' := hide hg'; have BL := hide (Below.refl w1.heap.size w1); replace A1 := hide (A1.out.below B1); replace M := hide (Mod.trans M.out (Mod.of b B1)); replace Z := hide (keep Z.out (Nat.ne_of_gt hb0) (Mod.of b B1)); clear B1)
          | (go_at_call 133; refine (numB_any _ s _ ((HK.out.below BL.out).le (by decide))).mono ?_; rintro e w4 ⟨he, B1⟩; rw [YN.out] at he; subst he; replace BL := hide (bto BL.out B1); replace A1 := hide (A1.out.below B1); replace M := hide (Mod.trans M.out (Mod.of b B1)); replace Z := hide (keep Z.out (Nat.ne_of_gt hb0) (Mod.of b B1)); clear B1)
          | (go_at_call 85; refine (stands_any 9 _ _ s [45, 45, 62] _ (HK.out.below (bplus BL.out _)) (Nums.lit _ 21 [45, 45, 62] 3 rfl (by omega) (by omega)) (by decide) (by decide) (by decide)).mono ?_; rintro e w4 ⟨he, B1⟩; rw [ST.out] at he; subst he; replace BL := hide (bto BL.out (bto (bplus (Below.refl _ _) _) B1)); replace A1 := hide (A1.out.below (bto (bplus (Below.refl _ _) _) B1)); replace M := hide (Mod.trans M.out (Mod.of b (bto (bplus (Below.refl _ _) _) B1))); replace Z := hide (keep Z.out (Nat.ne_of_gt hb0) (Mod.of b (bto (bplus (Below.refl _ _) _) B1))); clear B1)
          | (go_at_call 124; refine (nameB_any _ s _ ((HK.out.below BL.out).le (by decide))).mono ?_; rintro e w4 ⟨he, B1⟩; rw [YM.out] at he; subst he; replace BL := hide (bto BL.out B1); replace A1 := hide (A1.out.below B1); replace M := hide (Mod.trans M.out (Mod.of b B1)); replace Z := hide (keep Z.out (Nat.ne_of_gt hb0) (Mod.of b B1)); clear B1)
          | (go_at_call 135; refine (oneToken_any T W _ b v l s A1.out).mono ?_; rintro e w6 ⟨⟨z, he, hz⟩, A2, M2⟩; rw [UU.out] at he hz A2; replace he : e = .returned (.agg #[.int .i64 k, .string z, .int .i64 nu, .int .i64 de, .bool wh, .bool id]) := he; subst he; replace hz := hide hz; replace A1 := hide A2; replace M := hide (Mod.trans M.out M2); replace Z := hide (keep Z.out (Nat.ne_of_gt hb0) M2); obtain ⟨f0, f1, f2, f3, f4, f5, c0, c1, c2, c3, c4, c5⟩ := tok0_free Z.out; clear A2 M2))
        have MM := M.out
        refine bodyPost_ret (v := tkV k z nu de wh id) (by simp [results, Tryz.results134, go_sem, tkV, c0, c1, c2, c3, c4, c5]) rfl ?_
        exact ⟨by rw [E.out]; exact ⟨z, rfl, hz.out⟩, by rw [E.out]; repeat (first | (with_reducible exact A1.out) | (with_reducible refine At.put ?_ hb0 _ _)), by repeat (first | (with_reducible exact MM) | (with_reducible refine Mod.put ?_ (Nat.le_refl _) _ _))⟩
      · rw [if_pos rfl] at hwd
        obtain ⟨⟨⟨k, tx, nu, de, wh, id⟩, r2⟩, hu2⟩ : ∃ x, word s = x := ⟨_, rfl⟩
        rw [hu2] at hwd
        have UU := hide hu2
        have E := hide hwd.symm
        clear hwd hu2
        go_enter Tryz.func134, Tryz.ntmps134
        go_wp2_with (first
          | (go_at_call 86; refine (aheadA T W _ b _ l _ A1.out).mono ?_; rintro e w1 ⟨f, rfl, HL, B1⟩; have HK := hide HL; obtain ⟨g, lb, rfl, eg, hg'⟩ := HL; replace hg' := hide hg'; have BL := hide (Below.refl w1.heap.size w1); replace A1 := hide (A1.out.below B1); replace M := hide (Mod.trans M.out (Mod.of b B1)); replace Z := hide (keep Z.out (Nat.ne_of_gt hb0) (Mod.of b B1)); clear B1)
          | (go_at_call 133; refine (numB_any _ s _ ((HK.out.below BL.out).le (by decide))).mono ?_; rintro e w4 ⟨he, B1⟩; rw [YN.out] at he; subst he; replace BL := hide (bto BL.out B1); replace A1 := hide (A1.out.below B1); replace M := hide (Mod.trans M.out (Mod.of b B1)); replace Z := hide (keep Z.out (Nat.ne_of_gt hb0) (Mod.of b B1)); clear B1)
          | (go_at_call 85; refine (stands_any 9 _ _ s [45, 45, 62] _ (HK.out.below (bplus BL.out _)) (Nums.lit _ 21 [45, 45, 62] 3 rfl (by omega) (by omega)) (by decide) (by decide) (by decide)).mono ?_; rintro e w4 ⟨he, B1⟩; rw [ST.out] at he; subst he; replace BL := hide (bto BL.out (bto (bplus (Below.refl _ _) _) B1)); replace A1 := hide (A1.out.below (bto (bplus (Below.refl _ _) _) B1)); replace M := hide (Mod.trans M.out (Mod.of b (bto (bplus (Below.refl _ _) _) B1))); replace Z := hide (keep Z.out (Nat.ne_of_gt hb0) (Mod.of b (bto (bplus (Below.refl _ _) _) B1))); clear B1)
          | (go_at_call 124; refine (nameB_any _ s _ ((HK.out.below BL.out).le (by decide))).mono ?_; rintro e w4 ⟨he, B1⟩; rw [YM.out] at he; subst he; replace BL := hide (bto BL.out B1); replace A1 := hide (A1.out.below B1); replace M := hide (Mod.trans M.out (Mod.of b B1)); replace Z := hide (keep Z.out (Nat.ne_of_gt hb0) (Mod.of b B1)); clear B1)
          | (go_at_call 95; refine (wordToken_any T W _ b v l s L9.out A1.out).mono ?_; rintro e w6 ⟨⟨z, he, hz⟩, A2, M2⟩; rw [UU.out] at he hz A2; replace he : e = .returned (.agg #[.int .i64 k, .string z, .int .i64 nu, .int .i64 de, .bool wh, .bool id]) := he; subst he; replace hz := hide hz; replace A1 := hide A2; replace M := hide (Mod.trans M.out M2); replace Z := hide (keep Z.out (Nat.ne_of_gt hb0) M2); obtain ⟨f0, f1, f2, f3, f4, f5, c0, c1, c2, c3, c4, c5⟩ := tok0_free Z.out; clear A2 M2))
        have MM := M.out
        refine bodyPost_ret (v := tkV k z nu de wh id) (by simp [results, Tryz.results134, go_sem, tkV, c0, c1, c2, c3, c4, c5]) rfl ?_
        exact ⟨by rw [E.out]; exact ⟨z, rfl, hz.out⟩, by rw [E.out]; repeat (first | (with_reducible exact A1.out) | (with_reducible refine At.put ?_ hb0 _ _)), by repeat (first | (with_reducible exact MM) | (with_reducible refine Mod.put ?_ (Nat.le_refl _) _ _))⟩
  · rw [if_pos rfl] at hwd
    clear h45
    obtain ⟨⟨⟨k, tx, nu, de, wh, id⟩, r2⟩, hu2⟩ : ∃ x, numb s = x := ⟨_, rfl⟩
    rw [hu2] at hwd
    have UU := hide hu2
    have E := hide hwd.symm
    clear hwd hu2
    go_enter Tryz.func134, Tryz.ntmps134
    go_wp2_with (first
      | (go_at_call 86; refine (aheadA T W _ b _ l _ A1.out).mono ?_; rintro e w1 ⟨f, rfl, HL, B1⟩; have HK := hide HL; obtain ⟨g, lb, rfl, eg, hg'⟩ := HL; replace hg' := hide hg'; have BL := hide (Below.refl w1.heap.size w1); replace A1 := hide (A1.out.below B1); replace M := hide (Mod.trans M.out (Mod.of b B1)); replace Z := hide (keep Z.out (Nat.ne_of_gt hb0) (Mod.of b B1)); clear B1)
      | (go_at_call 133; refine (numB_any _ s _ ((HK.out.below BL.out).le (by decide))).mono ?_; rintro e w4 ⟨he, B1⟩; rw [YN.out] at he; subst he; replace BL := hide (bto BL.out B1); replace A1 := hide (A1.out.below B1); replace M := hide (Mod.trans M.out (Mod.of b B1)); replace Z := hide (keep Z.out (Nat.ne_of_gt hb0) (Mod.of b B1)); clear B1)
      | (go_at_call 93; refine (numberToken_any T W _ b v l s L0.out H1.out A1.out).mono ?_; rintro e w6 ⟨⟨z, he, hz⟩, A2, M2⟩; rw [UU.out] at he hz A2; replace he : e = .returned (.agg #[.int .i64 k, .string z, .int .i64 nu, .int .i64 de, .bool wh, .bool id]) := he; subst he; replace hz := hide hz; replace A1 := hide A2; replace M := hide (Mod.trans M.out M2); replace Z := hide (keep Z.out (Nat.ne_of_gt hb0) M2); obtain ⟨f0, f1, f2, f3, f4, f5, c0, c1, c2, c3, c4, c5⟩ := tok0_free Z.out; clear A2 M2))
    have MM := M.out
    refine bodyPost_ret (v := tkV k z nu de wh id) (by simp [results, Tryz.results134, go_sem, tkV, c0, c1, c2, c3, c4, c5]) rfl ?_
    exact ⟨by rw [E.out]; exact ⟨z, rfl, hz.out⟩, by rw [E.out]; repeat (first | (with_reducible exact A1.out) | (with_reducible refine At.put ?_ hb0 _ _)), by repeat (first | (with_reducible exact MM) | (with_reducible refine Mod.put ?_ (Nat.le_refl _) _ _))⟩
end Go.Proofs.YtcclhdiphcfdfaaGreatDoor
set_option linter.unusedVariables false
set_option linter.unusedSimpArgs false
namespace Go.Proofs.YtcclhdiphcfdfaaGreatDoor
open Go.RowKit

theorem st_cdo (s : List Int) (h : nx s 0 = 60) : stB s [60, 33, 45, 45] = decide (nx s 1 = 33 ∧ nx s 2 = 45 ∧ nx s 3 = 45) := by
  have e1 : nx (s.drop 1) 0 = nx s 1 := nx_drop s 1 0
  have e2 : nx ((s.drop 1).drop 1) 0 = nx s 2 := by rw [nx_drop, nx_drop]
  have e3 : nx (((s.drop 1).drop 1).drop 1) 0 = nx s 3 := by rw [nx_drop, nx_drop, nx_drop]
  simp only [stB, h, e1, e2, e3]
  by_cases g1 : nx s 1 = 33 <;> by_cases g2 : nx s 2 = 45 <;> by_cases g3 : nx s 3 = 45 <;> simp [g1, g2, g3]
theorem sgnT_hash {s : List Int} (h : nx s 0 = 35) : sgnT s = if isLet (nx s 1) || es2 (nx s 1) (nx s 2) then hash s else one s := by unfold sgnT; rw [if_pos h]
theorem sgnT_num {s : List Int} (h : nx s 0 = 43 ∨ nx s 0 = 46) : sgnT s = if nuB (nx s 0) (nx s 1) (nx s 2) then numb s else one s := by unfold sgnT; rw [if_neg (by omega), if_pos h]
theorem sgnT_dash {s : List Int} (h : nx s 0 = 45) : sgnT s = dash s := by unfold sgnT; rw [if_neg (by omega), if_neg (by omega), if_pos h]; rfl
theorem sgnT_cdo {s : List Int} (h : nx s 0 = 60) : sgnT s = if nx s 1 = 33 ∧ nx s 2 = 45 ∧ nx s 3 = 45 then (tk 14, s.drop 4) else one s := by unfold sgnT; rw [if_neg (by omega), if_neg (by omega), if_neg (by omega), if_pos h]
theorem sgnT_at {s : List Int} (h : nx s 0 = 64) : sgnT s = if nmB (nx s 1) (nx s 2) (nx s 3) then (tkt 3 (nam [] (s.drop 1)).1, (nam [] (s.drop 1)).2) else one s := by unfold sgnT; rw [if_neg (by omega), if_neg (by omega), if_neg (by omega), if_neg (by omega), if_pos h]
theorem sgnT_esc {s : List Int} (h : nx s 0 = 92) : sgnT s = if es2 (nx s 0) (nx s 1) then word s else one s := by unfold sgnT; rw [if_neg (by omega), if_neg (by omega), if_neg (by omega), if_neg (by omega), if_neg (by omega), if_pos h]
theorem sgnT_one {s : List Int} (h1 : nx s 0 ≠ 35) (h2 : nx s 0 ≠ 43) (h3 : nx s 0 ≠ 46) (h4 : nx s 0 ≠ 45) (h5 : nx s 0 ≠ 60) (h6 : nx s 0 ≠ 64) (h7 : nx s 0 ≠ 92) : sgnT s = one s := by
  unfold sgnT; rw [if_neg h1, if_neg (by omega), if_neg h4, if_neg h5, if_neg h6, if_neg h7]
def SignGoal (T : TypeId) (W w : World) (b : Nat) (v : Value) (l s : List Int) : Prop :=
  Calls Tryz.prog 96 #[.pointer (some ⟨b, 0, none⟩)] w fun e w' => Tells e (sgnT s).1 ∧ At T W w' b v l (sgnT s).2 ∧ w.grownBy w' (some b)
set_option maxRecDepth 100000 in
set_option maxHeartbeats 2000000 in
theorem sign_hash (T : TypeId) (W w : World) (b : Nat) (v : Value) (l s : List Int) (hL : l.length ≤ 250000000) (hx : nx s 0 = 35) (h : At T W w b v l s) : SignGoal T W w b v l s := by
  unfold SignGoal
  have hb0 := h.lt
  have A1 := hide (h.below (bplus (Below.refl _ _) tok0))
  have M := hide (Mod.of b (bplus (Below.refl w.heap.size w) tok0))
  have Z := hide (tok0_alloc w)
  clear h
  have L0 := hide hL
  have L9 := hide (show l.length ≤ 35184372088832 by omega)
  clear hL
  obtain ⟨wd, hwd⟩ : ∃ x, sgnT s = x := ⟨_, rfl⟩
  rw [hwd]
  rw [sgnT_hash hx] at hwd
  have H0 := hide (show nx s (Int.toNat 0) = _ from hx)
  have X0 := hide hx
  have H1 := hide (show nx s 0 ≠ -1 by omega)
  obtain ⟨u, hu⟩ : ∃ u, s.drop 1 = u := ⟨_, rfl⟩
  have U1 := hide hu
  have U2 := hide (show s.drop (Int.toNat 1) = u from hu)
  have ED : es2 (nx s 1) (nx s 2) = es2 (nx u 0) (nx u 1) := by rw [← hu, nx_drop, nx_drop]
  rw [ED] at hwd
  obtain ⟨x1, hx1⟩ : ∃ x, nx s 1 = x := ⟨_, rfl⟩
  have H2 := hide (show nx s (Int.toNat 1) = x1 from hx1)
  rw [hx1] at hwd
  obtain ⟨y, hy⟩ : ∃ y, isLet x1 = y := ⟨_, rfl⟩
  have Y := hide hy
  rw [hy] at hwd
  obtain ⟨q, hq⟩ : ∃ q, es2 (nx u 0) (nx u 1) = q := ⟨_, rfl⟩
  have Q := hide hq
  rw [hq] at hwd
  clear hq hy hx1 hx hu ED
  cases y
  · cases q
    · rw [if_neg (by simp)] at hwd
      obtain ⟨⟨⟨k, tx, nu, de, wh, id⟩, r2⟩, hu2⟩ : ∃ x, one s = x := ⟨_, rfl⟩
      rw [hu2] at hwd
      have UU := hide hu2
      have E := hide hwd.symm
      clear hwd hu2
      go_enter Tryz.func96, Tryz.ntmps96
      go_wp2_with (first
        | (go_at_call 86; refine (aheadA T W _ b _ l _ A1.out).mono ?_; rintro e w1 ⟨f, rfl, HL, B1⟩; have HK := hide HL; obtain ⟨g, lb, rfl, eg, hg'⟩ := HL; replace hg' := hide hg'; have BL := hide (Below.refl w1.heap.size w1); replace A1 := hide (A1.out.below B1); replace M := hide (Mod.trans M.out (Mod.of b B1)); replace Z := hide (keep Z.out (Nat.ne_of_gt hb0) (Mod.of b B1)); clear B1)
        | (go_at_fn g; refine (hg'.out _ _ (by decide) (by decide) BL.out).mono ?_; rintro e w3 ⟨he, B1⟩; (first | (rw [H0.out] at he) | (rw [H2.out] at he)); subst he; replace BL := hide (bto BL.out B1); replace A1 := hide (A1.out.below B1); replace M := hide (Mod.trans M.out (Mod.of b B1)); replace Z := hide (keep Z.out (Nat.ne_of_gt hb0) (Mod.of b B1)); clear B1)
        | (go_at_call 129; refine (isLetP_any _ _).mono ?_; rintro e w8 ⟨rfl, rfl⟩; rw [Y.out])
        | (go_at_call 131; refine (behind_any 4 _ s 1 _ ((HK.out.below BL.out).le (by decide)) (by decide) (by decide)).mono ?_; rintro e w5 ⟨f2, rfl, HB, B1⟩; rw [U1.out] at HB; replace HB := hide HB; replace BL := hide (bto BL.out B1); replace A1 := hide (A1.out.below B1); replace M := hide (Mod.trans M.out (Mod.of b B1)); replace Z := hide (keep Z.out (Nat.ne_of_gt hb0) (Mod.of b B1)); clear B1)
        | (go_at_call 130; refine (isEscape_any _ u _ ((HB.out).le (by decide))).mono ?_; rintro e w4 ⟨he, B1⟩; rw [Q.out] at he; subst he; replace BL := hide (bto BL.out B1); replace A1 := hide (A1.out.below B1); replace M := hide (Mod.trans M.out (Mod.of b B1)); replace Z := hide (keep Z.out (Nat.ne_of_gt hb0) (Mod.of b B1)); clear B1)
        | (go_at_call 135; refine (oneToken_any T W _ b v l s A1.out).mono ?_; rintro e w6 ⟨⟨z, he, hz⟩, A2, M2⟩; rw [UU.out] at he hz A2; replace he : e = .returned (.agg #[.int .i64 k, .string z, .int .i64 nu, .int .i64 de, .bool wh, .bool id]) := he; subst he; replace hz := hide hz; replace A1 := hide A2; replace M := hide (Mod.trans M.out M2); replace Z := hide (keep Z.out (Nat.ne_of_gt hb0) M2); obtain ⟨f0, f1, f2, f3, f4, f5, c0, c1, c2, c3, c4, c5⟩ := tok0_free Z.out; clear A2 M2))
      have MM := M.out
      refine bodyPost_ret (v := tkV k z nu de wh id) (by simp [results, Tryz.results96, go_sem, tkV, c0, c1, c2, c3, c4, c5]) rfl ?_
      exact ⟨by rw [E.out]; exact ⟨z, rfl, hz.out⟩, by rw [E.out]; repeat (first | (with_reducible exact A1.out) | (with_reducible refine At.put ?_ hb0 _ _)), by repeat (first | (with_reducible exact MM) | (with_reducible refine Mod.put ?_ (Nat.le_refl _) _ _))⟩
    · rw [if_pos (by simp)] at hwd
      obtain ⟨⟨⟨k, tx, nu, de, wh, id⟩, r2⟩, hu2⟩ : ∃ x, hash s = x := ⟨_, rfl⟩
      rw [hu2] at hwd
      have UU := hide hu2
      have E := hide hwd.symm
      clear hwd hu2
      go_enter Tryz.func96, Tryz.ntmps96
      go_wp2_with (first
        | (go_at_call 86; refine (aheadA T W _ b _ l _ A1.out).mono ?_; rintro e w1 ⟨f, rfl, HL, B1⟩; have HK := hide HL; obtain ⟨g, lb, rfl, eg, hg'⟩ := HL; replace hg' := hide hg'; have BL := hide (Below.refl w1.heap.size w1); replace A1 := hide (A1.out.below B1); replace M := hide (Mod.trans M.out (Mod.of b B1)); replace Z := hide (keep Z.out (Nat.ne_of_gt hb0) (Mod.of b B1)); clear B1)
        | (go_at_fn g; refine (hg'.out _ _ (by decide) (by decide) BL.out).mono ?_; rintro e w3 ⟨he, B1⟩; (first | (rw [H0.out] at he) | (rw [H2.out] at he)); subst he; replace BL := hide (bto BL.out B1); replace A1 := hide (A1.out.below B1); replace M := hide (Mod.trans M.out (Mod.of b B1)); replace Z := hide (keep Z.out (Nat.ne_of_gt hb0) (Mod.of b B1)); clear B1)
        | (go_at_call 129; refine (isLetP_any _ _).mono ?_; rintro e w8 ⟨rfl, rfl⟩; rw [Y.out])
        | (go_at_call 131; refine (behind_any 4 _ s 1 _ ((HK.out.below BL.out).le (by decide)) (by decide) (by decide)).mono ?_; rintro e w5 ⟨f2, rfl, HB, B1⟩; rw [U1.out] at HB; replace HB := hide HB; replace BL := hide (bto BL.out B1); replace A1 := hide (A1.out.below B1); replace M := hide (Mod.trans M.out (Mod.of b B1)); replace Z := hide (keep Z.out (Nat.ne_of_gt hb0) (Mod.of b B1)); clear B1)
        | (go_at_call 130; refine (isEscape_any _ u _ ((HB.out).le (by decide))).mono ?_; rintro e w4 ⟨he, B1⟩; rw [Q.out] at he; subst he; replace BL := hide (bto BL.out B1); replace A1 := hide (A1.out.below B1); replace M := hide (Mod.trans M.out (Mod.of b B1)); replace Z := hide (keep Z.out (Nat.ne_of_gt hb0) (Mod.of b B1)); clear B1)
        | (go_at_call 132; refine (hashToken_any T W _ b v l s L9.out A1.out).mono ?_; rintro e w6 ⟨⟨z, he, hz⟩, A2, M2⟩; rw [UU.out] at he hz A2; replace he : e = .returned (.agg #[.int .i64 k, .string z, .int .i64 nu, .int .i64 de, .bool wh, .bool id]) := he; subst he; replace hz := hide hz; replace A1 := hide A2; replace M := hide (Mod.trans M.out M2); replace Z := hide (keep Z.out (Nat.ne_of_gt hb0) M2); obtain ⟨f0, f1, f2, f3, f4, f5, c0, c1, c2, c3, c4, c5⟩ := tok0_free Z.out; clear A2 M2))
      have MM := M.out
      refine bodyPost_ret (v := tkV k z nu de wh id) (by simp [results, Tryz.results96, go_sem, tkV, c0, c1, c2, c3, c4, c5]) rfl ?_
      exact ⟨by rw [E.out]; exact ⟨z, rfl, hz.out⟩, by rw [E.out]; repeat (first | (with_reducible exact A1.out) | (with_reducible refine At.put ?_ hb0 _ _)), by repeat (first | (with_reducible exact MM) | (with_reducible refine Mod.put ?_ (Nat.le_refl _) _ _))⟩
  · rw [if_pos (by simp)] at hwd
    obtain ⟨⟨⟨k, tx, nu, de, wh, id⟩, r2⟩, hu2⟩ : ∃ x, hash s = x := ⟨_, rfl⟩
    rw [hu2] at hwd
    have UU := hide hu2
    have E := hide hwd.symm
    clear hwd hu2
    go_enter Tryz.func96, Tryz.ntmps96
    go_wp2_with (first
      | (go_at_call 86; refine (aheadA T W _ b _ l _ A1.out).mono ?_; rintro e w1 ⟨f, rfl, HL, B1⟩; have HK := hide HL; obtain ⟨g, lb, rfl, eg, hg'⟩ := HL; replace hg' := hide hg'; have BL := hide (Below.refl w1.heap.size w1); replace A1 := hide (A1.out.below B1); replace M := hide (Mod.trans M.out (Mod.of b B1)); replace Z := hide (keep Z.out (Nat.ne_of_gt hb0) (Mod.of b B1)); clear B1)
      | (go_at_fn g; refine (hg'.out _ _ (by decide) (by decide) BL.out).mono ?_; rintro e w3 ⟨he, B1⟩; (first | (rw [H0.out] at he) | (rw [H2.out] at he)); subst he; replace BL := hide (bto BL.out B1); replace A1 := hide (A1.out.below B1); replace M := hide (Mod.trans M.out (Mod.of b B1)); replace Z := hide (keep Z.out (Nat.ne_of_gt hb0) (Mod.of b B1)); clear B1)
      | (go_at_call 129; refine (isLetP_any _ _).mono ?_; rintro e w8 ⟨rfl, rfl⟩; rw [Y.out])
      | (go_at_call 132; refine (hashToken_any T W _ b v l s L9.out A1.out).mono ?_; rintro e w6 ⟨⟨z, he, hz⟩, A2, M2⟩; rw [UU.out] at he hz A2; replace he : e = .returned (.agg #[.int .i64 k, .string z, .int .i64 nu, .int .i64 de, .bool wh, .bool id]) := he; subst he; replace hz := hide hz; replace A1 := hide A2; replace M := hide (Mod.trans M.out M2); replace Z := hide (keep Z.out (Nat.ne_of_gt hb0) M2); obtain ⟨f0, f1, f2, f3, f4, f5, c0, c1, c2, c3, c4, c5⟩ := tok0_free Z.out; clear A2 M2))
    have MM := M.out
    refine bodyPost_ret (v := tkV k z nu de wh id) (by simp [results, Tryz.results96, go_sem, tkV, c0, c1, c2, c3, c4, c5]) rfl ?_
    exact ⟨by rw [E.out]; exact ⟨z, rfl, hz.out⟩, by rw [E.out]; repeat (first | (with_reducible exact A1.out) | (with_reducible refine At.put ?_ hb0 _ _)), by repeat (first | (with_reducible exact MM) | (with_reducible refine Mod.put ?_ (Nat.le_refl _) _ _))⟩
set_option maxRecDepth 100000 in
set_option maxHeartbeats 2000000 in
theorem sign_num43 (T : TypeId) (W w : World) (b : Nat) (v : Value) (l s : List Int) (hL : l.length ≤ 250000000) (hx : nx s 0 = 43) (h : At T W w b v l s) : SignGoal T W w b v l s := by
  unfold SignGoal
  have hb0 := h.lt
  have A1 := hide (h.below (bplus (Below.refl _ _) tok0))
  have M := hide (Mod.of b (bplus (Below.refl w.heap.size w) tok0))
  have Z := hide (tok0_alloc w)
  clear h
  have L0 := hide hL
  have L9 := hide (show l.length ≤ 35184372088832 by omega)
  clear hL
  obtain ⟨wd, hwd⟩ : ∃ x, sgnT s = x := ⟨_, rfl⟩
  rw [hwd]
  rw [sgnT_num (.inl hx)] at hwd
  have H0 := hide (show nx s (Int.toNat 0) = _ from hx)
  have X0 := hide hx
  have H1 := hide (show nx s 0 ≠ -1 by omega)
  obtain ⟨yn, hyn⟩ : ∃ x, nuB (nx s 0) (nx s 1) (nx s 2) = x := ⟨_, rfl⟩
  have YN := hide hyn
  rw [hyn] at hwd
  clear hyn hx
  cases yn
  · rw [if_neg (by simp)] at hwd
    obtain ⟨⟨⟨k, tx, nu, de, wh, id⟩, r2⟩, hu2⟩ : ∃ x, one s = x := ⟨_, rfl⟩
    rw [hu2] at hwd
    have UU := hide hu2
    have E := hide hwd.symm
    clear hwd hu2
    go_enter Tryz.func96, Tryz.ntmps96
    go_wp2_with (first
      | (go_at_call 86; refine (aheadA T W _ b _ l _ A1.out).mono ?_; rintro e w1 ⟨f, rfl, HL, B1⟩; have HK := hide HL; obtain ⟨g, lb, rfl, eg, hg'⟩ := HL; replace hg' := hide hg'; have BL := hide (Below.refl w1.heap.size w1); replace A1 := hide (A1.out.below B1); replace M := hide (Mod.trans M.out (Mod.of b B1)); replace Z := hide (keep Z.out (Nat.ne_of_gt hb0) (Mod.of b B1)); clear B1)
      | (go_at_fn g; refine (hg'.out _ _ (by decide) (by decide) BL.out).mono ?_; rintro e w3 ⟨he, B1⟩; (first | (rw [H0.out] at he)); subst he; replace BL := hide (bto BL.out B1); replace A1 := hide (A1.out.below B1); replace M := hide (Mod.trans M.out (Mod.of b B1)); replace Z := hide (keep Z.out (Nat.ne_of_gt hb0) (Mod.of b B1)); clear B1)
      | (go_at_call 133; refine (numB_any _ s _ ((HK.out.below BL.out).le (by decide))).mono ?_; rintro e w4 ⟨he, B1⟩; rw [YN.out] at he; subst he; replace BL := hide (bto BL.out B1); replace A1 := hide (A1.out.below B1); replace M := hide (Mod.trans M.out (Mod.of b B1)); replace Z := hide (keep Z.out (Nat.ne_of_gt hb0) (Mod.of b B1)); clear B1)
      | (go_at_call 135; refine (oneToken_any T W _ b v l s A1.out).mono ?_; rintro e w6 ⟨⟨z, he, hz⟩, A2, M2⟩; rw [UU.out] at he hz A2; replace he : e = .returned (.agg #[.int .i64 k, .string z, .int .i64 nu, .int .i64 de, .bool wh, .bool id]) := he; subst he; replace hz := hide hz; replace A1 := hide A2; replace M := hide (Mod.trans M.out M2); replace Z := hide (keep Z.out (Nat.ne_of_gt hb0) M2); obtain ⟨f0, f1, f2, f3, f4, f5, c0, c1, c2, c3, c4, c5⟩ := tok0_free Z.out; clear A2 M2))
    have MM := M.out
    refine bodyPost_ret (v := tkV k z nu de wh id) (by simp [results, Tryz.results96, go_sem, tkV, c0, c1, c2, c3, c4, c5]) rfl ?_
    exact ⟨by rw [E.out]; exact ⟨z, rfl, hz.out⟩, by rw [E.out]; repeat (first | (with_reducible exact A1.out) | (with_reducible refine At.put ?_ hb0 _ _)), by repeat (first | (with_reducible exact MM) | (with_reducible refine Mod.put ?_ (Nat.le_refl _) _ _))⟩
  · rw [if_pos rfl] at hwd
    obtain ⟨⟨⟨k, tx, nu, de, wh, id⟩, r2⟩, hu2⟩ : ∃ x, numb s = x := ⟨_, rfl⟩
    rw [hu2] at hwd
    have UU := hide hu2
    have E := hide hwd.symm
    clear hwd hu2
    go_enter Tryz.func96, Tryz.ntmps96
    go_wp2_with (first
      | (go_at_call 86; refine (aheadA T W _ b _ l _ A1.out).mono ?_; rintro e w1 ⟨f, rfl, HL, B1⟩; have HK := hide HL; obtain ⟨g, lb, rfl, eg, hg'⟩ := HL; replace hg' := hide hg'; have BL := hide (Below.refl w1.heap.size w1); replace A1 := hide (A1.out.below B1); replace M := hide (Mod.trans M.out (Mod.of b B1)); replace Z := hide (keep Z.out (Nat.ne_of_gt hb0) (Mod.of b B1)); clear B1)
      | (go_at_fn g; refine (hg'.out _ _ (by decide) (by decide) BL.out).mono ?_; rintro e w3 ⟨he, B1⟩; (first | (rw [H0.out] at he)); subst he; replace BL := hide (bto BL.out B1); replace A1 := hide (A1.out.below B1); replace M := hide (Mod.trans M.out (Mod.of b B1)); replace Z := hide (keep Z.out (Nat.ne_of_gt hb0) (Mod.of b B1)); clear B1)
      | (go_at_call 133; refine (numB_any _ s _ ((HK.out.below BL.out).le (by decide))).mono ?_; rintro e w4 ⟨he, B1⟩; rw [YN.out] at he; subst he; replace BL := hide (bto BL.out B1); replace A1 := hide (A1.out.below B1); replace M := hide (Mod.trans M.out (Mod.of b B1)); replace Z := hide (keep Z.out (Nat.ne_of_gt hb0) (Mod.of b B1)); clear B1)
      | (go_at_call 93; refine (numberToken_any T W _ b v l s L0.out H1.out A1.out).mono ?_; rintro e w6 ⟨⟨z, he, hz⟩, A2, M2⟩; rw [UU.out] at he hz A2; replace he : e = .returned (.agg #[.int .i64 k, .string z, .int .i64 nu, .int .i64 de, .bool wh, .bool id]) := he; subst he; replace hz := hide hz; replace A1 := hide A2; replace M := hide (Mod.trans M.out M2); replace Z := hide (keep Z.out (Nat.ne_of_gt hb0) M2); obtain ⟨f0, f1, f2, f3, f4, f5, c0, c1, c2, c3, c4, c5⟩ := tok0_free Z.out; clear A2 M2))
    have MM := M.out
    refine bodyPost_ret (v := tkV k z nu de wh id) (by simp [results, Tryz.results96, go_sem, tkV, c0, c1, c2, c3, c4, c5]) rfl ?_
    exact ⟨by rw [E.out]; exact ⟨z, rfl, hz.out⟩, by rw [E.out]; repeat (first | (with_reducible exact A1.out) | (with_reducible refine At.put ?_ hb0 _ _)), by repeat (first | (with_reducible exact MM) | (with_reducible refine Mod.put ?_ (Nat.le_refl _) _ _))⟩
set_option maxRecDepth 100000 in
set_option maxHeartbeats 2000000 in
theorem sign_num46 (T : TypeId) (W w : World) (b : Nat) (v : Value) (l s : List Int) (hL : l.length ≤ 250000000) (hx : nx s 0 = 46) (h : At T W w b v l s) : SignGoal T W w b v l s := by
  unfold SignGoal
  have hb0 := h.lt
  have A1 := hide (h.below (bplus (Below.refl _ _) tok0))
  have M := hide (Mod.of b (bplus (Below.refl w.heap.size w) tok0))
  have Z := hide (tok0_alloc w)
  clear h
  have L0 := hide hL
  have L9 := hide (show l.length ≤ 35184372088832 by omega)
  clear hL
  obtain ⟨wd, hwd⟩ : ∃ x, sgnT s = x := ⟨_, rfl⟩
  rw [hwd]
  rw [sgnT_num (.inr hx)] at hwd
  have H0 := hide (show nx s (Int.toNat 0) = _ from hx)
  have X0 := hide hx
  have H1 := hide (show nx s 0 ≠ -1 by omega)
  obtain ⟨yn, hyn⟩ : ∃ x, nuB (nx s 0) (nx s 1) (nx s 2) = x := ⟨_, rfl⟩
  have YN := hide hyn
  rw [hyn] at hwd
  clear hyn hx
  cases yn
  · rw [if_neg (by simp)] at hwd
    obtain ⟨⟨⟨k, tx, nu, de, wh, id⟩, r2⟩, hu2⟩ : ∃ x, one s = x := ⟨_, rfl⟩
    rw [hu2] at hwd
    have UU := hide hu2
    have E := hide hwd.symm
    clear hwd hu2
    go_enter Tryz.func96, Tryz.ntmps96
    go_wp2_with (first
      | (go_at_call 86; refine (aheadA T W _ b _ l _ A1.out).mono ?_; rintro e w1 ⟨f, rfl, HL, B1⟩; have HK := hide HL; obtain ⟨g, lb, rfl, eg, hg'⟩ := HL; replace hg' := hide hg'; have BL := hide (Below.refl w1.heap.size w1); replace A1 := hide (A1.out.below B1); replace M := hide (Mod.trans M.out (Mod.of b B1)); replace Z := hide (keep Z.out (Nat.ne_of_gt hb0) (Mod.of b B1)); clear B1)
      | (go_at_fn g; refine (hg'.out _ _ (by decide) (by decide) BL.out).mono ?_; rintro e w3 ⟨he, B1⟩; (first | (rw [H0.out] at he)); subst he; replace BL := hide (bto BL.out B1); replace A1 := hide (A1.out.below B1); replace M := hide (Mod.trans M.out (Mod.of b B1)); replace Z := hide (keep Z.out (Nat.ne_of_gt hb0) (Mod.of b B1)); clear B1)
      | (go_at_call 133; refine (numB_any _ s _ ((HK.out.below BL.out).le (by decide))).mono ?_; rintro e w4 ⟨he, B1⟩; rw [YN.out] at he; subst he; replace BL := hide (bto BL.out B1); replace A1 := hide (A1.out.below B1); replace M := hide (Mod.trans M.out (Mod.of b B1)); replace Z := hide (keep Z.out (Nat.ne_of_gt hb0) (Mod.of b B1)); clear B1)
      | (go_at_call 135; refine (oneToken_any T W _ b v l s A1.out).mono ?_; rintro e w6 ⟨⟨z, he, hz⟩, A2, M2⟩; rw [UU.out] at he hz A2; replace he : e = .returned (.agg #[.int .i64 k, .string z, .int .i64 nu, .int .i64 de, .bool wh, .bool id]) := he; subst he; replace hz := hide hz; replace A1 := hide A2; replace M := hide (Mod.trans M.out M2); replace Z := hide (keep Z.out (Nat.ne_of_gt hb0) M2); obtain ⟨f0, f1, f2, f3, f4, f5, c0, c1, c2, c3, c4, c5⟩ := tok0_free Z.out; clear A2 M2))
    have MM := M.out
    refine bodyPost_ret (v := tkV k z nu de wh id) (by simp [results, Tryz.results96, go_sem, tkV, c0, c1, c2, c3, c4, c5]) rfl ?_
    exact ⟨by rw [E.out]; exact ⟨z, rfl, hz.out⟩, by rw [E.out]; repeat (first | (with_reducible exact A1.out) | (with_reducible refine At.put ?_ hb0 _ _)), by repeat (first | (with_reducible exact MM) | (with_reducible refine Mod.put ?_ (Nat.le_refl _) _ _))⟩
  · rw [if_pos rfl] at hwd
    obtain ⟨⟨⟨k, tx, nu, de, wh, id⟩, r2⟩, hu2⟩ : ∃ x, numb s = x := ⟨_, rfl⟩
    rw [hu2] at hwd
    have UU := hide hu2
    have E := hide hwd.symm
    clear hwd hu2
    go_enter Tryz.func96, Tryz.ntmps96
    go_wp2_with (first
      | (go_at_call 86; refine (aheadA T W _ b _ l _ A1.out).mono ?_; rintro e w1 ⟨f, rfl, HL, B1⟩; have HK := hide HL; obtain ⟨g, lb, rfl, eg, hg'⟩ := HL; replace hg' := hide hg'; have BL := hide (Below.refl w1.heap.size w1); replace A1 := hide (A1.out.below B1); replace M := hide (Mod.trans M.out (Mod.of b B1)); replace Z := hide (keep Z.out (Nat.ne_of_gt hb0) (Mod.of b B1)); clear B1)
      | (go_at_fn g; refine (hg'.out _ _ (by decide) (by decide) BL.out).mono ?_; rintro e w3 ⟨he, B1⟩; (first | (rw [H0.out] at he)); subst he; replace BL := hide (bto BL.out B1); replace A1 := hide (A1.out.below B1); replace M := hide (Mod.trans M.out (Mod.of b B1)); replace Z := hide (keep Z.out (Nat.ne_of_gt hb0) (Mod.of b B1)); clear B1)
      | (go_at_call 133; refine (numB_any _ s _ ((HK.out.below BL.out).le (by decide))).mono ?_; rintro e w4 ⟨he, B1⟩; rw [YN.out] at he; subst he; replace BL := hide (bto BL.out B1); replace A1 := hide (A1.out.below B1); replace M := hide (Mod.trans M.out (Mod.of b B1)); replace Z := hide (keep Z.out (Nat.ne_of_gt hb0) (Mod.of b B1)); clear B1)
      | (go_at_call 93; refine (numberToken_any T W _ b v l s L0.out H1.out A1.out).mono ?_; rintro e w6 ⟨⟨z, he, hz⟩, A2, M2⟩; rw [UU.out] at he hz A2; replace he : e = .returned (.agg #[.int .i64 k, .string z, .int .i64 nu, .int .i64 de, .bool wh, .bool id]) := he; subst he; replace hz := hide hz; replace A1 := hide A2; replace M := hide (Mod.trans M.out M2); replace Z := hide (keep Z.out (Nat.ne_of_gt hb0) M2); obtain ⟨f0, f1, f2, f3, f4, f5, c0, c1, c2, c3, c4, c5⟩ := tok0_free Z.out; clear A2 M2))
    have MM := M.out
    refine bodyPost_ret (v := tkV k z nu de wh id) (by simp [results, Tryz.results96, go_sem, tkV, c0, c1, c2, c3, c4, c5]) rfl ?_
    exact ⟨by rw [E.out]; exact ⟨z, rfl, hz.out⟩, by rw [E.out]; repeat (first | (with_reducible exact A1.out) | (with_reducible refine At.put ?_ hb0 _ _)), by repeat (first | (with_reducible exact MM) | (with_reducible refine Mod.put ?_ (Nat.le_refl _) _ _))⟩
set_option maxRecDepth 100000 in
set_option maxHeartbeats 2000000 in
theorem sign_dash (T : TypeId) (W w : World) (b : Nat) (v : Value) (l s : List Int) (hL : l.length ≤ 250000000) (hx : nx s 0 = 45) (h : At T W w b v l s) : SignGoal T W w b v l s := by
  unfold SignGoal
  have hb0 := h.lt
  have A1 := hide (h.below (bplus (Below.refl _ _) tok0))
  have M := hide (Mod.of b (bplus (Below.refl w.heap.size w) tok0))
  have Z := hide (tok0_alloc w)
  clear h
  have L0 := hide hL
  have L9 := hide (show l.length ≤ 35184372088832 by omega)
  clear hL
  obtain ⟨wd, hwd⟩ : ∃ x, sgnT s = x := ⟨_, rfl⟩
  rw [hwd]
  rw [sgnT_dash hx] at hwd
  have H0 := hide (show nx s (Int.toNat 0) = _ from hx)
  have X0 := hide hx
  have H1 := hide (show nx s 0 ≠ -1 by omega)
  clear hx
  obtain ⟨⟨⟨k, tx, nu, de, wh, id⟩, r2⟩, hu2⟩ : ∃ x, dash s = x := ⟨_, rfl⟩
  rw [hu2] at hwd
  have UU := hide hu2
  have E := hide hwd.symm
  clear hwd hu2
  go_enter Tryz.func96, Tryz.ntmps96
  go_wp2_with (first
    | (go_at_call 86; refine (aheadA T W _ b _ l _ A1.out).mono ?_; rintro e w1 ⟨f, rfl, HL, B1⟩; have HK := hide HL; obtain ⟨g, lb, rfl, eg, hg'⟩ := HL; replace hg' := hide hg'; have BL := hide (Below.refl w1.heap.size w1); replace A1 := hide (A1.out.below B1); replace M := hide (Mod.trans M.out (Mod.of b B1)); replace Z := hide (keep Z.out (Nat.ne_of_gt hb0) (Mod.of b B1)); clear B1)
    | (go_at_fn g; refine (hg'.out _ _ (by decide) (by decide) BL.out).mono ?_; rintro e w3 ⟨he, B1⟩; (first | (rw [H0.out] at he)); subst he; replace BL := hide (bto BL.out B1); replace A1 := hide (A1.out.below B1); replace M := hide (Mod.trans M.out (Mod.of b B1)); replace Z := hide (keep Z.out (Nat.ne_of_gt hb0) (Mod.of b B1)); clear B1)
    | (go_at_call 134; refine (dashToken_any T W _ b v l s L0.out X0.out A1.out).mono ?_; rintro e w6 ⟨⟨z, he, hz⟩, A2, M2⟩; rw [UU.out] at he hz A2; replace he : e = .returned (.agg #[.int .i64 k, .string z, .int .i64 nu, .int .i64 de, .bool wh, .bool id]) := he; subst he; replace hz := hide hz; replace A1 := hide A2; replace M := hide (Mod.trans M.out M2); replace Z := hide (keep Z.out (Nat.ne_of_gt hb0) M2); obtain ⟨f0, f1, f2, f3, f4, f5, c0, c1, c2, c3, c4, c5⟩ := tok0_free Z.out; clear A2 M2))
  have MM := M.out
  refine bodyPost_ret (v := tkV k z nu de wh id) (by simp [results, Tryz.results96, go_sem, tkV, c0, c1, c2, c3, c4, c5]) rfl ?_
  exact ⟨by rw [E.out]; exact ⟨z, rfl, hz.out⟩, by rw [E.out]; repeat (first | (with_reducible exact A1.out) | (with_reducible refine At.put ?_ hb0 _ _)), by repeat (first | (with_reducible exact MM) | (with_reducible refine Mod.put ?_ (Nat.le_refl _) _ _))⟩
set_option maxRecDepth 100000 in
set_option maxHeartbeats 2000000 in
theorem sign_cdo (T : TypeId) (W w : World) (b : Nat) (v : Value) (l s : List Int) (hL : l.length ≤ 250000000) (hx : nx s 0 = 60) (h : At T W w b v l s) : SignGoal T W w b v l s := by
  unfold SignGoal
  have hb0 := h.lt
  have A1 := hide (h.below (bplus (Below.refl _ _) tok0))
  have M := hide (Mod.of b (bplus (Below.refl w.heap.size w) tok0))
  have Z := hide (tok0_alloc w)
  clear h
  have L0 := hide hL
  have L9 := hide (show l.length ≤ 35184372088832 by omega)
  clear hL
  obtain ⟨wd, hwd⟩ : ∃ x, sgnT s = x := ⟨_, rfl⟩
  rw [hwd]
  rw [sgnT_cdo hx] at hwd
  have H0 := hide (show nx s (Int.toNat 0) = _ from hx)
  have X0 := hide hx
  have H1 := hide (show nx s 0 ≠ -1 by omega)
  have ST := st_cdo s hx
  by_cases hc : nx s 1 = 33 ∧ nx s 2 = 45 ∧ nx s 3 = 45
  · rw [decide_eq_true hc] at ST
    rw [if_pos hc] at hwd
    replace ST := hide ST
    obtain ⟨u, hu⟩ : ∃ u, s.drop 4 = u := ⟨_, rfl⟩
    have U := hide (show s.drop (Int.toNat 4) = u from hu)
    rw [hu] at hwd
    have E := hide hwd.symm
    clear hwd hu hc hx
    go_enter Tryz.func96, Tryz.ntmps96
    go_wp2_with (first
      | (go_at_call 86; refine (aheadA T W _ b _ l _ A1.out).mono ?_; rintro e w1 ⟨f, rfl, HL, B1⟩; have HK := hide HL; obtain ⟨g, lb, rfl, eg, hg'⟩ := HL; replace hg' := hide hg'; have BL := hide (Below.refl w1.heap.size w1); replace A1 := hide (A1.out.below B1); replace M := hide (Mod.trans M.out (Mod.of b B1)); replace Z := hide (keep Z.out (Nat.ne_of_gt hb0) (Mod.of b B1)); clear B1)
      | (go_at_fn g; refine (hg'.out _ _ (by decide) (by decide) BL.out).mono ?_; rintro e w3 ⟨he, B1⟩; (first | (rw [H0.out] at he)); subst he; replace BL := hide (bto BL.out B1); replace A1 := hide (A1.out.below B1); replace M := hide (Mod.trans M.out (Mod.of b B1)); replace Z := hide (keep Z.out (Nat.ne_of_gt hb0) (Mod.of b B1)); clear B1)
      | (go_at_call 85; refine (stands_any 9 _ _ s [60, 33, 45, 45] _ (HK.out.below (bplus BL.out _)) (Nums.lit _ 21 [60, 33, 45, 45] 4 rfl (by omega) (by omega)) (by decide) (by decide) (by decide)).mono ?_; rintro e w4 ⟨he, B1⟩; rw [ST.out] at he; subst he; replace BL := hide (bto BL.out (bto (bplus (Below.refl _ _) _) B1)); replace A1 := hide (A1.out.below (bto (bplus (Below.refl _ _) _) B1)); replace M := hide (Mod.trans M.out (Mod.of b (bto (bplus (Below.refl _ _) _) B1))); replace Z := hide (keep Z.out (Nat.ne_of_gt hb0) (Mod.of b (bto (bplus (Below.refl _ _) _) B1))); clear B1)
      | (go_at_call 87; refine (skipA T W _ b v l s 4 A1.out (by decide) (by decide)).mono ?_; rintro e w7 ⟨rfl, A2, M2⟩; rw [U.out] at A2; replace A1 := hide A2; replace M := hide (Mod.trans M.out M2); replace Z := hide (keep Z.out (Nat.ne_of_gt hb0) M2); obtain ⟨f0, f1, f2, f3, f4, f5, c0, c1, c2, c3, c4, c5⟩ := tok0_free Z.out; clear A2 M2))
    have MM := M.out
    refine bodyPost_ret (v := tkV 14 ⟨#[]⟩ 0 0 false false) (by simp [results, Tryz.results96, go_sem, tkV, c0, c1, c2, c3, c4, c5]) rfl ?_
    exact ⟨.tk (congrArg Prod.fst E.out), by rw [E.out]; repeat (first | (with_reducible exact A1.out) | (with_reducible refine At.put ?_ hb0 _ _)), by repeat (first | (with_reducible exact MM) | (with_reducible refine Mod.put ?_ (Nat.le_refl _) _ _))⟩
  · rw [decide_eq_false hc] at ST
    rw [if_neg hc] at hwd
    replace ST := hide ST
    clear hc hx
    obtain ⟨⟨⟨k, tx, nu, de, wh, id⟩, r2⟩, hu2⟩ : ∃ x, one s = x := ⟨_, rfl⟩
    rw [hu2] at hwd
    have UU := hide hu2
    have E := hide hwd.symm
    clear hwd hu2
    go_enter Tryz.func96, Tryz.ntmps96
    go_wp2_with (first
      | (go_at_call 86; refine (aheadA T W _ b _ l _ A1.out).mono ?_; rintro e w1 ⟨f, rfl, HL, B1⟩; have HK := hide HL; obtain ⟨g, lb, rfl, eg, hg'⟩ := HL; replace hg' := hide hg'; have BL := hide (Below.refl w1.heap.size w1); replace A1 := hide (A1.out.below B1); replace M := hide (Mod.trans M.out (Mod.of b B1)); replace Z := hide (keep Z.out (Nat.ne_of_gt hb0) (Mod.of b B1)); clear B1)
      | (go_at_fn g; refine (hg'.out _ _ (by decide) (by decide) BL.out).mono ?_; rintro e w3 ⟨he, B1⟩; (first | (rw [H0.out] at he)); subst he; replace BL := hide (bto BL.out B1); replace A1 := hide (A1.out.below B1); replace M := hide (Mod.trans M.out (Mod.of b B1)); replace Z := hide (keep Z.out (Nat.ne_of_gt hb0) (Mod.of b B1)); clear B1)
      | (go_at_call 85; refine (stands_any 9 _ _ s [60, 33, 45, 45] _ (HK.out.below (bplus BL.out _)) (Nums.lit _ 21 [60, 33, 45, 45] 4 rfl (by omega) (by omega)) (by decide) (by decide) (by decide)).mono ?_; rintro e w4 ⟨he, B1⟩; rw [ST.out] at he; subst he; replace BL := hide (bto BL.out (bto (bplus (Below.refl _ _) _) B1)); replace A1 := hide (A1.out.below (bto (bplus (Below.refl _ _) _) B1)); replace M := hide (Mod.trans M.out (Mod.of b (bto (bplus (Below.refl _ _) _) B1))); replace Z := hide (keep Z.out (Nat.ne_of_gt hb0) (Mod.of b (bto (bplus (Below.refl _ _) _) B1))); clear B1)
      | (go_at_call 135; refine (oneToken_any T W _ b v l s A1.out).mono ?_; rintro e w6 ⟨⟨z, he, hz⟩, A2, M2⟩; rw [UU.out] at he hz A2; replace he : e = .returned (.agg #[.int .i64 k, .string z, .int .i64 nu, .int .i64 de, .bool wh, .bool id]) := he; subst he; replace hz := hide hz; replace A1 := hide A2; replace M := hide (Mod.trans M.out M2); replace Z := hide (keep Z.out (Nat.ne_of_gt hb0) M2); obtain ⟨f0, f1, f2, f3, f4, f5, c0, c1, c2, c3, c4, c5⟩ := tok0_free Z.out; clear A2 M2))
    have MM := M.out
    refine bodyPost_ret (v := tkV k z nu de wh id) (by simp [results, Tryz.results96, go_sem, tkV, c0, c1, c2, c3, c4, c5]) rfl ?_
    exact ⟨by rw [E.out]; exact ⟨z, rfl, hz.out⟩, by rw [E.out]; repeat (first | (with_reducible exact A1.out) | (with_reducible refine At.put ?_ hb0 _ _)), by repeat (first | (with_reducible exact MM) | (with_reducible refine Mod.put ?_ (Nat.le_refl _) _ _))⟩
set_option maxRecDepth 100000 in
set_option maxHeartbeats 2000000 in
theorem sign_at (T : TypeId) (W w : World) (b : Nat) (v : Value) (l s : List Int) (hL : l.length ≤ 250000000) (hx : nx s 0 = 64) (h : At T W w b v l s) : SignGoal T W w b v l s := by
  unfold SignGoal
  have hb0 := h.lt
  have A1 := hide (h.below (bplus (Below.refl _ _) tok0))
  have M := hide (Mod.of b (bplus (Below.refl w.heap.size w) tok0))
  have Z := hide (tok0_alloc w)
  clear h
  have L0 := hide hL
  have L9 := hide (show l.length ≤ 35184372088832 by omega)
  clear hL
  obtain ⟨wd, hwd⟩ : ∃ x, sgnT s = x := ⟨_, rfl⟩
  rw [hwd]
  rw [sgnT_at hx] at hwd
  have H0 := hide (show nx s (Int.toNat 0) = _ from hx)
  have X0 := hide hx
  have H1 := hide (show nx s 0 ≠ -1 by omega)
  obtain ⟨u, hu⟩ : ∃ u, s.drop 1 = u := ⟨_, rfl⟩
  have U1 := hide hu
  have U2 := hide (show s.drop (Int.toNat 1) = u from hu)
  have ED : nmB (nx s 1) (nx s 2) (nx s 3) = nmB (nx u 0) (nx u 1) (nx u 2) := by rw [← hu, nx_drop, nx_drop, nx_drop]
  rw [ED, hu] at hwd
  obtain ⟨y, hy⟩ : ∃ y, nmB (nx u 0) (nx u 1) (nx u 2) = y := ⟨_, rfl⟩
  have Y := hide hy
  rw [hy] at hwd
  clear hy hx hu ED
  cases y
  · rw [if_neg (by simp)] at hwd
    obtain ⟨⟨⟨k, tx, nu, de, wh, id⟩, r2⟩, hu2⟩ : ∃ x, one s = x := ⟨_, rfl⟩
    rw [hu2] at hwd
    have UU := hide hu2
    have E := hide hwd.symm
    clear hwd hu2
    go_enter Tryz.func96, Tryz.ntmps96
    go_wp2_with (first
      | (go_at_call 86; refine (aheadA T W _ b _ l _ A1.out).mono ?_; rintro e w1 ⟨f, rfl, HL, B1⟩; have HK := hide HL; obtain ⟨g, lb, rfl, eg, hg'⟩ := HL; replace hg' := hide hg'; have BL := hide (Below.refl w1.heap.size w1); replace A1 := hide (A1.out.below B1); replace M := hide (Mod.trans M.out (Mod.of b B1)); replace Z := hide (keep Z.out (Nat.ne_of_gt hb0) (Mod.of b B1)); clear B1)
      | (go_at_fn g; refine (hg'.out _ _ (by decide) (by decide) BL.out).mono ?_; rintro e w3 ⟨he, B1⟩; (first | (rw [H0.out] at he)); subst he; replace BL := hide (bto BL.out B1); replace A1 := hide (A1.out.below B1); replace M := hide (Mod.trans M.out (Mod.of b B1)); replace Z := hide (keep Z.out (Nat.ne_of_gt hb0) (Mod.of b B1)); clear B1)
      | (go_at_call 131; refine (behind_any 4 _ s 1 _ ((HK.out.below BL.out).le (by decide)) (by decide) (by decide)).mono ?_; rintro e w5 ⟨f2, rfl, HB, B1⟩; rw [U1.out] at HB; replace HB := hide HB; replace BL := hide (bto BL.out B1); replace A1 := hide (A1.out.below B1); replace M := hide (Mod.trans M.out (Mod.of b B1)); replace Z := hide (keep Z.out (Nat.ne_of_gt hb0) (Mod.of b B1)); clear B1)
      | (go_at_call 124; refine (nameB_any _ u _ ((HB.out).le (by decide))).mono ?_; rintro e w4 ⟨he, B1⟩; rw [Y.out] at he; subst he; replace BL := hide (bto BL.out B1); replace A1 := hide (A1.out.below B1); replace M := hide (Mod.trans M.out (Mod.of b B1)); replace Z := hide (keep Z.out (Nat.ne_of_gt hb0) (Mod.of b B1)); clear B1)
      | (go_at_call 135; refine (oneToken_any T W _ b v l s A1.out).mono ?_; rintro e w6 ⟨⟨z, he, hz⟩, A2, M2⟩; rw [UU.out] at he hz A2; replace he : e = .returned (.agg #[.int .i64 k, .string z, .int .i64 nu, .int .i64 de, .bool wh, .bool id]) := he; subst he; replace hz := hide hz; replace A1 := hide A2; replace M := hide (Mod.trans M.out M2); replace Z := hide (keep Z.out (Nat.ne_of_gt hb0) M2); obtain ⟨f0, f1, f2, f3, f4, f5, c0, c1, c2, c3, c4, c5⟩ := tok0_free Z.out; clear A2 M2))
    have MM := M.out
    refine bodyPost_ret (v := tkV k z nu de wh id) (by simp [results, Tryz.results96, go_sem, tkV, c0, c1, c2, c3, c4, c5]) rfl ?_
    exact ⟨by rw [E.out]; exact ⟨z, rfl, hz.out⟩, by rw [E.out]; repeat (first | (with_reducible exact A1.out) | (with_reducible refine At.put ?_ hb0 _ _)), by repeat (first | (with_reducible exact MM) | (with_reducible refine Mod.put ?_ (Nat.le_refl _) _ _))⟩
  · rw [if_pos rfl] at hwd
    obtain ⟨⟨n, r⟩, hn⟩ : ∃ x, nam [] u = x := ⟨_, rfl⟩
    have N := hide hn
    rw [hn] at hwd
    have E := hide hwd.symm
    clear hn hwd
    go_enter Tryz.func96, Tryz.ntmps96
    go_wp2_with (first
      | (go_at_call 86; refine (aheadA T W _ b _ l _ A1.out).mono ?_; rintro e w1 ⟨f, rfl, HL, B1⟩; have HK := hide HL; obtain ⟨g, lb, rfl, eg, hg'⟩ := HL; replace hg' := hide hg'; have BL := hide (Below.refl w1.heap.size w1); replace A1 := hide (A1.out.below B1); replace M := hide (Mod.trans M.out (Mod.of b B1)); replace Z := hide (keep Z.out (Nat.ne_of_gt hb0) (Mod.of b B1)); clear B1)
      | (go_at_fn g; refine (hg'.out _ _ (by decide) (by decide) BL.out).mono ?_; rintro e w3 ⟨he, B1⟩; (first | (rw [H0.out] at he)); subst he; replace BL := hide (bto BL.out B1); replace A1 := hide (A1.out.below B1); replace M := hide (Mod.trans M.out (Mod.of b B1)); replace Z := hide (keep Z.out (Nat.ne_of_gt hb0) (Mod.of b B1)); clear B1)
      | (go_at_call 131; refine (behind_any 4 _ s 1 _ ((HK.out.below BL.out).le (by decide)) (by decide) (by decide)).mono ?_; rintro e w5 ⟨f2, rfl, HB, B1⟩; rw [U1.out] at HB; replace HB := hide HB; replace BL := hide (bto BL.out B1); replace A1 := hide (A1.out.below B1); replace M := hide (Mod.trans M.out (Mod.of b B1)); replace Z := hide (keep Z.out (Nat.ne_of_gt hb0) (Mod.of b B1)); clear B1)
      | (go_at_call 124; refine (nameB_any _ u _ ((HB.out).le (by decide))).mono ?_; rintro e w4 ⟨he, B1⟩; rw [Y.out] at he; subst he; replace BL := hide (bto BL.out B1); replace A1 := hide (A1.out.below B1); replace M := hide (Mod.trans M.out (Mod.of b B1)); replace Z := hide (keep Z.out (Nat.ne_of_gt hb0) (Mod.of b B1)); clear B1)
      | (go_at_call 87; refine (skipA T W _ b v l s 1 A1.out (by decide) (by decide)).mono ?_; rintro e w7 ⟨rfl, A2, M2⟩; rw [U2.out] at A2; replace A1 := hide A2; replace M := hide (Mod.trans M.out M2); replace Z := hide (keep Z.out (Nat.ne_of_gt hb0) M2); clear A2 M2)
      | (go_at_call 125; refine (takeName_any T W _ b v l u L9.out A1.out).mono ?_; rintro e w9 ⟨t, rfl, ht, A2, M2⟩; rw [N.out] at ht A2; replace ht := hide ht; replace A1 := hide A2; replace M := hide (Mod.trans M.out M2); replace Z := hide (keep Z.out (Nat.ne_of_gt hb0) M2); obtain ⟨f0, f1, f2, f3, f4, f5, c0, c1, c2, c3, c4, c5⟩ := tok0_free Z.out; clear A2 M2))
    have MM := M.out
    refine bodyPost_ret (v := tkV 3 t 0 0 false false) (by simp [results, Tryz.results96, go_sem, tkV, c0, c1, c2, c3, c4, c5]) rfl ?_
    exact ⟨.tkt (congrArg Prod.fst E.out) ht.out, by rw [E.out]; repeat (first | (with_reducible exact A1.out) | (with_reducible refine At.put ?_ hb0 _ _)), by repeat (first | (with_reducible exact MM) | (with_reducible refine Mod.put ?_ (Nat.le_refl _) _ _))⟩
set_option maxRecDepth 100000 in
set_option maxHeartbeats 2000000 in
theorem sign_esc (T : TypeId) (W w : World) (b : Nat) (v : Value) (l s : List Int) (hL : l.length ≤ 250000000) (hx : nx s 0 = 92) (h : At T W w b v l s) : SignGoal T W w b v l s := by
  unfold SignGoal
  have hb0 := h.lt
  have A1 := hide (h.below (bplus (Below.refl _ _) tok0))
  have M := hide (Mod.of b (bplus (Below.refl w.heap.size w) tok0))
  have Z := hide (tok0_alloc w)
  clear h
  have L0 := hide hL
  have L9 := hide (show l.length ≤ 35184372088832 by omega)
  clear hL
  obtain ⟨wd, hwd⟩ : ∃ x, sgnT s = x := ⟨_, rfl⟩
  rw [hwd]
  rw [sgnT_esc hx] at hwd
  have H0 := hide (show nx s (Int.toNat 0) = _ from hx)
  have X0 := hide hx
  have H1 := hide (show nx s 0 ≠ -1 by omega)
  obtain ⟨yn, hyn⟩ : ∃ x, es2 (nx s 0) (nx s 1) = x := ⟨_, rfl⟩
  have YN := hide hyn
  rw [hyn] at hwd
  clear hyn hx
  cases yn
  · rw [if_neg (by simp)] at hwd
    obtain ⟨⟨⟨k, tx, nu, de, wh, id⟩, r2⟩, hu2⟩ : ∃ x, one s = x := ⟨_, rfl⟩
    rw [hu2] at hwd
    have UU := hide hu2
    have E := hide hwd.symm
    clear hwd hu2
    go_enter Tryz.func96, Tryz.ntmps96
    go_wp2_with (first
      | (go_at_call 86; refine (aheadA T W _ b _ l _ A1.out).mono ?_; rintro e w1 ⟨f, rfl, HL, B1⟩; have HK := hide HL; obtain ⟨g, lb, rfl, eg, hg'⟩ := HL; replace hg' := hide hg'; have BL := hide (Below.refl w1.heap.size w1); replace A1 := hide (A1.out.below B1); replace M := hide (Mod.trans M.out (Mod.of b B1)); replace Z := hide (keep Z.out (Nat.ne_of_gt hb0) (Mod.of b B1)); clear B1)
      | (go_at_fn g; refine (hg'.out _ _ (by decide) (by decide) BL.out).mono ?_; rintro e w3 ⟨he, B1⟩; (first | (rw [H0.out] at he)); subst he; replace BL := hide (bto BL.out B1); replace A1 := hide (A1.out.below B1); replace M := hide (Mod.trans M.out (Mod.of b B1)); replace Z := hide (keep Z.out (Nat.ne_of_gt hb0) (Mod.of b B1)); clear B1)
      | (go_at_call 130; refine (isEscape_any _ s _ ((HK.out.below BL.out).le (by decide))).mono ?_; rintro e w4 ⟨he, B1⟩; rw [YN.out] at he; subst he; replace BL := hide (bto BL.out B1); replace A1 := hide (A1.out.below B1); replace M := hide (Mod.trans M.out (Mod.of b B1)); replace Z := hide (keep Z.out (Nat.ne_of_gt hb0) (Mod.of b B1)); clear B1)
      | (go_at_call 135; refine (oneToken_any T W _ b v l s A1.out).mono ?_; rintro e w6 ⟨⟨z, he, hz⟩, A2, M2⟩; rw [UU.out] at he hz A2; replace he : e = .returned (.agg #[.int .i64 k, .string z, .int .i64 nu, .int .i64 de, .bool wh, .bool id]) := he; subst he; replace hz := hide hz; replace A1 := hide A2; replace M := hide (Mod.trans M.out M2); replace Z := hide (keep Z.out (Nat.ne_of_gt hb0) M2); obtain ⟨f0, f1, f2, f3, f4, f5, c0, c1, c2, c3, c4, c5⟩ := tok0_free Z.out; clear A2 M2))
    have MM := M.out
    refine bodyPost_ret (v := tkV k z nu de wh id) (by simp [results, Tryz.results96, go_sem, tkV, c0, c1, c2, c3, c4, c5]) rfl ?_
    exact ⟨by rw [E.out]; exact ⟨z, rfl, hz.out⟩, by rw [E.out]; repeat (first | (with_reducible exact A1.out) | (with_reducible refine At.put ?_ hb0 _ _)), by repeat (first | (with_reducible exact MM) | (with_reducible refine Mod.put ?_ (Nat.le_refl _) _ _))⟩
  · rw [if_pos rfl] at hwd
    obtain ⟨⟨⟨k, tx, nu, de, wh, id⟩, r2⟩, hu2⟩ : ∃ x, word s = x := ⟨_, rfl⟩
    rw [hu2] at hwd
    have UU := hide hu2
    have E := hide hwd.symm
    clear hwd hu2
    go_enter Tryz.func96, Tryz.ntmps96
    go_wp2_with (first
      | (go_at_call 86; refine (aheadA T W _ b _ l _ A1.out).mono ?_; rintro e w1 ⟨f, rfl, HL, B1⟩; have HK := hide HL; obtain ⟨g, lb, rfl, eg, hg'⟩ := HL; replace hg' := hide hg'; have BL := hide (Below.refl w1.heap.size w1); replace A1 := hide (A1.out.below B1); replace M := hide (Mod.trans M.out (Mod.of b B1)); replace Z := hide (keep Z.out (Nat.ne_of_gt hb0) (Mod.of b B1)); clear B1)
      | (go_at_fn g; refine (hg'.out _ _ (by decide) (by decide) BL.out).mono ?_; rintro e w3 ⟨he, B1⟩; (first | (rw [H0.out] at he)); subst he; replace BL := hide (bto BL.out B1); replace A1 := hide (A1.out.below B1); replace M := hide (Mod.trans M.out (Mod.of b B1)); replace Z := hide (keep Z.out (Nat.ne_of_gt hb0) (Mod.of b B1)); clear B1)
      | (go_at_call 130; refine (isEscape_any _ s _ ((HK.out.below BL.out).le (by decide))).mono ?_; rintro e w4 ⟨he, B1⟩; rw [YN.out] at he; subst he; replace BL := hide (bto BL.out B1); replace A1 := hide (A1.out.below B1); replace M := hide (Mod.trans M.out (Mod.of b B1)); replace Z := hide (keep Z.out (Nat.ne_of_gt hb0) (Mod.of b B1)); clear B1)
      | (go_at_call 95; refine (wordToken_any T W _ b v l s L9.out A1.out).mono ?_; rintro e w6 ⟨⟨z, he, hz⟩, A2, M2⟩; rw [UU.out] at he hz A2; replace he : e = .returned (.agg #[.int .i64 k, .string z, .int .i64 nu, .int .i64 de, .bool wh, .bool id]) := he; subst he; replace hz := hide hz; replace A1 := hide A2; replace M := hide (Mod.trans M.out M2); replace Z := hide (keep Z.out (Nat.ne_of_gt hb0) M2); obtain ⟨f0, f1, f2, f3, f4, f5, c0, c1, c2, c3, c4, c5⟩ := tok0_free Z.out; clear A2 M2))
    have MM := M.out
    refine bodyPost_ret (v := tkV k z nu de wh id) (by simp [results, Tryz.results96, go_sem, tkV, c0, c1, c2, c3, c4, c5]) rfl ?_
    exact ⟨by rw [E.out]; exact ⟨z, rfl, hz.out⟩, by rw [E.out]; repeat (first | (with_reducible exact A1.out) | (with_reducible refine At.put ?_ hb0 _ _)), by repeat (first | (with_reducible exact MM) | (with_reducible refine Mod.put ?_ (Nat.le_refl _) _ _))⟩
set_option maxRecDepth 100000 in
set_option maxHeartbeats 2000000 in
theorem sign_one (T : TypeId) (W w : World) (b : Nat) (v : Value) (l s : List Int) (hL : l.length ≤ 250000000) (h1 : nx s 0 ≠ 35) (h2 : nx s 0 ≠ 43) (h3 : nx s 0 ≠ 46) (h4 : nx s 0 ≠ 45) (h5 : nx s 0 ≠ 60) (h6 : nx s 0 ≠ 64) (h7 : nx s 0 ≠ 92) (h : At T W w b v l s) : SignGoal T W w b v l s := by
  unfold SignGoal
  have hb0 := h.lt
  have A1 := hide (h.below (bplus (Below.refl _ _) tok0))
  have M := hide (Mod.of b (bplus (Below.refl w.heap.size w) tok0))
  have Z := hide (tok0_alloc w)
  clear h
  have L0 := hide hL
  have L9 := hide (show l.length ≤ 35184372088832 by omega)
  clear hL
  obtain ⟨wd, hwd⟩ : ∃ x, sgnT s = x := ⟨_, rfl⟩
  rw [hwd]
  rw [sgnT_one h1 h2 h3 h4 h5 h6 h7] at hwd
  obtain ⟨x, hx⟩ : ∃ x, nx s 0 = x := ⟨_, rfl⟩
  have H0 := hide (show nx s (Int.toNat 0) = x from hx)
  rw [hx] at h1 h2 h3 h4 h5 h6 h7
  have e1 : (x == 35) = false := by simpa using h1
  have e2 : (x == 43) = false := by simpa using h2
  have e3 : (x == 46) = false := by simpa using h3
  have e4 : (x == 45) = false := by simpa using h4
  have e5 : (x == 60) = false := by simpa using h5
  have e6 : (x == 64) = false := by simpa using h6
  have e7 : (x == 92) = false := by simpa using h7
  clear hx
  obtain ⟨⟨⟨k, tx, nu, de, wh, id⟩, r2⟩, hu2⟩ : ∃ x, one s = x := ⟨_, rfl⟩
  rw [hu2] at hwd
  have UU := hide hu2
  have E := hide hwd.symm
  clear hwd hu2
  go_enter Tryz.func96, Tryz.ntmps96
  go_wp2_with (first
    | (go_at_call 86; refine (aheadA T W _ b _ l _ A1.out).mono ?_; rintro e w1 ⟨f, rfl, HL, B1⟩; have HK := hide HL; obtain ⟨g, lb, rfl, eg, hg'⟩ := HL; replace hg' := hide hg'; have BL := hide (Below.refl w1.heap.size w1); replace A1 := hide (A1.out.below B1); replace M := hide (Mod.trans M.out (Mod.of b B1)); replace Z := hide (keep Z.out (Nat.ne_of_gt hb0) (Mod.of b B1)); clear B1)
    | (go_at_fn g; refine (hg'.out _ _ (by decide) (by decide) BL.out).mono ?_; rintro e w3 ⟨he, B1⟩; (first | (rw [H0.out] at he)); subst he; replace BL := hide (bto BL.out B1); replace A1 := hide (A1.out.below B1); replace M := hide (Mod.trans M.out (Mod.of b B1)); replace Z := hide (keep Z.out (Nat.ne_of_gt hb0) (Mod.of b B1)); clear B1)
    | (go_at_call 135; refine (oneToken_any T W _ b v l s A1.out).mono ?_; rintro e w6 ⟨⟨z, he, hz⟩, A2, M2⟩; rw [UU.out] at he hz A2; replace he : e = .returned (.agg #[.int .i64 k, .string z, .int .i64 nu, .int .i64 de, .bool wh, .bool id]) := he; subst he; replace hz := hide hz; replace A1 := hide A2; replace M := hide (Mod.trans M.out M2); replace Z := hide (keep Z.out (Nat.ne_of_gt hb0) M2); obtain ⟨f0, f1, f2, f3, f4, f5, c0, c1, c2, c3, c4, c5⟩ := tok0_free Z.out; clear A2 M2))
  have MM := M.out
  refine bodyPost_ret (v := tkV k z nu de wh id) (by simp [results, Tryz.results96, go_sem, tkV, c0, c1, c2, c3, c4, c5]) rfl ?_
  exact ⟨by rw [E.out]; exact ⟨z, rfl, hz.out⟩, by rw [E.out]; repeat (first | (with_reducible exact A1.out) | (with_reducible refine At.put ?_ hb0 _ _)), by repeat (first | (with_reducible exact MM) | (with_reducible refine Mod.put ?_ (Nat.le_refl _) _ _))⟩
theorem signToken_any (T : TypeId) (W w : World) (b : Nat) (v : Value) (l s : List Int) (hL : l.length ≤ 250000000) (h : At T W w b v l s) : SignGoal T W w b v l s := by
  by_cases h1 : nx s 0 = 35
  · exact sign_hash T W w b v l s hL h1 h
  by_cases h2 : nx s 0 = 43
  · exact sign_num43 T W w b v l s hL h2 h
  by_cases h3 : nx s 0 = 46
  · exact sign_num46 T W w b v l s hL h3 h
  by_cases h4 : nx s 0 = 45
  · exact sign_dash T W w b v l s hL h4 h
  by_cases h5 : nx s 0 = 60
  · exact sign_cdo T W w b v l s hL h5 h
  by_cases h6 : nx s 0 = 64
  · exact sign_at T W w b v l s hL h6 h
  by_cases h7 : nx s 0 = 92
  · exact sign_esc T W w b v l s hL h7 h
  exact sign_one T W w b v l s hL h1 h2 h3 h4 h5 h6 h7 h
end Go.Proofs.YtcclhdiphcfdfaaGreatDoor
