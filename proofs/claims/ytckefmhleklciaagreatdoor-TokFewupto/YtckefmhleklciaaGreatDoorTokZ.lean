/-
  One token, by the program.
-/
import Derived.Test.YtckefmhleklciaaGreatDoorTokY
import Derived.Outline
set_option linter.unusedVariables false
set_option linter.unusedSimpArgs false
namespace Go.Proofs.YtckefmhleklciaaGreatDoor
open Go.RowKit

set_option maxRecDepth 100000 in
set_option maxHeartbeats 2000000 in
theorem token_any (T : TypeId) (W w : World) (b : Nat) (v : Value) (l s : List Int) (hL : l.length ≤ 250000000) (h1 : nx s 0 ≠ -1) (h : At T W w b v l s) :
    Calls Tryz.prog 16 #[.pointer (some ⟨b, 0, none⟩)] w fun e w' => Tells e (tokn s).1 ∧ At T W w' b v l (tokn s).2 ∧ w.grownBy w' (some b) := by
  have hb0 := h.lt
  have A1 := hide (h.below (bplus (Below.refl _ _) tok0))
  have M := hide (Mod.of b (bplus (Below.refl w.heap.size w) tok0))
  have Z := hide (tok0_alloc w)
  clear h
  have L0 := hide hL
  have L9 := hide (show l.length ≤ 35184372088832 by omega)
  clear hL
  have H1 := hide h1
  clear h1
  obtain ⟨wd, hwd⟩ : ∃ x, tokn s = x := ⟨_, rfl⟩
  rw [hwd]
  unfold tokn at hwd
  obtain ⟨x, hx⟩ : ∃ x, nx s 0 = x := ⟨_, rfl⟩
  have X0 := hide hx
  rw [hx] at hwd
  clear hx
  obtain ⟨yb, hyb⟩ : ∃ y, isBl x = y := ⟨_, rfl⟩
  have YB := hide hyb
  rw [hyb] at hwd
  obtain ⟨yq, hyq⟩ : ∃ y, isQ x = y := ⟨_, rfl⟩
  have YQ := hide hyq
  rw [hyq] at hwd
  obtain ⟨yd, hyd⟩ : ∃ y, isDig x = y := ⟨_, rfl⟩
  have YD := hide hyd
  rw [hyd] at hwd
  obtain ⟨yf, hyf⟩ : ∃ y, isFst x = y := ⟨_, rfl⟩
  have YF := hide hyf
  rw [hyf] at hwd
  clear hyb hyd hyf
  cases yb
  · rw [if_neg (by simp)] at hwd
    cases yq
    · rw [if_neg (by simp)] at hwd
      clear hyq
      cases yd
      · rw [if_neg (by simp)] at hwd
        cases yf
        · rw [if_neg (by simp)] at hwd
          obtain ⟨⟨⟨k, tx, nu, de, wh, id⟩, r2⟩, hu2⟩ : ∃ x, sgnT s = x := ⟨_, rfl⟩
          rw [hu2] at hwd
          have UU := hide hu2
          have E := hide hwd.symm
          clear hwd hu2
          go_enter Tryz.func16, Tryz.ntmps16
          go_wp2_with (first
            | (go_at_call 15; refine (nextA T W _ b v l s A1.out).mono ?_; rintro e w1 ⟨he, B1⟩; rw [X0.out] at he; subst he; replace A1 := hide (A1.out.below B1); replace M := hide (Mod.trans M.out (Mod.of b B1)); replace Z := hide (keep Z.out (Nat.ne_of_gt hb0) (Mod.of b B1)); clear B1)
            | (go_at_call 25; refine (isBlP_any _ _).mono ?_; rintro e w2 ⟨rfl, rfl⟩; rw [YB.out])
            | (go_at_call 27; refine (isQP_any _ _).mono ?_; rintro e w2 ⟨rfl, rfl⟩; rw [YQ.out])
            | (go_at_call 29; refine (isDigP_any _ _).mono ?_; rintro e w2 ⟨rfl, rfl⟩; rw [YD.out])
            | (go_at_call 31; refine (isFstP_any _ _).mono ?_; rintro e w2 ⟨rfl, rfl⟩; rw [YF.out])
            | (go_at_call 33; refine (signToken_any T W _ b v l s L0.out A1.out).mono ?_; rintro e w6 ⟨⟨z, he, hz⟩, A2, M2⟩; rw [UU.out] at he hz A2; replace he : e = .returned (.agg #[.int .i64 k, .string z, .int .i64 nu, .int .i64 de, .bool wh, .bool id]) := he; subst he; replace hz := hide hz; replace A1 := hide A2; replace M := hide (Mod.trans M.out M2); replace Z := hide (keep Z.out (Nat.ne_of_gt hb0) M2); obtain ⟨f0, f1, f2, f3, f4, f5, c0, c1, c2, c3, c4, c5⟩ := tok0_free Z.out; clear A2 M2))
          have MM := M.out
          refine bodyPost_ret (v := tkV k z nu de wh id) (by simp [results, Tryz.results16, go_sem, tkV, c0, c1, c2, c3, c4, c5]) rfl ?_
          exact ⟨by rw [E.out]; exact ⟨z, rfl, hz.out⟩, by rw [E.out]; repeat (first | (with_reducible exact A1.out) | (with_reducible refine At.put ?_ hb0 _ _)), by repeat (first | (with_reducible exact MM) | (with_reducible refine Mod.put ?_ (Nat.le_refl _) _ _))⟩
        · rw [if_pos rfl] at hwd
          obtain ⟨⟨⟨k, tx, nu, de, wh, id⟩, r2⟩, hu2⟩ : ∃ x, word s = x := ⟨_, rfl⟩
          rw [hu2] at hwd
          have UU := hide hu2
          have E := hide hwd.symm
          clear hwd hu2
          go_enter Tryz.func16, Tryz.ntmps16
          go_wp2_with (first
            | (go_at_call 15; refine (nextA T W _ b v l s A1.out).mono ?_; rintro e w1 ⟨he, B1⟩; rw [X0.out] at he; subst he; replace A1 := hide (A1.out.below B1); replace M := hide (Mod.trans M.out (Mod.of b B1)); replace Z := hide (keep Z.out (Nat.ne_of_gt hb0) (Mod.of b B1)); clear B1)
            | (go_at_call 25; refine (isBlP_any _ _).mono ?_; rintro e w2 ⟨rfl, rfl⟩; rw [YB.out])
            | (go_at_call 27; refine (isQP_any _ _).mono ?_; rintro e w2 ⟨rfl, rfl⟩; rw [YQ.out])
            | (go_at_call 29; refine (isDigP_any _ _).mono ?_; rintro e w2 ⟨rfl, rfl⟩; rw [YD.out])
            | (go_at_call 31; refine (isFstP_any _ _).mono ?_; rintro e w2 ⟨rfl, rfl⟩; rw [YF.out])
            | (go_at_call 32; refine (wordToken_any T W _ b v l s L9.out A1.out).mono ?_; rintro e w6 ⟨⟨z, he, hz⟩, A2, M2⟩; rw [UU.out] at he hz A2; replace he : e = .returned (.agg #[.int .i64 k, .string z, .int .i64 nu, .int .i64 de, .bool wh, .bool id]) := he; subst he; replace hz := hide hz; replace A1 := hide A2; replace M := hide (Mod.trans M.out M2); replace Z := hide (keep Z.out (Nat.ne_of_gt hb0) M2); obtain ⟨f0, f1, f2, f3, f4, f5, c0, c1, c2, c3, c4, c5⟩ := tok0_free Z.out; clear A2 M2))
          have MM := M.out
          refine bodyPost_ret (v := tkV k z nu de wh id) (by simp [results, Tryz.results16, go_sem, tkV, c0, c1, c2, c3, c4, c5]) rfl ?_
          exact ⟨by rw [E.out]; exact ⟨z, rfl, hz.out⟩, by rw [E.out]; repeat (first | (with_reducible exact A1.out) | (with_reducible refine At.put ?_ hb0 _ _)), by repeat (first | (with_reducible exact MM) | (with_reducible refine Mod.put ?_ (Nat.le_refl _) _ _))⟩
      · rw [if_pos rfl] at hwd
        obtain ⟨⟨⟨k, tx, nu, de, wh, id⟩, r2⟩, hu2⟩ : ∃ x, numb s = x := ⟨_, rfl⟩
        rw [hu2] at hwd
        have UU := hide hu2
        have E := hide hwd.symm
        clear hwd hu2
        go_enter Tryz.func16, Tryz.ntmps16
        go_wp2_with (first
          | (go_at_call 15; refine (nextA T W _ b v l s A1.out).mono ?_; rintro e w1 ⟨he, B1⟩; rw [X0.out] at he; subst he; replace A1 := hide (A1.out.below B1); replace M := hide (Mod.trans M.out (Mod.of b B1)); replace Z := hide (keep Z.out (Nat.ne_of_gt hb0) (Mod.of b B1)); clear B1)
          | (go_at_call 25; refine (isBlP_any _ _).mono ?_; rintro e w2 ⟨rfl, rfl⟩; rw [YB.out])
          | (go_at_call 27; refine (isQP_any _ _).mono ?_; rintro e w2 ⟨rfl, rfl⟩; rw [YQ.out])
          | (go_at_call 29; refine (isDigP_any _ _).mono ?_; rintro e w2 ⟨rfl, rfl⟩; rw [YD.out])
          | (go_at_call 30; refine (numberToken_any T W _ b v l s L0.out H1.out A1.out).mono ?_; rintro e w6 ⟨⟨z, he, hz⟩, A2, M2⟩; rw [UU.out] at he hz A2; replace he : e = .returned (.agg #[.int .i64 k, .string z, .int .i64 nu, .int .i64 de, .bool wh, .bool id]) := he; subst he; replace hz := hide hz; replace A1 := hide A2; replace M := hide (Mod.trans M.out M2); replace Z := hide (keep Z.out (Nat.ne_of_gt hb0) M2); obtain ⟨f0, f1, f2, f3, f4, f5, c0, c1, c2, c3, c4, c5⟩ := tok0_free Z.out; clear A2 M2))
        have MM := M.out
        refine bodyPost_ret (v := tkV k z nu de wh id) (by simp [results, Tryz.results16, go_sem, tkV, c0, c1, c2, c3, c4, c5]) rfl ?_
        exact ⟨by rw [E.out]; exact ⟨z, rfl, hz.out⟩, by rw [E.out]; repeat (first | (with_reducible exact A1.out) | (with_reducible refine At.put ?_ hb0 _ _)), by repeat (first | (with_reducible exact MM) | (with_reducible refine Mod.put ?_ (Nat.le_refl _) _ _))⟩
    · rw [if_pos rfl] at hwd
      have Q0 := hide (show x = 34 ∨ x = 39 by simpa [isQ] using hyq)
      clear hyq
      obtain ⟨u, hu⟩ : ∃ u, s.drop 1 = u := ⟨_, rfl⟩
      have U1 := hide hu
      rw [hu] at hwd
      clear hu
      obtain ⟨⟨⟨k, tx, nu, de, wh, id⟩, r2⟩, hu2⟩ : ∃ y, str x [] u = y := ⟨_, rfl⟩
      rw [hu2] at hwd
      have UU := hide hu2
      have E := hide hwd.symm
      clear hwd hu2
      go_enter Tryz.func16, Tryz.ntmps16
      go_wp2_with (first
        | (go_at_call 15; refine (nextA T W _ b v l s A1.out).mono ?_; rintro e w1 ⟨he, B1⟩; rw [X0.out] at he; subst he; replace A1 := hide (A1.out.below B1); replace M := hide (Mod.trans M.out (Mod.of b B1)); replace Z := hide (keep Z.out (Nat.ne_of_gt hb0) (Mod.of b B1)); clear B1)
        | (go_at_call 25; refine (isBlP_any _ _).mono ?_; rintro e w2 ⟨rfl, rfl⟩; rw [YB.out])
        | (go_at_call 27; refine (isQP_any _ _).mono ?_; rintro e w2 ⟨rfl, rfl⟩; rw [YQ.out])
        | (go_at_call 28; refine (stringToken_any T W _ b v l s u x Q0.out L9.out X0.out U1.out A1.out).mono ?_; rintro e w6 ⟨⟨z, he, hz⟩, A2, M2⟩; rw [UU.out] at he hz A2; replace he : e = .returned (.agg #[.int .i64 k, .string z, .int .i64 nu, .int .i64 de, .bool wh, .bool id]) := he; subst he; replace hz := hide hz; replace A1 := hide A2; replace M := hide (Mod.trans M.out M2); replace Z := hide (keep Z.out (Nat.ne_of_gt hb0) M2); obtain ⟨f0, f1, f2, f3, f4, f5, c0, c1, c2, c3, c4, c5⟩ := tok0_free Z.out; clear A2 M2))
      have MM := M.out
      refine bodyPost_ret (v := tkV k z nu de wh id) (by simp [results, Tryz.results16, go_sem, tkV, c0, c1, c2, c3, c4, c5]) rfl ?_
      exact ⟨by rw [E.out]; exact ⟨z, rfl, hz.out⟩, by rw [E.out]; repeat (first | (with_reducible exact A1.out) | (with_reducible refine At.put ?_ hb0 _ _)), by repeat (first | (with_reducible exact MM) | (with_reducible refine Mod.put ?_ (Nat.le_refl _) _ _))⟩
  · rw [if_pos rfl] at hwd
    obtain ⟨u, hu⟩ : ∃ u, bls s = u := ⟨_, rfl⟩
    have UB := hide hu
    rw [hu] at hwd
    have E := hide hwd.symm
    clear hwd hu hyq
    go_enter Tryz.func16, Tryz.ntmps16
    go_wp2_with (first
      | (go_at_call 15; refine (nextA T W _ b v l s A1.out).mono ?_; rintro e w1 ⟨he, B1⟩; rw [X0.out] at he; subst he; replace A1 := hide (A1.out.below B1); replace M := hide (Mod.trans M.out (Mod.of b B1)); replace Z := hide (keep Z.out (Nat.ne_of_gt hb0) (Mod.of b B1)); clear B1)
      | (go_at_call 25; refine (isBlP_any _ _).mono ?_; rintro e w2 ⟨rfl, rfl⟩; rw [YB.out])
      | (go_at_call 26; refine (skipBlanks_any T W _ b v l s A1.out).mono ?_; rintro e w3 ⟨rfl, A2, M2⟩; rw [UB.out] at A2; replace A1 := hide A2; replace M := hide (Mod.trans M.out M2); replace Z := hide (keep Z.out (Nat.ne_of_gt hb0) M2); obtain ⟨f0, f1, f2, f3, f4, f5, c0, c1, c2, c3, c4, c5⟩ := tok0_free Z.out; clear A2 M2))
    have MM := M.out
    refine bodyPost_ret (v := tkV 13 ⟨#[]⟩ 0 0 false false) (by simp [results, Tryz.results16, go_sem, tkV, c0, c1, c2, c3, c4, c5]) rfl ?_
    exact ⟨.tk (congrArg Prod.fst E.out), by rw [E.out]; repeat (first | (with_reducible exact A1.out) | (with_reducible refine At.put ?_ hb0 _ _)), by repeat (first | (with_reducible exact MM) | (with_reducible refine Mod.put ?_ (Nat.le_refl _) _ _))⟩
end Go.Proofs.YtckefmhleklciaaGreatDoor
