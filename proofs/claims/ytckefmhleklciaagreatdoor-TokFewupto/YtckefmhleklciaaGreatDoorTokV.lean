/-
  A word, by the program.
-/
import Derived.Test.YtckefmhleklciaaGreatDoorTokU
import Derived.Outline
set_option linter.unusedVariables false
set_option linter.unusedSimpArgs false
namespace Go.Proofs.YtckefmhleklciaaGreatDoor
open Go.RowKit

set_option maxRecDepth 100000 in
set_option maxHeartbeats 1000000 in
theorem wordToken_any (T : TypeId) (W w : World) (b : Nat) (v : Value) (l s : List Int) (hL : l.length ≤ 35184372088832) (h : At T W w b v l s) :
    Calls Tryz.prog 32 #[.pointer (some ⟨b, 0, none⟩)] w fun e w' => Tells e (word s).1 ∧ At T W w' b v l (word s).2 ∧ w.grownBy w' (some b) := by
  have hb0 := h.lt
  have A1 := hide (h.below (bplus (Below.refl _ _) tok0))
  have M := hide (Mod.of b (bplus (Below.refl w.heap.size w) tok0))
  have Z := hide (tok0_alloc w)
  clear h
  obtain ⟨wd, hwd⟩ : ∃ x, word s = x := ⟨_, rfl⟩
  rw [hwd]
  unfold word at hwd
  obtain ⟨⟨n, r⟩, hn⟩ : ∃ x, nam [] s = x := ⟨_, rfl⟩
  have N := hide hn
  rw [hn] at hwd
  simp only at hwd
  obtain ⟨x, hx⟩ : ∃ x, nx r 0 = x := ⟨_, rfl⟩
  have X := hide hx
  rw [hx] at hwd
  obtain ⟨u, hu⟩ : ∃ u, r.drop 1 = u := ⟨_, rfl⟩
  have U := hide (show r.drop (Int.toNat 1) = u from hu)
  rw [hu] at hwd
  clear hn hx hu
  obtain ⟨iu, hiu⟩ : ∃ y, isUrlB (enc n) = y := ⟨_, rfl⟩
  have IU := hide (show ∀ t, bl t = enc n → isUrlB (bl t) = iu from fun t ht => by rw [ht]; exact hiu)
  rw [hiu] at hwd
  clear hiu
  by_cases h40 : x = 40
  · subst h40
    rw [if_neg (by simp)] at hwd
    cases iu
    · have E := hide (show wd = (tkt 2 n, u) from hwd.symm)
      clear hwd
      go_enter Tryz.func32, Tryz.ntmps32
      go_wp2_with (first
        | (go_at_call 57; refine (takeName_any T W _ b v l s hL A1.out).mono ?_; rintro e w2 ⟨t, rfl, ht, A2, M2⟩; rw [N.out] at ht A2; have UR := IU.out t ht; replace ht := hide ht; replace A1 := hide A2; replace M := hide (Mod.trans M.out M2); replace Z := hide (keep Z.out (Nat.ne_of_gt hb0) M2); clear A2 M2)
        | (go_at_call 15; refine (nextA T W _ b v l r A1.out).mono ?_; rintro e w1 ⟨he, B1⟩; rw [X.out] at he; subst he; replace A1 := hide (A1.out.below B1); replace M := hide (Mod.trans M.out (Mod.of b B1)); replace Z := hide (keep Z.out (Nat.ne_of_gt hb0) (Mod.of b B1)); clear B1)
        | (go_at_call 24; refine (skipA T W _ b v l r 1 A1.out (by decide) (by decide)).mono ?_; rintro e w2 ⟨rfl, A2, M2⟩; rw [U.out] at A2; replace A1 := hide A2; replace M := hide (Mod.trans M.out M2); replace Z := hide (keep Z.out (Nat.ne_of_gt hb0) M2); clear A2 M2)
        | (go_at_call 58; refine (isUrl_any _ _).mono ?_; rintro e w1 ⟨he, B1⟩; rw [UR] at he; subst he; replace A1 := hide (A1.out.below B1); replace M := hide (Mod.trans M.out (Mod.of b B1)); replace Z := hide (keep Z.out (Nat.ne_of_gt hb0) (Mod.of b B1)); obtain ⟨f0, f1, f2, f3, f4, f5, c0, c1, c2, c3, c4, c5⟩ := tok0_free Z.out; clear B1))
      have MM := M.out
      refine bodyPost_ret (v := tkV 2 t 0 0 false false) (by simp [results, Tryz.results32, go_sem, tkV, c0, c1, c2, c3, c4, c5]) rfl ?_
      exact ⟨.tkt (congrArg Prod.fst E.out) ht.out, by rw [E.out]; repeat (first | (with_reducible exact A1.out) | (with_reducible refine At.put ?_ hb0 _ _)), by repeat (first | (with_reducible exact MM) | (with_reducible refine Mod.put ?_ (Nat.le_refl _) _ _))⟩
    · rw [if_pos rfl] at hwd
      obtain ⟨q, hq⟩ : ∃ q, sbl u = q := ⟨_, rfl⟩
      rw [hq] at hwd
      have SQ := hide hq
      clear hq
      cases hqq : qut q
      · have QQ := hide hqq
        rw [hqq, if_neg (by simp)] at hwd
        obtain ⟨p, hp⟩ : ∃ p, bls q = p := ⟨_, rfl⟩
        rw [hp] at hwd
        have BQ := hide hp
        obtain ⟨⟨⟨k, tx, nu, de, wh, id⟩, r2⟩, hu2⟩ : ∃ x, url [] p = x := ⟨_, rfl⟩
        rw [hu2] at hwd
        have UU := hide hu2
        have E := hide hwd.symm
        clear hwd hqq hp hu2
        go_enter Tryz.func32, Tryz.ntmps32
        go_wp2_with (first
          | (go_at_call 57; refine (takeName_any T W _ b v l s hL A1.out).mono ?_; rintro e w2 ⟨t, rfl, ht, A2, M2⟩; rw [N.out] at ht A2; have UR := IU.out t ht; replace ht := hide ht; replace A1 := hide A2; replace M := hide (Mod.trans M.out M2); replace Z := hide (keep Z.out (Nat.ne_of_gt hb0) M2); clear A2 M2)
          | (go_at_call 15; refine (nextA T W _ b v l r A1.out).mono ?_; rintro e w1 ⟨he, B1⟩; rw [X.out] at he; subst he; replace A1 := hide (A1.out.below B1); replace M := hide (Mod.trans M.out (Mod.of b B1)); replace Z := hide (keep Z.out (Nat.ne_of_gt hb0) (Mod.of b B1)); clear B1)
          | (go_at_call 24; refine (skipA T W _ b v l r 1 A1.out (by decide) (by decide)).mono ?_; rintro e w2 ⟨rfl, A2, M2⟩; rw [U.out] at A2; replace A1 := hide A2; replace M := hide (Mod.trans M.out M2); replace Z := hide (keep Z.out (Nat.ne_of_gt hb0) M2); clear A2 M2)
          | (go_at_call 58; refine (isUrl_any _ _).mono ?_; rintro e w1 ⟨he, B1⟩; rw [UR] at he; subst he; replace A1 := hide (A1.out.below B1); replace M := hide (Mod.trans M.out (Mod.of b B1)); replace Z := hide (keep Z.out (Nat.ne_of_gt hb0) (Mod.of b B1)); clear B1)
          | (go_at_call 59; refine (comesQuote_any T W _ b v l u A1.out).mono ?_; rintro e w2 ⟨he, A2, M2⟩; rw [SQ.out] at he A2; rw [QQ.out] at he; subst he; replace A1 := hide A2; replace M := hide (Mod.trans M.out M2); replace Z := hide (keep Z.out (Nat.ne_of_gt hb0) M2); clear A2 M2)
          | (go_at_call 60; refine (urlToken_any T W _ b v l q p hL BQ.out A1.out).mono ?_; rintro e w2 ⟨⟨z, he, hz⟩, A2, M2⟩; rw [UU.out] at he hz A2; replace he : e = .returned (.agg #[.int .i64 k, .string z, .int .i64 nu, .int .i64 de, .bool wh, .bool id]) := he; subst he; replace hz := hide hz; replace A1 := hide A2; replace M := hide (Mod.trans M.out M2); replace Z := hide (keep Z.out (Nat.ne_of_gt hb0) M2); obtain ⟨f0, f1, f2, f3, f4, f5, c0, c1, c2, c3, c4, c5⟩ := tok0_free Z.out; clear A2 M2))
        have MM := M.out
        refine bodyPost_ret (v := tkV k z nu de wh id) (by simp [results, Tryz.results32, go_sem, tkV, c0, c1, c2, c3, c4, c5]) rfl ?_
        exact ⟨by rw [E.out]; exact ⟨z, rfl, hz.out⟩, by rw [E.out]; repeat (first | (with_reducible exact A1.out) | (with_reducible refine At.put ?_ hb0 _ _)), by repeat (first | (with_reducible exact MM) | (with_reducible refine Mod.put ?_ (Nat.le_refl _) _ _))⟩
      · have QQ := hide hqq
        rw [hqq, if_pos rfl] at hwd
        have E := hide hwd.symm
        clear hwd hqq
        go_enter Tryz.func32, Tryz.ntmps32
        go_wp2_with (first
          | (go_at_call 57; refine (takeName_any T W _ b v l s hL A1.out).mono ?_; rintro e w2 ⟨t, rfl, ht, A2, M2⟩; rw [N.out] at ht A2; have UR := IU.out t ht; replace ht := hide ht; replace A1 := hide A2; replace M := hide (Mod.trans M.out M2); replace Z := hide (keep Z.out (Nat.ne_of_gt hb0) M2); clear A2 M2)
          | (go_at_call 15; refine (nextA T W _ b v l r A1.out).mono ?_; rintro e w1 ⟨he, B1⟩; rw [X.out] at he; subst he; replace A1 := hide (A1.out.below B1); replace M := hide (Mod.trans M.out (Mod.of b B1)); replace Z := hide (keep Z.out (Nat.ne_of_gt hb0) (Mod.of b B1)); clear B1)
          | (go_at_call 24; refine (skipA T W _ b v l r 1 A1.out (by decide) (by decide)).mono ?_; rintro e w2 ⟨rfl, A2, M2⟩; rw [U.out] at A2; replace A1 := hide A2; replace M := hide (Mod.trans M.out M2); replace Z := hide (keep Z.out (Nat.ne_of_gt hb0) M2); clear A2 M2)
          | (go_at_call 58; refine (isUrl_any _ _).mono ?_; rintro e w1 ⟨he, B1⟩; rw [UR] at he; subst he; replace A1 := hide (A1.out.below B1); replace M := hide (Mod.trans M.out (Mod.of b B1)); replace Z := hide (keep Z.out (Nat.ne_of_gt hb0) (Mod.of b B1)); clear B1)
          | (go_at_call 59; refine (comesQuote_any T W _ b v l u A1.out).mono ?_; rintro e w2 ⟨he, A2, M2⟩; rw [SQ.out] at he A2; rw [QQ.out] at he; subst he; replace A1 := hide A2; replace M := hide (Mod.trans M.out M2); replace Z := hide (keep Z.out (Nat.ne_of_gt hb0) M2); obtain ⟨f0, f1, f2, f3, f4, f5, c0, c1, c2, c3, c4, c5⟩ := tok0_free Z.out; clear A2 M2))
        have MM := M.out
        refine bodyPost_ret (v := tkV 2 t 0 0 false false) (by simp [results, Tryz.results32, go_sem, tkV, c0, c1, c2, c3, c4, c5]) rfl ?_
        exact ⟨.tkt (congrArg Prod.fst E.out) ht.out, by rw [E.out]; repeat (first | (with_reducible exact A1.out) | (with_reducible refine At.put ?_ hb0 _ _)), by repeat (first | (with_reducible exact MM) | (with_reducible refine Mod.put ?_ (Nat.le_refl _) _ _))⟩
  · rw [if_pos h40] at hwd
    have E := hide hwd.symm
    have n40 : (x != 40) = true := by simpa using h40
    clear hwd
    go_enter Tryz.func32, Tryz.ntmps32
    go_wp2_with (first
      | (go_at_call 57; refine (takeName_any T W _ b v l s hL A1.out).mono ?_; rintro e w2 ⟨t, rfl, ht, A2, M2⟩; rw [N.out] at ht A2; have UR := IU.out t ht; replace ht := hide ht; replace A1 := hide A2; replace M := hide (Mod.trans M.out M2); replace Z := hide (keep Z.out (Nat.ne_of_gt hb0) M2); clear A2 M2)
      | (go_at_call 15; refine (nextA T W _ b v l r A1.out).mono ?_; rintro e w1 ⟨he, B1⟩; rw [X.out] at he; subst he; replace A1 := hide (A1.out.below B1); replace M := hide (Mod.trans M.out (Mod.of b B1)); replace Z := hide (keep Z.out (Nat.ne_of_gt hb0) (Mod.of b B1)); obtain ⟨f0, f1, f2, f3, f4, f5, c0, c1, c2, c3, c4, c5⟩ := tok0_free Z.out; clear B1))
    have MM := M.out
    refine bodyPost_ret (v := tkV 1 t 0 0 false false) (by simp [results, Tryz.results32, go_sem, tkV, c0, c1, c2, c3, c4, c5]) rfl ?_
    exact ⟨.tkt (congrArg Prod.fst E.out) ht.out, by rw [E.out]; repeat (first | (with_reducible exact A1.out) | (with_reducible refine At.put ?_ hb0 _ _)), by repeat (first | (with_reducible exact MM) | (with_reducible refine Mod.put ?_ (Nat.le_refl _) _ _))⟩
end Go.Proofs.YtckefmhleklciaaGreatDoor
