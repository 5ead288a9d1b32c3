/-
  A hash; a string's escape, by the program.
-/
import Derived.Test.YtckefmhleklciaaGreatDoorTokM
import Derived.Outline
set_option linter.unusedVariables false
set_option linter.unusedSimpArgs false
namespace Go.Proofs.YtckefmhleklciaaGreatDoor
open Go.RowKit

set_option maxRecDepth 100000 in
set_option maxHeartbeats 1000000 in
theorem hashToken_any (T : TypeId) (W w : World) (b : Nat) (v : Value) (l s : List Int) (hL : l.length ≤ 35184372088832) (h : At T W w b v l s) :
    Calls Tryz.prog 64 #[.pointer (some ⟨b, 0, none⟩)] w fun e w' => Tells e (hash s).1 ∧ At T W w' b v l (hash s).2 ∧ w.grownBy w' (some b) := by
  have hb := h.lt
  have A1 := hide (h.below (bplus (Below.refl _ _) tok0))
  have M := hide (Mod.of b (bplus (Below.refl w.heap.size w) tok0))
  have Z := hide (tok0_alloc w)
  clear h
  have EN : nmB (nx s 1) (nx s 2) (nx s 3) = nmB (nx (s.drop 1) 0) (nx (s.drop 1) 1) (nx (s.drop 1) 2) := by rw [nx_drop, nx_drop, nx_drop]
  unfold hash
  rw [EN]
  clear EN
  obtain ⟨u, hu⟩ : ∃ u, s.drop 1 = u := ⟨_, rfl⟩
  have U := hide (show s.drop (Int.toNat 1) = u from hu)
  obtain ⟨⟨n, r⟩, hn⟩ : ∃ x, nam [] u = x := ⟨_, rfl⟩
  have N := hide hn
  obtain ⟨y, hy⟩ : ∃ y, nmB (nx u 0) (nx u 1) (nx u 2) = y := ⟨_, rfl⟩
  have Y := hide hy
  rw [hu, hn, hy]
  clear hu hn hy
  go_enter Tryz.func64, Tryz.ntmps64
  go_wp2_with (first
    | (go_at_call 24; refine (skipA T W _ b v l s 1 A1.out (by decide) (by decide)).mono ?_; rintro e w2 ⟨rfl, A2, M2⟩; rw [U.out] at A2; replace Z := hide (keep Z.out (Nat.ne_of_gt hb) M2); replace A1 := hide A2; replace M := hide (Mod.trans M.out M2); clear A2 M2)
    | (go_at_call 23; refine (aheadA T W _ b _ l _ A1.out).mono ?_; rintro e w1 ⟨f, rfl, HL, B1⟩; replace HL := hide HL; replace A1 := hide (A1.out.below B1); replace M := hide (Mod.trans M.out (Mod.of b B1)); replace Z := hide (keep Z.out (Nat.ne_of_gt hb) (Mod.of b B1)); clear B1)
    | (go_at_call 56; refine (nameB_any _ u _ (HL.out.le (by decide))).mono ?_; rintro e w1 ⟨he, B1⟩; rw [Y.out] at he; subst he; replace A1 := hide (A1.out.below B1); replace M := hide (Mod.trans M.out (Mod.of b B1)); replace Z := hide (keep Z.out (Nat.ne_of_gt hb) (Mod.of b B1)); clear B1)
    | (go_at_call 57; refine (takeName_any T W _ b v l u hL A1.out).mono ?_; rintro e w2 ⟨t, rfl, ht, A2, M2⟩; rw [N.out] at ht A2; replace ht := hide ht; replace Z := hide (keep Z.out (Nat.ne_of_gt hb) M2); replace A1 := hide A2; replace M := hide (Mod.trans M.out M2); obtain ⟨f0, f1, f2, f3, f4, f5, c0, c1, c2, c3, c4, c5⟩ := tok0_free Z.out; clear A2 M2))
  refine bodyPost_ret (v := tkV 4 t 0 0 false y) (by simp [results, Tryz.results64, go_sem, tkV, c0, c1, c2, c3, c4, c5]) rfl ?_
  exact ⟨⟨t, rfl, ht.out⟩, by repeat (first | (with_reducible exact A1.out) | (with_reducible refine At.put ?_ hb _ _)), by repeat (first | (with_reducible exact M.out) | (with_reducible refine Mod.put ?_ (Nat.le_refl _) _ _))⟩
/-- A string's escape: what it stands for, and what stands behind it. -/
def esX (s : List Int) : List Int × List Int :=
  if nx s 1 = -1 then ([], s.drop 1) else if nx s 1 = 10 then ([], s.drop 2) else ([(tesc (s.drop 1)).1], (tesc (s.drop 1)).2)
theorem esX_two (s : List Int) (h : 0 < s.length) : (esX s).2.length < s.length ∧ (esX s).1.length + (esX s).2.length ≤ s.length := by
  have k := tesc_len (s.drop 1)
  have e1 : (s.drop 1).length = s.length - 1 := List.length_drop
  have e2 : (s.drop 2).length = s.length - 2 := List.length_drop
  rw [e1] at k
  unfold esX
  generalize s.drop 1 = u at *
  generalize s.drop 2 = q at *
  generalize tesc u = z at *
  split
  · exact ⟨by show u.length < _; omega, by show 0 + u.length ≤ _; omega⟩
  · split
    · exact ⟨by show q.length < _; omega, by show 0 + q.length ≤ _; omega⟩
    · exact ⟨by show z.2.length < _; omega, by show 1 + z.2.length ≤ _; omega⟩
set_option maxRecDepth 100000 in
set_option maxHeartbeats 1000000 in
theorem appEsc_any (T : TypeId) (W w0 w : World) (b : Nat) (v nv : Value) (l s xs : List Int) (hb : b < w0.heap.size) (hx : xs.length + 1 ≤ 35184372088832) (h : At T W w b v l s) (ho : OwnM b w0 .i32 21 w nv xs) :
    Calls Tryz.prog 53 #[.pointer (some ⟨b, 0, none⟩), nv] w fun e w' => ∃ nv', e = .returned nv' ∧ At T W w' b v l (esX s).2 ∧ OwnM b w0 .i32 21 w' nv' (xs ++ (esX s).1) := by
  obtain ⟨i0, hi, hz0, hz1, hz2⟩ := info_parts info32
  obtain ⟨na, nn, nc, rfl⟩ : ∃ a n c, nv = .slice a n c := (ho.nums (by omega)).shape
  have A1 := hide h
  have OW := hide ho
  clear h ho
  have H1 := hide (show nx s (Int.toNat 1) = nx s 1 from rfl)
  obtain ⟨c, hc⟩ : ∃ c, nx s 1 = c := ⟨_, rfl⟩
  rw [hc] at H1
  obtain ⟨u, hu⟩ : ∃ u, s.drop 1 = u := ⟨_, rfl⟩
  obtain ⟨q, hq⟩ : ∃ u, s.drop 2 = u := ⟨_, rfl⟩
  obtain ⟨⟨x, r⟩, hxr⟩ : ∃ z, tesc u = z := ⟨_, rfl⟩
  have U1 := hide (show s.drop (Int.toNat 1) = u from hu)
  have U2 := hide (show s.drop (Int.toNat 2) = q from hq)
  have HU := hide hu
  have XR := hide hxr
  unfold esX
  rw [hc, hu, hq, hxr]
  clear hu hq hxr hc
  by_cases c1 : c = -1
  · subst c1
    rw [if_pos rfl]
    go_enter Tryz.func53, Tryz.ntmps53
    go_wp2_with (first
      | (go_at_call 23; refine (aheadA T W _ b _ l _ A1.out).mono ?_; rintro e w1 ⟨y, rfl, HL, B1⟩; obtain ⟨g, lb, rfl, eg, hg⟩ := HL; replace hg := hide hg; have BL := hide (Below.refl w1.heap.size w1); replace A1 := hide (A1.out.below B1); replace OW := hide (OW.out.mod hb (Mod.of b B1)); clear B1)
      | (go_at_fn g; refine (hg.out _ _ (by decide) (by decide) BL.out).mono ?_; rintro e w1 ⟨he, B1⟩; rw [H1.out] at he; subst he; replace A1 := hide (A1.out.below B1); replace OW := hide (OW.out.mod hb (Mod.of b B1)); clear B1)
      | (go_at_call 24; refine (skipA T W _ b v l s 1 A1.out (by decide) (by decide)).mono ?_; rintro e w2 ⟨rfl, A2, M2⟩; rw [U1.out] at A2; replace A1 := hide A2; replace OW := hide (OW.out.mod hb M2); clear A2 M2))
    go_ret
    exact ⟨_, rfl, A1.out, by rw [List.append_nil]; exact OW.out⟩
  · have c1' : (c == -1) = false := by simpa using c1
    rw [if_neg c1]
    by_cases c2 : c = 10
    · subst c2
      rw [if_pos rfl]
      go_enter Tryz.func53, Tryz.ntmps53
      go_wp2_with (first
        | (go_at_call 23; refine (aheadA T W _ b _ l _ A1.out).mono ?_; rintro e w1 ⟨y, rfl, HL, B1⟩; obtain ⟨g, lb, rfl, eg, hg⟩ := HL; replace hg := hide hg; have BL := hide (Below.refl w1.heap.size w1); replace A1 := hide (A1.out.below B1); replace OW := hide (OW.out.mod hb (Mod.of b B1)); clear B1)
        | (go_at_fn g; refine (hg.out _ _ (by decide) (by decide) BL.out).mono ?_; rintro e w1 ⟨he, B1⟩; rw [H1.out] at he; subst he; replace A1 := hide (A1.out.below B1); replace OW := hide (OW.out.mod hb (Mod.of b B1)); clear B1)
        | (go_at_call 24; refine (skipA T W _ b v l s 2 A1.out (by decide) (by decide)).mono ?_; rintro e w2 ⟨rfl, A2, M2⟩; rw [U2.out] at A2; replace A1 := hide A2; replace OW := hide (OW.out.mod hb M2); clear A2 M2))
      go_ret
      exact ⟨_, rfl, A1.out, by rw [List.append_nil]; exact OW.out⟩
    · have c2' : (c == 10) = false := by simpa using c2
      rw [if_neg c2]
      go_enter Tryz.func53, Tryz.ntmps53
      go_wp2_with (first
        | (go_at_call 23; refine (aheadA T W _ b _ l _ A1.out).mono ?_; rintro e w1 ⟨y, rfl, HL, B1⟩; obtain ⟨g, lb, rfl, eg, hg⟩ := HL; replace hg := hide hg; have BL := hide (Below.refl w1.heap.size w1); replace A1 := hide (A1.out.below B1); replace OW := hide (OW.out.mod hb (Mod.of b B1)); clear B1)
        | (go_at_fn g; refine (hg.out _ _ (by decide) (by decide) BL.out).mono ?_; rintro e w1 ⟨he, B1⟩; rw [H1.out] at he; subst he; replace A1 := hide (A1.out.below B1); replace OW := hide (OW.out.mod hb (Mod.of b B1)); clear B1)
        | (go_at_call 81; refine (takeEscape_any T W _ b _ l s u HU.out A1.out).mono ?_; rintro e w2 ⟨he, A2, M2⟩; rw [XR.out] at he A2; subst he; replace A1 := hide A2; replace OW := hide (OW.out.mod hb M2); clear A2 M2)
        | (at_builtin; refine wpList_append_own _ rfl _ _ 22 rfl w0.heap.size 21 i0 (.int .i32 0) 1 4 Tryz.underlying22 hi hz0 hz1 hz2 rfl (by decide) _ _ _ rfl (OW.out.1.alloc _) ⟨_, 0, none⟩ 1 1 [.int .i32 x] rfl rfl (news1 _ _ _) (by intro u hu; simp at hu; subst hu; rfl) (by unfold maxLen; omega) (by omega) (by have := OW.out.2.size; simp; omega) ?_; intro v' w1 hown' hgrow _; replace A1 := hide (A1.out.grow hb OW.out hgrow); replace OW := hide (OW.out.grow (ys := [x]) hown' hgrow); clear hown' hgrow))
      go_ret
      exact ⟨_, rfl, A1.out, OW.out⟩
end Go.Proofs.YtckefmhleklciaaGreatDoor
