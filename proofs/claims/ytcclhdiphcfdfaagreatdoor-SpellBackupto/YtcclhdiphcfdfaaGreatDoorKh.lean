/-
  A number taken, by the program.
-/
import Derived.Test.YtcclhdiphcfdfaaGreatDoorKg
import Derived.Outline
set_option linter.unusedVariables false
set_option linter.unusedSimpArgs false
namespace Go.Proofs.YtcclhdiphcfdfaaGreatDoor
open Go.RowKit

theorem Mod.drew {w w' : World} {b : Nat} (h : w.grownBy w' (some b)) : w.grownBy w'.drew (some b) := ⟨h.os, h.tape, h.output, h.size, h.block⟩
/-- A part of a slice. -/
theorem Nums.part {k : IntKind} {w : World} {b o n c : Nat} {bs : List Int} (h : Nums k w (.slice (some ⟨b, o, none⟩) n c) bs) (p q : Nat) (h1 : p ≤ q) (h2 : q ≤ n) (hc : p < c) :
    Nums k w (.slice (some ⟨b, o + p, none⟩) (q - p) (c - p)) ((bs.drop p).take (q - p)) := by
  rcases h with ⟨a, c', e, rfl⟩ | ⟨b', o', n', c', e, hn, h0, hbw, hl, hn9, hc9, hcc⟩
  · simp at e; obtain ⟨_, rfl, _⟩ := e
    exact .inl ⟨_, _, by rw [show q - p = 0 by omega], by simp⟩
  · simp at e
    obtain ⟨⟨rfl, rfl⟩, rfl, rfl⟩ := e
    by_cases h : q - p = 0
    · exact .inl ⟨_, _, by rw [h], by rw [h]; rfl⟩
    · refine .inr ⟨b, o + p, q - p, c - p, rfl, by rw [List.length_take, List.length_drop]; omega, by omega, hbw, by omega, by omega, by omega, fun i hi => ?_⟩
      rw [Nat.add_assoc, hcc (p + i) (by omega)]
      congr 2
      unfold gt
      simp [List.getD_eq_getElem?_getD, List.getElem?_take, hi]
theorem enc_chs (l : List Int) : enc (chs l) = enc l := by
  unfold enc chs
  rw [List.flatMap_map]
  congr 1
  funext x
  rw [chrT (isC_chr x)]
/-- The text of what was taken from p to q. -/
theorem enc_part (l : List Int) (p q : Nat) (hp : p ≤ q) (hq : q ≤ l.length) : enc ((l.drop p).take (q - p)) = enc (((chs l).drop p).take (((chs l).drop p).length - ((chs l).drop q).length)) := by
  rw [← enc_chs]
  congr 1
  rw [List.length_drop, List.length_drop, chs_len, show l.length - p - (l.length - q) = q - p by omega]
  unfold chs
  rw [List.map_take, List.map_drop]
set_option maxHeartbeats 1000000 in
theorem takeNumber_any (T : TypeId) (W w : World) (b : Nat) (v : Value) (l s : List Int) (hL : l.length ≤ 35184372088832) (h0 : nx s 0 ≠ -1) (h : At T W w b v l s) :
    Calls Tryz.prog 123 #[.pointer (some ⟨b, 0, none⟩)] w fun e w' => ∃ t, e = .returned (.string t) ∧ bl t = enc (nmT s) ∧ At T W w' b v l (nmZ s) ∧ w.grownBy w' (some b) := by
  have A1 := hide h
  have M := hide (Mod.refl w b)
  obtain ⟨p, h1, h2, hs⟩ := h.ex
  have c1 := h1.c1
  have hp : p < l.length := by
    have := nx_pos h0
    rw [hs, List.length_drop, chs_len] at this; omega
  obtain ⟨vb, vo, n, c, rfl, hn, hn0, hc⟩ : ∃ vb vo n c, v = .slice (some ⟨vb, vo, none⟩) n c ∧ n = l.length ∧ 0 < n ∧ n ≤ c ∧ c ≤ 9223372036854775807 := by
    rcases h1.nums with ⟨a, c, rfl, rfl⟩ | ⟨b', o, n, c, rfl, hn, h0, hbw, hl, hn9, hc9, hc⟩
    · simp at hp
    · exact ⟨_, _, _, _, rfl, hn, h0, hl, hc9⟩
  have HS := hide hs
  clear h h1 h2 hs h0
  obtain ⟨s2, h2⟩ : ∃ x, dgs (nmS s) = x := ⟨_, rfl⟩
  obtain ⟨s4, h4⟩ : ∃ x, nmZ s = x := ⟨_, rfl⟩
  have S2 := hide h2
  have S4 := hide h4
  have Z := h4
  unfold nmZ at Z
  rw [h2] at Z
  rw [h4]
  clear h2 h4
  have H0 := hide (show nx s2 (Int.toNat 0) = nx s2 0 from rfl)
  have H1 := hide (show nx s2 (Int.toNat 1) = nx s2 1 from rfl)
  have RS : ∃ (a0 : Int) (d : Bool) (s3 : List Int), nx s2 0 = a0 ∧ isDig (nx s2 1) = d ∧ nmP s2 = s3 ∧ ((a0 ≠ 46 ∧ s3 = s2) ∨ (a0 = 46 ∧ d = false ∧ s3 = s2) ∨ (a0 = 46 ∧ d = true ∧ s3 = dgs (s2.drop 1))) := by
    refine ⟨_, _, _, rfl, rfl, rfl, ?_⟩
    unfold nmP
    by_cases g : nx s2 0 = 46
    · cases e : isDig (nx s2 1)
      · exact .inr (.inl ⟨g, rfl, by simp⟩)
      · exact .inr (.inr ⟨g, rfl, by simp [g]⟩)
    · exact .inl ⟨g, by simp [g]⟩
  obtain ⟨a0, d, s3, g0, g1, g3, RS⟩ := RS
  rw [g3] at Z
  rw [g0] at H0
  generalize nx s2 1 = a1 at H1 g1
  have D1 := hide g1
  clear g0 g1 g3
  have RE : ∃ x, exB (nx s3 0) (nx s3 1) (nx s3 2) = x ∧ ((x = false ∧ s4 = s3) ∨ (x = true ∧ s4 = dgs (nmS (s3.drop 1)))) := by
    refine ⟨_, rfl, ?_⟩
    unfold nmE at Z
    cases e : exB (nx s3 0) (nx s3 1) (nx s3 2)
    · rw [e] at Z; exact .inl ⟨rfl, Z.symm⟩
    · rw [e] at Z; exact .inr ⟨rfl, Z.symm⟩
  obtain ⟨x, hx, RE⟩ := RE
  have X := hide hx
  clear hx Z
  obtain ⟨u2, hu2⟩ : ∃ u, s2.drop (Int.toNat 1) = u := ⟨_, rfl⟩
  obtain ⟨u3, hu3⟩ : ∃ u, s3.drop (Int.toNat 1) = u := ⟨_, rfl⟩
  rw [show s2.drop 1 = u2 from hu2] at RS
  rw [show s3.drop 1 = u3 from hu3] at RE
  have U2 := hide hu2
  have U3 := hide hu3
  clear hu2 hu3
  rcases RS with ⟨ga, gs⟩ | ⟨ga, gd, gs⟩ | ⟨ga, gd, gs⟩
  · have ga' : (a0 == 46) = false := by simpa using ga
    subst gs
    rcases RE with ⟨ge, gz⟩ | ⟨ge, gz⟩
    all_goals
      subst ge
      have GZ := hide gz.symm
      clear gz
      go_enter Tryz.func123, Tryz.ntmps123
      go_wp2_with (first
        | (go_at_call 165; refine (skipSign_any T W _ b _ l _ A1.out).mono ?_; rintro e w1 ⟨rfl, A2, M2⟩; replace A1 := hide A2; replace M := hide (Mod.trans M.out M2); clear A2 M2; (try clear c1))
        | (go_at_call 166; refine (skipDigits_any T W _ b _ l _ A1.out).mono ?_; rintro e w1 ⟨rfl, A2, M2⟩; (first | (rw [S2.out] at A2) | (rw [GZ.out] at A2) | (rw [G3.out] at A2)); replace A1 := hide A2; replace M := hide (Mod.trans M.out M2); clear A2 M2)
        | (go_at_call 86; refine (aheadA T W _ b _ l _ A1.out).mono ?_; rintro e w1 ⟨y, rfl, HL, B1⟩; have HK := hide HL; obtain ⟨g, lb, rfl, eg, hg⟩ := HL; replace hg := hide hg; have BL := hide (Below.refl w1.heap.size w1); replace A1 := hide (A1.out.below B1); replace M := hide (Mod.trans M.out (Mod.of b B1)); clear B1)
        | (go_at_fn g; refine (hg.out _ _ (by decide) (by decide) BL.out).mono ?_; rintro e w1 ⟨he, B1⟩; (first | rw [H0.out] at he | rw [H1.out] at he); subst he; replace BL := hide (bto BL.out B1); replace A1 := hide (A1.out.below B1); replace M := hide (Mod.trans M.out (Mod.of b B1)); clear B1)
        | (go_at_call 92; refine (isDigP_any _ _).mono ?_; rintro e w2 ⟨rfl, rfl⟩; rw [D1.out])
        | (go_at_call 167; refine (expB_any _ _ _ (HK.out.le (by decide))).mono ?_; rintro e w2 ⟨he, B1⟩; rw [X.out] at he; subst he; replace A1 := hide (A1.out.below B1); replace M := hide (Mod.trans M.out (Mod.of b B1)); clear B1)
        | (go_at_call 87; refine (skipA T W _ b _ l _ 1 A1.out (by decide) (by decide)).mono ?_; rintro e w2 ⟨rfl, A2, M2⟩; (first | (rw [U3.out] at A2) | (rw [U2.out] at A2)); replace A1 := hide A2; replace M := hide (Mod.trans M.out M2); clear A2 M2))
      try (have A9 := A1.out; rw [GZ.out] at A9; replace A1 := hide A9; clear A9)
      obtain ⟨q, k1, k2, k3⟩ := A1.out.ex
      have d0 := k1.c0
      have d1 := k1.c1
      have pq : p ≤ q := by
        have := nmZ_len s
        rw [S4.out, k3, HS.out, List.length_drop, List.length_drop, chs_len] at this; omega
      have NP := hide (k1.ns.part p q pq (by omega) (by omega))
      have EP := hide (show enc ((l.drop p).take (q - p)) = enc (nmT s) by rw [enc_part l p q pq k2, ← HS.out, ← k3]; unfold nmT; rw [S4.out])
      have LP := hide (show ((l.drop p).take (q - p)).length ≤ 35184372088832 by rw [List.length_take, List.length_drop]; omega)
      have pq1 : (p : Int) ≤ q := by omega
      have pq2 : (q : Int) ≤ c := by omega
      have pq3 : ¬ (c = p) := by omega
      clear k1 k3
      go_region_with (go_at_call 120; refine (written_any _ _ _ (NP.out.below (by repeat (first | (with_reducible exact Below.refl _ _) | (with_reducible refine Below.drew ?_)))) LP.out).mono ?_; rintro e w3 ⟨t, rfl, ht, B3⟩; replace ht := hide ht; replace B3 := hide B3)
      all_goals go_wp2
      all_goals go_ret
      all_goals exact ⟨_, rfl, by have e1 := ht.out; have e2 := EP.out; rw [e1, e2], A1.out.below (bto (by repeat (first | (with_reducible exact Below.refl _ _) | (with_reducible refine Below.drew ?_))) B3.out), Mod.trans M.out (Mod.of b (bto (by repeat (first | (with_reducible exact Below.refl _ _) | (with_reducible refine Below.drew ?_))) B3.out))⟩
  · subst ga
    subst gd
    subst gs
    rcases RE with ⟨ge, gz⟩ | ⟨ge, gz⟩
    all_goals
      subst ge
      have GZ := hide gz.symm
      clear gz
      go_enter Tryz.func123, Tryz.ntmps123
      go_wp2_with (first
        | (go_at_call 165; refine (skipSign_any T W _ b _ l _ A1.out).mono ?_; rintro e w1 ⟨rfl, A2, M2⟩; replace A1 := hide A2; replace M := hide (Mod.trans M.out M2); clear A2 M2; (try clear c1))
        | (go_at_call 166; refine (skipDigits_any T W _ b _ l _ A1.out).mono ?_; rintro e w1 ⟨rfl, A2, M2⟩; (first | (rw [S2.out] at A2) | (rw [GZ.out] at A2) | (rw [G3.out] at A2)); replace A1 := hide A2; replace M := hide (Mod.trans M.out M2); clear A2 M2)
        | (go_at_call 86; refine (aheadA T W _ b _ l _ A1.out).mono ?_; rintro e w1 ⟨y, rfl, HL, B1⟩; have HK := hide HL; obtain ⟨g, lb, rfl, eg, hg⟩ := HL; replace hg := hide hg; have BL := hide (Below.refl w1.heap.size w1); replace A1 := hide (A1.out.below B1); replace M := hide (Mod.trans M.out (Mod.of b B1)); clear B1)
        | (go_at_fn g; refine (hg.out _ _ (by decide) (by decide) BL.out).mono ?_; rintro e w1 ⟨he, B1⟩; (first | rw [H0.out] at he | rw [H1.out] at he); subst he; replace BL := hide (bto BL.out B1); replace A1 := hide (A1.out.below B1); replace M := hide (Mod.trans M.out (Mod.of b B1)); clear B1)
        | (go_at_call 92; refine (isDigP_any _ _).mono ?_; rintro e w2 ⟨rfl, rfl⟩; rw [D1.out])
        | (go_at_call 167; refine (expB_any _ _ _ (HK.out.le (by decide))).mono ?_; rintro e w2 ⟨he, B1⟩; rw [X.out] at he; subst he; replace A1 := hide (A1.out.below B1); replace M := hide (Mod.trans M.out (Mod.of b B1)); clear B1)
        | (go_at_call 87; refine (skipA T W _ b _ l _ 1 A1.out (by decide) (by decide)).mono ?_; rintro e w2 ⟨rfl, A2, M2⟩; (first | (rw [U3.out] at A2) | (rw [U2.out] at A2)); replace A1 := hide A2; replace M := hide (Mod.trans M.out M2); clear A2 M2))
      try (have A9 := A1.out; rw [GZ.out] at A9; replace A1 := hide A9; clear A9)
      obtain ⟨q, k1, k2, k3⟩ := A1.out.ex
      have d0 := k1.c0
      have d1 := k1.c1
      have pq : p ≤ q := by
        have := nmZ_len s
        rw [S4.out, k3, HS.out, List.length_drop, List.length_drop, chs_len] at this; omega
      have NP := hide (k1.ns.part p q pq (by omega) (by omega))
      have EP := hide (show enc ((l.drop p).take (q - p)) = enc (nmT s) by rw [enc_part l p q pq k2, ← HS.out, ← k3]; unfold nmT; rw [S4.out])
      have LP := hide (show ((l.drop p).take (q - p)).length ≤ 35184372088832 by rw [List.length_take, List.length_drop]; omega)
      have pq1 : (p : Int) ≤ q := by omega
      have pq2 : (q : Int) ≤ c := by omega
      have pq3 : ¬ (c = p) := by omega
      clear k1 k3
      go_region_with (go_at_call 120; refine (written_any _ _ _ (NP.out.below (by repeat (first | (with_reducible exact Below.refl _ _) | (with_reducible refine Below.drew ?_)))) LP.out).mono ?_; rintro e w3 ⟨t, rfl, ht, B3⟩; replace ht := hide ht; replace B3 := hide B3)
      all_goals go_wp2
      all_goals go_ret
      all_goals exact ⟨_, rfl, by have e1 := ht.out; have e2 := EP.out; rw [e1, e2], A1.out.below (bto (by repeat (first | (with_reducible exact Below.refl _ _) | (with_reducible refine Below.drew ?_))) B3.out), Mod.trans M.out (Mod.of b (bto (by repeat (first | (with_reducible exact Below.refl _ _) | (with_reducible refine Below.drew ?_))) B3.out))⟩
  · subst ga
    subst gd
    have G3 := hide gs.symm
    clear gs
    rcases RE with ⟨ge, gz⟩ | ⟨ge, gz⟩
    all_goals
      subst ge
      have GZ := hide gz.symm
      clear gz
      go_enter Tryz.func123, Tryz.ntmps123
      go_wp2_with (first
        | (go_at_call 165; refine (skipSign_any T W _ b _ l _ A1.out).mono ?_; rintro e w1 ⟨rfl, A2, M2⟩; replace A1 := hide A2; replace M := hide (Mod.trans M.out M2); clear A2 M2; (try clear c1))
        | (go_at_call 166; refine (skipDigits_any T W _ b _ l _ A1.out).mono ?_; rintro e w1 ⟨rfl, A2, M2⟩; (first | (rw [S2.out] at A2) | (rw [GZ.out] at A2) | (rw [G3.out] at A2)); replace A1 := hide A2; replace M := hide (Mod.trans M.out M2); clear A2 M2)
        | (go_at_call 86; refine (aheadA T W _ b _ l _ A1.out).mono ?_; rintro e w1 ⟨y, rfl, HL, B1⟩; have HK := hide HL; obtain ⟨g, lb, rfl, eg, hg⟩ := HL; replace hg := hide hg; have BL := hide (Below.refl w1.heap.size w1); replace A1 := hide (A1.out.below B1); replace M := hide (Mod.trans M.out (Mod.of b B1)); clear B1)
        | (go_at_fn g; refine (hg.out _ _ (by decide) (by decide) BL.out).mono ?_; rintro e w1 ⟨he, B1⟩; (first | rw [H0.out] at he | rw [H1.out] at he); subst he; replace BL := hide (bto BL.out B1); replace A1 := hide (A1.out.below B1); replace M := hide (Mod.trans M.out (Mod.of b B1)); clear B1)
        | (go_at_call 92; refine (isDigP_any _ _).mono ?_; rintro e w2 ⟨rfl, rfl⟩; rw [D1.out])
        | (go_at_call 167; refine (expB_any _ _ _ (HK.out.le (by decide))).mono ?_; rintro e w2 ⟨he, B1⟩; rw [X.out] at he; subst he; replace A1 := hide (A1.out.below B1); replace M := hide (Mod.trans M.out (Mod.of b B1)); clear B1)
        | (go_at_call 87; refine (skipA T W _ b _ l _ 1 A1.out (by decide) (by decide)).mono ?_; rintro e w2 ⟨rfl, A2, M2⟩; (first | (rw [U3.out] at A2) | (rw [U2.out] at A2)); replace A1 := hide A2; replace M := hide (Mod.trans M.out M2); clear A2 M2))
      try (have A9 := A1.out; rw [GZ.out] at A9; replace A1 := hide A9; clear A9)
      obtain ⟨q, k1, k2, k3⟩ := A1.out.ex
      have d0 := k1.c0
      have d1 := k1.c1
      have pq : p ≤ q := by
        have := nmZ_len s
        rw [S4.out, k3, HS.out, List.length_drop, List.length_drop, chs_len] at this; omega
      have NP := hide (k1.ns.part p q pq (by omega) (by omega))
      have EP := hide (show enc ((l.drop p).take (q - p)) = enc (nmT s) by rw [enc_part l p q pq k2, ← HS.out, ← k3]; unfold nmT; rw [S4.out])
      have LP := hide (show ((l.drop p).take (q - p)).length ≤ 35184372088832 by rw [List.length_take, List.length_drop]; omega)
      have pq1 : (p : Int) ≤ q := by omega
      have pq2 : (q : Int) ≤ c := by omega
      have pq3 : ¬ (c = p) := by omega
      clear k1 k3
      go_region_with (go_at_call 120; refine (written_any _ _ _ (NP.out.below (by repeat (first | (with_reducible exact Below.refl _ _) | (with_reducible refine Below.drew ?_)))) LP.out).mono ?_; rintro e w3 ⟨t, rfl, ht, B3⟩; replace ht := hide ht; replace B3 := hide B3)
      all_goals go_wp2
      all_goals go_ret
      all_goals exact ⟨_, rfl, by have e1 := ht.out; have e2 := EP.out; rw [e1, e2], A1.out.below (bto (by repeat (first | (with_reducible exact Below.refl _ _) | (with_reducible refine Below.drew ?_))) B3.out), Mod.trans M.out (Mod.of b (bto (by repeat (first | (with_reducible exact Below.refl _ _) | (with_reducible refine Below.drew ?_))) B3.out))⟩
end Go.Proofs.YtcclhdiphcfdfaaGreatDoor
