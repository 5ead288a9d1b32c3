/-
  The reference's words.
-/
import Derived.Test.YtckefmhleklciaaGreatDoorLRefG
set_option linter.unusedVariables false
set_option linter.unusedSimpArgs false
namespace Go.Proofs.YtckefmhleklciaaGreatDoor
open Go.RowKit

theorem nam_sum (n : Nat) : ∀ acc s : List Int, s.length ≤ n → (nam acc s).1.length + (nam acc s).2.length ≤ acc.length + s.length := by
  induction n with
  | zero =>
    intro acc s h
    obtain rfl : s = [] := List.eq_nil_of_length_eq_zero (by omega)
    rw [nam_end (by decide) (by decide)]; simp
  | succ n ih =>
    intro acc s h
    by_cases h1 : isLet (nx s 0) = true
    · have := isLet_ne h1
      rw [nam_let h1]
      have := ih (acc ++ [nx s 0]) (s.drop 1) (by rw [List.length_drop]; omega)
      rw [List.length_append, List.length_singleton, List.length_drop] at this; omega
    · have h1' : isLet (nx s 0) = false := by simpa using h1
      by_cases h2 : es2 (nx s 0) (nx s 1) = true
      · have := es2_ne h2
        have q := tesc_len (s.drop 1)
        rw [List.length_drop] at q
        rw [nam_esc h1' h2]
        have := ih (acc ++ [(tesc (s.drop 1)).1]) (tesc (s.drop 1)).2 (by omega)
        rw [List.length_append, List.length_singleton] at this; omega
      · rw [nam_end h1' (by simpa using h2)]; simp
theorem nam_size {s : List Int} {t : ByteArray} {k : Nat} (h : bl t = enc (nam [] s).1) (hs : s.length ≤ k) (hk : k ≤ 250000000) : t.size ≤ 1000000000 := by
  have h1 := bl_len t
  have h2 := (enc_len (nam [] s).1).2
  have h3 := nam_sum s.length [] s (Nat.le_refl _)
  rw [h] at h1
  simp at h3
  omega
theorem sblR_go {s : List Int} (h0 : isBl (nx s 0) = true) (h1 : isBl (nx s 1) = true) : sbl s = sbl (s.drop 1) := by
  cases s with
  | nil => exact absurd h0 (by decide)
  | cons x r =>
    have e0 : isBl x = true := h0
    have e1 : isBl (nx r 0) = true := h1
    show (if isBl x && isBl (nx r 0) then sbl r else x :: r) = sbl r
    rw [e0, e1]; rfl
theorem sblR_no {s : List Int} (h : (isBl (nx s 0) && isBl (nx s 1)) = false) : sbl s = s := by
  cases s with
  | nil => rfl
  | cons x r =>
    have e : (isBl x && isBl (nx r 0)) = false := h
    show (if isBl x && isBl (nx r 0) then sbl r else x :: r) = x :: r
    rw [e]; rfl
set_option maxRecDepth 100000 in
set_option maxHeartbeats 4000000 in
theorem wordR_any (T : TypeId) (W w : World) (b : Nat) (v : Value) (l s : List Int) (hL : l.length ≤ 250000000) (h : At T W w b v l s) :
    Calls Tryz.prog 44 #[.pointer (some ⟨b, 0, none⟩)] w fun e w' => Tells e (word s).1 ∧ AtR T W w' b v l (word s).2 ∧ w.grownBy w' (some b) := by
  have hb0 := h.lt
  have nb1 : ¬ w.heap.size = b := by omega
  have nb2 : ¬ b = w.heap.size := by omega
  have hbw : b < (w.alloc tok0).heap.size := by simp; omega
  have A1 := hide (h.below (bplus (Below.refl _ _) tok0))
  have M0 := hide (Mod.of b (bplus (Below.refl w.heap.size w) tok0))
  have Z := hide (tok0_alloc w)
  have hsl := h.len.1
  have SZF := hide (fun (t : ByteArray) (ht : bl t = enc (nam [] s).1) => nam_size ht hsl hL)
  have L9 := hide (show l.length ≤ 35184372088832 by omega)
  clear h
  obtain ⟨w0, hw0⟩ : ∃ w0, w.alloc tok0 = w0 := ⟨_, rfl⟩
  rw [hw0] at hbw A1 M0 Z
  have hw0' : w.alloc (.cells #[.int .i64 0, .string ⟨#[]⟩, .int .i64 0, .int .i64 0, .bool false, .bool false] 34) = w0 := hw0
  have HZ := hide hw0'
  clear hw0 hw0'
  obtain ⟨wd, hwd⟩ : ∃ x, word s = x := ⟨_, rfl⟩
  have W0 := hide hwd
  unfold word at hwd
  obtain ⟨⟨n, r⟩, hn⟩ : ∃ x, nam [] s = x := ⟨_, rfl⟩
  have NN := hide hn
  rw [hn] at hwd SZF
  simp only at hwd
  obtain ⟨x, hx⟩ : ∃ x, nx r 0 = x := ⟨_, rfl⟩
  have H0 := hide (show nx r (Int.toNat 0) = x from hx)
  rw [hx] at hwd
  obtain ⟨u, hu⟩ : ∃ u, r.drop 1 = u := ⟨_, rfl⟩
  have U := hide hu
  have lu : u.length = r.length - 1 := by rw [← hu, List.length_drop]
  rw [hu] at hwd
  have PR : x = 40 → 0 < r.length := fun e => nx_pos (by rw [hx, e]; decide)
  clear hn hx hu
  obtain ⟨iu, hiu⟩ : ∃ y, isUrlB (enc n) = y := ⟨_, rfl⟩
  have IU := hide (show ∀ t, bl t = enc n → isUrlB (bl t) = iu from fun t ht => by rw [ht]; exact hiu)
  rw [hiu] at hwd
  clear hiu
  by_cases h40 : x = 40
  · subst h40
    have LR := PR rfl
    rw [if_neg (by simp)] at hwd
    cases iu
    · have E := hide (W0.out.trans (show wd = (tkt 2 n, u) from hwd.symm))
      clear hwd
      go_enter Tryz.func44, Tryz.ntmps44
      go_wp2_with (first
        | (go_at_call 41; rw [HZ.out]; refine (nameR_any T W _ b _ l s L9.out A1.out).mono ?_; rintro e w2 ⟨t, rfl, ht, A2, M2⟩; rw [NN.out] at ht A2; have UR := IU.out t ht; have SZ := hide (SZF.out t ht); replace ht := hide ht; have A1 := hide A2; have M := hide M2; clear A2 M2; obtain ⟨p, ST, hpl, hlb⟩ := A1.out.stand; have hp9 : p ≤ 140737488355328 := (by omega); replace ST := hide ST; clear A1)
        | (go_at_call 18; refine (standAt_any T W _ b v l r p _ ST.out (by decide) (by decide)).mono ?_; rintro e w1 ⟨he, B1⟩; (first | (rw [H0.out] at he)); subst he; replace ST := hide (ST.out.below B1); replace M := hide (Mod.trans M.out (Mod.of b B1)); (try clear c1 f1); have c1 := ST.out.c1; have f1 := ST.out.f1; (try clear f0 f2 f3 f4 f5 c0 c2 c3 c4 c5 g1 d1); obtain ⟨f0, g1, f2, f3, f4, f5, c0, d1, c2, c3, c4, c5⟩ := tok0_free (keep Z.out (Nat.ne_of_gt hb0) M.out); clear B1)
        | (go_at_call 73; refine (likeR_any t _ SZ.out).mono ?_; rintro e w6 ⟨he, B1⟩; rw [UR] at he; subst he; have S2 := ST.out.inc 1 ((p : Int) + 1) (by omega) (by omega); rw [U.out] at S2; replace M := hide (Mod.trans (Mod.trans M.out (ST.out.mod ((p : Int) + 1))) (Mod.of b B1)); replace ST := hide (S2.below B1); clear S2 B1 c1 f1; (try clear f0 f2 f3 f4 f5 c0 c2 c3 c4 c5 g1 d1); obtain ⟨f0, g1, f2, f3, f4, f5, c0, d1, c2, c3, c4, c5⟩ := tok0_free (keep Z.out (Nat.ne_of_gt hb0) M.out)))
      have FA := ST.out.atR (by omega)
      have MM := Mod.trans M0.out M.out
      refine bodyPost_ret (v := tkV 2 t 0 0 false false) (by simp [results, Tryz.results44, go_sem, tkV, c0, d1, c2, c3, c4, c5]) rfl ?_
      exact ⟨.tkt (congrArg Prod.fst E.out) ht.out, by rw [E.out]; repeat (first | (with_reducible exact FA) | (with_reducible refine AtR.put ?_ hb0 _ _)), by repeat (first | (with_reducible exact MM) | (with_reducible refine Mod.put ?_ (Nat.le_refl _) _ _))⟩
    · rw [if_pos rfl] at hwd
      go_enter Tryz.func44, Tryz.ntmps44
      go_wp2_with (first
        | (go_at_call 41; rw [HZ.out]; refine (nameR_any T W _ b _ l s L9.out A1.out).mono ?_; rintro e w2 ⟨t, rfl, ht, A2, M2⟩; rw [NN.out] at ht A2; have UR := IU.out t ht; have SZ := hide (SZF.out t ht); replace ht := hide ht; have A1 := hide A2; have M := hide M2; clear A2 M2; obtain ⟨p, ST, hpl, hlb⟩ := A1.out.stand; have hp9 : p ≤ 140737488355328 := (by omega); replace ST := hide ST; clear A1)
        | (go_at_call 18; refine (standAt_any T W _ b v l r p _ ST.out (by decide) (by decide)).mono ?_; rintro e w1 ⟨he, B1⟩; (first | (rw [H0.out] at he)); subst he; replace ST := hide (ST.out.below B1); replace M := hide (Mod.trans M.out (Mod.of b B1)); (try clear c1 f1); have c1 := ST.out.c1; have f1 := ST.out.f1; (try clear f0 f2 f3 f4 f5 c0 c2 c3 c4 c5 g1 d1); obtain ⟨f0, g1, f2, f3, f4, f5, c0, d1, c2, c3, c4, c5⟩ := tok0_free (keep Z.out (Nat.ne_of_gt hb0) M.out); clear B1)
        | (go_at_call 73; refine (likeR_any t _ SZ.out).mono ?_; rintro e w6 ⟨he, B1⟩; rw [UR] at he; subst he; have S2 := ST.out.inc 1 ((p : Int) + 1) (by omega) (by omega); rw [U.out] at S2; replace M := hide (Mod.trans (Mod.trans M.out (ST.out.mod ((p : Int) + 1))) (Mod.of b B1)); replace ST := hide (S2.below B1); clear S2 B1 c1 f1; (try clear f0 f2 f3 f4 f5 c0 c2 c3 c4 c5 g1 d1); obtain ⟨f0, g1, f2, f3, f4, f5, c0, d1, c2, c3, c4, c5⟩ := tok0_free (keep Z.out (Nat.ne_of_gt hb0) M.out)))
      go_loopg [] u.length (fun g wr => RelSk sbl T W w0 b v l u g wr)
      case atStart => exact .mk u (ST.out.at (by omega)) (Nat.le_refl _) rfl M.out
      case round =>
        clear ST M hpl hp9 f0 f2 f3 f4 f5 c0 c2 c3 c4 c5 g1 d1
        obtain ⟨q, A1, hg, R, M⟩ := hrel
        obtain ⟨p, ST, hpl, _⟩ := A1.stand
        have hp9 : p ≤ 140737488355328 := by omega
        replace ST := hide ST
        replace M := hide M
        clear A1
        obtain ⟨x0, hx0⟩ : ∃ x, nx q 0 = x := ⟨_, rfl⟩
        have H0 := hide (show nx q (Int.toNat 0) = x0 from hx0)
        obtain ⟨x1, hx1⟩ : ∃ x, nx q 1 = x := ⟨_, rfl⟩
        have H1 := hide (show nx q (Int.toNat 1) = x1 from hx1)
        obtain ⟨y0, hy0⟩ : ∃ y, isBl x0 = y := ⟨_, rfl⟩
        have YB0 := hide hy0
        obtain ⟨y1, hy1⟩ : ∃ y, isBl x1 = y := ⟨_, rfl⟩
        have YB1 := hide hy1
        by_cases hgo : y0 = true ∧ y1 = true
        · obtain ⟨rfl, rfl⟩ := hgo
          have L := isBl_ne (s := q) (by rw [hx0]; exact hy0)
          have E := hide (R.out.trans (sblR_go (by rw [hx0]; exact hy0) (by rw [hx1]; exact hy1)))
          clear hx0 hx1 hy0 hy1
          go_wp2_with (first
            | (go_at_call 18; refine (standAt_any T W _ b v l q p _ ST.out (by decide) (by decide)).mono ?_; rintro e w1 ⟨he, B1⟩; (first | (rw [H0.out] at he) | (rw [H1.out] at he)); subst he; replace ST := hide (ST.out.below B1); replace M := hide (Mod.trans M.out (Mod.of b B1)); (try clear c1 f1); have c1 := ST.out.c1; have f1 := ST.out.f1; (try clear f0 f2 f3 f4 f5 c0 c2 c3 c4 c5 g1 d1); obtain ⟨f0, g1, f2, f3, f4, f5, c0, d1, c2, c3, c4, c5⟩ := tok0_free (keep Z.out (Nat.ne_of_gt hb0) M.out); clear B1)
            | (go_at_call 35; refine (isBlR_any _ _).mono ?_; rintro e w7 ⟨rfl, rfl⟩; (first | (rw [YB0.out]) | (rw [YB1.out]))))
          go_roundg (gk - 1)
          case measure => omega
          case rel => exact .mk (q.drop 1) ((ST.out.inc 1 _ (by omega) (by omega)).at (by omega)) (by rw [List.length_drop]; omega) E.out (Mod.trans M.out (ST.out.mod _))
        · have SQ : sbl u = q := R.out.trans (sblR_no (by rw [hx0, hx1, hy0, hy1]; cases y0 <;> cases y1 <;> simp_all))
          rw [SQ] at hwd
          have QT : qut q = (isQ x0 || (isBl x0 && isQ x1)) := by unfold qut; rw [hx0, hx1]
          rw [QT, hy0] at hwd
          cases y0
          · by_cases a34 : x0 = 34
            · subst a34
              rw [show (isQ 34 || (false && isQ x1)) = true from rfl] at hwd
              clear SQ QT R hx0 hx1 hy0 hy1 hgo
              rw [if_pos rfl] at hwd
              have E := hide (W0.out.trans hwd.symm)
              clear hwd
              go_wp2_with (first
                | (go_at_call 18; refine (standAt_any T W _ b v l q p _ ST.out (by decide) (by decide)).mono ?_; rintro e w1 ⟨he, B1⟩; (first | (rw [H0.out] at he) | (rw [H1.out] at he)); subst he; replace ST := hide (ST.out.below B1); replace M := hide (Mod.trans M.out (Mod.of b B1)); (try clear c1 f1); have c1 := ST.out.c1; have f1 := ST.out.f1; (try clear f0 f2 f3 f4 f5 c0 c2 c3 c4 c5 g1 d1); obtain ⟨f0, g1, f2, f3, f4, f5, c0, d1, c2, c3, c4, c5⟩ := tok0_free (keep Z.out (Nat.ne_of_gt hb0) M.out); clear B1)
                | (go_at_call 35; refine (isBlR_any _ _).mono ?_; rintro e w7 ⟨rfl, rfl⟩; (first | (rw [YB0.out]) | (rw [YB1.out]))))
              have FA := ST.out.atR (by omega)
              have MM := Mod.trans M0.out M.out
              refine bodyPost_ret (v := tkV 2 t 0 0 false false) (by simp [results, Tryz.results44, go_sem, tkV, c0, d1, c2, c3, c4, c5]) rfl ?_
              exact ⟨.tkt (congrArg Prod.fst E.out) ht.out, by rw [E.out]; repeat (first | (with_reducible exact FA) | (with_reducible refine AtR.put ?_ hb0 _ _)), by repeat (first | (with_reducible exact MM) | (with_reducible refine Mod.put ?_ (Nat.le_refl _) _ _))⟩
            by_cases a39 : x0 = 39
            · subst a39
              rw [show (isQ 39 || (false && isQ x1)) = true from rfl] at hwd
              clear SQ QT R hx0 hx1 hy0 hy1 hgo
              rw [if_pos rfl] at hwd
              have E := hide (W0.out.trans hwd.symm)
              clear hwd
              go_wp2_with (first
                | (go_at_call 18; refine (standAt_any T W _ b v l q p _ ST.out (by decide) (by decide)).mono ?_; rintro e w1 ⟨he, B1⟩; (first | (rw [H0.out] at he) | (rw [H1.out] at he)); subst he; replace ST := hide (ST.out.below B1); replace M := hide (Mod.trans M.out (Mod.of b B1)); (try clear c1 f1); have c1 := ST.out.c1; have f1 := ST.out.f1; (try clear f0 f2 f3 f4 f5 c0 c2 c3 c4 c5 g1 d1); obtain ⟨f0, g1, f2, f3, f4, f5, c0, d1, c2, c3, c4, c5⟩ := tok0_free (keep Z.out (Nat.ne_of_gt hb0) M.out); clear B1)
                | (go_at_call 35; refine (isBlR_any _ _).mono ?_; rintro e w7 ⟨rfl, rfl⟩; (first | (rw [YB0.out]) | (rw [YB1.out]))))
              have FA := ST.out.atR (by omega)
              have MM := Mod.trans M0.out M.out
              refine bodyPost_ret (v := tkV 2 t 0 0 false false) (by simp [results, Tryz.results44, go_sem, tkV, c0, d1, c2, c3, c4, c5]) rfl ?_
              exact ⟨.tkt (congrArg Prod.fst E.out) ht.out, by rw [E.out]; repeat (first | (with_reducible exact FA) | (with_reducible refine AtR.put ?_ hb0 _ _)), by repeat (first | (with_reducible exact MM) | (with_reducible refine Mod.put ?_ (Nat.le_refl _) _ _))⟩
            · have n34 : (x0 == 34) = false := by simpa using a34
              have n39 : (x0 == 39) = false := by simpa using a39
              rw [show (isQ x0 || (false && isQ x1)) = false by simp [isQ, a34, a39]] at hwd
              clear SQ QT R hx0 hx1 hy0 hy1 hgo
              rw [if_neg (by simp)] at hwd
              obtain ⟨p2, hp2⟩ : ∃ z, bls q = z := ⟨_, rfl⟩
              rw [hp2] at hwd
              have BQ := hide hp2
              obtain ⟨⟨⟨k, tx, nu, de, wh, id⟩, r2⟩, hu2⟩ : ∃ z, url [] p2 = z := ⟨_, rfl⟩
              rw [hu2] at hwd
              have UU := hide hu2
              have E := hide (W0.out.trans hwd.symm)
              clear hwd hp2 hu2
              go_wp2_with (first
                | (go_at_call 18; refine (standAt_any T W _ b v l q p _ ST.out (by decide) (by decide)).mono ?_; rintro e w1 ⟨he, B1⟩; (first | (rw [H0.out] at he) | (rw [H1.out] at he)); subst he; replace ST := hide (ST.out.below B1); replace M := hide (Mod.trans M.out (Mod.of b B1)); (try clear c1 f1); have c1 := ST.out.c1; have f1 := ST.out.f1; (try clear f0 f2 f3 f4 f5 c0 c2 c3 c4 c5 g1 d1); obtain ⟨f0, g1, f2, f3, f4, f5, c0, d1, c2, c3, c4, c5⟩ := tok0_free (keep Z.out (Nat.ne_of_gt hb0) M.out); clear B1)
                | (go_at_call 35; refine (isBlR_any _ _).mono ?_; rintro e w7 ⟨rfl, rfl⟩; (first | (rw [YB0.out]) | (rw [YB1.out])))
                | (go_at_call 74; refine (urlR_any T W _ b _ l q p2 L9.out BQ.out (ST.out.at (by omega))).mono ?_; rintro e w8 ⟨⟨z8, he, hz8⟩, A2, M2⟩; rw [UU.out] at he hz8 A2; replace he : e = .returned (.agg #[.int .i64 k, .string z8, .int .i64 nu, .int .i64 de, .bool wh, .bool id]) := he; subst he; replace hz8 := hide hz8; have A3 := hide A2; replace M := hide (Mod.trans M.out M2); clear A2 M2 c1 f1; (try clear f0 f2 f3 f4 f5 c0 c2 c3 c4 c5 g1 d1); obtain ⟨f0, g1, f2, f3, f4, f5, c0, d1, c2, c3, c4, c5⟩ := tok0_free (keep Z.out (Nat.ne_of_gt hb0) M.out)))
              have FA := A3.out
              have MM := Mod.trans M0.out M.out
              refine bodyPost_ret (v := tkV k z8 nu de wh id) (by simp [results, Tryz.results44, go_sem, tkV, c0, d1, c2, c3, c4, c5]) rfl ?_
              exact ⟨by rw [E.out]; exact ⟨z8, rfl, hz8.out⟩, by rw [E.out]; repeat (first | (with_reducible exact FA) | (with_reducible refine AtR.put ?_ hb0 _ _)), by repeat (first | (with_reducible exact MM) | (with_reducible refine Mod.put ?_ (Nat.le_refl _) _ _))⟩
          · have hb0 : isQ x0 = false := by
              unfold isBl at hy0
              simp only [Bool.or_eq_true, beq_iff_eq] at hy0
              simp only [isQ, Bool.or_eq_false_iff, beq_eq_false_iff_ne]
              omega
            have y1f : y1 = false := by
              cases y1
              · rfl
              · exact absurd ⟨rfl, rfl⟩ hgo
            subst y1f
            rw [hb0] at hwd
            by_cases a34 : x1 = 34
            · subst a34
              rw [show (false || (true && isQ 34)) = true from rfl] at hwd
              clear SQ QT R hx0 hx1 hy0 hy1 hgo hb0
              rw [if_pos rfl] at hwd
              have E := hide (W0.out.trans hwd.symm)
              clear hwd
              go_wp2_with (first
                | (go_at_call 18; refine (standAt_any T W _ b v l q p _ ST.out (by decide) (by decide)).mono ?_; rintro e w1 ⟨he, B1⟩; (first | (rw [H0.out] at he) | (rw [H1.out] at he)); subst he; replace ST := hide (ST.out.below B1); replace M := hide (Mod.trans M.out (Mod.of b B1)); (try clear c1 f1); have c1 := ST.out.c1; have f1 := ST.out.f1; (try clear f0 f2 f3 f4 f5 c0 c2 c3 c4 c5 g1 d1); obtain ⟨f0, g1, f2, f3, f4, f5, c0, d1, c2, c3, c4, c5⟩ := tok0_free (keep Z.out (Nat.ne_of_gt hb0) M.out); clear B1)
                | (go_at_call 35; refine (isBlR_any _ _).mono ?_; rintro e w7 ⟨rfl, rfl⟩; (first | (rw [YB0.out]) | (rw [YB1.out]))))
              have FA := ST.out.atR (by omega)
              have MM := Mod.trans M0.out M.out
              refine bodyPost_ret (v := tkV 2 t 0 0 false false) (by simp [results, Tryz.results44, go_sem, tkV, c0, d1, c2, c3, c4, c5]) rfl ?_
              exact ⟨.tkt (congrArg Prod.fst E.out) ht.out, by rw [E.out]; repeat (first | (with_reducible exact FA) | (with_reducible refine AtR.put ?_ hb0 _ _)), by repeat (first | (with_reducible exact MM) | (with_reducible refine Mod.put ?_ (Nat.le_refl _) _ _))⟩
            by_cases a39 : x1 = 39
            · subst a39
              rw [show (false || (true && isQ 39)) = true from rfl] at hwd
              clear SQ QT R hx0 hx1 hy0 hy1 hgo hb0
              rw [if_pos rfl] at hwd
              have E := hide (W0.out.trans hwd.symm)
              clear hwd
              go_wp2_with (first
                | (go_at_call 18; refine (standAt_any T W _ b v l q p _ ST.out (by decide) (by decide)).mono ?_; rintro e w1 ⟨he, B1⟩; (first | (rw [H0.out] at he) | (rw [H1.out] at he)); subst he; replace ST := hide (ST.out.below B1); replace M := hide (Mod.trans M.out (Mod.of b B1)); (try clear c1 f1); have c1 := ST.out.c1; have f1 := ST.out.f1; (try clear f0 f2 f3 f4 f5 c0 c2 c3 c4 c5 g1 d1); obtain ⟨f0, g1, f2, f3, f4, f5, c0, d1, c2, c3, c4, c5⟩ := tok0_free (keep Z.out (Nat.ne_of_gt hb0) M.out); clear B1)
                | (go_at_call 35; refine (isBlR_any _ _).mono ?_; rintro e w7 ⟨rfl, rfl⟩; (first | (rw [YB0.out]) | (rw [YB1.out]))))
              have FA := ST.out.atR (by omega)
              have MM := Mod.trans M0.out M.out
              refine bodyPost_ret (v := tkV 2 t 0 0 false false) (by simp [results, Tryz.results44, go_sem, tkV, c0, d1, c2, c3, c4, c5]) rfl ?_
              exact ⟨.tkt (congrArg Prod.fst E.out) ht.out, by rw [E.out]; repeat (first | (with_reducible exact FA) | (with_reducible refine AtR.put ?_ hb0 _ _)), by repeat (first | (with_reducible exact MM) | (with_reducible refine Mod.put ?_ (Nat.le_refl _) _ _))⟩
            · have n34 : (x1 == 34) = false := by simpa using a34
              have n39 : (x1 == 39) = false := by simpa using a39
              rw [show (false || (true && isQ x1)) = false by simp [isQ, a34, a39]] at hwd
              clear SQ QT R hx0 hx1 hy0 hy1 hgo hb0
              rw [if_neg (by simp)] at hwd
              obtain ⟨p2, hp2⟩ : ∃ z, bls q = z := ⟨_, rfl⟩
              rw [hp2] at hwd
              have BQ := hide hp2
              obtain ⟨⟨⟨k, tx, nu, de, wh, id⟩, r2⟩, hu2⟩ : ∃ z, url [] p2 = z := ⟨_, rfl⟩
              rw [hu2] at hwd
              have UU := hide hu2
              have E := hide (W0.out.trans hwd.symm)
              clear hwd hp2 hu2
              go_wp2_with (first
                | (go_at_call 18; refine (standAt_any T W _ b v l q p _ ST.out (by decide) (by decide)).mono ?_; rintro e w1 ⟨he, B1⟩; (first | (rw [H0.out] at he) | (rw [H1.out] at he)); subst he; replace ST := hide (ST.out.below B1); replace M := hide (Mod.trans M.out (Mod.of b B1)); (try clear c1 f1); have c1 := ST.out.c1; have f1 := ST.out.f1; (try clear f0 f2 f3 f4 f5 c0 c2 c3 c4 c5 g1 d1); obtain ⟨f0, g1, f2, f3, f4, f5, c0, d1, c2, c3, c4, c5⟩ := tok0_free (keep Z.out (Nat.ne_of_gt hb0) M.out); clear B1)
                | (go_at_call 35; refine (isBlR_any _ _).mono ?_; rintro e w7 ⟨rfl, rfl⟩; (first | (rw [YB0.out]) | (rw [YB1.out])))
                | (go_at_call 74; refine (urlR_any T W _ b _ l q p2 L9.out BQ.out (ST.out.at (by omega))).mono ?_; rintro e w8 ⟨⟨z8, he, hz8⟩, A2, M2⟩; rw [UU.out] at he hz8 A2; replace he : e = .returned (.agg #[.int .i64 k, .string z8, .int .i64 nu, .int .i64 de, .bool wh, .bool id]) := he; subst he; replace hz8 := hide hz8; have A3 := hide A2; replace M := hide (Mod.trans M.out M2); clear A2 M2 c1 f1; (try clear f0 f2 f3 f4 f5 c0 c2 c3 c4 c5 g1 d1); obtain ⟨f0, g1, f2, f3, f4, f5, c0, d1, c2, c3, c4, c5⟩ := tok0_free (keep Z.out (Nat.ne_of_gt hb0) M.out)))
              have FA := A3.out
              have MM := Mod.trans M0.out M.out
              refine bodyPost_ret (v := tkV k z8 nu de wh id) (by simp [results, Tryz.results44, go_sem, tkV, c0, d1, c2, c3, c4, c5]) rfl ?_
              exact ⟨by rw [E.out]; exact ⟨z8, rfl, hz8.out⟩, by rw [E.out]; repeat (first | (with_reducible exact FA) | (with_reducible refine AtR.put ?_ hb0 _ _)), by repeat (first | (with_reducible exact MM) | (with_reducible refine Mod.put ?_ (Nat.le_refl _) _ _))⟩
  · rw [if_pos h40] at hwd
    have E := hide (W0.out.trans hwd.symm)
    have n40 : (x != 40) = true := by simpa using h40
    clear hwd
    go_enter Tryz.func44, Tryz.ntmps44
    go_wp2_with (first
      | (go_at_call 41; rw [HZ.out]; refine (nameR_any T W _ b _ l s L9.out A1.out).mono ?_; rintro e w2 ⟨t, rfl, ht, A2, M2⟩; rw [NN.out] at ht A2; have UR := IU.out t ht; have SZ := hide (SZF.out t ht); replace ht := hide ht; have A1 := hide A2; have M := hide M2; clear A2 M2; obtain ⟨p, ST, hpl, hlb⟩ := A1.out.stand; have hp9 : p ≤ 140737488355328 := (by omega); replace ST := hide ST; clear A1)
      | (go_at_call 18; refine (standAt_any T W _ b v l r p _ ST.out (by decide) (by decide)).mono ?_; rintro e w1 ⟨he, B1⟩; (first | (rw [H0.out] at he)); subst he; replace ST := hide (ST.out.below B1); replace M := hide (Mod.trans M.out (Mod.of b B1)); (try clear c1 f1); have c1 := ST.out.c1; have f1 := ST.out.f1; (try clear f0 f2 f3 f4 f5 c0 c2 c3 c4 c5 g1 d1); obtain ⟨f0, g1, f2, f3, f4, f5, c0, d1, c2, c3, c4, c5⟩ := tok0_free (keep Z.out (Nat.ne_of_gt hb0) M.out); clear B1)
      | (go_at_call 73; refine (likeR_any t _ SZ.out).mono ?_; rintro e w6 ⟨he, B1⟩; rw [UR] at he; subst he; have S2 := ST.out.inc 1 ((p : Int) + 1) (by omega) (by omega); rw [U.out] at S2; replace M := hide (Mod.trans (Mod.trans M.out (ST.out.mod ((p : Int) + 1))) (Mod.of b B1)); replace ST := hide (S2.below B1); clear S2 B1 c1 f1; (try clear f0 f2 f3 f4 f5 c0 c2 c3 c4 c5 g1 d1); obtain ⟨f0, g1, f2, f3, f4, f5, c0, d1, c2, c3, c4, c5⟩ := tok0_free (keep Z.out (Nat.ne_of_gt hb0) M.out)))
    have FA := ST.out.atR (by omega)
    have MM := Mod.trans M0.out M.out
    refine bodyPost_ret (v := tkV 1 t 0 0 false false) (by simp [results, Tryz.results44, go_sem, tkV, c0, d1, c2, c3, c4, c5]) rfl ?_
    exact ⟨.tkt (congrArg Prod.fst E.out) ht.out, by rw [E.out]; repeat (first | (with_reducible exact FA) | (with_reducible refine AtR.put ?_ hb0 _ _)), by repeat (first | (with_reducible exact MM) | (with_reducible refine Mod.put ?_ (Nat.le_refl _) _ _))⟩
end Go.Proofs.YtckefmhleklciaaGreatDoor
