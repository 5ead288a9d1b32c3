/-
  The reference's escape, behind its sign.
-/
import Derived.Test.YtckefmhleklciaaGreatDoorLRefB
set_option linter.unusedVariables false
set_option linter.unusedSimpArgs false
namespace Go.Proofs.YtckefmhleklciaaGreatDoor
open Go.RowKit

/-- The state of the reference's loop over digits to the base 16. -/
def RelHr (T : TypeId) (W w : World) (b : Nat) (v : Value) (l s : List Int) (x ok n i : Value) (wr : World) : Prop :=
  ∃ (k m : Nat) (t : List Int), k ≤ 6 ∧ i = .int .i64 k ∧ n = .int .i32 m ∧ x = .int .i32 (hxN (nx t 0)) ∧ ok = .bool (hxB (nx t 0)) ∧ Hid (m < 16 ^ k ∧ hexs 6 0 s = hexs (6 - k) m t ∧ At T W wr b v l t ∧ w.grownBy wr (some b))
theorem RelHr.mk {T : TypeId} {W w : World} {b : Nat} {v : Value} {l s : List Int} {x ok n i : Value} {wr : World} (k m : Nat) (t : List Int) (h1 : k ≤ 6) (h2 : i = .int .i64 k) (h3 : n = .int .i32 m) (hx : x = .int .i32 (hxN (nx t 0))) (ho : ok = .bool (hxB (nx t 0))) (h4 : m < 16 ^ k) (h5 : hexs 6 0 s = hexs (6 - k) m t) (h6 : At T W wr b v l t) (h7 : w.grownBy wr (some b)) : RelHr T W w b v l s x ok n i wr :=
  ⟨k, m, t, h1, h2, h3, hx, ho, h4, h5, h6, h7⟩
theorem tesc_hexR {s t : List Int} {m : Nat} (h0 : 0 ≤ hexv (nx s 0)) (h : hexs 6 0 s = ((m : Int), t)) : tesc s = (if m = 0 then 65533 else chr m, if isBl (nx t 0) then t.drop 1 else t) := by
  have h1 : nx s 0 ≠ -1 := by intro e; rw [e] at h0; exact absurd h0 (by decide)
  unfold tesc
  rw [if_neg h1, if_neg (by omega), h]
  by_cases hm : m = 0
  · subst hm; rfl
  · rw [if_neg hm, if_neg (by simpa using hm)]
theorem chr_noR {x : Int} (h : isC x = false) : chr x = 65533 := by unfold chr; rw [h]; rfl
theorem chr_yesR {x : Int} (h : isC x = true) : chr x = x := by unfold chr; rw [h]; rfl
set_option maxRecDepth 100000 in
set_option maxHeartbeats 4000000 in
theorem takenR_any (T : TypeId) (W w : World) (b : Nat) (v : Value) (l s : List Int) (h : At T W w b v l s) :
    Calls Tryz.prog 68 #[.pointer (some ⟨b, 0, none⟩)] w fun e w' => e = .returned (.int .i32 (tesc s).1) ∧ At T W w' b v l (tesc s).2 ∧ w.grownBy w' (some b) := by
  obtain ⟨p, ST, hpl, hlb⟩ := h.stand
  have hp9 : p ≤ 140737488355328 := by omega
  replace ST := hide ST
  have M := hide (Mod.refl w b)
  clear h
  obtain ⟨x, hx⟩ : ∃ x, nx s 0 = x := ⟨_, rfl⟩
  have H0 := hide (show nx s (Int.toNat 0) = x from hx)
  by_cases hh : hexv x < 0
  · have X := hide (hx_no hh)
    by_cases hm : x = -1
    · subst hm
      have E := hide (show tesc s = (65533, s) by unfold tesc; rw [if_pos hx])
      clear hh hx
      go_enter Tryz.func68, Tryz.ntmps68
      go_wp2_with (first
        | (go_at_call 18; refine (standAt_any T W _ b v l s p _ ST.out (by decide) (by decide)).mono ?_; rintro e w1 ⟨he, B1⟩; (first | (rw [H0.out] at he)); subst he; replace ST := hide (ST.out.below B1); replace M := hide (Mod.trans M.out (Mod.of b B1)); (try clear c1 f1); have c1 := ST.out.c1; have f1 := ST.out.f1; clear B1)
        | (go_at_call 93; refine (hexR_any _ _).mono ?_; rintro e w2 ⟨rfl, rfl⟩; rw [X.out.1, X.out.2]))
      go_ret
      exact ⟨ret_int (by rw [E.out]), by rw [E.out]; exact ST.out.at (by omega), M.out⟩
    · have E := hide (show tesc s = (x, s.drop 1) by unfold tesc; rw [hx, if_neg hm, if_pos hh])
      have em : (x == -1) = false := by simpa using hm
      have L := nx_pos (s := s) (by rw [hx]; exact hm)
      clear hh hx
      go_enter Tryz.func68, Tryz.ntmps68
      go_wp2_with (first
        | (go_at_call 18; refine (standAt_any T W _ b v l s p _ ST.out (by decide) (by decide)).mono ?_; rintro e w1 ⟨he, B1⟩; (first | (rw [H0.out] at he)); subst he; replace ST := hide (ST.out.below B1); replace M := hide (Mod.trans M.out (Mod.of b B1)); (try clear c1 f1); have c1 := ST.out.c1; have f1 := ST.out.f1; clear B1)
        | (go_at_call 93; refine (hexR_any _ _).mono ?_; rintro e w2 ⟨rfl, rfl⟩; rw [X.out.1, X.out.2]))
      go_ret
      exact ⟨ret_int (by rw [E.out]), by rw [E.out]; exact (ST.out.inc 1 _ (by omega) (by omega)).at (by omega), Mod.trans M.out (ST.out.mod _)⟩
  · have X := hide (hx_yes (c := x) (by omega))
    have HX0 := hide (show 0 ≤ hexv (nx s 0) by rw [hx]; omega)
    have XE := hide (show Value.int .i32 (hexv x) = .int .i32 (hxN (nx s 0)) ∧ Value.bool true = .bool (hxB (nx s 0)) by rw [hx, X.out.1, X.out.2]; exact ⟨rfl, rfl⟩)
    clear hx
    go_enter Tryz.func68, Tryz.ntmps68
    go_wp2_with (first
      | (go_at_call 18; refine (standAt_any T W _ b v l s p _ ST.out (by decide) (by decide)).mono ?_; rintro e w1 ⟨he, B1⟩; (first | (rw [H0.out] at he)); subst he; replace ST := hide (ST.out.below B1); replace M := hide (Mod.trans M.out (Mod.of b B1)); (try clear c1 f1); have c1 := ST.out.c1; have f1 := ST.out.f1; clear B1)
      | (go_at_call 93; refine (hexR_any _ _).mono ?_; rintro e w2 ⟨rfl, rfl⟩; rw [X.out.1, X.out.2]))
    go_loopw [3, 4, 6, 7] (fun x ok n i wr => RelHr T W w b v l s x ok n i wr) (fun _ _ _ i _ => 6 - (intOf i).toNat)
    case atStart => exact .mk 0 0 s (by omega) rfl rfl XE.out.1 XE.out.2 (by decide) rfl (ST.out.at (by omega)) M.out
    case round =>
      clear X XE ST M H0 c1 f1 hpl
      obtain ⟨k, m, t, hk, rfl, rfl, rfl, rfl, R⟩ := hrel
      obtain ⟨hm, E, A1, M⟩ := R.out
      obtain ⟨p, ST, hpl, _⟩ := A1.stand
      have hp9 : p ≤ 140737488355328 := by omega
      replace ST := hide ST
      replace E := hide E
      replace M := hide M
      clear R A1
      have m24 : m < 16777216 := by
        have h1 : 16 ^ k ≤ 16 ^ 6 := Nat.pow_le_pow_right (by omega) hk
        have h2 : (16 : Nat) ^ 6 = 16777216 := by decide
        omega
      obtain ⟨x, hx⟩ : ∃ x, nx t 0 = x := ⟨_, rfl⟩
      have H0 := hide (show nx t (Int.toNat 0) = x from hx)
      rw [hx]
      by_cases hgo : k < 6 ∧ 0 ≤ hexv x
      · obtain ⟨hlt, h0⟩ := hgo
        have hp := p16 (k := k) (by omega)
        have hlt2 : (k : Int) < 6 := by omega
        have hm9 : m < 1048576 := by omega
        obtain ⟨x1, x2⟩ := hx_yes (c := x) h0
        have hv : hexv x < 16 := by
          rcases hexv_cases x with ⟨_, _, e⟩ | ⟨_, _, _, e⟩ | ⟨_, _, _, e⟩ | ⟨_, _, _, e⟩ | ⟨_, _, _, e⟩ | ⟨_, _, _, e⟩ | ⟨_, _, e⟩ <;> omega
        have L := nx_pos (s := t) (by rw [hx]; intro e; rw [e] at h0; exact absurd h0 (by decide))
        have F := hide (show hexs 6 0 s = hexs (6 - (k + 1)) ((m * 16 + (hexv x).toNat : Nat) : Int) (t.drop 1) by
          rw [E.out, show 6 - k = (6 - (k + 1)) + 1 by omega]; show (if hexv (nx t 0) < 0 then _ else _) = _; rw [hx, if_neg (by omega)]; congr 1; omega)
        have HP := hide (show m * 16 + (hexv x).toNat < 16 ^ (k + 1) by rw [Nat.pow_succ]; omega)
        rw [x1, x2]
        clear hm hp hx x1 x2
        generalize hexv x = hv9 at *
        obtain ⟨t1, ht1⟩ : ∃ x, t.drop 1 = x := ⟨_, rfl⟩
        have lt1 : t1.length = t.length - 1 := by rw [← ht1, List.length_drop]
        rw [ht1] at F
        have T1 := hide ht1
        clear ht1
        obtain ⟨y, hy⟩ : ∃ y, nx t1 0 = y := ⟨_, rfl⟩
        have H1 := hide (show nx t1 (Int.toNat 0) = y from hy)
        have Y1 := hide hy
        clear hy
        have c1 := ST.out.c1
        have f1 := ST.out.f1
        go_wp2_with (first
          | (go_at_call 18; refine (standAt_any T W _ b v l t1 (p + 1) _ (by have := ST.out.inc 1 ((p : Int) + 1) (by omega) (by omega); rw [T1.out] at this; exact this) (by decide) (by decide)).mono ?_; rintro e w1 ⟨he, B1⟩; rw [H1.out] at he; subst he; have ST2 := ST.out.inc 1 ((p : Int) + 1) (by omega) (by omega); rw [T1.out] at ST2; replace M := hide (Mod.trans (Mod.trans M.out (ST.out.mod ((p : Int) + 1))) (Mod.of b B1)); replace ST := hide (ST2.below B1); clear ST2 B1 c1 f1)
          | (go_at_call 93; refine (hexR_any _ _).mono ?_; rintro e w2 ⟨rfl, rfl⟩))
        go_roundw
        case rel => exact .mk (k + 1) (m * 16 + hv9.toNat) t1 (by omega) (by go_num) (by first | rfl | (congr 1; omega)) (by rw [Y1.out]) (by rw [Y1.out]) HP.out F.out (ST.out.at (by omega)) M.out
        case measure => simp [intOf]; omega
      · have F : hexs 6 0 s = ((m : Int), t) := by
          rw [E.out]
          by_cases k6 : k = 6
          · subst k6; rfl
          · rw [show 6 - k = (5 - k) + 1 by omega]
            show (if hexv (nx t 0) < 0 then _ else _) = _
            rw [hx, if_pos (by omega)]
        have TE := tesc_hexR HX0.out F
        rw [hx] at TE
        have m24' : (m : Int) < 16777216 := by omega
        clear E F hx hm
        obtain ⟨yb, hyb⟩ : ∃ y, isBl x = y := ⟨_, rfl⟩
        have YB := hide hyb
        rw [hyb] at TE
        clear hyb
        obtain ⟨yc, hyc⟩ : ∃ y, isC (m : Int) = y := ⟨_, rfl⟩
        have YC := hide hyc
        have LB : yb = true → 0 < t.length := fun e => isBl_ne (s := t) (by have h1 := H0.out; have h2 := YB.out; rw [show nx t 0 = x from h1, h2, e])
        by_cases k6 : k = 6
        · subst k6
          cases yb
          · rw [show (if (false : Bool) = true then t.drop 1 else t) = t from rfl] at TE
            clear LB
            by_cases m0 : m = 0
            · subst m0
              rw [if_pos rfl] at TE
              clear hyc
              replace TE := hide TE
              as_aux_lemma =>
                go_wp2_with (first
                  | (go_at_call 18; refine (standAt_any T W _ b v l t p _ ST.out (by decide) (by decide)).mono ?_; rintro e w1 ⟨he, B1⟩; (first | (rw [H0.out] at he)); subst he; replace ST := hide (ST.out.below B1); replace M := hide (Mod.trans M.out (Mod.of b B1)); (try clear c1 f1); have c1 := ST.out.c1; have f1 := ST.out.f1; clear B1)
                  | (go_at_call 35; refine (isBlR_any _ _).mono ?_; rintro e w2 ⟨rfl, rfl⟩; rw [YB.out])
                  | (go_at_call 34; refine (isRef_any _ _).mono ?_; rintro e w2 ⟨rfl, rfl⟩; rw [YC.out]))
                go_ret
                exact ⟨ret_int (by rw [TE.out]), by rw [TE.out]; exact ST.out.at (by omega), M.out⟩
            · rw [if_neg m0] at TE
              have e0 : ((m : Int) == 0) = false := by simpa using m0
              cases yc
              · rw [chr_noR hyc] at TE
                clear hyc
                replace TE := hide TE
                as_aux_lemma =>
                  go_wp2_with (first
                    | (go_at_call 18; refine (standAt_any T W _ b v l t p _ ST.out (by decide) (by decide)).mono ?_; rintro e w1 ⟨he, B1⟩; (first | (rw [H0.out] at he)); subst he; replace ST := hide (ST.out.below B1); replace M := hide (Mod.trans M.out (Mod.of b B1)); (try clear c1 f1); have c1 := ST.out.c1; have f1 := ST.out.f1; clear B1)
                    | (go_at_call 35; refine (isBlR_any _ _).mono ?_; rintro e w2 ⟨rfl, rfl⟩; rw [YB.out])
                    | (go_at_call 34; refine (isRef_any _ _).mono ?_; rintro e w2 ⟨rfl, rfl⟩; rw [YC.out]))
                  go_ret
                  exact ⟨ret_int (by rw [TE.out]), by rw [TE.out]; exact ST.out.at (by omega), M.out⟩
              · rw [chr_yesR hyc] at TE
                clear hyc
                replace TE := hide TE
                as_aux_lemma =>
                  go_wp2_with (first
                    | (go_at_call 18; refine (standAt_any T W _ b v l t p _ ST.out (by decide) (by decide)).mono ?_; rintro e w1 ⟨he, B1⟩; (first | (rw [H0.out] at he)); subst he; replace ST := hide (ST.out.below B1); replace M := hide (Mod.trans M.out (Mod.of b B1)); (try clear c1 f1); have c1 := ST.out.c1; have f1 := ST.out.f1; clear B1)
                    | (go_at_call 35; refine (isBlR_any _ _).mono ?_; rintro e w2 ⟨rfl, rfl⟩; rw [YB.out])
                    | (go_at_call 34; refine (isRef_any _ _).mono ?_; rintro e w2 ⟨rfl, rfl⟩; rw [YC.out]))
                  go_ret
                  exact ⟨ret_int (by rw [TE.out]), by rw [TE.out]; exact ST.out.at (by omega), M.out⟩
          · rw [show (if (true : Bool) = true then t.drop 1 else t) = t.drop 1 from rfl] at TE
            have L := LB rfl
            clear LB
            by_cases m0 : m = 0
            · subst m0
              rw [if_pos rfl] at TE
              clear hyc
              replace TE := hide TE
              as_aux_lemma =>
                go_wp2_with (first
                  | (go_at_call 18; refine (standAt_any T W _ b v l t p _ ST.out (by decide) (by decide)).mono ?_; rintro e w1 ⟨he, B1⟩; (first | (rw [H0.out] at he)); subst he; replace ST := hide (ST.out.below B1); replace M := hide (Mod.trans M.out (Mod.of b B1)); (try clear c1 f1); have c1 := ST.out.c1; have f1 := ST.out.f1; clear B1)
                  | (go_at_call 35; refine (isBlR_any _ _).mono ?_; rintro e w2 ⟨rfl, rfl⟩; rw [YB.out])
                  | (go_at_call 34; refine (isRef_any _ _).mono ?_; rintro e w2 ⟨rfl, rfl⟩; rw [YC.out]))
                go_ret
                exact ⟨ret_int (by rw [TE.out]), by rw [TE.out]; exact (ST.out.inc 1 _ (by omega) (by omega)).at (by omega), Mod.trans M.out (ST.out.mod _)⟩
            · rw [if_neg m0] at TE
              have e0 : ((m : Int) == 0) = false := by simpa using m0
              cases yc
              · rw [chr_noR hyc] at TE
                clear hyc
                replace TE := hide TE
                as_aux_lemma =>
                  go_wp2_with (first
                    | (go_at_call 18; refine (standAt_any T W _ b v l t p _ ST.out (by decide) (by decide)).mono ?_; rintro e w1 ⟨he, B1⟩; (first | (rw [H0.out] at he)); subst he; replace ST := hide (ST.out.below B1); replace M := hide (Mod.trans M.out (Mod.of b B1)); (try clear c1 f1); have c1 := ST.out.c1; have f1 := ST.out.f1; clear B1)
                    | (go_at_call 35; refine (isBlR_any _ _).mono ?_; rintro e w2 ⟨rfl, rfl⟩; rw [YB.out])
                    | (go_at_call 34; refine (isRef_any _ _).mono ?_; rintro e w2 ⟨rfl, rfl⟩; rw [YC.out]))
                  go_ret
                  exact ⟨ret_int (by rw [TE.out]), by rw [TE.out]; exact (ST.out.inc 1 _ (by omega) (by omega)).at (by omega), Mod.trans M.out (ST.out.mod _)⟩
              · rw [chr_yesR hyc] at TE
                clear hyc
                replace TE := hide TE
                as_aux_lemma =>
                  go_wp2_with (first
                    | (go_at_call 18; refine (standAt_any T W _ b v l t p _ ST.out (by decide) (by decide)).mono ?_; rintro e w1 ⟨he, B1⟩; (first | (rw [H0.out] at he)); subst he; replace ST := hide (ST.out.below B1); replace M := hide (Mod.trans M.out (Mod.of b B1)); (try clear c1 f1); have c1 := ST.out.c1; have f1 := ST.out.f1; clear B1)
                    | (go_at_call 35; refine (isBlR_any _ _).mono ?_; rintro e w2 ⟨rfl, rfl⟩; rw [YB.out])
                    | (go_at_call 34; refine (isRef_any _ _).mono ?_; rintro e w2 ⟨rfl, rfl⟩; rw [YC.out]))
                  go_ret
                  exact ⟨ret_int (by rw [TE.out]), by rw [TE.out]; exact (ST.out.inc 1 _ (by omega) (by omega)).at (by omega), Mod.trans M.out (ST.out.mod _)⟩
        · have hlt2 : (k : Int) < 6 := by omega
          obtain ⟨x1, x2⟩ := hx_no (c := x) (by omega)
          rw [x1, x2]
          clear x1 x2
          cases yb
          · rw [show (if (false : Bool) = true then t.drop 1 else t) = t from rfl] at TE
            clear LB
            by_cases m0 : m = 0
            · subst m0
              rw [if_pos rfl] at TE
              clear hyc
              replace TE := hide TE
              as_aux_lemma =>
                go_wp2_with (first
                  | (go_at_call 18; refine (standAt_any T W _ b v l t p _ ST.out (by decide) (by decide)).mono ?_; rintro e w1 ⟨he, B1⟩; (first | (rw [H0.out] at he)); subst he; replace ST := hide (ST.out.below B1); replace M := hide (Mod.trans M.out (Mod.of b B1)); (try clear c1 f1); have c1 := ST.out.c1; have f1 := ST.out.f1; clear B1)
                  | (go_at_call 35; refine (isBlR_any _ _).mono ?_; rintro e w2 ⟨rfl, rfl⟩; rw [YB.out])
                  | (go_at_call 34; refine (isRef_any _ _).mono ?_; rintro e w2 ⟨rfl, rfl⟩; rw [YC.out]))
                go_ret
                exact ⟨ret_int (by rw [TE.out]), by rw [TE.out]; exact ST.out.at (by omega), M.out⟩
            · rw [if_neg m0] at TE
              have e0 : ((m : Int) == 0) = false := by simpa using m0
              cases yc
              · rw [chr_noR hyc] at TE
                clear hyc
                replace TE := hide TE
                as_aux_lemma =>
                  go_wp2_with (first
                    | (go_at_call 18; refine (standAt_any T W _ b v l t p _ ST.out (by decide) (by decide)).mono ?_; rintro e w1 ⟨he, B1⟩; (first | (rw [H0.out] at he)); subst he; replace ST := hide (ST.out.below B1); replace M := hide (Mod.trans M.out (Mod.of b B1)); (try clear c1 f1); have c1 := ST.out.c1; have f1 := ST.out.f1; clear B1)
                    | (go_at_call 35; refine (isBlR_any _ _).mono ?_; rintro e w2 ⟨rfl, rfl⟩; rw [YB.out])
                    | (go_at_call 34; refine (isRef_any _ _).mono ?_; rintro e w2 ⟨rfl, rfl⟩; rw [YC.out]))
                  go_ret
                  exact ⟨ret_int (by rw [TE.out]), by rw [TE.out]; exact ST.out.at (by omega), M.out⟩
              · rw [chr_yesR hyc] at TE
                clear hyc
                replace TE := hide TE
                as_aux_lemma =>
                  go_wp2_with (first
                    | (go_at_call 18; refine (standAt_any T W _ b v l t p _ ST.out (by decide) (by decide)).mono ?_; rintro e w1 ⟨he, B1⟩; (first | (rw [H0.out] at he)); subst he; replace ST := hide (ST.out.below B1); replace M := hide (Mod.trans M.out (Mod.of b B1)); (try clear c1 f1); have c1 := ST.out.c1; have f1 := ST.out.f1; clear B1)
                    | (go_at_call 35; refine (isBlR_any _ _).mono ?_; rintro e w2 ⟨rfl, rfl⟩; rw [YB.out])
                    | (go_at_call 34; refine (isRef_any _ _).mono ?_; rintro e w2 ⟨rfl, rfl⟩; rw [YC.out]))
                  go_ret
                  exact ⟨ret_int (by rw [TE.out]), by rw [TE.out]; exact ST.out.at (by omega), M.out⟩
          · rw [show (if (true : Bool) = true then t.drop 1 else t) = t.drop 1 from rfl] at TE
            have L := LB rfl
            clear LB
            by_cases m0 : m = 0
            · subst m0
              rw [if_pos rfl] at TE
              clear hyc
              replace TE := hide TE
              as_aux_lemma =>
                go_wp2_with (first
                  | (go_at_call 18; refine (standAt_any T W _ b v l t p _ ST.out (by decide) (by decide)).mono ?_; rintro e w1 ⟨he, B1⟩; (first | (rw [H0.out] at he)); subst he; replace ST := hide (ST.out.below B1); replace M := hide (Mod.trans M.out (Mod.of b B1)); (try clear c1 f1); have c1 := ST.out.c1; have f1 := ST.out.f1; clear B1)
                  | (go_at_call 35; refine (isBlR_any _ _).mono ?_; rintro e w2 ⟨rfl, rfl⟩; rw [YB.out])
                  | (go_at_call 34; refine (isRef_any _ _).mono ?_; rintro e w2 ⟨rfl, rfl⟩; rw [YC.out]))
                go_ret
                exact ⟨ret_int (by rw [TE.out]), by rw [TE.out]; exact (ST.out.inc 1 _ (by omega) (by omega)).at (by omega), Mod.trans M.out (ST.out.mod _)⟩
            · rw [if_neg m0] at TE
              have e0 : ((m : Int) == 0) = false := by simpa using m0
              cases yc
              · rw [chr_noR hyc] at TE
                clear hyc
                replace TE := hide TE
                as_aux_lemma =>
                  go_wp2_with (first
                    | (go_at_call 18; refine (standAt_any T W _ b v l t p _ ST.out (by decide) (by decide)).mono ?_; rintro e w1 ⟨he, B1⟩; (first | (rw [H0.out] at he)); subst he; replace ST := hide (ST.out.below B1); replace M := hide (Mod.trans M.out (Mod.of b B1)); (try clear c1 f1); have c1 := ST.out.c1; have f1 := ST.out.f1; clear B1)
                    | (go_at_call 35; refine (isBlR_any _ _).mono ?_; rintro e w2 ⟨rfl, rfl⟩; rw [YB.out])
                    | (go_at_call 34; refine (isRef_any _ _).mono ?_; rintro e w2 ⟨rfl, rfl⟩; rw [YC.out]))
                  go_ret
                  exact ⟨ret_int (by rw [TE.out]), by rw [TE.out]; exact (ST.out.inc 1 _ (by omega) (by omega)).at (by omega), Mod.trans M.out (ST.out.mod _)⟩
              · rw [chr_yesR hyc] at TE
                clear hyc
                replace TE := hide TE
                as_aux_lemma =>
                  go_wp2_with (first
                    | (go_at_call 18; refine (standAt_any T W _ b v l t p _ ST.out (by decide) (by decide)).mono ?_; rintro e w1 ⟨he, B1⟩; (first | (rw [H0.out] at he)); subst he; replace ST := hide (ST.out.below B1); replace M := hide (Mod.trans M.out (Mod.of b B1)); (try clear c1 f1); have c1 := ST.out.c1; have f1 := ST.out.f1; clear B1)
                    | (go_at_call 35; refine (isBlR_any _ _).mono ?_; rintro e w2 ⟨rfl, rfl⟩; rw [YB.out])
                    | (go_at_call 34; refine (isRef_any _ _).mono ?_; rintro e w2 ⟨rfl, rfl⟩; rw [YC.out]))
                  go_ret
                  exact ⟨ret_int (by rw [TE.out]), by rw [TE.out]; exact (ST.out.inc 1 _ (by omega) (by omega)).at (by omega), Mod.trans M.out (ST.out.mod _)⟩
end Go.Proofs.YtckefmhleklciaaGreatDoor
