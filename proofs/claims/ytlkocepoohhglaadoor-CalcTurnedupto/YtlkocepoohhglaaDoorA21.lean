/-
  The reference's blanks, digits, remarks.
  The reference's escape, behind its sign.
  The reference's names.
  The reference's rest of a bad url, its texts, its urls.
-/
import Derived.Test.YtlkocepoohhglaaDoorA20
set_option linter.unusedVariables false
set_option linter.unusedSimpArgs false
namespace Go.Proofs.YtlkocepoohhglaaDoor
open Go.RowKit

set_option maxHeartbeats 1000000 in
theorem blanksR_any (T : TypeId) (W w : World) (b : Nat) (v : Value) (l s : List Int) (h : At T W w b v l s) :
    Calls Tryd.prog 62 #[.pointer (some ⟨b, 0, none⟩)] w fun e w' => e = .returned (.tuple #[]) ∧ At T W w' b v l (bls s) ∧ w.grownBy w' (some b) := by
  have H := hide h
  clear h
  go_enter Tryd.func62, Tryd.ntmps62
  go_wp2
  go_loopg [] s.length (fun g wr => RelSk bls T W w b v l s g wr)
  case atStart => exact .mk s H.out (Nat.le_refl _) rfl (Mod.refl _ _)
  case round =>
    clear H
    obtain ⟨t, A1, hg, R, M⟩ := hrel
    obtain ⟨p, ST, hpl, hlb⟩ := A1.stand
    replace ST := hide ST
    replace M := hide M
    clear A1
    obtain ⟨x, hx⟩ : ∃ x, nx t 0 = x := ⟨_, rfl⟩
    have H0 := hide (show nx t (Int.toNat 0) = x from hx)
    cases hb : isBl x
    · have HB := hide hb
      have E := hide (R.out.trans (bls_no (by rw [hx]; exact hb)))
      clear hb hx
      go_wp2_with (first
        | (go_at_call 55; refine (standAt_any T W _ b v l t p _ ST.out (by decide) (by decide)).mono ?_; rintro e w1 ⟨he, B1⟩; (first | (rw [H0.out] at he)); subst he; replace ST := hide (ST.out.below B1); replace M := hide (Mod.trans M.out (Mod.of b B1)); (try clear c1 f1); have c1 := ST.out.c1; have f1 := ST.out.f1; clear B1)
        | (go_at_call 61; refine (isBlR_any _ _).mono ?_; rintro e w2 ⟨rfl, rfl⟩; rw [HB.out]))
      go_end0
      exact ⟨rfl, by rw [E.out]; exact ST.out.at (by omega), M.out⟩
    · have HB := hide hb
      have L := isBl_ne (s := t) (by rw [hx]; exact hb)
      have E := hide (R.out.trans (bls_go (by rw [hx]; exact hb)))
      have hp9 : p ≤ 140737488355328 := by omega
      clear hb hx
      go_wp2_with (first
        | (go_at_call 55; refine (standAt_any T W _ b v l t p _ ST.out (by decide) (by decide)).mono ?_; rintro e w1 ⟨he, B1⟩; (first | (rw [H0.out] at he)); subst he; replace ST := hide (ST.out.below B1); replace M := hide (Mod.trans M.out (Mod.of b B1)); (try clear c1 f1); have c1 := ST.out.c1; have f1 := ST.out.f1; clear B1)
        | (go_at_call 61; refine (isBlR_any _ _).mono ?_; rintro e w2 ⟨rfl, rfl⟩; rw [HB.out]))
      go_roundg (gk - 1)
      case measure => omega
      case rel => exact .mk (t.drop 1) ((ST.out.inc 1 _ (by omega) (by omega)).at (by omega)) (by rw [List.length_drop]; omega) E.out (Mod.trans M.out (ST.out.mod _))
set_option maxHeartbeats 1000000 in
theorem digitsR_any (T : TypeId) (W w : World) (b : Nat) (v : Value) (l s : List Int) (h : At T W w b v l s) :
    Calls Tryd.prog 77 #[.pointer (some ⟨b, 0, none⟩)] w fun e w' => e = .returned (.tuple #[]) ∧ At T W w' b v l (dgs s) ∧ w.grownBy w' (some b) := by
  have H := hide h
  clear h
  go_enter Tryd.func77, Tryd.ntmps77
  go_wp2
  go_loopg [] s.length (fun g wr => RelSk dgs T W w b v l s g wr)
  case atStart => exact .mk s H.out (Nat.le_refl _) rfl (Mod.refl _ _)
  case round =>
    clear H
    obtain ⟨t, A1, hg, R, M⟩ := hrel
    obtain ⟨p, ST, hpl, hlb⟩ := A1.stand
    replace ST := hide ST
    replace M := hide M
    clear A1
    obtain ⟨x, hx⟩ : ∃ x, nx t 0 = x := ⟨_, rfl⟩
    have H0 := hide (show nx t (Int.toNat 0) = x from hx)
    cases hb : isDig x
    · have HB := hide hb
      have E := hide (R.out.trans (dgs_no (by rw [hx]; exact hb)))
      clear hb hx
      go_wp2_with (first
        | (go_at_call 55; refine (standAt_any T W _ b v l t p _ ST.out (by decide) (by decide)).mono ?_; rintro e w1 ⟨he, B1⟩; (first | (rw [H0.out] at he)); subst he; replace ST := hide (ST.out.below B1); replace M := hide (Mod.trans M.out (Mod.of b B1)); (try clear c1 f1); have c1 := ST.out.c1; have f1 := ST.out.f1; clear B1)
        | (go_at_call 76; refine (isDigR_any _ _).mono ?_; rintro e w2 ⟨rfl, rfl⟩; rw [HB.out]))
      go_end0
      exact ⟨rfl, by rw [E.out]; exact ST.out.at (by omega), M.out⟩
    · have HB := hide hb
      have L := isDig_ne (s := t) (by rw [hx]; exact hb)
      have E := hide (R.out.trans (dgs_go (by rw [hx]; exact hb)))
      have hp9 : p ≤ 140737488355328 := by omega
      clear hb hx
      go_wp2_with (first
        | (go_at_call 55; refine (standAt_any T W _ b v l t p _ ST.out (by decide) (by decide)).mono ?_; rintro e w1 ⟨he, B1⟩; (first | (rw [H0.out] at he)); subst he; replace ST := hide (ST.out.below B1); replace M := hide (Mod.trans M.out (Mod.of b B1)); (try clear c1 f1); have c1 := ST.out.c1; have f1 := ST.out.f1; clear B1)
        | (go_at_call 76; refine (isDigR_any _ _).mono ?_; rintro e w2 ⟨rfl, rfl⟩; rw [HB.out]))
      go_roundg (gk - 1)
      case measure => omega
      case rel => exact .mk (t.drop 1) ((ST.out.inc 1 _ (by omega) (by omega)).at (by omega)) (by rw [List.length_drop]; omega) E.out (Mod.trans M.out (ST.out.mod _))
theorem AtR.end {T : TypeId} {W w : World} {b : Nat} {v : Value} {l s : List Int} (h : AtR T W w b v l s) (hn : nx s 0 = -1) : s = [] := by
  obtain ⟨p, _, _, rfl⟩ := h.ex
  generalize hd : (chs l).drop p = r at *
  cases r with
  | nil => rfl
  | cons x r =>
    have hm : x ∈ (chs l).drop p := by rw [hd]; simp
    obtain ⟨y, _, rfl⟩ := List.mem_map.1 (List.mem_of_mem_drop hm)
    have hx := isC_chr y
    rw [isC_iff] at hx
    have : chr y = -1 := hn
    omega
theorem Stand.end {T : TypeId} {W w : World} {b : Nat} {v : Value} {l s : List Int} {p : Nat} (h : Stand T W w b v l s p) (hp : p ≤ l.length) (hn : nx s 0 = -1) : s = [] := (h.at hp).end hn
def RelSr (f : List Int → List Int) (T : TypeId) (W w : World) (b : Nat) (v : Value) (l s : List Int) (g : Nat) (wr : World) : Prop :=
  ∃ t, AtR T W wr b v l t ∧ t.length ≤ g ∧ Hid (f s = f t) ∧ w.grownBy wr (some b)
theorem RelSr.mk {f : List Int → List Int} {T : TypeId} {W w : World} {b : Nat} {v : Value} {l s : List Int} {g : Nat} {wr : World} (t : List Int) (h1 : AtR T W wr b v l t) (h2 : t.length ≤ g) (h3 : f s = f t) (h4 : w.grownBy wr (some b)) : RelSr f T W w b v l s g wr := ⟨t, h1, h2, h3, h4⟩
set_option maxRecDepth 100000 in
set_option maxHeartbeats 2000000 in
theorem remarksR_any (T : TypeId) (W w : World) (b : Nat) (v : Value) (l s : List Int) (h : AtR T W w b v l s) :
    Calls Tryd.prog 54 #[.pointer (some ⟨b, 0, none⟩)] w fun e w' => e = .returned (.tuple #[]) ∧ AtR T W w' b v l (rmk s) ∧ w.grownBy w' (some b) := by
  have H := hide h
  clear h
  go_enter Tryd.func54, Tryd.ntmps54
  go_wp2
  go_loopg [] s.length (fun g wr => RelSr rmk T W w b v l s g wr)
  case atStart => exact .mk s H.out (Nat.le_refl _) rfl (Mod.refl _ _)
  case round =>
    clear H
    obtain ⟨t, A1, hg, R, M⟩ := hrel
    replace A1 := hide A1
    replace M := hide M
    obtain ⟨x, hx⟩ : ∃ x, nx t 0 = x := ⟨_, rfl⟩
    have H0 := hide (show nx t (Int.toNat 0) = x from hx)
    obtain ⟨y, hy⟩ : ∃ y, nx t 1 = y := ⟨_, rfl⟩
    have H1 := hide (show nx t (Int.toNat 1) = y from hy)
    by_cases hq : x = 47 ∧ y = 42
    · obtain ⟨rfl, rfl⟩ := hq
      have L := nx_pos (s := t) (by omega)
      have E := hide (R.out.trans (rmk_go hx hy))
      obtain ⟨p, ST, hpl, hlb⟩ := (A1.out.in (by omega)).stand
      replace ST := hide ST
      have L2 : 1 < t.length := nx_len (s := t) (k := 1) (by omega)
      have hp9 : p ≤ 140737488355328 := by omega
      have HG := hide hg
      clear hx hy R hg A1
      go_wp2_with (first
        | (go_at_call 55; refine (standAt_any T W _ b v l t p _ ST.out (by decide) (by decide)).mono ?_; rintro e w1 ⟨he, B1⟩; (first | (rw [H0.out] at he) | (rw [H1.out] at he)); subst he; replace ST := hide (ST.out.below B1); replace M := hide (Mod.trans M.out (Mod.of b B1)); (try clear c1 f1); have c1 := ST.out.c1; have f1 := ST.out.f1; clear B1))
      replace M := hide (Mod.trans M.out (ST.out.mod ((p : Int) + 2)))
      replace ST := hide (ST.out.inc 2 ((p : Int) + 2) (by omega) (by omega))
      clear c1 f1 H0 H1
      obtain ⟨t2, ht2⟩ : ∃ x, t.drop 2 = x := ⟨_, rfl⟩
      have lt2 : t2.length = t.length - 2 := by rw [← ht2, List.length_drop]
      rw [ht2] at ST E
      clear ht2
      go_loopg [] t2.length (fun g wr => RelSk untl T W w b v l t2 g wr)
      case atStart => exact .mk t2 (ST.out.at (by omega)) (Nat.le_refl _) rfl M.out
      case round =>
        clear ST M
        obtain ⟨z, A1, hg2, R2, M⟩ := hrel
        obtain ⟨p, ST, hpl, hlb⟩ := A1.stand
        have hp9 : p ≤ 140737488355328 := by omega
        replace ST := hide ST
        replace M := hide M
        clear A1
        have LX := untl_len t2
        obtain ⟨x, hx⟩ : ∃ x, nx z 0 = x := ⟨_, rfl⟩
        have H0 := hide (show nx z (Int.toNat 0) = x from hx)
        obtain ⟨y, hy⟩ : ∃ y, nx z 1 = y := ⟨_, rfl⟩
        have H1 := hide (show nx z (Int.toNat 1) = y from hy)
        by_cases hm : x = -1
        · subst hm
          have X0 := ST.out.end (by omega) hx
          have U : untl t2 = z.drop 2 := by rw [R2.out, X0]; rfl
          rw [U] at E LX
          clear hx hy X0 U
          go_wp2_with (first
            | (go_at_call 55; refine (standAt_any T W _ b v l z p _ ST.out (by decide) (by decide)).mono ?_; rintro e w1 ⟨he, B1⟩; (first | (rw [H0.out] at he) | (rw [H1.out] at he)); subst he; replace ST := hide (ST.out.below B1); replace M := hide (Mod.trans M.out (Mod.of b B1)); (try clear c1 f1); have c1 := ST.out.c1; have f1 := ST.out.f1; clear B1))
          go_roundg (t.length - 1)
          case measure => have := HG.out; omega
          case rel => exact .mk (z.drop 2) ((ST.out.inc 2 _ (by omega) (by omega)).atR (by omega)) (by omega) E.out (Mod.trans M.out (ST.out.mod _))
        · have PX := nx_pos (s := z) (by rw [hx]; exact hm)
          have n1 : (x != -1) = true := by simpa using hm
          by_cases hs : x = 42 ∧ y = 47
          · obtain ⟨rfl, rfl⟩ := hs
            have U : untl t2 = z.drop 2 := by rw [R2.out]; exact untl_stop hx hy
            rw [U] at E LX
            have L3 : 1 < z.length := nx_len (s := z) (k := 1) (by omega)
            clear hx hy U
            go_wp2_with (first
              | (go_at_call 55; refine (standAt_any T W _ b v l z p _ ST.out (by decide) (by decide)).mono ?_; rintro e w1 ⟨he, B1⟩; (first | (rw [H0.out] at he) | (rw [H1.out] at he)); subst he; replace ST := hide (ST.out.below B1); replace M := hide (Mod.trans M.out (Mod.of b B1)); (try clear c1 f1); have c1 := ST.out.c1; have f1 := ST.out.f1; clear B1))
            go_roundg (t.length - 1)
            case measure => have := HG.out; omega
            case rel => exact .mk (z.drop 2) ((ST.out.inc 2 _ (by omega) (by omega)).atR (by omega)) (by omega) E.out (Mod.trans M.out (ST.out.mod _))
          · have U := hide (R2.out.trans (untl_go (s := z) (by rw [hx, hy]; exact hs)))
            clear hx hy
            by_cases h42 : x = 42
            · subst h42
              have n2 : (y != 47) = true := by simp; intro e; exact hs ⟨rfl, e⟩
              go_wp2_with (first
                | (go_at_call 55; refine (standAt_any T W _ b v l z p _ ST.out (by decide) (by decide)).mono ?_; rintro e w1 ⟨he, B1⟩; (first | (rw [H0.out] at he) | (rw [H1.out] at he)); subst he; replace ST := hide (ST.out.below B1); replace M := hide (Mod.trans M.out (Mod.of b B1)); (try clear c1 f1); have c1 := ST.out.c1; have f1 := ST.out.f1; clear B1))
              go_roundg (z.length - 1)
              case measure => omega
              case rel => exact .mk (z.drop 1) ((ST.out.inc 1 _ (by omega) (by omega)).at (by omega)) (by rw [List.length_drop]; omega) U.out (Mod.trans M.out (ST.out.mod _))
            · have n2 : (x != 42) = true := by simpa using h42
              go_wp2_with (first
                | (go_at_call 55; refine (standAt_any T W _ b v l z p _ ST.out (by decide) (by decide)).mono ?_; rintro e w1 ⟨he, B1⟩; (first | (rw [H0.out] at he) | (rw [H1.out] at he)); subst he; replace ST := hide (ST.out.below B1); replace M := hide (Mod.trans M.out (Mod.of b B1)); (try clear c1 f1); have c1 := ST.out.c1; have f1 := ST.out.f1; clear B1))
              go_roundg (z.length - 1)
              case measure => omega
              case rel => exact .mk (z.drop 1) ((ST.out.inc 1 _ (by omega) (by omega)).at (by omega)) (by rw [List.length_drop]; omega) U.out (Mod.trans M.out (ST.out.mod _))
    · have E := hide (R.out.trans (rmk_end (s := t) (by rw [hx, hy]; exact hq)))
      clear hx hy
      by_cases h47 : x = 47
      · subst h47
        have n2 : (y == 42) = false := by simp; intro e; exact hq ⟨rfl, e⟩
        go_wp2_with (first
          | (go_at_call 55; refine (atR_any T W _ b v l t _ A1.out (by decide) (by decide)).mono ?_; rintro e w1 ⟨he, B1⟩; (first | (rw [H0.out] at he) | (rw [H1.out] at he)); subst he; replace A1 := hide (A1.out.below B1); replace M := hide (Mod.trans M.out (Mod.of b B1)); clear B1))
        go_end0
        exact ⟨rfl, by rw [E.out]; exact A1.out, M.out⟩
      · have n2 : (x == 47) = false := by simpa using h47
        go_wp2_with (first
          | (go_at_call 55; refine (atR_any T W _ b v l t _ A1.out (by decide) (by decide)).mono ?_; rintro e w1 ⟨he, B1⟩; (first | (rw [H0.out] at he) | (rw [H1.out] at he)); subst he; replace A1 := hide (A1.out.below B1); replace M := hide (Mod.trans M.out (Mod.of b B1)); clear B1))
        go_end0
        exact ⟨rfl, by rw [E.out]; exact A1.out, M.out⟩
end Go.Proofs.YtlkocepoohhglaaDoor
set_option linter.unusedVariables false
set_option linter.unusedSimpArgs false
namespace Go.Proofs.YtlkocepoohhglaaDoor
open Go.RowKit

/-- The state of the reference's loop over digits to the base 16. -/
def RelHr (T : TypeId) (W w : World) (b : Nat) (v : Value) (l s : List Int) (x ok n i : Value) (wr : World) : Prop :=
  ∃ (k m : Nat) (t : List Int), k ≤ 6 ∧ i = .int .i64 k ∧ n = .int .i32 m ∧ x = .int .i32 (hxN (nx t 0)) ∧ ok = .bool (hxB (nx t 0)) ∧ Hid (m < 16 ^ k ∧ hexs 6 0 s = hexs (6 - k) m t ∧ At T W wr b v l t ∧ w.grownBy wr (some b))
theorem RelHr.mk {T : TypeId} {W w : World} {b : Nat} {v : Value} {l s : List Int} {x ok n i : Value} {wr : World} (k m : Nat) (t : List Int) (h1 : k ≤ 6) (h2 : i = .int .i64 k) (h3 : n = .int .i32 m) (hx : x = .int .i32 (hxN (nx t 0))) (ho : ok = .bool (hxB (nx t 0))) (h4 : m < 16 ^ k) (h5 : hexs 6 0 s = hexs (6 - k) m t) (h6 : At T W wr b v l t) (h7 : w.grownBy wr (some b)) : RelHr T W w b v l s x ok n i wr :=
  ⟨k, m, t, h1, h2, h3, hx, ho, h4, h5, h6, h7⟩
theorem tesc_hexR {s t : List Int} {m : Nat} (h0 : 0 ≤ hexv (nx s 0)) (h : hexs 6 0 s = ((m : Int), t)) : tesc s = (if m = 0 then 65533 else chr m, if isBl (nx t 0) then t.drop 1 else t) := by
  have h1 : nx s 0 ≠ -1 := by intro e; rw [e] at h0; exact absurd h0 (by decide)
  unfold tesc
  rw [if_neg h1, if_neg (by omega), h]
  by_cases hm : m = 0
  · subst hm; rfl
  · rw [if_neg hm, if_neg (by simpa using hm)]
theorem chr_noR {x : Int} (h : isC x = false) : chr x = 65533 := by unfold chr; rw [h]; rfl
theorem chr_yesR {x : Int} (h : isC x = true) : chr x = x := by unfold chr; rw [h]; rfl
set_option maxRecDepth 100000 in
set_option maxHeartbeats 4000000 in
theorem takenR_any (T : TypeId) (W w : World) (b : Nat) (v : Value) (l s : List Int) (h : At T W w b v l s) :
    Calls Tryd.prog 74 #[.pointer (some ⟨b, 0, none⟩)] w fun e w' => e = .returned (.int .i32 (tesc s).1) ∧ At T W w' b v l (tesc s).2 ∧ w.grownBy w' (some b) := by
  obtain ⟨p, ST, hpl, hlb⟩ := h.stand
  have hp9 : p ≤ 140737488355328 := by omega
  replace ST := hide ST
  have M := hide (Mod.refl w b)
  clear h
  obtain ⟨x, hx⟩ : ∃ x, nx s 0 = x := ⟨_, rfl⟩
  have H0 := hide (show nx s (Int.toNat 0) = x from hx)
  by_cases hh : hexv x < 0
  · have X := hide (hx_no hh)
    by_cases hm : x = -1
    · subst hm
      have E := hide (show tesc s = (65533, s) by unfold tesc; rw [if_pos hx])
      clear hh hx
      go_enter Tryd.func74, Tryd.ntmps74
      go_wp2_with (first
        | (go_at_call 55; refine (standAt_any T W _ b v l s p _ ST.out (by decide) (by decide)).mono ?_; rintro e w1 ⟨he, B1⟩; (first | (rw [H0.out] at he)); subst he; replace ST := hide (ST.out.below B1); replace M := hide (Mod.trans M.out (Mod.of b B1)); (try clear c1 f1); have c1 := ST.out.c1; have f1 := ST.out.f1; clear B1)
        | (go_at_call 83; refine (hexR_any _ _).mono ?_; rintro e w2 ⟨rfl, rfl⟩; rw [X.out.1, X.out.2]))
      go_ret
      exact ⟨ret_int (by rw [E.out]), by rw [E.out]; exact ST.out.at (by omega), M.out⟩
    · have E := hide (show tesc s = (x, s.drop 1) by unfold tesc; rw [hx, if_neg hm, if_pos hh])
      have em : (x == -1) = false := by simpa using hm
      have L := nx_pos (s := s) (by rw [hx]; exact hm)
      clear hh hx
      go_enter Tryd.func74, Tryd.ntmps74
      go_wp2_with (first
        | (go_at_call 55; refine (standAt_any T W _ b v l s p _ ST.out (by decide) (by decide)).mono ?_; rintro e w1 ⟨he, B1⟩; (first | (rw [H0.out] at he)); subst he; replace ST := hide (ST.out.below B1); replace M := hide (Mod.trans M.out (Mod.of b B1)); (try clear c1 f1); have c1 := ST.out.c1; have f1 := ST.out.f1; clear B1)
        | (go_at_call 83; refine (hexR_any _ _).mono ?_; rintro e w2 ⟨rfl, rfl⟩; rw [X.out.1, X.out.2]))
      go_ret
      exact ⟨ret_int (by rw [E.out]), by rw [E.out]; exact (ST.out.inc 1 _ (by omega) (by omega)).at (by omega), Mod.trans M.out (ST.out.mod _)⟩
  · have X := hide (hx_yes (c := x) (by omega))
    have HX0 := hide (show 0 ≤ hexv (nx s 0) by rw [hx]; omega)
    have XE := hide (show Value.int .i32 (hexv x) = .int .i32 (hxN (nx s 0)) ∧ Value.bool true = .bool (hxB (nx s 0)) by rw [hx, X.out.1, X.out.2]; exact ⟨rfl, rfl⟩)
    clear hx
    go_enter Tryd.func74, Tryd.ntmps74
    go_wp2_with (first
      | (go_at_call 55; refine (standAt_any T W _ b v l s p _ ST.out (by decide) (by decide)).mono ?_; rintro e w1 ⟨he, B1⟩; (first | (rw [H0.out] at he)); subst he; replace ST := hide (ST.out.below B1); replace M := hide (Mod.trans M.out (Mod.of b B1)); (try clear c1 f1); have c1 := ST.out.c1; have f1 := ST.out.f1; clear B1)
      | (go_at_call 83; refine (hexR_any _ _).mono ?_; rintro e w2 ⟨rfl, rfl⟩; rw [X.out.1, X.out.2]))
    go_loopw [3, 4, 6, 7] (fun x ok n i wr => RelHr T W w b v l s x ok n i wr) (fun _ _ _ i _ => 6 - (intOf i).toNat)
    case atStart => exact .mk 0 0 s (by omega) rfl rfl XE.out.1 XE.out.2 (by decide) rfl (ST.out.at (by omega)) M.out
    case round =>
      clear X XE ST M H0 c1 f1 hpl
      obtain ⟨k, m, t, hk, rfl, rfl, rfl, rfl, R⟩ := hrel
      obtain ⟨hm, E, A1, M⟩ := R.out
      obtain ⟨p, ST, hpl, _⟩ := A1.stand
      have hp9 : p ≤ 140737488355328 := by omega
      replace ST := hide ST
      replace E := hide E
      replace M := hide M
      clear R A1
      have m24 : m < 16777216 := by
        have h1 : 16 ^ k ≤ 16 ^ 6 := Nat.pow_le_pow_right (by omega) hk
        have h2 : (16 : Nat) ^ 6 = 16777216 := by decide
        omega
      obtain ⟨x, hx⟩ : ∃ x, nx t 0 = x := ⟨_, rfl⟩
      have H0 := hide (show nx t (Int.toNat 0) = x from hx)
      rw [hx]
      by_cases hgo : k < 6 ∧ 0 ≤ hexv x
      · obtain ⟨hlt, h0⟩ := hgo
        have hp := p16 (k := k) (by omega)
        have hlt2 : (k : Int) < 6 := by omega
        have hm9 : m < 1048576 := by omega
        obtain ⟨x1, x2⟩ := hx_yes (c := x) h0
        have hv : hexv x < 16 := by
          rcases hexv_cases x with ⟨_, _, e⟩ | ⟨_, _, _, e⟩ | ⟨_, _, _, e⟩ | ⟨_, _, _, e⟩ | ⟨_, _, _, e⟩ | ⟨_, _, _, e⟩ | ⟨_, _, e⟩ <;> omega
        have L := nx_pos (s := t) (by rw [hx]; intro e; rw [e] at h0; exact absurd h0 (by decide))
        have F := hide (show hexs 6 0 s = hexs (6 - (k + 1)) ((m * 16 + (hexv x).toNat : Nat) : Int) (t.drop 1) by
          rw [E.out, show 6 - k = (6 - (k + 1)) + 1 by omega]; show (if hexv (nx t 0) < 0 then _ else _) = _; rw [hx, if_neg (by omega)]; congr 1; omega)
        have HP := hide (show m * 16 + (hexv x).toNat < 16 ^ (k + 1) by rw [Nat.pow_succ]; omega)
        rw [x1, x2]
        clear hm hp hx x1 x2
        generalize hexv x = hv9 at *
        obtain ⟨t1, ht1⟩ : ∃ x, t.drop 1 = x := ⟨_, rfl⟩
        have lt1 : t1.length = t.length - 1 := by rw [← ht1, List.length_drop]
        rw [ht1] at F
        have T1 := hide ht1
        clear ht1
        obtain ⟨y, hy⟩ : ∃ y, nx t1 0 = y := ⟨_, rfl⟩
        have H1 := hide (show nx t1 (Int.toNat 0) = y from hy)
        have Y1 := hide hy
        clear hy
        have c1 := ST.out.c1
        have f1 := ST.out.f1
        go_wp2_with (first
          | (go_at_call 55; refine (standAt_any T W _ b v l t1 (p + 1) _ (by have := ST.out.inc 1 ((p : Int) + 1) (by omega) (by omega); rw [T1.out] at this; exact this) (by decide) (by decide)).mono ?_; rintro e w1 ⟨he, B1⟩; rw [H1.out] at he; subst he; have ST2 := ST.out.inc 1 ((p : Int) + 1) (by omega) (by omega); rw [T1.out] at ST2; replace M := hide (Mod.trans (Mod.trans M.out (ST.out.mod ((p : Int) + 1))) (Mod.of b B1)); replace ST := hide (ST2.below B1); clear ST2 B1 c1 f1)
          | (go_at_call 83; refine (hexR_any _ _).mono ?_; rintro e w2 ⟨rfl, rfl⟩))
        go_roundw
        case rel => exact .mk (k + 1) (m * 16 + hv9.toNat) t1 (by omega) (by go_num) (by first | rfl | (congr 1; omega)) (by rw [Y1.out]) (by rw [Y1.out]) HP.out F.out (ST.out.at (by omega)) M.out
        case measure => simp [intOf]; omega
      · have F : hexs 6 0 s = ((m : Int), t) := by
          rw [E.out]
          by_cases k6 : k = 6
          · subst k6; rfl
          · rw [show 6 - k = (5 - k) + 1 by omega]
            show (if hexv (nx t 0) < 0 then _ else _) = _
            rw [hx, if_pos (by omega)]
        have TE := tesc_hexR HX0.out F
        rw [hx] at TE
        have m24' : (m : Int) < 16777216 := by omega
        clear E F hx hm
        obtain ⟨yb, hyb⟩ : ∃ y, isBl x = y := ⟨_, rfl⟩
        have YB := hide hyb
        rw [hyb] at TE
        clear hyb
        obtain ⟨yc, hyc⟩ : ∃ y, isC (m : Int) = y := ⟨_, rfl⟩
        have YC := hide hyc
        have LB : yb = true → 0 < t.length := fun e => isBl_ne (s := t) (by have h1 := H0.out; have h2 := YB.out; rw [show nx t 0 = x from h1, h2, e])
        by_cases k6 : k = 6
        · subst k6
          cases yb
          · rw [show (if (false : Bool) = true then t.drop 1 else t) = t from rfl] at TE
            clear LB
            by_cases m0 : m = 0
            · subst m0
              rw [if_pos rfl] at TE
              clear hyc
              replace TE := hide TE
              as_aux_lemma =>
                go_wp2_with (first
                  | (go_at_call 55; refine (standAt_any T W _ b v l t p _ ST.out (by decide) (by decide)).mono ?_; rintro e w1 ⟨he, B1⟩; (first | (rw [H0.out] at he)); subst he; replace ST := hide (ST.out.below B1); replace M := hide (Mod.trans M.out (Mod.of b B1)); (try clear c1 f1); have c1 := ST.out.c1; have f1 := ST.out.f1; clear B1)
                  | (go_at_call 61; refine (isBlR_any _ _).mono ?_; rintro e w2 ⟨rfl, rfl⟩; rw [YB.out])
                  | (go_at_call 60; refine (isRef_any _ _).mono ?_; rintro e w2 ⟨rfl, rfl⟩; rw [YC.out]))
                go_ret
                exact ⟨ret_int (by rw [TE.out]), by rw [TE.out]; exact ST.out.at (by omega), M.out⟩
            · rw [if_neg m0] at TE
              have e0 : ((m : Int) == 0) = false := by simpa using m0
              cases yc
              · rw [chr_noR hyc] at TE
                clear hyc
                replace TE := hide TE
                as_aux_lemma =>
                  go_wp2_with (first
                    | (go_at_call 55; refine (standAt_any T W _ b v l t p _ ST.out (by decide) (by decide)).mono ?_; rintro e w1 ⟨he, B1⟩; (first | (rw [H0.out] at he)); subst he; replace ST := hide (ST.out.below B1); replace M := hide (Mod.trans M.out (Mod.of b B1)); (try clear c1 f1); have c1 := ST.out.c1; have f1 := ST.out.f1; clear B1)
                    | (go_at_call 61; refine (isBlR_any _ _).mono ?_; rintro e w2 ⟨rfl, rfl⟩; rw [YB.out])
                    | (go_at_call 60; refine (isRef_any _ _).mono ?_; rintro e w2 ⟨rfl, rfl⟩; rw [YC.out]))
                  go_ret
                  exact ⟨ret_int (by rw [TE.out]), by rw [TE.out]; exact ST.out.at (by omega), M.out⟩
              · rw [chr_yesR hyc] at TE
                clear hyc
                replace TE := hide TE
                as_aux_lemma =>
                  go_wp2_with (first
                    | (go_at_call 55; refine (standAt_any T W _ b v l t p _ ST.out (by decide) (by decide)).mono ?_; rintro e w1 ⟨he, B1⟩; (first | (rw [H0.out] at he)); subst he; replace ST := hide (ST.out.below B1); replace M := hide (Mod.trans M.out (Mod.of b B1)); (try clear c1 f1); have c1 := ST.out.c1; have f1 := ST.out.f1; clear B1)
                    | (go_at_call 61; refine (isBlR_any _ _).mono ?_; rintro e w2 ⟨rfl, rfl⟩; rw [YB.out])
                    | (go_at_call 60; refine (isRef_any _ _).mono ?_; rintro e w2 ⟨rfl, rfl⟩; rw [YC.out]))
                  go_ret
                  exact ⟨ret_int (by rw [TE.out]), by rw [TE.out]; exact ST.out.at (by omega), M.out⟩
          · rw [show (if (true : Bool) = true then t.drop 1 else t) = t.drop 1 from rfl] at TE
            have L := LB rfl
            clear LB
            by_cases m0 : m = 0
            · subst m0
              rw [if_pos rfl] at TE
              clear hyc
              replace TE := hide TE
              as_aux_lemma =>
                go_wp2_with (first
                  | (go_at_call 55; refine (standAt_any T W _ b v l t p _ ST.out (by decide) (by decide)).mono ?_; rintro e w1 ⟨he, B1⟩; (first | (rw [H0.out] at he)); subst he; replace ST := hide (ST.out.below B1); replace M := hide (Mod.trans M.out (Mod.of b B1)); (try clear c1 f1); have c1 := ST.out.c1; have f1 := ST.out.f1; clear B1)
                  | (go_at_call 61; refine (isBlR_any _ _).mono ?_; rintro e w2 ⟨rfl, rfl⟩; rw [YB.out])
                  | (go_at_call 60; refine (isRef_any _ _).mono ?_; rintro e w2 ⟨rfl, rfl⟩; rw [YC.out]))
                go_ret
                exact ⟨ret_int (by rw [TE.out]), by rw [TE.out]; exact (ST.out.inc 1 _ (by omega) (by omega)).at (by omega), Mod.trans M.out (ST.out.mod _)⟩
            · rw [if_neg m0] at TE
              have e0 : ((m : Int) == 0) = false := by simpa using m0
              cases yc
              · rw [chr_noR hyc] at TE
                clear hyc
                replace TE := hide TE
                as_aux_lemma =>
                  go_wp2_with (first
                    | (go_at_call 55; refine (standAt_any T W _ b v l t p _ ST.out (by decide) (by decide)).mono ?_; rintro e w1 ⟨he, B1⟩; (first | (rw [H0.out] at he)); subst he; replace ST := hide (ST.out.below B1); replace M := hide (Mod.trans M.out (Mod.of b B1)); (try clear c1 f1); have c1 := ST.out.c1; have f1 := ST.out.f1; clear B1)
                    | (go_at_call 61; refine (isBlR_any _ _).mono ?_; rintro e w2 ⟨rfl, rfl⟩; rw [YB.out])
                    | (go_at_call 60; refine (isRef_any _ _).mono ?_; rintro e w2 ⟨rfl, rfl⟩; rw [YC.out]))
                  go_ret
                  exact ⟨ret_int (by rw [TE.out]), by rw [TE.out]; exact (ST.out.inc 1 _ (by omega) (by omega)).at (by omega), Mod.trans M.out (ST.out.mod _)⟩
              · rw [chr_yesR hyc] at TE
                clear hyc
                replace TE := hide TE
                as_aux_lemma =>
                  go_wp2_with (first
                    | (go_at_call 55; refine (standAt_any T W _ b v l t p _ ST.out (by decide) (by decide)).mono ?_; rintro e w1 ⟨he, B1⟩; (first | (rw [H0.out] at he)); subst he; replace ST := hide (ST.out.below B1); replace M := hide (Mod.trans M.out (Mod.of b B1)); (try clear c1 f1); have c1 := ST.out.c1; have f1 := ST.out.f1; clear B1)
                    | (go_at_call 61; refine (isBlR_any _ _).mono ?_; rintro e w2 ⟨rfl, rfl⟩; rw [YB.out])
                    | (go_at_call 60; refine (isRef_any _ _).mono ?_; rintro e w2 ⟨rfl, rfl⟩; rw [YC.out]))
                  go_ret
                  exact ⟨ret_int (by rw [TE.out]), by rw [TE.out]; exact (ST.out.inc 1 _ (by omega) (by omega)).at (by omega), Mod.trans M.out (ST.out.mod _)⟩
        · have hlt2 : (k : Int) < 6 := by omega
          obtain ⟨x1, x2⟩ := hx_no (c := x) (by omega)
          rw [x1, x2]
          clear x1 x2
          cases yb
          · rw [show (if (false : Bool) = true then t.drop 1 else t) = t from rfl] at TE
            clear LB
            by_cases m0 : m = 0
            · subst m0
              rw [if_pos rfl] at TE
              clear hyc
              replace TE := hide TE
              as_aux_lemma =>
                go_wp2_with (first
                  | (go_at_call 55; refine (standAt_any T W _ b v l t p _ ST.out (by decide) (by decide)).mono ?_; rintro e w1 ⟨he, B1⟩; (first | (rw [H0.out] at he)); subst he; replace ST := hide (ST.out.below B1); replace M := hide (Mod.trans M.out (Mod.of b B1)); (try clear c1 f1); have c1 := ST.out.c1; have f1 := ST.out.f1; clear B1)
                  | (go_at_call 61; refine (isBlR_any _ _).mono ?_; rintro e w2 ⟨rfl, rfl⟩; rw [YB.out])
                  | (go_at_call 60; refine (isRef_any _ _).mono ?_; rintro e w2 ⟨rfl, rfl⟩; rw [YC.out]))
                go_ret
                exact ⟨ret_int (by rw [TE.out]), by rw [TE.out]; exact ST.out.at (by omega), M.out⟩
            · rw [if_neg m0] at TE
              have e0 : ((m : Int) == 0) = false := by simpa using m0
              cases yc
              · rw [chr_noR hyc] at TE
                clear hyc
                replace TE := hide TE
                as_aux_lemma =>
                  go_wp2_with (first
                    | (go_at_call 55; refine (standAt_any T W _ b v l t p _ ST.out (by decide) (by decide)).mono ?_; rintro e w1 ⟨he, B1⟩; (first | (rw [H0.out] at he)); subst he; replace ST := hide (ST.out.below B1); replace M := hide (Mod.trans M.out (Mod.of b B1)); (try clear c1 f1); have c1 := ST.out.c1; have f1 := ST.out.f1; clear B1)
                    | (go_at_call 61; refine (isBlR_any _ _).mono ?_; rintro e w2 ⟨rfl, rfl⟩; rw [YB.out])
                    | (go_at_call 60; refine (isRef_any _ _).mono ?_; rintro e w2 ⟨rfl, rfl⟩; rw [YC.out]))
                  go_ret
                  exact ⟨ret_int (by rw [TE.out]), by rw [TE.out]; exact ST.out.at (by omega), M.out⟩
              · rw [chr_yesR hyc] at TE
                clear hyc
                replace TE := hide TE
                as_aux_lemma =>
                  go_wp2_with (first
                    | (go_at_call 55; refine (standAt_any T W _ b v l t p _ ST.out (by decide) (by decide)).mono ?_; rintro e w1 ⟨he, B1⟩; (first | (rw [H0.out] at he)); subst he; replace ST := hide (ST.out.below B1); replace M := hide (Mod.trans M.out (Mod.of b B1)); (try clear c1 f1); have c1 := ST.out.c1; have f1 := ST.out.f1; clear B1)
                    | (go_at_call 61; refine (isBlR_any _ _).mono ?_; rintro e w2 ⟨rfl, rfl⟩; rw [YB.out])
                    | (go_at_call 60; refine (isRef_any _ _).mono ?_; rintro e w2 ⟨rfl, rfl⟩; rw [YC.out]))
                  go_ret
                  exact ⟨ret_int (by rw [TE.out]), by rw [TE.out]; exact ST.out.at (by omega), M.out⟩
          · rw [show (if (true : Bool) = true then t.drop 1 else t) = t.drop 1 from rfl] at TE
            have L := LB rfl
            clear LB
            by_cases m0 : m = 0
            · subst m0
              rw [if_pos rfl] at TE
              clear hyc
              replace TE := hide TE
              as_aux_lemma =>
                go_wp2_with (first
                  | (go_at_call 55; refine (standAt_any T W _ b v l t p _ ST.out (by decide) (by decide)).mono ?_; rintro e w1 ⟨he, B1⟩; (first | (rw [H0.out] at he)); subst he; replace ST := hide (ST.out.below B1); replace M := hide (Mod.trans M.out (Mod.of b B1)); (try clear c1 f1); have c1 := ST.out.c1; have f1 := ST.out.f1; clear B1)
                  | (go_at_call 61; refine (isBlR_any _ _).mono ?_; rintro e w2 ⟨rfl, rfl⟩; rw [YB.out])
                  | (go_at_call 60; refine (isRef_any _ _).mono ?_; rintro e w2 ⟨rfl, rfl⟩; rw [YC.out]))
                go_ret
                exact ⟨ret_int (by rw [TE.out]), by rw [TE.out]; exact (ST.out.inc 1 _ (by omega) (by omega)).at (by omega), Mod.trans M.out (ST.out.mod _)⟩
            · rw [if_neg m0] at TE
              have e0 : ((m : Int) == 0) = false := by simpa using m0
              cases yc
              · rw [chr_noR hyc] at TE
                clear hyc
                replace TE := hide TE
                as_aux_lemma =>
                  go_wp2_with (first
                    | (go_at_call 55; refine (standAt_any T W _ b v l t p _ ST.out (by decide) (by decide)).mono ?_; rintro e w1 ⟨he, B1⟩; (first | (rw [H0.out] at he)); subst he; replace ST := hide (ST.out.below B1); replace M := hide (Mod.trans M.out (Mod.of b B1)); (try clear c1 f1); have c1 := ST.out.c1; have f1 := ST.out.f1; clear B1)
                    | (go_at_call 61; refine (isBlR_any _ _).mono ?_; rintro e w2 ⟨rfl, rfl⟩; rw [YB.out])
                    | (go_at_call 60; refine (isRef_any _ _).mono ?_; rintro e w2 ⟨rfl, rfl⟩; rw [YC.out]))
                  go_ret
                  exact ⟨ret_int (by rw [TE.out]), by rw [TE.out]; exact (ST.out.inc 1 _ (by omega) (by omega)).at (by omega), Mod.trans M.out (ST.out.mod _)⟩
              · rw [chr_yesR hyc] at TE
                clear hyc
                replace TE := hide TE
                as_aux_lemma =>
                  go_wp2_with (first
                    | (go_at_call 55; refine (standAt_any T W _ b v l t p _ ST.out (by decide) (by decide)).mono ?_; rintro e w1 ⟨he, B1⟩; (first | (rw [H0.out] at he)); subst he; replace ST := hide (ST.out.below B1); replace M := hide (Mod.trans M.out (Mod.of b B1)); (try clear c1 f1); have c1 := ST.out.c1; have f1 := ST.out.f1; clear B1)
                    | (go_at_call 61; refine (isBlR_any _ _).mono ?_; rintro e w2 ⟨rfl, rfl⟩; rw [YB.out])
                    | (go_at_call 60; refine (isRef_any _ _).mono ?_; rintro e w2 ⟨rfl, rfl⟩; rw [YC.out]))
                  go_ret
                  exact ⟨ret_int (by rw [TE.out]), by rw [TE.out]; exact (ST.out.inc 1 _ (by omega) (by omega)).at (by omega), Mod.trans M.out (ST.out.mod _)⟩
end Go.Proofs.YtlkocepoohhglaaDoor
set_option linter.unusedVariables false
set_option linter.unusedSimpArgs false
namespace Go.Proofs.YtlkocepoohhglaaDoor
open Go.RowKit

/-- The reader stands while an own slice grows. -/
theorem Stand.grow {T : TypeId} {W w wr w1 : World} {b : Nat} {u v : Value} {l s : List Int} {p : Nat} {o : Obj} {k : IntKind} {e : TypeId} {xs : List Int} (h : Stand T W wr b u l s p) (hb : b < w.heap.size) (ho : OwnM b w k e wr v xs) (hg : (wr.alloc o).grownBy w1 v.ownBlock) : Stand T W w1 b u l s p := by
  have B := bplus (Below.refl wr.heap.size wr) o
  have h1 := h.rd
  have hbe := h1.ge
  refine ⟨⟨(bto h1.bel B).grown hg (Nat.le_trans h1.bel.size B.size) (fun k hk => by have := (ho.1.lt k hk).1; omega), h1.ge, ?_, h1.nums, h1.len, h1.le⟩, h.eq⟩
  exact (hg.block b (Nat.lt_of_lt_of_le h1.lt B.size) (fun e => by have := (ho.1.lt b e.symm).1; omega)).trans ((B.block b h1.lt).trans h1.blk)
set_option maxRecDepth 100000 in
set_option maxHeartbeats 2000000 in
theorem nameR_any (T : TypeId) (W w0 : World) (b : Nat) (v : Value) (l s : List Int) (hL : l.length ≤ 35184372088832) (h : At T W w0 b v l s) :
    Calls Tryd.prog 67 #[.pointer (some ⟨b, 0, none⟩)] w0 fun e w' => ∃ t, e = .returned (.string t) ∧ bl t = enc (nam [] s).1 ∧ At T W w' b v l (nam [] s).2 ∧ w0.grownBy w' (some b) := by
  obtain ⟨i0, hi, hz0, hz1, hz2⟩ := info_parts info32
  have hbw := h.lt
  have hsl := h.len.1
  have H := hide h
  clear h
  go_enter Tryd.func67, Tryd.ntmps67
  go_wp2
  go_loopg [3] s.length (fun g nv wr => RelNm T W w0 b v l s g nv wr)
  case atStart => exact .mk [] s H.out (Nat.le_refl _) (by simp) (OwnM.nil _ _ _ _) rfl
  case round =>
    clear H
    obtain ⟨xs, t, A1, hg, hx, OW, R⟩ := hrel
    obtain ⟨p, ST, hpl, hlb⟩ := A1.stand
    have hp9 : p ≤ 140737488355328 := by omega
    replace ST := hide ST
    replace OW := hide OW
    clear A1
    obtain ⟨x, hx0⟩ : ∃ x, nx t 0 = x := ⟨_, rfl⟩
    have H0 := hide (show nx t (Int.toNat 0) = x from hx0)
    obtain ⟨y, hy0⟩ : ∃ y, nx t 1 = y := ⟨_, rfl⟩
    have H1 := hide (show nx t (Int.toNat 1) = y from hy0)
    obtain ⟨t1, ht1⟩ : ∃ u, t.drop 1 = u := ⟨_, rfl⟩
    have T1 := hide ht1
    have lt1 : t1.length = t.length - 1 := by rw [← ht1, List.length_drop]
    cases hb : isLet x
    · have YL := hide hb
      cases he : es2 x y
      · have YE := hide he
        have E := hide (R.out.trans (nam_end (by rw [hx0]; exact hb) (by rw [hx0, hy0]; exact he)))
        clear hb he hx0 hy0 ht1
        by_cases hm : x = -1
        · subst hm
          go_wp2_with (first
            | (go_at_call 55; refine (standAt_any T W _ b v l t p _ ST.out (by decide) (by decide)).mono ?_; rintro e w1 ⟨he, B1⟩; (first | (rw [H0.out] at he) | (rw [H1.out] at he)); subst he; replace ST := hide (ST.out.below B1); replace OW := hide (OW.out.mod hbw (Mod.of b B1)); (try clear c1 f1); have c1 := ST.out.c1; have f1 := ST.out.f1; clear B1)
            | (go_at_call 64; refine (isLetR_any _ _).mono ?_; rintro e w2 ⟨rfl, rfl⟩; rw [YL.out])
            | (go_at_call 65; refine (escR_any _ _ _).mono ?_; rintro e w2 ⟨rfl, rfl⟩; rw [YE.out])
            | (go_at_call 71; refine (textR_any xs _ _ (OW.out.nums (by omega)) (by omega)).mono ?_; rintro e w3 ⟨z, rfl, hz, B1⟩; replace hz := hide hz; replace ST := hide (ST.out.below B1); replace OW := hide (OW.out.mod hbw (Mod.of b B1)); clear B1))
          go_ret
          exact ⟨_, rfl, by have e1 := hz.out; have e2 := E.out; rw [e1, e2], by rw [E.out]; exact ST.out.at (by omega), OW.out.2⟩
        · have em : (x != -1) = true := by simpa using hm
          go_wp2_with (first
            | (go_at_call 55; refine (standAt_any T W _ b v l t p _ ST.out (by decide) (by decide)).mono ?_; rintro e w1 ⟨he, B1⟩; (first | (rw [H0.out] at he) | (rw [H1.out] at he)); subst he; replace ST := hide (ST.out.below B1); replace OW := hide (OW.out.mod hbw (Mod.of b B1)); (try clear c1 f1); have c1 := ST.out.c1; have f1 := ST.out.f1; clear B1)
            | (go_at_call 64; refine (isLetR_any _ _).mono ?_; rintro e w2 ⟨rfl, rfl⟩; rw [YL.out])
            | (go_at_call 65; refine (escR_any _ _ _).mono ?_; rintro e w2 ⟨rfl, rfl⟩; rw [YE.out])
            | (go_at_call 71; refine (textR_any xs _ _ (OW.out.nums (by omega)) (by omega)).mono ?_; rintro e w3 ⟨z, rfl, hz, B1⟩; replace hz := hide hz; replace ST := hide (ST.out.below B1); replace OW := hide (OW.out.mod hbw (Mod.of b B1)); clear B1))
          go_ret
          exact ⟨_, rfl, by have e1 := hz.out; have e2 := E.out; rw [e1, e2], by rw [E.out]; exact ST.out.at (by omega), OW.out.2⟩
      · have YE := hide he
        have L := es2_ne (s := t) (b := y) (by rw [hx0]; exact he)
        have LT := tesc_len t1
        have E := R.out.trans (nam_esc (by rw [hx0]; exact hb) (by rw [hx0, hy0]; exact he))
        rw [ht1] at E
        obtain rfl : x = 92 := by unfold es2 at he; simp at he; exact he.1
        clear hb he hx0 hy0 ht1
        obtain ⟨⟨z, r⟩, hzr⟩ : ∃ q, tesc t1 = q := ⟨_, rfl⟩
        rw [hzr] at E LT
        have TZ := hide hzr
        replace E := hide E
        clear hzr
        go_wp2_with (first
          | (go_at_call 55; refine (standAt_any T W _ b v l t p _ ST.out (by decide) (by decide)).mono ?_; rintro e w1 ⟨he, B1⟩; (first | (rw [H0.out] at he) | (rw [H1.out] at he)); subst he; replace ST := hide (ST.out.below B1); replace OW := hide (OW.out.mod hbw (Mod.of b B1)); (try clear c1 f1); have c1 := ST.out.c1; have f1 := ST.out.f1; clear B1)
          | (go_at_call 64; refine (isLetR_any _ _).mono ?_; rintro e w2 ⟨rfl, rfl⟩; rw [YL.out])
          | (go_at_call 65; refine (escR_any _ _ _).mono ?_; rintro e w2 ⟨rfl, rfl⟩; rw [YE.out])
          | (go_at_call 74; refine (takenR_any T W _ b v l t1 (by have := ST.out.inc 1 ((p : Int) + 1) (by omega) (by omega); rw [T1.out] at this; exact this.at (by omega))).mono ?_; rintro e w4 ⟨he, A2, M2⟩; rw [TZ.out] at he A2; subst he; replace OW := hide (OW.out.mod hbw (Mod.trans (ST.out.mod ((p : Int) + 1)) M2)); have A1 := hide A2; clear A2 M2 ST c1 f1)
          | (at_builtin; refine wpList_append_own _ rfl _ _ 81 rfl w0.heap.size 21 i0 (.int .i32 0) 1 4 Tryd.underlying81 hi hz0 hz1 hz2 rfl (by decide) _ _ _ rfl (OW.out.1.alloc _) ⟨_, 0, none⟩ 1 1 [.int .i32 z] rfl rfl (news1 _ _ _) (by intro u hu; simp at hu; subst hu; rfl) (by unfold maxLen; omega) (by omega) (by have := OW.out.2.size; simp; omega) ?_; intro v' w5 hown' hgrow _; replace A1 := hide (A1.out.grow hbw OW.out hgrow); replace OW := hide (OW.out.grow (ys := [z]) hown' hgrow); clear hown' hgrow))
        go_roundg (gk - 1)
        case measure => omega
        case rel => exact .mk (xs ++ [z]) r A1.out (by omega) (by rw [List.length_append, List.length_singleton]; omega) OW.out E.out
    · have YL := hide hb
      have L := isLet_ne (s := t) (by rw [hx0]; exact hb)
      have hm : x ≠ -1 := by intro e; rw [e] at hb; exact absurd hb (by decide)
      have em : (x != -1) = true := by simpa using hm
      have E := R.out.trans (nam_let (by rw [hx0]; exact hb))
      rw [hx0, ht1] at E
      replace E := hide E
      clear hb hx0 hy0 ht1
      go_wp2_with (first
        | (go_at_call 55; refine (standAt_any T W _ b v l t p _ ST.out (by decide) (by decide)).mono ?_; rintro e w1 ⟨he, B1⟩; (first | (rw [H0.out] at he) | (rw [H1.out] at he)); subst he; replace ST := hide (ST.out.below B1); replace OW := hide (OW.out.mod hbw (Mod.of b B1)); (try clear c1 f1); have c1 := ST.out.c1; have f1 := ST.out.f1; clear B1)
        | (go_at_call 64; refine (isLetR_any _ _).mono ?_; rintro e w2 ⟨rfl, rfl⟩; rw [YL.out])
        | (at_builtin; refine wpList_append_own _ rfl _ _ 81 rfl w0.heap.size 21 i0 (.int .i32 0) 1 4 Tryd.underlying81 hi hz0 hz1 hz2 rfl (by decide) _ _ _ rfl (OW.out.1.alloc _) ⟨_, 0, none⟩ 1 1 [.int .i32 x] rfl rfl (news1 _ _ _) (by intro u hu; simp at hu; subst hu; rfl) (by unfold maxLen; omega) (by omega) (by have := OW.out.2.size; simp; omega) ?_; intro v' w5 hown' hgrow _; replace ST := hide (ST.out.grow hbw OW.out hgrow); replace OW := hide (OW.out.grow (ys := [x]) hown' hgrow); (try clear c1 f1); have c1 := ST.out.c1; have f1 := ST.out.f1; clear hown' hgrow))
      go_roundg (gk - 1)
      case measure => omega
      case rel => exact .mk (xs ++ [x]) t1 (by have := ST.out.inc 1 ((p : Int) + 1) (by omega) (by omega); rw [T1.out] at this; exact this.at (by omega)) (by omega) (by rw [List.length_append, List.length_singleton]; omega) (OW.out.mod hbw (ST.out.mod _)) E.out
end Go.Proofs.YtlkocepoohhglaaDoor
set_option linter.unusedVariables false
set_option linter.unusedSimpArgs false
namespace Go.Proofs.YtlkocepoohhglaaDoor
open Go.RowKit

theorem news1q (w : World) (n : Nat) (h : w.heap.size = n) (u : Value) (t : TypeId) : ∀ j x, [u][j]? = some x → (w.alloc (.cells #[u] t)).cell? ((⟨n, 0, none⟩ : Addr).add j) = some x := by
  subst h; exact news1 w u t
set_option maxRecDepth 100000 in
set_option maxHeartbeats 2000000 in
theorem restR_any (T : TypeId) (W w : World) (b : Nat) (v : Value) (l s : List Int) (h : At T W w b v l s) :
    Calls Tryd.prog 87 #[.pointer (some ⟨b, 0, none⟩)] w fun e w' => Tells e (tk 8) ∧ AtR T W w' b v l (bad s) ∧ w.grownBy w' (some b) := by
  have hb0 := h.lt
  have nb1 : ¬ w.heap.size = b := by omega
  have nb2 : ¬ b = w.heap.size := by omega
  have hbw : b < (w.alloc tok0).heap.size := by simp; omega
  have A1 := hide (h.below (bplus (Below.refl _ _) tok0))
  have M0 := hide (Mod.of b (bplus (Below.refl w.heap.size w) tok0))
  have Z := hide (tok0_alloc w)
  clear h
  go_enter Tryd.func87, Tryd.ntmps87
  go_wp2
  go_loopg [] s.length (fun g wr => RelSk bad T W (w.alloc tok0) b v l s g wr)
  case atStart => exact .mk s A1.out (Nat.le_refl _) rfl (Mod.refl _ _)
  case round =>
    clear A1
    obtain ⟨t, A1, hg, R, M⟩ := hrel
    obtain ⟨p, ST, hpl, hlb⟩ := A1.stand
    have hp9 : p ≤ 140737488355328 := by omega
    replace ST := hide ST
    replace M := hide M
    clear A1
    obtain ⟨x, hx0⟩ : ∃ x, nx t 0 = x := ⟨_, rfl⟩
    have H0 := hide (show nx t (Int.toNat 0) = x from hx0)
    obtain ⟨y, hy0⟩ : ∃ y, nx t 1 = y := ⟨_, rfl⟩
    have H1 := hide (show nx t (Int.toNat 1) = y from hy0)
    obtain ⟨t1, ht1⟩ : ∃ u, t.drop 1 = u := ⟨_, rfl⟩
    have T1 := hide ht1
    have lt1 : t1.length = t.length - 1 := by rw [← ht1, List.length_drop]
    have HY := hide (show nx t1 (Int.toNat 0) = y by rw [← ht1]; show nx (t.drop 1) 0 = y; rw [nx_drop]; exact hy0)
    by_cases hd : x = -1 ∨ x = 41
    · have E := hide (R.out.trans (bad_end (by rw [hx0]; exact hd)))
      clear hx0 hy0 ht1
      rcases hd with rfl | rfl
      all_goals
        go_wp2_with (first
          | (go_at_call 55; refine (standAt_any T W _ b v l t p _ ST.out (by decide) (by decide)).mono ?_; rintro e w1 ⟨he, B1⟩; (first | (rw [H0.out] at he)); subst he; replace ST := hide (ST.out.below B1); replace M := hide (Mod.trans M.out (Mod.of b B1)); (try clear c1 f1); have c1 := ST.out.c1; have f1 := ST.out.f1; (try clear f0 f2 f3 f4 f5 c0 c2 c3 c4 c5 g1 d1); obtain ⟨f0, g1, f2, f3, f4, f5, c0, d1, c2, c3, c4, c5⟩ := tok0_free (keep Z.out (Nat.ne_of_gt hb0) M.out); clear B1))
        have FA := (ST.out.inc 1 ((p : Int) + 1) (by omega) (by omega)).atR (by omega)
        have MM := Mod.trans M0.out (Mod.trans M.out (ST.out.mod ((p : Int) + 1)))
        refine bodyPost_ret (v := tkV 8 ⟨#[]⟩ 0 0 false false) (by simp [results, Tryd.results87, go_sem, tkV, c0, d1, c2, c3, c4, c5]) rfl ?_
        exact ⟨.tk rfl, by rw [E.out]; repeat (first | (with_reducible exact FA) | (with_reducible refine AtR.put ?_ hb0 _ _)), by repeat (first | (with_reducible exact MM) | (with_reducible refine Mod.put ?_ (Nat.le_refl _) _ _))⟩
    · have e1 : (x == -1) = false := by simp; intro e; exact hd (.inl e)
      have e2 : (x == 41) = false := by simp; intro e; exact hd (.inr e)
      have L := nx_pos (s := t) (by rw [hx0]; intro e; exact hd (.inl e))
      obtain ⟨q, he⟩ : ∃ q, es2 x y = q := ⟨_, rfl⟩
      have YE := hide he
      cases q
      · have E := R.out.trans (bad_go (by rw [hx0]; exact hd) (by rw [hx0, hy0]; exact he))
        rw [ht1] at E
        replace E := hide E
        clear hx0 hy0 ht1 he hd
        go_wp2_with (first
          | (go_at_call 65; refine (escR_any _ _ _).mono ?_; rintro e w2 ⟨rfl, rfl⟩; rw [YE.out])
          | (go_at_call 55; refine (standAt_any T W _ b v l t p _ ST.out (by decide) (by decide)).mono ?_; rintro e w1 ⟨he, B1⟩; (first | (rw [H0.out] at he)); subst he; replace ST := hide (ST.out.below B1); replace M := hide (Mod.trans M.out (Mod.of b B1)); (try clear c1 f1); have c1 := ST.out.c1; have f1 := ST.out.f1; (try clear f0 f2 f3 f4 f5 c0 c2 c3 c4 c5 g1 d1); obtain ⟨f0, g1, f2, f3, f4, f5, c0, d1, c2, c3, c4, c5⟩ := tok0_free (keep Z.out (Nat.ne_of_gt hb0) M.out); clear B1)
          | (go_at_call 55; refine (standAt_any T W _ b v l t1 (p + 1) _ (by have := ST.out.inc 1 ((p : Int) + 1) (by omega) (by omega); rw [T1.out] at this; exact this) (by decide) (by decide)).mono ?_; rintro e w1 ⟨he, B1⟩; rw [HY.out] at he; subst he; have ST2 := ST.out.inc 1 ((p : Int) + 1) (by omega) (by omega); rw [T1.out] at ST2; replace M := hide (Mod.trans (Mod.trans M.out (ST.out.mod ((p : Int) + 1))) (Mod.of b B1)); replace ST := hide (ST2.below B1); clear ST2 B1 c1 f1; (try clear f0 f2 f3 f4 f5 c0 c2 c3 c4 c5 g1 d1); obtain ⟨f0, g1, f2, f3, f4, f5, c0, d1, c2, c3, c4, c5⟩ := tok0_free (keep Z.out (Nat.ne_of_gt hb0) M.out)))
        go_roundg (gk - 1)
        case measure => omega
        case rel => exact .mk t1 (ST.out.at (by omega)) (by omega) E.out M.out
      · have E := R.out.trans (bad_esc (by rw [hx0]; exact hd) (by rw [hx0, hy0]; exact he))
        rw [ht1] at E
        have LT := tesc_len t1
        obtain ⟨⟨z, r⟩, hzr⟩ : ∃ q, tesc t1 = q := ⟨_, rfl⟩
        rw [hzr] at E LT
        have TZ := hide hzr
        replace E := hide E
        clear hx0 hy0 ht1 he hd hzr
        go_wp2_with (first
          | (go_at_call 65; refine (escR_any _ _ _).mono ?_; rintro e w2 ⟨rfl, rfl⟩; rw [YE.out])
          | (go_at_call 55; refine (standAt_any T W _ b v l t p _ ST.out (by decide) (by decide)).mono ?_; rintro e w1 ⟨he, B1⟩; (first | (rw [H0.out] at he)); subst he; replace ST := hide (ST.out.below B1); replace M := hide (Mod.trans M.out (Mod.of b B1)); (try clear c1 f1); have c1 := ST.out.c1; have f1 := ST.out.f1; (try clear f0 f2 f3 f4 f5 c0 c2 c3 c4 c5 g1 d1); obtain ⟨f0, g1, f2, f3, f4, f5, c0, d1, c2, c3, c4, c5⟩ := tok0_free (keep Z.out (Nat.ne_of_gt hb0) M.out); clear B1)
          | (go_at_call 55; refine (standAt_any T W _ b v l t1 (p + 1) _ (by have := ST.out.inc 1 ((p : Int) + 1) (by omega) (by omega); rw [T1.out] at this; exact this) (by decide) (by decide)).mono ?_; rintro e w1 ⟨he, B1⟩; rw [HY.out] at he; subst he; have ST2 := ST.out.inc 1 ((p : Int) + 1) (by omega) (by omega); rw [T1.out] at ST2; replace M := hide (Mod.trans (Mod.trans M.out (ST.out.mod ((p : Int) + 1))) (Mod.of b B1)); replace ST := hide (ST2.below B1); clear ST2 B1 c1 f1; (try clear f0 f2 f3 f4 f5 c0 c2 c3 c4 c5 g1 d1); obtain ⟨f0, g1, f2, f3, f4, f5, c0, d1, c2, c3, c4, c5⟩ := tok0_free (keep Z.out (Nat.ne_of_gt hb0) M.out))
          | (go_at_call 74; refine (takenR_any T W _ b v l t1 (ST.out.at (by omega))).mono ?_; rintro e w4 ⟨he, A2, M2⟩; rw [TZ.out] at he A2; subst he; replace M := hide (Mod.trans M.out M2); have A1 := hide A2; clear A2 M2 f0 f2 f3 f4 f5 c0 c2 c3 c4 c5 g1 d1))
        go_roundg (gk - 1)
        case measure => omega
        case rel => exact .mk r A1.out (by omega) E.out M.out
set_option maxRecDepth 100000 in
set_option maxHeartbeats 4000000 in
theorem textR1_any (T : TypeId) (W w : World) (b : Nat) (v : Value) (l s : List Int) (q : Int) (hq : q = 34 ∨ q = 39) (hL : l.length ≤ 35184372088832) (h : At T W w b v l s) :
    Calls Tryd.prog 63 #[.pointer (some ⟨b, 0, none⟩), .int .i32 q] w fun e w' => Tells e (str q [] s).1 ∧ AtR T W w' b v l (str q [] s).2 ∧ w.grownBy w' (some b) := by
  obtain ⟨i0, hi, hz0, hz1, hz2⟩ := info_parts info32
  have hb0 := h.lt
  have nb1 : ¬ w.heap.size = b := by omega
  have nb2 : ¬ b = w.heap.size := by omega
  have hbw : b < (w.alloc tok0).heap.size := by simp; omega
  have A1 := hide (h.below (bplus (Below.refl _ _) tok0))
  have M0 := hide (Mod.of b (bplus (Below.refl w.heap.size w) tok0))
  have Z := hide (tok0_alloc w)
  have hsl := h.len.1
  clear h
  obtain ⟨w0, hw0⟩ : ∃ w0, w.alloc tok0 = w0 := ⟨_, rfl⟩
  rw [hw0] at hbw A1 M0 Z
  have hw0' : w.alloc (.cells #[.int .i64 0, .string ⟨#[]⟩, .int .i64 0, .int .i64 0, .bool false, .bool false] 66) = w0 := hw0
  have HZ := hide hw0'
  clear hw0 hw0'
  have q1 : (q == -1) = false := by simp; omega
  have q2 : (q == 10) = false := by simp; omega
  have q3 : (q == 92) = false := by simp; omega
  go_enter Tryd.func63, Tryd.ntmps63
  go_wp2
  rw [HZ.out]
  go_loopg [5] s.length (fun g nv wr => RelTx (str q) T W w0 b v l s s.length g nv wr)
  case atStart => exact .mk [] s A1.out (Nat.le_refl _) (by simp) (OwnM.nil _ _ _ _) rfl
  case round =>
    clear A1
    obtain ⟨xs, t, A1, hg, hx, OW, R⟩ := hrel
    obtain ⟨p, ST, hpl, hlb⟩ := A1.stand
    have hp9 : p ≤ 140737488355328 := by omega
    replace ST := hide ST
    replace OW := hide OW
    clear A1
    obtain ⟨x, hx0⟩ : ∃ x, nx t 0 = x := ⟨_, rfl⟩
    have H0 := hide (show nx t (Int.toNat 0) = x from hx0)
    obtain ⟨y, hy0⟩ : ∃ y, nx t 1 = y := ⟨_, rfl⟩
    have H1 := hide (show nx t (Int.toNat 1) = y from hy0)
    obtain ⟨t1, ht1⟩ : ∃ u, t.drop 1 = u := ⟨_, rfl⟩
    have T1 := hide ht1
    have lt1 : t1.length = t.length - 1 := by rw [← ht1, List.length_drop]
    by_cases d1' : x = -1 ∨ x = q
    · have E := hide (R.out.trans (str_end (by rw [hx0]; exact d1')))
      have n10 : (x == 10) = false := by rcases d1' with rfl | rfl; rfl; exact q2
      have n92 : (x == 92) = false := by rcases d1' with rfl | rfl; rfl; exact q3
      clear hx0 hy0 ht1
      have HXN := hide (show xs.length ≤ 4611686018427387904 by omega)
      rcases d1' with rfl | rfl
      all_goals
        go_wp2_with (first
          | (go_at_call 55; refine (standAt_any T W _ b v l t p _ ST.out (by decide) (by decide)).mono ?_; rintro e w1 ⟨he, B1⟩; (first | (rw [H0.out] at he) | (rw [H1.out] at he)); subst he; replace ST := hide (ST.out.below B1); replace OW := hide (OW.out.mod hbw (Mod.of b B1)); (try clear c1 f1); have c1 := ST.out.c1; have f1 := ST.out.f1; (try clear f0 f2 f3 f4 f5 c0 c2 c3 c4 c5 g1 d1); obtain ⟨f0, g1, f2, f3, f4, f5, c0, d1, c2, c3, c4, c5⟩ := tok0_free (keep Z.out (Nat.ne_of_gt hb0) OW.out.2); clear B1)
          | (go_at_call 71; have OW2 := OW.out.mod hbw (ST.out.mod ((p : Int) + 1)); refine (textR_any xs _ _ (OW2.nums HXN.out) (by omega)).mono ?_; rintro e w3 ⟨z, rfl, hz, B1⟩; replace hz := hide hz; replace ST := hide ((ST.out.inc 1 ((p : Int) + 1) (by omega) (by omega)).below B1); replace OW := hide (OW2.mod hbw (Mod.of b B1)); clear B1 OW2 c1 f1; (try clear f0 f2 f3 f4 f5 c0 c2 c3 c4 c5 g1 d1); obtain ⟨f0, g1, f2, f3, f4, f5, c0, d1, c2, c3, c4, c5⟩ := tok0_free (keep Z.out (Nat.ne_of_gt hb0) OW.out.2)))
        have FA := ST.out.atR (by omega)
        have MM := Mod.trans M0.out OW.out.2
        refine bodyPost_ret (v := tkV 5 z 0 0 false false) (by simp [results, Tryd.results63, go_sem, tkV, c0, d1, c2, c3, c4, c5]) rfl ?_
        exact ⟨.tkt (congrArg Prod.fst E.out) hz.out, by rw [E.out]; repeat (first | (with_reducible exact FA) | (with_reducible refine AtR.put ?_ hb0 _ _)), by repeat (first | (with_reducible exact MM) | (with_reducible refine Mod.put ?_ (Nat.le_refl _) _ _))⟩
    · by_cases d2' : x = 10
      · have E := hide (R.out.trans (str_bad (by rw [hx0]; exact d1') (hx0.trans d2')))
        subst d2'
        clear hx0 hy0 ht1
        go_wp2_with (first
          | (go_at_call 55; refine (standAt_any T W _ b v l t p _ ST.out (by decide) (by decide)).mono ?_; rintro e w1 ⟨he, B1⟩; (first | (rw [H0.out] at he) | (rw [H1.out] at he)); subst he; replace ST := hide (ST.out.below B1); replace OW := hide (OW.out.mod hbw (Mod.of b B1)); (try clear c1 f1); have c1 := ST.out.c1; have f1 := ST.out.f1; (try clear f0 f2 f3 f4 f5 c0 c2 c3 c4 c5 g1 d1); obtain ⟨f0, g1, f2, f3, f4, f5, c0, d1, c2, c3, c4, c5⟩ := tok0_free (keep Z.out (Nat.ne_of_gt hb0) OW.out.2); clear B1))
        have FA := ST.out.atR (by omega)
        have MM := Mod.trans M0.out OW.out.2
        refine bodyPost_ret (v := tkV 6 ⟨#[]⟩ 0 0 false false) (by simp [results, Tryd.results63, go_sem, tkV, c0, d1, c2, c3, c4, c5]) rfl ?_
        exact ⟨.tk (congrArg Prod.fst E.out), by rw [E.out]; repeat (first | (with_reducible exact FA) | (with_reducible refine AtR.put ?_ hb0 _ _)), by repeat (first | (with_reducible exact MM) | (with_reducible refine Mod.put ?_ (Nat.le_refl _) _ _))⟩
      · have hp : 0 < t.length := nx_pos (by rw [hx0]; exact fun e => d1' (.inl e))
        have e1 : (x == -1) = false := by simp; exact fun e => d1' (.inl e)
        have e2 : (x == q) = false := by simp; exact fun e => d1' (.inr e)
        have e3 : (x == 10) = false := by simpa using d2'
        by_cases d3 : x = 92
        · have E0 := R.out.trans (str_esc (by rw [hx0]; exact d1') (hx0.trans d3))
          subst d3
          unfold esX at E0
          rw [hy0, ht1] at E0
          by_cases y1 : y = -1
          · rw [if_pos y1] at E0
            simp only [List.append_nil] at E0
            have E := hide E0
            subst y1
            clear hx0 hy0 ht1 E0
            go_wp2_with (first
              | (go_at_call 55; refine (standAt_any T W _ b v l t p _ ST.out (by decide) (by decide)).mono ?_; rintro e w1 ⟨he, B1⟩; (first | (rw [H0.out] at he) | (rw [H1.out] at he)); subst he; replace ST := hide (ST.out.below B1); replace OW := hide (OW.out.mod hbw (Mod.of b B1)); (try clear c1 f1); have c1 := ST.out.c1; have f1 := ST.out.f1; (try clear f0 f2 f3 f4 f5 c0 c2 c3 c4 c5 g1 d1); obtain ⟨f0, g1, f2, f3, f4, f5, c0, d1, c2, c3, c4, c5⟩ := tok0_free (keep Z.out (Nat.ne_of_gt hb0) OW.out.2); clear B1))
            go_roundg (gk - 1)
            case measure => omega
            case rel => exact .mk xs t1 (by have := ST.out.inc 1 ((p : Int) + 1) (by omega) (by omega); rw [T1.out] at this; exact this.at (by omega)) (by omega) (by omega) (OW.out.mod hbw (ST.out.mod _)) E.out
          · rw [if_neg y1] at E0
            have ey1 : (y == -1) = false := by simpa using y1
            by_cases y2 : y = 10
            · rw [if_pos y2] at E0
              simp only [List.append_nil] at E0
              have E := hide E0
              have L2 : 1 < t.length := nx_len (s := t) (k := 1) (by omega)
              subst y2
              clear hx0 hy0 ht1 E0
              go_wp2_with (first
                | (go_at_call 55; refine (standAt_any T W _ b v l t p _ ST.out (by decide) (by decide)).mono ?_; rintro e w1 ⟨he, B1⟩; (first | (rw [H0.out] at he) | (rw [H1.out] at he)); subst he; replace ST := hide (ST.out.below B1); replace OW := hide (OW.out.mod hbw (Mod.of b B1)); (try clear c1 f1); have c1 := ST.out.c1; have f1 := ST.out.f1; (try clear f0 f2 f3 f4 f5 c0 c2 c3 c4 c5 g1 d1); obtain ⟨f0, g1, f2, f3, f4, f5, c0, d1, c2, c3, c4, c5⟩ := tok0_free (keep Z.out (Nat.ne_of_gt hb0) OW.out.2); clear B1))
              go_roundg (gk - 1)
              case measure => omega
              case rel => exact .mk xs (t.drop 2) ((ST.out.inc 2 ((p : Int) + 2) (by omega) (by omega)).at (by omega)) (by rw [List.length_drop]; omega) (by rw [List.length_drop]; omega) (OW.out.mod hbw (ST.out.mod _)) E.out
            · rw [if_neg y2] at E0
              have ey2 : (y == 10) = false := by simpa using y2
              have LT := tesc_len t1
              obtain ⟨⟨z, r⟩, hzr⟩ : ∃ q, tesc t1 = q := ⟨_, rfl⟩
              rw [hzr] at E0 LT
              have TZ := hide hzr
              have E := hide E0
              clear hx0 hy0 ht1 E0 hzr
              go_wp2_with (first
                | (go_at_call 55; refine (standAt_any T W _ b v l t p _ ST.out (by decide) (by decide)).mono ?_; rintro e w1 ⟨he, B1⟩; (first | (rw [H0.out] at he) | (rw [H1.out] at he)); subst he; replace ST := hide (ST.out.below B1); replace OW := hide (OW.out.mod hbw (Mod.of b B1)); (try clear c1 f1); have c1 := ST.out.c1; have f1 := ST.out.f1; (try clear f0 f2 f3 f4 f5 c0 c2 c3 c4 c5 g1 d1); obtain ⟨f0, g1, f2, f3, f4, f5, c0, d1, c2, c3, c4, c5⟩ := tok0_free (keep Z.out (Nat.ne_of_gt hb0) OW.out.2); clear B1)
                | (go_at_call 74; refine (takenR_any T W _ b v l t1 (by have := ST.out.inc 1 ((p : Int) + 1) (by omega) (by omega); rw [T1.out] at this; exact this.at (by omega))).mono ?_; rintro e w4 ⟨he, A2, M2⟩; rw [TZ.out] at he A2; subst he; replace OW := hide (OW.out.mod hbw (Mod.trans (ST.out.mod ((p : Int) + 1)) M2)); have A1 := hide A2; clear A2 M2 ST c1 f1; clear f0 f2 f3 f4 f5 c0 c2 c3 c4 c5 g1 d1)
                | (at_builtin; refine wpList_append_own _ rfl _ _ 81 rfl w0.heap.size 21 i0 (.int .i32 0) 1 4 Tryd.underlying81 hi hz0 hz1 hz2 rfl (by decide) _ _ _ rfl (OW.out.1.alloc _) ⟨_, 0, none⟩ 1 1 [.int .i32 z] rfl rfl (news1 _ _ _) (by intro u hu; simp at hu; subst hu; rfl) (by unfold maxLen; omega) (by omega) (by have := OW.out.2.size; simp; omega) ?_; intro v' w5 hown' hgrow _; replace A1 := hide (A1.out.grow hbw OW.out hgrow); replace OW := hide (OW.out.grow (ys := [z]) hown' hgrow); clear hown' hgrow))
              go_roundg (gk - 1)
              case measure => omega
              case rel => exact .mk (xs ++ [z]) r A1.out (by omega) (by rw [List.length_append, List.length_singleton]; omega) OW.out E.out
        · have e4 : (x == 92) = false := by simpa using d3
          have E := R.out.trans (str_go (by rw [hx0]; exact d1') (by rw [hx0]; exact d2') (by rw [hx0]; exact d3))
          rw [hx0, ht1] at E
          replace E := hide E
          clear hx0 hy0 ht1
          go_wp2_with (first
            | (go_at_call 55; refine (standAt_any T W _ b v l t p _ ST.out (by decide) (by decide)).mono ?_; rintro e w1 ⟨he, B1⟩; (first | (rw [H0.out] at he) | (rw [H1.out] at he)); subst he; replace ST := hide (ST.out.below B1); replace OW := hide (OW.out.mod hbw (Mod.of b B1)); (try clear c1 f1); have c1 := ST.out.c1; have f1 := ST.out.f1; (try clear f0 f2 f3 f4 f5 c0 c2 c3 c4 c5 g1 d1); obtain ⟨f0, g1, f2, f3, f4, f5, c0, d1, c2, c3, c4, c5⟩ := tok0_free (keep Z.out (Nat.ne_of_gt hb0) OW.out.2); clear B1)
            | (at_builtin; have O2 := hide (OW.out.mod hbw (ST.out.mod ((p : Int) + 1))); have S2 := ST.out.inc 1 ((p : Int) + 1) (by omega) (by omega); rw [T1.out] at S2; refine wpList_append_own _ rfl _ _ 81 rfl w0.heap.size 21 i0 (.int .i32 0) 1 4 Tryd.underlying81 hi hz0 hz1 hz2 rfl (by decide) _ _ _ rfl (O2.out.1.alloc _) ⟨_, 0, none⟩ 1 1 [.int .i32 x] rfl rfl (news1q _ _ (by simp) _ _) (by intro u hu; simp at hu; subst hu; rfl) (by unfold maxLen; omega) (by omega) (by have := O2.out.2.size; simp at this ⊢; omega) ?_; intro v' w5 hown' hgrow _; replace ST := hide (S2.grow hbw O2.out hgrow); replace OW := hide (O2.out.grow (ys := [x]) hown' hgrow); clear hown' hgrow S2 O2 c1 f1 f0 f2 f3 f4 f5 c0 c2 c3 c4 c5 g1 d1))
          go_roundg (gk - 1)
          case measure => omega
          case rel => exact .mk (xs ++ [x]) t1 (ST.out.at (by omega)) (by omega) (by rw [List.length_append, List.length_singleton]; omega) OW.out E.out
end Go.Proofs.YtlkocepoohhglaaDoor
