/-
  The reference's blanks, digits, remarks.
-/
import Derived.Test.YtckefmhleklciaaGreatDoorLRefA
set_option linter.unusedVariables false
set_option linter.unusedSimpArgs false
namespace Go.Proofs.YtckefmhleklciaaGreatDoor
open Go.RowKit

set_option maxHeartbeats 1000000 in
theorem blanksR_any (T : TypeId) (W w : World) (b : Nat) (v : Value) (l s : List Int) (h : At T W w b v l s) :
    Calls Tryz.prog 36 #[.pointer (some ⟨b, 0, none⟩)] w fun e w' => e = .returned (.tuple #[]) ∧ At T W w' b v l (bls s) ∧ w.grownBy w' (some b) := by
  have H := hide h
  clear h
  go_enter Tryz.func36, Tryz.ntmps36
  go_wp2
  go_loopg [] s.length (fun g wr => RelSk bls T W w b v l s g wr)
  case atStart => exact .mk s H.out (Nat.le_refl _) rfl (Mod.refl _ _)
  case round =>
    clear H
    obtain ⟨t, A1, hg, R, M⟩ := hrel
    obtain ⟨p, ST, hpl, hlb⟩ := A1.stand
    replace ST := hide ST
    replace M := hide M
    clear A1
    obtain ⟨x, hx⟩ : ∃ x, nx t 0 = x := ⟨_, rfl⟩
    have H0 := hide (show nx t (Int.toNat 0) = x from hx)
    cases hb : isBl x
    · have HB := hide hb
      have E := hide (R.out.trans (bls_no (by rw [hx]; exact hb)))
      clear hb hx
      go_wp2_with (first
        | (go_at_call 18; refine (standAt_any T W _ b v l t p _ ST.out (by decide) (by decide)).mono ?_; rintro e w1 ⟨he, B1⟩; (first | (rw [H0.out] at he)); subst he; replace ST := hide (ST.out.below B1); replace M := hide (Mod.trans M.out (Mod.of b B1)); (try clear c1 f1); have c1 := ST.out.c1; have f1 := ST.out.f1; clear B1)
        | (go_at_call 35; refine (isBlR_any _ _).mono ?_; rintro e w2 ⟨rfl, rfl⟩; rw [HB.out]))
      go_end0
      exact ⟨rfl, by rw [E.out]; exact ST.out.at (by omega), M.out⟩
    · have HB := hide hb
      have L := isBl_ne (s := t) (by rw [hx]; exact hb)
      have E := hide (R.out.trans (bls_go (by rw [hx]; exact hb)))
      have hp9 : p ≤ 140737488355328 := by omega
      clear hb hx
      go_wp2_with (first
        | (go_at_call 18; refine (standAt_any T W _ b v l t p _ ST.out (by decide) (by decide)).mono ?_; rintro e w1 ⟨he, B1⟩; (first | (rw [H0.out] at he)); subst he; replace ST := hide (ST.out.below B1); replace M := hide (Mod.trans M.out (Mod.of b B1)); (try clear c1 f1); have c1 := ST.out.c1; have f1 := ST.out.f1; clear B1)
        | (go_at_call 35; refine (isBlR_any _ _).mono ?_; rintro e w2 ⟨rfl, rfl⟩; rw [HB.out]))
      go_roundg (gk - 1)
      case measure => omega
      case rel => exact .mk (t.drop 1) ((ST.out.inc 1 _ (by omega) (by omega)).at (by omega)) (by rw [List.length_drop]; omega) E.out (Mod.trans M.out (ST.out.mod _))
set_option maxHeartbeats 1000000 in
theorem digitsR_any (T : TypeId) (W w : World) (b : Nat) (v : Value) (l s : List Int) (h : At T W w b v l s) :
    Calls Tryz.prog 71 #[.pointer (some ⟨b, 0, none⟩)] w fun e w' => e = .returned (.tuple #[]) ∧ At T W w' b v l (dgs s) ∧ w.grownBy w' (some b) := by
  have H := hide h
  clear h
  go_enter Tryz.func71, Tryz.ntmps71
  go_wp2
  go_loopg [] s.length (fun g wr => RelSk dgs T W w b v l s g wr)
  case atStart => exact .mk s H.out (Nat.le_refl _) rfl (Mod.refl _ _)
  case round =>
    clear H
    obtain ⟨t, A1, hg, R, M⟩ := hrel
    obtain ⟨p, ST, hpl, hlb⟩ := A1.stand
    replace ST := hide ST
    replace M := hide M
    clear A1
    obtain ⟨x, hx⟩ : ∃ x, nx t 0 = x := ⟨_, rfl⟩
    have H0 := hide (show nx t (Int.toNat 0) = x from hx)
    cases hb : isDig x
    · have HB := hide hb
      have E := hide (R.out.trans (dgs_no (by rw [hx]; exact hb)))
      clear hb hx
      go_wp2_with (first
        | (go_at_call 18; refine (standAt_any T W _ b v l t p _ ST.out (by decide) (by decide)).mono ?_; rintro e w1 ⟨he, B1⟩; (first | (rw [H0.out] at he)); subst he; replace ST := hide (ST.out.below B1); replace M := hide (Mod.trans M.out (Mod.of b B1)); (try clear c1 f1); have c1 := ST.out.c1; have f1 := ST.out.f1; clear B1)
        | (go_at_call 70; refine (isDigR_any _ _).mono ?_; rintro e w2 ⟨rfl, rfl⟩; rw [HB.out]))
      go_end0
      exact ⟨rfl, by rw [E.out]; exact ST.out.at (by omega), M.out⟩
    · have HB := hide hb
      have L := isDig_ne (s := t) (by rw [hx]; exact hb)
      have E := hide (R.out.trans (dgs_go (by rw [hx]; exact hb)))
      have hp9 : p ≤ 140737488355328 := by omega
      clear hb hx
      go_wp2_with (first
        | (go_at_call 18; refine (standAt_any T W _ b v l t p _ ST.out (by decide) (by decide)).mono ?_; rintro e w1 ⟨he, B1⟩; (first | (rw [H0.out] at he)); subst he; replace ST := hide (ST.out.below B1); replace M := hide (Mod.trans M.out (Mod.of b B1)); (try clear c1 f1); have c1 := ST.out.c1; have f1 := ST.out.f1; clear B1)
        | (go_at_call 70; refine (isDigR_any _ _).mono ?_; rintro e w2 ⟨rfl, rfl⟩; rw [HB.out]))
      go_roundg (gk - 1)
      case measure => omega
      case rel => exact .mk (t.drop 1) ((ST.out.inc 1 _ (by omega) (by omega)).at (by omega)) (by rw [List.length_drop]; omega) E.out (Mod.trans M.out (ST.out.mod _))
theorem AtR.end {T : TypeId} {W w : World} {b : Nat} {v : Value} {l s : List Int} (h : AtR T W w b v l s) (hn : nx s 0 = -1) : s = [] := by
  obtain ⟨p, _, _, rfl⟩ := h.ex
  generalize hd : (chs l).drop p = r at *
  cases r with
  | nil => rfl
  | cons x r =>
    have hm : x ∈ (chs l).drop p := by rw [hd]; simp
    obtain ⟨y, _, rfl⟩ := List.mem_map.1 (List.mem_of_mem_drop hm)
    have hx := isC_chr y
    rw [isC_iff] at hx
    have : chr y = -1 := hn
    omega
theorem Stand.end {T : TypeId} {W w : World} {b : Nat} {v : Value} {l s : List Int} {p : Nat} (h : Stand T W w b v l s p) (hp : p ≤ l.length) (hn : nx s 0 = -1) : s = [] := (h.at hp).end hn
def RelSr (f : List Int → List Int) (T : TypeId) (W w : World) (b : Nat) (v : Value) (l s : List Int) (g : Nat) (wr : World) : Prop :=
  ∃ t, AtR T W wr b v l t ∧ t.length ≤ g ∧ Hid (f s = f t) ∧ w.grownBy wr (some b)
theorem RelSr.mk {f : List Int → List Int} {T : TypeId} {W w : World} {b : Nat} {v : Value} {l s : List Int} {g : Nat} {wr : World} (t : List Int) (h1 : AtR T W wr b v l t) (h2 : t.length ≤ g) (h3 : f s = f t) (h4 : w.grownBy wr (some b)) : RelSr f T W w b v l s g wr := ⟨t, h1, h2, h3, h4⟩
set_option maxRecDepth 100000 in
set_option maxHeartbeats 2000000 in
theorem remarksR_any (T : TypeId) (W w : World) (b : Nat) (v : Value) (l s : List Int) (h : AtR T W w b v l s) :
    Calls Tryz.prog 17 #[.pointer (some ⟨b, 0, none⟩)] w fun e w' => e = .returned (.tuple #[]) ∧ AtR T W w' b v l (rmk s) ∧ w.grownBy w' (some b) := by
  have H := hide h
  clear h
  go_enter Tryz.func17, Tryz.ntmps17
  go_wp2
  go_loopg [] s.length (fun g wr => RelSr rmk T W w b v l s g wr)
  case atStart => exact .mk s H.out (Nat.le_refl _) rfl (Mod.refl _ _)
  case round =>
    clear H
    obtain ⟨t, A1, hg, R, M⟩ := hrel
    replace A1 := hide A1
    replace M := hide M
    obtain ⟨x, hx⟩ : ∃ x, nx t 0 = x := ⟨_, rfl⟩
    have H0 := hide (show nx t (Int.toNat 0) = x from hx)
    obtain ⟨y, hy⟩ : ∃ y, nx t 1 = y := ⟨_, rfl⟩
    have H1 := hide (show nx t (Int.toNat 1) = y from hy)
    by_cases hq : x = 47 ∧ y = 42
    · obtain ⟨rfl, rfl⟩ := hq
      have L := nx_pos (s := t) (by omega)
      have E := hide (R.out.trans (rmk_go hx hy))
      obtain ⟨p, ST, hpl, hlb⟩ := (A1.out.in (by omega)).stand
      replace ST := hide ST
      have L2 : 1 < t.length := nx_len (s := t) (k := 1) (by omega)
      have hp9 : p ≤ 140737488355328 := by omega
      have HG := hide hg
      clear hx hy R hg A1
      go_wp2_with (first
        | (go_at_call 18; refine (standAt_any T W _ b v l t p _ ST.out (by decide) (by decide)).mono ?_; rintro e w1 ⟨he, B1⟩; (first | (rw [H0.out] at he) | (rw [H1.out] at he)); subst he; replace ST := hide (ST.out.below B1); replace M := hide (Mod.trans M.out (Mod.of b B1)); (try clear c1 f1); have c1 := ST.out.c1; have f1 := ST.out.f1; clear B1))
      replace M := hide (Mod.trans M.out (ST.out.mod ((p : Int) + 2)))
      replace ST := hide (ST.out.inc 2 ((p : Int) + 2) (by omega) (by omega))
      clear c1 f1 H0 H1
      obtain ⟨t2, ht2⟩ : ∃ x, t.drop 2 = x := ⟨_, rfl⟩
      have lt2 : t2.length = t.length - 2 := by rw [← ht2, List.length_drop]
      rw [ht2] at ST E
      clear ht2
      go_loopg [] t2.length (fun g wr => RelSk untl T W w b v l t2 g wr)
      case atStart => exact .mk t2 (ST.out.at (by omega)) (Nat.le_refl _) rfl M.out
      case round =>
        clear ST M
        obtain ⟨z, A1, hg2, R2, M⟩ := hrel
        obtain ⟨p, ST, hpl, hlb⟩ := A1.stand
        have hp9 : p ≤ 140737488355328 := by omega
        replace ST := hide ST
        replace M := hide M
        clear A1
        have LX := untl_len t2
        obtain ⟨x, hx⟩ : ∃ x, nx z 0 = x := ⟨_, rfl⟩
        have H0 := hide (show nx z (Int.toNat 0) = x from hx)
        obtain ⟨y, hy⟩ : ∃ y, nx z 1 = y := ⟨_, rfl⟩
        have H1 := hide (show nx z (Int.toNat 1) = y from hy)
        by_cases hm : x = -1
        · subst hm
          have X0 := ST.out.end (by omega) hx
          have U : untl t2 = z.drop 2 := by rw [R2.out, X0]; rfl
          rw [U] at E LX
          clear hx hy X0 U
          go_wp2_with (first
            | (go_at_call 18; refine (standAt_any T W _ b v l z p _ ST.out (by decide) (by decide)).mono ?_; rintro e w1 ⟨he, B1⟩; (first | (rw [H0.out] at he) | (rw [H1.out] at he)); subst he; replace ST := hide (ST.out.below B1); replace M := hide (Mod.trans M.out (Mod.of b B1)); (try clear c1 f1); have c1 := ST.out.c1; have f1 := ST.out.f1; clear B1))
          go_roundg (t.length - 1)
          case measure => have := HG.out; omega
          case rel => exact .mk (z.drop 2) ((ST.out.inc 2 _ (by omega) (by omega)).atR (by omega)) (by omega) E.out (Mod.trans M.out (ST.out.mod _))
        · have PX := nx_pos (s := z) (by rw [hx]; exact hm)
          have n1 : (x != -1) = true := by simpa using hm
          by_cases hs : x = 42 ∧ y = 47
          · obtain ⟨rfl, rfl⟩ := hs
            have U : untl t2 = z.drop 2 := by rw [R2.out]; exact untl_stop hx hy
            rw [U] at E LX
            have L3 : 1 < z.length := nx_len (s := z) (k := 1) (by omega)
            clear hx hy U
            go_wp2_with (first
              | (go_at_call 18; refine (standAt_any T W _ b v l z p _ ST.out (by decide) (by decide)).mono ?_; rintro e w1 ⟨he, B1⟩; (first | (rw [H0.out] at he) | (rw [H1.out] at he)); subst he; replace ST := hide (ST.out.below B1); replace M := hide (Mod.trans M.out (Mod.of b B1)); (try clear c1 f1); have c1 := ST.out.c1; have f1 := ST.out.f1; clear B1))
            go_roundg (t.length - 1)
            case measure => have := HG.out; omega
            case rel => exact .mk (z.drop 2) ((ST.out.inc 2 _ (by omega) (by omega)).atR (by omega)) (by omega) E.out (Mod.trans M.out (ST.out.mod _))
          · have U := hide (R2.out.trans (untl_go (s := z) (by rw [hx, hy]; exact hs)))
            clear hx hy
            by_cases h42 : x = 42
            · subst h42
              have n2 : (y != 47) = true := by simp; intro e; exact hs ⟨rfl, e⟩
              go_wp2_with (first
                | (go_at_call 18; refine (standAt_any T W _ b v l z p _ ST.out (by decide) (by decide)).mono ?_; rintro e w1 ⟨he, B1⟩; (first | (rw [H0.out] at he) | (rw [H1.out] at he)); subst he; replace ST := hide (ST.out.below B1); replace M := hide (Mod.trans M.out (Mod.of b B1)); (try clear c1 f1); have c1 := ST.out.c1; have f1 := ST.out.f1; clear B1))
              go_roundg (z.length - 1)
              case measure => omega
              case rel => exact .mk (z.drop 1) ((ST.out.inc 1 _ (by omega) (by omega)).at (by omega)) (by rw [List.length_drop]; omega) U.out (Mod.trans M.out (ST.out.mod _))
            · have n2 : (x != 42) = true := by simpa using h42
              go_wp2_with (first
                | (go_at_call 18; refine (standAt_any T W _ b v l z p _ ST.out (by decide) (by decide)).mono ?_; rintro e w1 ⟨he, B1⟩; (first | (rw [H0.out] at he) | (rw [H1.out] at he)); subst he; replace ST := hide (ST.out.below B1); replace M := hide (Mod.trans M.out (Mod.of b B1)); (try clear c1 f1); have c1 := ST.out.c1; have f1 := ST.out.f1; clear B1))
              go_roundg (z.length - 1)
              case measure => omega
              case rel => exact .mk (z.drop 1) ((ST.out.inc 1 _ (by omega) (by omega)).at (by omega)) (by rw [List.length_drop]; omega) U.out (Mod.trans M.out (ST.out.mod _))
    · have E := hide (R.out.trans (rmk_end (s := t) (by rw [hx, hy]; exact hq)))
      clear hx hy
      by_cases h47 : x = 47
      · subst h47
        have n2 : (y == 42) = false := by simp; intro e; exact hq ⟨rfl, e⟩
        go_wp2_with (first
          | (go_at_call 18; refine (atR_any T W _ b v l t _ A1.out (by decide) (by decide)).mono ?_; rintro e w1 ⟨he, B1⟩; (first | (rw [H0.out] at he) | (rw [H1.out] at he)); subst he; replace A1 := hide (A1.out.below B1); replace M := hide (Mod.trans M.out (Mod.of b B1)); clear B1))
        go_end0
        exact ⟨rfl, by rw [E.out]; exact A1.out, M.out⟩
      · have n2 : (x == 47) = false := by simpa using h47
        go_wp2_with (first
          | (go_at_call 18; refine (atR_any T W _ b v l t _ A1.out (by decide) (by decide)).mono ?_; rintro e w1 ⟨he, B1⟩; (first | (rw [H0.out] at he) | (rw [H1.out] at he)); subst he; replace A1 := hide (A1.out.below B1); replace M := hide (Mod.trans M.out (Mod.of b B1)); clear B1))
        go_end0
        exact ⟨rfl, by rw [E.out]; exact A1.out, M.out⟩
end Go.Proofs.YtckefmhleklciaaGreatDoor
