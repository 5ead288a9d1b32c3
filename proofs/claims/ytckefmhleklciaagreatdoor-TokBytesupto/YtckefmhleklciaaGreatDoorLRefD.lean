/-
  The reference's names.
-/
import Derived.Test.YtckefmhleklciaaGreatDoorLRefC
set_option linter.unusedVariables false
set_option linter.unusedSimpArgs false
namespace Go.Proofs.YtckefmhleklciaaGreatDoor
open Go.RowKit

/-- The reader stands while an own slice grows. -/
theorem Stand.grow {T : TypeId} {W w wr w1 : World} {b : Nat} {u v : Value} {l s : List Int} {p : Nat} {o : Obj} {k : IntKind} {e : TypeId} {xs : List Int} (h : Stand T W wr b u l s p) (hb : b < w.heap.size) (ho : OwnM b w k e wr v xs) (hg : (wr.alloc o).grownBy w1 v.ownBlock) : Stand T W w1 b u l s p := by
  have B := bplus (Below.refl wr.heap.size wr) o
  have h1 := h.rd
  have hbe := h1.ge
  refine ⟨⟨(bto h1.bel B).grown hg (Nat.le_trans h1.bel.size B.size) (fun k hk => by have := (ho.1.lt k hk).1; omega), h1.ge, ?_, h1.nums, h1.len, h1.le⟩, h.eq⟩
  exact (hg.block b (Nat.lt_of_lt_of_le h1.lt B.size) (fun e => by have := (ho.1.lt b e.symm).1; omega)).trans ((B.block b h1.lt).trans h1.blk)
set_option maxRecDepth 100000 in
set_option maxHeartbeats 2000000 in
theorem nameR_any (T : TypeId) (W w0 : World) (b : Nat) (v : Value) (l s : List Int) (hL : l.length ≤ 35184372088832) (h : At T W w0 b v l s) :
    Calls Tryz.prog 41 #[.pointer (some ⟨b, 0, none⟩)] w0 fun e w' => ∃ t, e = .returned (.string t) ∧ bl t = enc (nam [] s).1 ∧ At T W w' b v l (nam [] s).2 ∧ w0.grownBy w' (some b) := by
  obtain ⟨i0, hi, hz0, hz1, hz2⟩ := info_parts info32
  have hbw := h.lt
  have hsl := h.len.1
  have H := hide h
  clear h
  go_enter Tryz.func41, Tryz.ntmps41
  go_wp2
  go_loopg [3] s.length (fun g nv wr => RelNm T W w0 b v l s g nv wr)
  case atStart => exact .mk [] s H.out (Nat.le_refl _) (by simp) (OwnM.nil _ _ _ _) rfl
  case round =>
    clear H
    obtain ⟨xs, t, A1, hg, hx, OW, R⟩ := hrel
    obtain ⟨p, ST, hpl, hlb⟩ := A1.stand
    have hp9 : p ≤ 140737488355328 := by omega
    replace ST := hide ST
    replace OW := hide OW
    clear A1
    obtain ⟨x, hx0⟩ : ∃ x, nx t 0 = x := ⟨_, rfl⟩
    have H0 := hide (show nx t (Int.toNat 0) = x from hx0)
    obtain ⟨y, hy0⟩ : ∃ y, nx t 1 = y := ⟨_, rfl⟩
    have H1 := hide (show nx t (Int.toNat 1) = y from hy0)
    obtain ⟨t1, ht1⟩ : ∃ u, t.drop 1 = u := ⟨_, rfl⟩
    have T1 := hide ht1
    have lt1 : t1.length = t.length - 1 := by rw [← ht1, List.length_drop]
    cases hb : isLet x
    · have YL := hide hb
      cases he : es2 x y
      · have YE := hide he
        have E := hide (R.out.trans (nam_end (by rw [hx0]; exact hb) (by rw [hx0, hy0]; exact he)))
        clear hb he hx0 hy0 ht1
        by_cases hm : x = -1
        · subst hm
          go_wp2_with (first
            | (go_at_call 18; refine (standAt_any T W _ b v l t p _ ST.out (by decide) (by decide)).mono ?_; rintro e w1 ⟨he, B1⟩; (first | (rw [H0.out] at he) | (rw [H1.out] at he)); subst he; replace ST := hide (ST.out.below B1); replace OW := hide (OW.out.mod hbw (Mod.of b B1)); (try clear c1 f1); have c1 := ST.out.c1; have f1 := ST.out.f1; clear B1)
            | (go_at_call 38; refine (isLetR_any _ _).mono ?_; rintro e w2 ⟨rfl, rfl⟩; rw [YL.out])
            | (go_at_call 39; refine (escR_any _ _ _).mono ?_; rintro e w2 ⟨rfl, rfl⟩; rw [YE.out])
            | (go_at_call 45; refine (textR_any xs _ _ (OW.out.nums (by omega)) (by omega)).mono ?_; rintro e w3 ⟨z, rfl, hz, B1⟩; replace hz := hide hz; replace ST := hide (ST.out.below B1); replace OW := hide (OW.out.mod hbw (Mod.of b B1)); clear B1))
          go_ret
          exact ⟨_, rfl, by have e1 := hz.out; have e2 := E.out; rw [e1, e2], by rw [E.out]; exact ST.out.at (by omega), OW.out.2⟩
        · have em : (x != -1) = true := by simpa using hm
          go_wp2_with (first
            | (go_at_call 18; refine (standAt_any T W _ b v l t p _ ST.out (by decide) (by decide)).mono ?_; rintro e w1 ⟨he, B1⟩; (first | (rw [H0.out] at he) | (rw [H1.out] at he)); subst he; replace ST := hide (ST.out.below B1); replace OW := hide (OW.out.mod hbw (Mod.of b B1)); (try clear c1 f1); have c1 := ST.out.c1; have f1 := ST.out.f1; clear B1)
            | (go_at_call 38; refine (isLetR_any _ _).mono ?_; rintro e w2 ⟨rfl, rfl⟩; rw [YL.out])
            | (go_at_call 39; refine (escR_any _ _ _).mono ?_; rintro e w2 ⟨rfl, rfl⟩; rw [YE.out])
            | (go_at_call 45; refine (textR_any xs _ _ (OW.out.nums (by omega)) (by omega)).mono ?_; rintro e w3 ⟨z, rfl, hz, B1⟩; replace hz := hide hz; replace ST := hide (ST.out.below B1); replace OW := hide (OW.out.mod hbw (Mod.of b B1)); clear B1))
          go_ret
          exact ⟨_, rfl, by have e1 := hz.out; have e2 := E.out; rw [e1, e2], by rw [E.out]; exact ST.out.at (by omega), OW.out.2⟩
      · have YE := hide he
        have L := es2_ne (s := t) (b := y) (by rw [hx0]; exact he)
        have LT := tesc_len t1
        have E := R.out.trans (nam_esc (by rw [hx0]; exact hb) (by rw [hx0, hy0]; exact he))
        rw [ht1] at E
        obtain rfl : x = 92 := by unfold es2 at he; simp at he; exact he.1
        clear hb he hx0 hy0 ht1
        obtain ⟨⟨z, r⟩, hzr⟩ : ∃ q, tesc t1 = q := ⟨_, rfl⟩
        rw [hzr] at E LT
        have TZ := hide hzr
        replace E := hide E
        clear hzr
        go_wp2_with (first
          | (go_at_call 18; refine (standAt_any T W _ b v l t p _ ST.out (by decide) (by decide)).mono ?_; rintro e w1 ⟨he, B1⟩; (first | (rw [H0.out] at he) | (rw [H1.out] at he)); subst he; replace ST := hide (ST.out.below B1); replace OW := hide (OW.out.mod hbw (Mod.of b B1)); (try clear c1 f1); have c1 := ST.out.c1; have f1 := ST.out.f1; clear B1)
          | (go_at_call 38; refine (isLetR_any _ _).mono ?_; rintro e w2 ⟨rfl, rfl⟩; rw [YL.out])
          | (go_at_call 39; refine (escR_any _ _ _).mono ?_; rintro e w2 ⟨rfl, rfl⟩; rw [YE.out])
          | (go_at_call 68; refine (takenR_any T W _ b v l t1 (by have := ST.out.inc 1 ((p : Int) + 1) (by omega) (by omega); rw [T1.out] at this; exact this.at (by omega))).mono ?_; rintro e w4 ⟨he, A2, M2⟩; rw [TZ.out] at he A2; subst he; replace OW := hide (OW.out.mod hbw (Mod.trans (ST.out.mod ((p : Int) + 1)) M2)); have A1 := hide A2; clear A2 M2 ST c1 f1)
          | (at_builtin; refine wpList_append_own _ rfl _ _ 22 rfl w0.heap.size 21 i0 (.int .i32 0) 1 4 Tryz.underlying22 hi hz0 hz1 hz2 rfl (by decide) _ _ _ rfl (OW.out.1.alloc _) ⟨_, 0, none⟩ 1 1 [.int .i32 z] rfl rfl (news1 _ _ _) (by intro u hu; simp at hu; subst hu; rfl) (by unfold maxLen; omega) (by omega) (by have := OW.out.2.size; simp; omega) ?_; intro v' w5 hown' hgrow _; replace A1 := hide (A1.out.grow hbw OW.out hgrow); replace OW := hide (OW.out.grow (ys := [z]) hown' hgrow); clear hown' hgrow))
        go_roundg (gk - 1)
        case measure => omega
        case rel => exact .mk (xs ++ [z]) r A1.out (by omega) (by rw [List.length_append, List.length_singleton]; omega) OW.out E.out
    · have YL := hide hb
      have L := isLet_ne (s := t) (by rw [hx0]; exact hb)
      have hm : x ≠ -1 := by intro e; rw [e] at hb; exact absurd hb (by decide)
      have em : (x != -1) = true := by simpa using hm
      have E := R.out.trans (nam_let (by rw [hx0]; exact hb))
      rw [hx0, ht1] at E
      replace E := hide E
      clear hb hx0 hy0 ht1
      go_wp2_with (first
        | (go_at_call 18; refine (standAt_any T W _ b v l t p _ ST.out (by decide) (by decide)).mono ?_; rintro e w1 ⟨he, B1⟩; (first | (rw [H0.out] at he) | (rw [H1.out] at he)); subst he; replace ST := hide (ST.out.below B1); replace OW := hide (OW.out.mod hbw (Mod.of b B1)); (try clear c1 f1); have c1 := ST.out.c1; have f1 := ST.out.f1; clear B1)
        | (go_at_call 38; refine (isLetR_any _ _).mono ?_; rintro e w2 ⟨rfl, rfl⟩; rw [YL.out])
        | (at_builtin; refine wpList_append_own _ rfl _ _ 22 rfl w0.heap.size 21 i0 (.int .i32 0) 1 4 Tryz.underlying22 hi hz0 hz1 hz2 rfl (by decide) _ _ _ rfl (OW.out.1.alloc _) ⟨_, 0, none⟩ 1 1 [.int .i32 x] rfl rfl (news1 _ _ _) (by intro u hu; simp at hu; subst hu; rfl) (by unfold maxLen; omega) (by omega) (by have := OW.out.2.size; simp; omega) ?_; intro v' w5 hown' hgrow _; replace ST := hide (ST.out.grow hbw OW.out hgrow); replace OW := hide (OW.out.grow (ys := [x]) hown' hgrow); (try clear c1 f1); have c1 := ST.out.c1; have f1 := ST.out.f1; clear hown' hgrow))
      go_roundg (gk - 1)
      case measure => omega
      case rel => exact .mk (xs ++ [x]) t1 (by have := ST.out.inc 1 ((p : Int) + 1) (by omega) (by omega); rw [T1.out] at this; exact this.at (by omega)) (by omega) (by rw [List.length_append, List.length_singleton]; omega) (OW.out.mod hbw (ST.out.mod _)) E.out
end Go.Proofs.YtckefmhleklciaaGreatDoor
