/-
  A name taken, by the program.
-/
import Derived.Test.YtckefmhleklciaaGreatDoorTokK
import Derived.Outline
set_option linter.unusedVariables false
set_option linter.unusedSimpArgs false
namespace Go.Proofs.YtckefmhleklciaaGreatDoor
open Go.RowKit

/-- An own slice beside a reader in block b. -/
def OwnM (b : Nat) (w : World) (k : IntKind) (e : TypeId) (wr : World) (v : Value) (xs : List Int) : Prop :=
  wr.ownsRow w.heap.size e 1 v xs.length (xs.map (Value.int k)) ∧ w.grownBy wr (some b)
theorem OwnM.nil (b : Nat) (w : World) (k : IntKind) (e : TypeId) : OwnM b w k e w (.slice none 0 0) [] := ⟨World.ownsRow_nil _ _ _ _, Mod.refl _ _⟩
theorem OwnM.mod {b : Nat} {w wr w1 : World} {k : IntKind} {e : TypeId} {v : Value} {xs : List Int} (h : OwnM b w k e wr v xs) (hb : b < w.heap.size) (hg : wr.grownBy w1 (some b)) : OwnM b w k e w1 v xs := by
  refine ⟨⟨h.1.1, ?_⟩, Mod.trans h.2 hg⟩
  rcases h.1.2 with h1 | ⟨g, cap, cur, hv, hbg, hh, rest⟩
  · exact .inl h1
  · exact .inr ⟨g, cap, cur, hv, hbg, (hg.block g (Array.getElem?_eq_some_iff.1 hh).1 (by intro e; cases e; omega)).trans hh, rest⟩
theorem OwnM.grow {b : Nat} {w wr w1 : World} {k : IntKind} {e : TypeId} {v v' : Value} {xs ys : List Int} {o : Obj} (h : OwnM b w k e wr v xs)
    (h1 : w1.ownsRow w.heap.size e 1 v' (xs.length + ys.length) (xs.map (Value.int k) ++ ys.map (Value.int k))) (hg : (wr.alloc o).grownBy w1 v.ownBlock) : OwnM b w k e w1 v' (xs ++ ys) := by
  refine ⟨by rw [List.length_append, List.map_append]; exact h1, ?_⟩
  have A := Mod.trans h.2 (Mod.of b (bplus (Below.refl wr.heap.size wr) o))
  exact ⟨hg.os.trans A.os, hg.tape.trans A.tape, hg.output.trans A.output, Nat.le_trans A.size hg.size, fun i hi hb' => (hg.block i (Nat.lt_of_lt_of_le hi A.size) (fun e => by have := (h.1.lt i e.symm).1; omega)).trans (A.block i hi hb')⟩
theorem OwnM.nums {b : Nat} {w wr : World} {k : IntKind} {e : TypeId} {v : Value} {xs : List Int} (h : OwnM b w k e wr v xs) (hl : xs.length ≤ 4611686018427387904) : Nums k wr v xs :=
  Own.nums (W := { wr with heap := #[] }) (e := e) ⟨⟨h.1.1, h.1.2.imp id fun ⟨g, cap, cur, a, _, c⟩ => ⟨g, cap, cur, a, Nat.zero_le _, c⟩⟩, rfl, rfl, rfl, Nat.zero_le _, fun k hk => absurd hk (by simp)⟩ hl
theorem At.grow {T : TypeId} {W w wr w1 : World} {b : Nat} {u v : Value} {l s : List Int} {o : Obj} {k : IntKind} {e : TypeId} {xs : List Int} (h : At T W wr b u l s) (hb : b < w.heap.size) (ho : OwnM b w k e wr v xs) (hg : (wr.alloc o).grownBy w1 v.ownBlock) : At T W w1 b u l s := by
  obtain ⟨p, h1, h2, h3⟩ := h.ex
  have B := bplus (Below.refl wr.heap.size wr) o
  have hbe := h1.ge
  refine ⟨p, ⟨(bto h1.bel B).grown hg (Nat.le_trans h1.bel.size B.size) (fun k hk => by have := (ho.1.lt k hk).1; omega), h1.ge, ?_, h1.nums, h1.len, h1.le⟩, h2, h3⟩
  exact (hg.block b (Nat.lt_of_lt_of_le h1.lt B.size) (fun e => by have := (ho.1.lt b e.symm).1; omega)).trans ((B.block b h1.lt).trans h1.blk)
/-- The state of the loop that takes a name. -/
def RelNm (T : TypeId) (W w : World) (b : Nat) (v : Value) (l s : List Int) (g : Nat) (nv : Value) (wr : World) : Prop :=
  ∃ xs t, At T W wr b v l t ∧ t.length ≤ g ∧ xs.length + t.length ≤ s.length ∧ OwnM b w .i32 21 wr nv xs ∧ Hid (nam [] s = nam xs t)
theorem RelNm.mk {T : TypeId} {W w : World} {b : Nat} {v : Value} {l s : List Int} {g : Nat} {nv : Value} {wr : World} (xs t : List Int) (h1 : At T W wr b v l t) (h2 : t.length ≤ g) (h3 : xs.length + t.length ≤ s.length) (h4 : OwnM b w .i32 21 wr nv xs) (h5 : nam [] s = nam xs t) : RelNm T W w b v l s g nv wr := ⟨xs, t, h1, h2, h3, h4, h5⟩
set_option maxRecDepth 100000 in
set_option maxHeartbeats 1000000 in
theorem takeName_any (T : TypeId) (W w : World) (b : Nat) (v : Value) (l s : List Int) (hL : l.length ≤ 35184372088832) (h : At T W w b v l s) :
    Calls Tryz.prog 57 #[.pointer (some ⟨b, 0, none⟩)] w fun e w' => ∃ t, e = .returned (.string t) ∧ bl t = enc (nam [] s).1 ∧ At T W w' b v l (nam [] s).2 ∧ w.grownBy w' (some b) := by
  obtain ⟨i0, hi, hz0, hz1, hz2⟩ := info_parts info32
  have hbw := h.lt
  have hsl := h.len.1
  have H := hide h
  clear h
  go_enter Tryz.func57, Tryz.ntmps57
  go_wp2
  go_loopg [3] s.length (fun g nv wr => RelNm T W w b v l s g nv wr)
  case atStart => exact .mk [] s H.out (Nat.le_refl _) (by simp) (OwnM.nil _ _ _ _) rfl
  case round =>
    clear H
    obtain ⟨xs, t, A1, hg, hx, OW, R⟩ := hrel
    replace A1 := hide A1
    replace OW := hide OW
    have H0 := hide (show nx t (Int.toNat 0) = nx t 0 from rfl)
    obtain ⟨u, hu⟩ : ∃ u, t.drop 1 = u := ⟨_, rfl⟩
    cases hb : isLet (nx t 0)
    · cases he : es2 (nx t 0) (nx t 1)
      · have HB := hide hb
        have HE := hide he
        have E := hide (R.out.trans (nam_end hb he))
        clear hb he
        go_wp2_with (first
          | (go_at_call 23; refine (aheadA T W _ b _ l _ A1.out).mono ?_; rintro e w1 ⟨y, rfl, HL, B1⟩; have HK := hide HL; obtain ⟨g, lb, rfl, eg, hg'⟩ := HL; replace hg' := hide hg'; have BL := hide (Below.refl w1.heap.size w1); replace A1 := hide (A1.out.below B1); replace OW := hide (OW.out.mod hbw (Mod.of b B1)); clear B1)
          | (go_at_fn g; refine (hg'.out _ _ (by decide) (by decide) BL.out).mono ?_; rintro e w1 ⟨he, B1⟩; rw [H0.out] at he; subst he; replace BL := hide (bto BL.out B1); replace A1 := hide (A1.out.below B1); replace OW := hide (OW.out.mod hbw (Mod.of b B1)); clear B1)
          | (go_at_call 61; refine (isLetP_any _ _).mono ?_; rintro e w2 ⟨rfl, rfl⟩; rw [HB.out])
          | (go_at_call 62; refine (isEscape_any _ t _ ((HK.out.below BL.out).le (by decide))).mono ?_; rintro e w1 ⟨he, B1⟩; rw [HE.out] at he; subst he; replace A1 := hide (A1.out.below B1); replace OW := hide (OW.out.mod hbw (Mod.of b B1)); clear B1)
          | (go_at_call 52; refine (written_any xs _ _ (OW.out.nums (by omega)) (by omega)).mono ?_; rintro e w3 ⟨z, rfl, hz, B1⟩; replace hz := hide hz; replace A1 := hide (A1.out.below B1); replace OW := hide (OW.out.mod hbw (Mod.of b B1)); clear B1))
        go_ret
        exact ⟨_, rfl, by have e1 := hz.out; have e2 := E.out; rw [e1, e2], by rw [E.out]; exact A1.out, OW.out.2⟩
      · have HB := hide hb
        have HE := hide he
        have L := es2_ne he
        have LT := tesc_len u
        have LU : u.length = t.length - 1 := by rw [← hu, List.length_drop]
        have E := R.out.trans (nam_esc hb he)
        rw [hu] at E
        replace E := hide E
        clear hb he
        obtain ⟨⟨x, r⟩, hxr⟩ : ∃ z, tesc u = z := ⟨_, rfl⟩
        rw [hxr] at E LT
        have XR := hide hxr
        have HU := hide hu
        clear hxr hu
        go_wp2_with (first
          | (go_at_call 23; refine (aheadA T W _ b _ l _ A1.out).mono ?_; rintro e w1 ⟨y, rfl, HL, B1⟩; have HK := hide HL; obtain ⟨g, lb, rfl, eg, hg'⟩ := HL; replace hg' := hide hg'; have BL := hide (Below.refl w1.heap.size w1); replace A1 := hide (A1.out.below B1); replace OW := hide (OW.out.mod hbw (Mod.of b B1)); clear B1)
          | (go_at_fn g; refine (hg'.out _ _ (by decide) (by decide) BL.out).mono ?_; rintro e w1 ⟨he, B1⟩; rw [H0.out] at he; subst he; replace BL := hide (bto BL.out B1); replace A1 := hide (A1.out.below B1); replace OW := hide (OW.out.mod hbw (Mod.of b B1)); clear B1)
          | (go_at_call 61; refine (isLetP_any _ _).mono ?_; rintro e w2 ⟨rfl, rfl⟩; rw [HB.out])
          | (go_at_call 62; refine (isEscape_any _ t _ ((HK.out.below BL.out).le (by decide))).mono ?_; rintro e w1 ⟨he, B1⟩; rw [HE.out] at he; subst he; replace A1 := hide (A1.out.below B1); replace OW := hide (OW.out.mod hbw (Mod.of b B1)); clear B1)
          | (go_at_call 81; refine (takeEscape_any T W _ b _ l t u HU.out A1.out).mono ?_; rintro e w2 ⟨he, A2, M2⟩; rw [XR.out] at he A2; subst he; replace A1 := hide A2; replace OW := hide (OW.out.mod hbw M2); clear A2 M2)
          | (at_builtin; refine wpList_append_own _ rfl _ _ 22 rfl w.heap.size 21 i0 (.int .i32 0) 1 4 Tryz.underlying22 hi hz0 hz1 hz2 rfl (by decide) _ _ _ rfl (OW.out.1.alloc _) ⟨_, 0, none⟩ 1 1 [.int .i32 x] rfl rfl (news1 _ _ _) (by intro u hu; simp at hu; subst hu; rfl) (by unfold maxLen; omega) (by omega) (by have := OW.out.2.size; simp; omega) ?_; intro v' w1 hown' hgrow _; replace A1 := hide (A1.out.grow hbw OW.out hgrow); replace OW := hide (OW.out.grow (ys := [x]) hown' hgrow); clear hown' hgrow))
        go_roundg (gk - 1)
        case measure => omega
        case rel => exact .mk (xs ++ [x]) r A1.out (by have LT' : r.length ≤ u.length := LT; omega) (by have LT' : r.length ≤ u.length := LT; simp; omega) OW.out E.out
    · have HB := hide hb
      have L := isLet_ne hb
      have LU : u.length = t.length - 1 := by rw [← hu, List.length_drop]
      have E := R.out.trans (nam_let hb)
      rw [hu] at E
      replace E := hide E
      have HU := hide hu
      clear hb hu
      generalize nx t 0 = x at H0 HB E
      have H1 := hide (show nx t 0 = x from H0.out)
      go_wp2_with (first
          | (go_at_call 23; refine (aheadA T W _ b _ l _ A1.out).mono ?_; rintro e w1 ⟨y, rfl, HL, B1⟩; have HK := hide HL; obtain ⟨g, lb, rfl, eg, hg'⟩ := HL; replace hg' := hide hg'; have BL := hide (Below.refl w1.heap.size w1); replace A1 := hide (A1.out.below B1); replace OW := hide (OW.out.mod hbw (Mod.of b B1)); clear B1)
          | (go_at_fn g; refine (hg'.out _ _ (by decide) (by decide) BL.out).mono ?_; rintro e w1 ⟨he, B1⟩; rw [H0.out] at he; subst he; replace BL := hide (bto BL.out B1); replace A1 := hide (A1.out.below B1); replace OW := hide (OW.out.mod hbw (Mod.of b B1)); clear B1)
          | (go_at_call 61; refine (isLetP_any _ _).mono ?_; rintro e w2 ⟨rfl, rfl⟩; rw [HB.out])
          | (go_at_call 51; refine (takeA T W _ b _ l t A1.out).mono ?_; rintro e w2 ⟨he, A2, M2⟩; rw [H1.out] at he; rw [HU.out] at A2; subst he; replace A1 := hide A2; replace OW := hide (OW.out.mod hbw M2); clear A2 M2)
          | (at_builtin; refine wpList_append_own _ rfl _ _ 22 rfl w.heap.size 21 i0 (.int .i32 0) 1 4 Tryz.underlying22 hi hz0 hz1 hz2 rfl (by decide) _ _ _ rfl (OW.out.1.alloc _) ⟨_, 0, none⟩ 1 1 [.int .i32 x] rfl rfl (news1 _ _ _) (by intro u hu; simp at hu; subst hu; rfl) (by unfold maxLen; omega) (by omega) (by have := OW.out.2.size; simp; omega) ?_; intro v' w1 hown' hgrow _; replace A1 := hide (A1.out.grow hbw OW.out hgrow); replace OW := hide (OW.out.grow (ys := [x]) hown' hgrow); clear hown' hgrow))
      go_roundg (gk - 1)
      case measure => omega
      case rel => exact .mk (xs ++ [x]) u A1.out (by omega) (by simp; omega) OW.out E.out
end Go.Proofs.YtckefmhleklciaaGreatDoor
