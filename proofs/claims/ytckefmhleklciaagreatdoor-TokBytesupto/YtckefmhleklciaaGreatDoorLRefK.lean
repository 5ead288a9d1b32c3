/-
  All tokens of some characters, of bytes, by the reference; the laws.
-/
import Derived.Test.YtckefmhleklciaaGreatDoorLRefJ
import Derived.Test.YtckefmhleklciaaGreatDoorMs
set_option linter.unusedVariables false
set_option linter.unusedSimpArgs false
namespace Go.Proofs.YtckefmhleklciaaGreatDoor
open Go.RowKit

theorem AtR.growT {T : TypeId} {W w wr w1 : World} {b : Nat} {u v : Value} {l s : List Int} {o : Obj} {ts : List Tk} (h : AtR T W wr b u l s) (hb : b < w.heap.size) (ho : OwnT b w wr v ts) (hg : (wr.alloc o).grownBy w1 v.ownBlock) : AtR T W w1 b u l s := by
  obtain ⟨p, h1, h2, h3⟩ := h.ex
  have B := bplus (Below.refl wr.heap.size wr) o
  have hbe := h1.ge
  refine ⟨p, ⟨(bto h1.bel B).grown hg (Nat.le_trans h1.bel.size B.size) (fun k hk => by have := (ho.1.lt k hk).1; omega), h1.ge, ?_, h1.nums, h1.len, h1.le⟩, h2, h3⟩
  exact (hg.block b (Nat.lt_of_lt_of_le h1.lt B.size) (fun e => by have := (ho.1.lt b e.symm).1; omega)).trans ((B.block b h1.lt).trans h1.blk)
def RelTr (T : TypeId) (W w0 : World) (b : Nat) (v : Value) (l s : List Int) (g : Nat) (tv : Value) (wr : World) : Prop :=
  ∃ ts t, AtR T W wr b v l t ∧ t.length ≤ g ∧ ts.length + t.length ≤ s.length ∧ OwnT b w0 wr tv ts ∧ Hid (toks s = ts ++ toks t)
theorem RelTr.mk {T : TypeId} {W w0 : World} {b : Nat} {v : Value} {l s : List Int} {g : Nat} {tv : Value} {wr : World} (ts : List Tk) (t : List Int) (h1 : AtR T W wr b v l t) (h2 : t.length ≤ g) (h3 : ts.length + t.length ≤ s.length) (h4 : OwnT b w0 wr tv ts) (h5 : toks s = ts ++ toks t) : RelTr T W w0 b v l s g tv wr := ⟨ts, t, h1, h2, h3, h4, h5⟩
set_option maxRecDepth 100000 in
set_option maxHeartbeats 2000000 in
theorem toksR_any (l : List Int) (v : Value) (w : World) (hK : Kinds w) (hv : Nums .i32 w v l) (hL : l.length ≤ 250000000) :
    Calls Tryz.prog 10 #[v] w fun e w' => ∃ u, e = .returned u ∧ Toks w' u (toks (chs l)) ∧ Below w.heap.size w w' := by
  obtain ⟨i0, hi, hz0, hz1, hz2⟩ := info_parts infoT
  obtain ⟨a, n, c, rfl⟩ := hv.shape
  have A1 := hide (At.start w (.slice a n c) l 46 hv (by omega)).r
  have hcl : (chs l).length = l.length := chs_len l
  clear hv
  obtain ⟨s, hs⟩ : ∃ s, chs l = s := ⟨_, rfl⟩
  rw [hs] at A1 hcl ⊢
  clear hs
  have hsl : s.length ≤ 250000000 := by omega
  have L0 := hide hL
  have KH := hide hK
  clear hL hcl hK
  obtain ⟨w0, hw0⟩ : ∃ x, w.alloc (.cells #[.slice a n c, .int .i64 0] 46) = x := ⟨_, rfl⟩
  have hbw : w.heap.size < w0.heap.size := by rw [← hw0]; simp
  rw [hw0] at A1
  have W0 := hide hw0
  clear hw0
  go_enter Tryz.func10, Tryz.ntmps10
  go_wp2_with fail
  rw [W0.out]
  go_loopg [3] s.length (fun g tv wr => RelTr 46 w w0 w.heap.size (.slice a n c) l s g tv wr)
  case atStart => exact .mk [] s A1.out (Nat.le_refl _) (by simp) (OwnT.nil _ _) rfl
  case round =>
    clear A1
    obtain ⟨ts, t, A1, hg, hx, OW, R⟩ := hrel
    replace A1 := hide A1
    replace OW := hide OW
    obtain ⟨q, hq⟩ : ∃ q, rmk t = q := ⟨_, rfl⟩
    have RQ := hide hq
    have lq := rmk_le t
    rw [hq] at lq
    obtain ⟨x, hx0⟩ : ∃ x, nx q 0 = x := ⟨_, rfl⟩
    have H0 := hide (show nx q (Int.toNat 0) = x from hx0)
    by_cases hm : x = -1
    · subst hm
      have E := R.out
      rw [toks_end (s := t) (by rw [hq]; exact hx0), List.append_nil] at E
      replace E := hide E
      clear hx0 hq
      go_wp2_with (first
        | (go_at_call 17; refine (remarksR_any 46 w _ w.heap.size _ l t A1.out).mono ?_; rintro e w4 ⟨rfl, A2, M2⟩; rw [RQ.out] at A2; replace A1 := hide A2; replace OW := hide (OW.out.mod hbw M2); clear A2 M2)
        | (go_at_call 18; refine (atR_any 46 w _ w.heap.size _ l q _ A1.out (by decide) (by decide)).mono ?_; rintro e w1 ⟨he, B1⟩; rw [H0.out] at he; subst he; replace A1 := hide (A1.out.below B1); replace OW := hide (OW.out.mod hbw (Mod.of _ B1)); clear B1))
      go_ret
      obtain ⟨p, hp, _⟩ := A1.out.ex
      exact ⟨_, rfl, by rw [E.out]; exact OW.out.toks (by omega), hp.bel⟩
    · have em : (x == -1) = false := by simpa using hm
      have hne : nx q 0 ≠ -1 := by rw [hx0]; exact hm
      have HN := hide hne
      have E := R.out
      rw [toks_go (s := t) (by rw [hq]; exact hne), hq] at E
      have l1 := tokn_lt hne
      clear hx0 hne hq
      obtain ⟨⟨⟨k, tx, nu, de, wh, id⟩, r⟩, ht⟩ : ∃ z, tokn q = z := ⟨_, rfl⟩
      have TT := hide ht
      rw [ht] at E l1
      clear ht
      simp only at E l1
      rw [show ts ++ (⟨k, tx, nu, de, wh, id⟩ : Tk) :: toks r = (ts ++ [⟨k, tx, nu, de, wh, id⟩]) ++ toks r by simp] at E
      replace E := hide E
      go_wp2_with (first
        | (go_at_call 17; refine (remarksR_any 46 w _ w.heap.size _ l t A1.out).mono ?_; rintro e w4 ⟨rfl, A2, M2⟩; rw [RQ.out] at A2; replace A1 := hide A2; replace OW := hide (OW.out.mod hbw M2); clear A2 M2)
        | (go_at_call 18; refine (atR_any 46 w _ w.heap.size _ l q _ A1.out (by decide) (by decide)).mono ?_; rintro e w1 ⟨he, B1⟩; rw [H0.out] at he; subst he; replace A1 := hide (A1.out.below B1); replace OW := hide (OW.out.mod hbw (Mod.of _ B1)); clear B1)
        | (go_at_call 19; refine (nextR_any 46 w _ w.heap.size _ l q L0.out KH.out HN.out (A1.out.in HN.out)).mono ?_; rintro e w3 ⟨he, A2, M2⟩; replace he := he.cells; rw [TT.out] at he A2; subst he; replace A1 := hide A2; replace OW := hide (OW.out.mod hbw M2); clear A2 M2)
        | (at_builtin; refine wpList_append_own _ rfl _ _ 24 rfl w0.heap.size 34 i0 _ 6 48 Tryz.underlying24 hi hz0 hz1 hz2 rfl (by decide) _ _ _ rfl (OW.out.1.alloc _) ⟨_, 0, none⟩ 1 1 (tkC ⟨k, tx, nu, de, wh, id⟩) rfl rfl (news6 _ _ _ _ _ _ _ _) (one6 _) (by unfold maxLen; omega) (by omega) (by have := OW.out.2.size; simp; omega) ?_; intro v' w5 hown' hgrow _; replace A1 := hide (A1.out.growT hbw OW.out hgrow); replace OW := hide (OW.out.grow hown' hgrow); clear hown' hgrow))
      go_roundg (gk - 1)
      case measure => omega
      case rel => exact .mk _ r A1.out (by omega) (by rw [List.length_append, List.length_singleton]; omega) OW.out E.out
theorem Kinds.below {w w' : World} (h : Kinds w) (hw : Below w.heap.size w w') : Kinds w' :=
  ⟨Nat.lt_of_lt_of_le h.lt hw.size, (hw.cell (p := ⟨0, 0, none⟩) h.lt).trans h.k0, (hw.cell (p := ⟨0, 1, none⟩) h.lt).trans h.k1, (hw.cell (p := ⟨0, 2, none⟩) h.lt).trans h.k2, (hw.cell (p := ⟨0, 3, none⟩) h.lt).trans h.k3, (hw.cell (p := ⟨0, 4, none⟩) h.lt).trans h.k4, (hw.cell (p := ⟨0, 5, none⟩) h.lt).trans h.k5, (hw.cell (p := ⟨0, 6, none⟩) h.lt).trans h.k6, (hw.cell (p := ⟨0, 7, none⟩) h.lt).trans h.k7, (hw.cell (p := ⟨0, 8, none⟩) h.lt).trans h.k8⟩
set_option maxRecDepth 100000 in
set_option maxHeartbeats 1000000 in
theorem tbytesR_any (bs : List Int) (v : Value) (w : World) (hK : Kinds w) (hb : By bs) (hv : Nums .u8 w v bs) (hl : bs.length ≤ 250000000) :
    Calls Tryz.prog 13 #[v] w fun e w' => ∃ u, e = .returned u ∧ Toks w' u (toks (chs (dcd bs))) ∧ Below w.heap.size w w' := by
  have hd := dcd_len bs
  have L := hide (show (dcd bs).length ≤ 250000000 by omega)
  have HV := hide hv
  have HB := hide hb
  have KH := hide hK
  have H9 := hide (show bs.length ≤ 1099511627776 by omega)
  clear hv hb hl hd hK
  go_enter Tryz.func13, Tryz.ntmps13
  go_wp2_with (first
    | (go_at_call 21; refine (dcdR_any bs v _ HB.out HV.out H9.out).mono ?_; rintro e w1 ⟨u, rfl, N, B1⟩; replace N := hide N; replace KH := hide (KH.out.below B1); replace B1 := hide B1)
    | (go_at_call 10; refine (toksR_any (dcd bs) _ _ KH.out N.out L.out).mono ?_; rintro e w2 ⟨u2, rfl, N2, B2⟩; replace N2 := hide N2; replace B1 := hide (bto B1.out B2); clear B2))
  go_ret
  exact ⟨_, rfl, N2.out, B1.out⟩
set_option maxRecDepth 100000 in
set_option maxHeartbeats 1000000 in
theorem law_tokens (l : List Int) (v : Value) (w : World) (hK : Kinds w) (hv : Nums .i32 w v l) (hl : l.length ≤ 250000000) :
    Calls Tryz.prog 3 #[v] w fun e w' => e = .returned (.bool true) ∧ Below w.heap.size w w' := by
  have HV := hide hv
  have KH := hide hK
  have HL := hide hl
  clear hv hK hl
  go_enter Tryz.func3, Tryz.ntmps3
  go_wp2_with (first
    | (go_at_call 9; refine (toksP_any l v _ HV.out HL.out).mono ?_; rintro e w1 ⟨u, rfl, N, B⟩; replace N := hide N; replace B := hide B)
    | (go_at_call 10; refine (toksR_any l v _ (KH.out.below B.out) (HV.out.below B.out) HL.out).mono ?_; rintro e w2 ⟨u2, rfl, N2, B2⟩; replace N2 := hide N2; replace N := hide (N.out.below B2); replace B := hide (bto B.out B2); clear B2)
    | (go_at_call 8; refine (sameT_any _ _ _ _ N.out N2.out).mono ?_; rintro e w3 ⟨rfl, B3⟩; replace B := hide (bto B.out B3); clear B3)
    | (go_at_call 11; refine (awakeT_any _).mono ?_; rintro e w4 ⟨rfl, B4⟩; replace B := hide (bto B.out B4); clear B4))
  go_ret
  exact ⟨rfl, B.out⟩
set_option maxRecDepth 100000 in
set_option maxHeartbeats 1000000 in
theorem law_bytes (bs : List Int) (v : Value) (w : World) (hK : Kinds w) (hb : By bs) (hv : Nums .u8 w v bs) (hl : bs.length ≤ 250000000) :
    Calls Tryz.prog 4 #[v] w fun e w' => e = .returned (.bool true) ∧ Below w.heap.size w w' := by
  have HV := hide hv
  have KH := hide hK
  have HB := hide hb
  have HL := hide hl
  clear hv hK hl hb
  go_enter Tryz.func4, Tryz.ntmps4
  go_wp2_with (first
    | (go_at_call 12; refine (tbytesP_any bs v _ HB.out HV.out HL.out).mono ?_; rintro e w1 ⟨u, rfl, N, B⟩; replace N := hide N; replace B := hide B)
    | (go_at_call 13; refine (tbytesR_any bs v _ (KH.out.below B.out) HB.out (HV.out.below B.out) HL.out).mono ?_; rintro e w2 ⟨u2, rfl, N2, B2⟩; replace N2 := hide N2; replace N := hide (N.out.below B2); replace B := hide (bto B.out B2); clear B2)
    | (go_at_call 8; refine (sameT_any _ _ _ _ N.out N2.out).mono ?_; rintro e w3 ⟨rfl, B3⟩; replace B := hide (bto B.out B3); clear B3)
    | (go_at_call 11; refine (awakeT_any _).mono ?_; rintro e w4 ⟨rfl, B4⟩; replace B := hide (bto B.out B4); clear B4))
  go_ret
  exact ⟨rfl, B.out⟩
end Go.Proofs.YtckefmhleklciaaGreatDoor
