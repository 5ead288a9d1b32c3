/-
  May a condition be: by the reference.
-/
import Derived.Test.YtpcdhdllclenaaaDoorCeC0
import Derived.Test.YtpcdhdllclenaaaDoorCeC4
import Derived.Test.YtpcdhdllclenaaaDoorCeC5
import Derived.Test.YtpcdhdllclenaaaDoorCeC6
import Derived.Test.YtpcdhdllclenaaaDoorCeC7
import Derived.Test.YtpcdhdllclenaaaDoorCdG
set_option linter.unusedVariables false
set_option linter.unusedSimpArgs false
namespace Go.Proofs.YtpcdhdllclenaaaDoor.cd
open Go.RowKit

set_option maxRecDepth 100000 in
set_option maxHeartbeats 4000000 in
theorem mayR_out (lk lt : Int) (nm : ByteArray) (op ek en ed eu : Int) (eks : List Ex) (wd vl : ByteArray) (an : Bool) (za : Option Addr) (zm zc : Nat) (w : World) (g0 : ¬ lk = 0) (g1 : ¬ lk = 1) (g2 : ¬ lk = 2) (g3 : ¬ lk = 3) (g4 : ¬ lk = 4) (g5 : ¬ lk = 5) (g6 : ¬ lk = 6) : Calls Tryd.prog 51 #[lfV ⟨lk, lt, nm, op, .mk ek en ed eu eks, wd, vl, an⟩ (.slice za zm zc)] w fun e w' => e = .returned (.bool (lfM ⟨lk, lt, nm, op, .mk ek en ed eu eks, wd, vl, an⟩)) ∧ Below w.heap.size w w' := by
  have F := hide (show lfM ⟨lk, lt, nm, op, .mk ek en ed eu eks, wd, vl, an⟩ = false by unfold lfM; simp [g0, g1, g2, g3, g4, g5, g6])
  have h0 : (lk == 0) = false := by simpa using g0
  have h1 : (lk == 1) = false := by simpa using g1
  have h2 : (lk == 2) = false := by simpa using g2
  have h3 : (lk == 3) = false := by simpa using g3
  have h4 : (lk == 4) = false := by simpa using g4
  have h5 : (lk == 5) = false := by simpa using g5
  have h6 : (lk == 6) = false := by simpa using g6
  have B0 := hide (bplus (bplus (Below.refl w.heap.size w) (.cells #[.int .i64 lk, .int .i64 lt, .string nm, .int .i64 op, .int .i64 ek, .int .i64 en, .int .i64 ed, .int .i64 eu, .slice za zm zc, .string wd, .string vl, .bool an] 37)) (.cells #[.int .i64 lk, .int .i64 0, .string ⟨#[]⟩, .int .i64 0, .int .i64 0, .int .i64 0, .int .i64 0, .int .i64 0, .slice none 0 0, .string ⟨#[]⟩, .string ⟨#[]⟩, .bool false] 37))
  simp only [lfV, Ex.k, Ex.n, Ex.d, Ex.u]
  go_enter Tryd.func51, Tryd.ntmps51
  go_wp2
  go_ret
  exact ⟨ret_bool F.out.symm, B0.out⟩
theorem mayLeafR_any (x : Lf) (z : Value) (w : World) (he : x.e.Ok) (hz : EM w z x.e.ks) : Calls Tryd.prog 51 #[lfV x z] w fun e w' => e = .returned (.bool (lfM x)) ∧ Below w.heap.size w w' := by
  obtain ⟨za, zc, rfl, -⟩ := hz.shape
  obtain ⟨lk, lt, nm, op, ⟨ek, en, ed, eu, eks⟩, wd, vl, an⟩ := x
  by_cases g0 : lk = 0
  · subst g0; exact mayR_0 lt nm op ek en ed eu eks wd vl an za _ zc w he hz
  by_cases g1 : lk = 1
  · subst g1; exact mayR_1 lt nm op ek en ed eu eks wd vl an za _ zc w he hz
  by_cases g2 : lk = 2
  · subst g2; exact mayR_2 lt nm op ek en ed eu eks wd vl an za _ zc w he hz
  by_cases g3 : lk = 3
  · subst g3; exact mayR_3 lt nm op ek en ed eu eks wd vl an za _ zc w he hz
  by_cases g4 : lk = 4
  · subst g4; exact mayR_4 lt nm op ek en ed eu eks wd vl an za _ zc w he hz
  by_cases g5 : lk = 5
  · subst g5; exact mayR_5 lt nm op ek en ed eu eks wd vl an za _ zc w he hz
  by_cases g6 : lk = 6
  · subst g6; exact mayR_6 lt nm op ek en ed eu eks wd vl an za _ zc w he hz
  exact mayR_out lk lt nm op ek en ed eu eks wd vl an za _ zc w g0 g1 g2 g3 g4 g5 g6
theorem eqL_z0 (x : Lf) : eqL x z0 = (lfM x && (x.k == 0)) := by
  obtain ⟨lk, lt, nm, op, ⟨ek, en, ed, eu, eks⟩, wd, vl, an⟩ := x
  by_cases h : lk = 0
  · subst h
    rw [mayL_0]
    simp [z0, zE]
  · have h0 : (lk == 0) = false := by simpa using h
    show ((lk == 0) && _ && _ && _ && _ && _ && _ && _) = (_ && (lk == 0))
    rw [h0]
    simp
set_option maxRecDepth 100000 in
set_option maxHeartbeats 16000000 in
theorem mayCR_any (N : Nat) : ∀ (x : Cn) (j : Nat) (u z : Value) (w : World), szC x ≤ N → x.Ok → j ≤ 340 → CM w u x.ks → EM w z x.lf.e.ks →
    Calls Tryd.prog 33 #[cnV x u z, .int .i64 j] w fun e w' => e = .returned (.bool (cnM x j)) ∧ Below w.heap.size w w' := by
  induction N with
  | zero => intro x j u z w hN; rw [szC_ks] at hN; omega
  | succ N ih =>
    intro x j u z w hN hx hj hv hz
    obtain ⟨a, c, rfl, hl9⟩ := hv.shape
    obtain ⟨za, zc, rfl, hz9⟩ := hz.shape
    have E := hide (cnM_eq x j)
    rw [szC_ks] at hN
    obtain ⟨k, ⟨lk, lt, nm, op, ⟨ek, en, ed, eu, eks⟩, wd, vl, an⟩, ks⟩ := x
    have eok : (Ex.mk ek en ed eu eks).Ok := hx.2.2.2.2
    simp only [Cn.k, Cn.lf, Cn.ks] at hN hl9 E
    replace hv : CM w (.slice a ks.length c) ks := hv
    replace hz : EM w (.slice za eks.length zc) eks := hz
    show Calls Tryd.prog 33 #[.agg #[.int .i64 k, .slice a ks.length c, .int .i64 lk, .int .i64 lt, .string nm, .int .i64 op, .int .i64 ek, .int .i64 en, .int .i64 ed, .int .i64 eu, .slice za eks.length zc, .string wd, .string vl, .bool an], .int .i64 j] w _
    clear hz9
    have CL := hide (fun (W : World) (h : Below w.heap.size w W) => mayLeafR_any ⟨lk, lt, nm, op, .mk ek en ed eu eks, wd, vl, an⟩ (.slice za eks.length zc) W eok (hz.low h))
    have CS := hide (fun (W : World) (h : Below w.heap.size w W) => sameL_any ⟨lk, lt, nm, op, .mk ek en ed eu eks, wd, vl, an⟩ z0 (.slice za eks.length zc) (.slice none 0 0) W (hz.low h) (EM.nil none 0))
    rw [eqL_z0] at CS
    simp only [lfV, z0, zE, Ex.k, Ex.n, Ex.d, Ex.u] at CL CS
    have HV := hide hv
    have IH := hide ih
    generalize eks.length = zm at *
    generalize hcm : cnM (.mk k ⟨lk, lt, nm, op, .mk ek en ed eu eks, wd, vl, an⟩ ks) j = RR at *
    generalize lfM ⟨lk, lt, nm, op, .mk ek en ed eu eks, wd, vl, an⟩ = L at *
    obtain ⟨w0, hw0⟩ : ∃ w0, w.alloc (.cells #[.int .i64 k, .slice a ks.length c, .int .i64 lk, .int .i64 lt, .string nm, .int .i64 op, .int .i64 ek, .int .i64 en, .int .i64 ed, .int .i64 eu, .slice za zm zc, .string wd, .string vl, .bool an] 39) = w0 := ⟨_, rfl⟩
    have B0 : Below w.heap.size w w0 := by rw [← hw0]; exact bplus (Below.refl _ _) _
    have P0 : w0.heap[w.heap.size]? = some (.cells #[.int .i64 k, .slice a ks.length c, .int .i64 lk, .int .i64 lt, .string nm, .int .i64 op, .int .i64 ek, .int .i64 en, .int .i64 ed, .int .i64 eu, .slice za zm zc, .string wd, .string vl, .bool an] 39) := by rw [← hw0]; exact heap_alloc_new w _
    have HW0 := hide hw0
    have HB0 := hide B0
    have KH := hide (fun (W : World) (h : Below w0.heap.size w0 W) => keep14 h P0)
    replace CL := hide (CL.out w0 B0)
    replace CS := hide (CS.out w0 B0)
    obtain ⟨y0, y1, y2, y3, y4, y5, y6, y7, y8, y9, ya, yb, yc, yd⟩ := keep14 (Below.refl _ _) P0
    clear hv ih hz hcm B0 P0 hw0 eok hx
    by_cases hj0 : j = 0
    · subst hj0
      have F := hide (show RR = false by rw [E.out]; rfl)
      clear E
      go_enter Tryd.func33, Tryd.ntmps33
      go_upto_region 1 with fail
      rw [HW0.out]
      go_wp2
      go_ret
      exact ⟨ret_bool F.out.symm, HB0.out⟩
    have hj1 : ¬ (j : Int) = 0 := by omega
    have hj2 : ((j : Int) == 0) = false := by simpa using hj1
    replace E := hide (show RR = (cntC k ks.length && L && (k == 4 || lk == 0) && cnMs ks (j - 1)) by
      rw [E.out, show decide (0 < j) = true by simp; omega]; simp)
    by_cases hk4 : k = 4
    · subst hk4
      have HN : cntC 4 ks.length = ((ks.length : Int) == 0) := by
        rw [show cntC 4 ks.length = decide (ks.length = 0) from rfl, Bool.eq_iff_iff]; simp
      cases hn : ((ks.length : Int) == 0)
      · have F := hide (show RR = false by rw [E.out, HN, hn]; rfl)
        clear E HN
        have hn1 : ¬ (ks.length : Int) = 0 := by simpa using hn
        go_enter Tryd.func33, Tryd.ntmps33
        go_upto_region 1 with fail
        rw [HW0.out]
        go_wp2
        go_ret
        exact ⟨ret_bool F.out.symm, HB0.out⟩
      · have hks : ks = [] := List.eq_nil_of_length_eq_zero (by simpa using hn)
        have F := hide (show RR = L by rw [E.out, HN, hn, hks, cnMs_nil]; simp)
        clear E HN hks
        have hn1 : (ks.length : Int) = 0 := by simpa using hn
        go_enter Tryd.func33, Tryd.ntmps33
        go_upto_region 1 with fail
        rw [HW0.out]
        go_wp2_with (go_at_call 51; refine CL.out.mono ?_; rintro _ wl ⟨rfl, hl⟩)
        go_ret
        exact ⟨ret_bool F.out.symm, bto HB0.out hl⟩
    have hk4' : (k == 4) = false := by simpa using hk4
    by_cases hk1 : k < 1
    · have F := hide (show RR = false by rw [E.out, show cntC k ks.length = false by unfold cntC; repeat rw [if_neg (by omega)]]; rfl)
      clear E
      go_enter Tryd.func33, Tryd.ntmps33
      go_upto_region 1 with fail
      rw [HW0.out]
      go_wp2
      go_ret
      exact ⟨ret_bool F.out.symm, HB0.out⟩
    by_cases hk5 : 4 < k
    · have hk1' : 1 ≤ k := by omega
      have F := hide (show RR = false by rw [E.out, show cntC k ks.length = false by unfold cntC; repeat rw [if_neg (by omega)]]; rfl)
      clear E
      go_enter Tryd.func33, Tryd.ntmps33
      go_upto_region 1 with fail
      rw [HW0.out]
      go_wp2
      go_ret
      exact ⟨ret_bool F.out.symm, HB0.out⟩
    have hk3 : k = 1 ∨ k = 2 ∨ k = 3 := by omega
    by_cases hn0 : ks.length = 0
    · have hn1 : (ks.length : Int) = 0 := by omega
      have hn2 : ((ks.length : Int) == 0) = true := by simpa using hn1
      have F := hide (show RR = false by
        rw [E.out, hn0]
        rcases hk3 with rfl | rfl | rfl <;> rfl)
      clear E hn0
      rcases hk3 with rfl | rfl | rfl
      all_goals
        go_enter Tryd.func33, Tryd.ntmps33
        go_upto_region 1 with fail
        rw [HW0.out]
        go_wp2
        go_ret
        exact ⟨ret_bool F.out.symm, HB0.out⟩
    have hn1 : ¬ (ks.length : Int) = 0 := by omega
    have hn2 : ((ks.length : Int) == 0) = false := by simpa using hn1
    by_cases h31 : k = 3 ∧ ¬ ks.length = 1
    · obtain ⟨rfl, h31⟩ := h31
      have hm1 : ¬ (ks.length : Int) = 1 := by omega
      have hm2 : ((ks.length : Int) == 1) = false := by simpa using hm1
      have hm3 : ((ks.length : Int) != 1) = true := by simpa using hm1
      have F := hide (show RR = false by rw [E.out, show cntC 3 ks.length = false by simp [cntC, h31]]; rfl)
      clear E hn0 h31
      go_enter Tryd.func33, Tryd.ntmps33
      go_upto_region 1 with fail
      rw [HW0.out]
      go_wp2
      go_ret
      exact ⟨ret_bool F.out.symm, HB0.out⟩
    replace E := hide (show RR = ((L && (lk == 0)) && cnMs ks (j - 1)) by
      rw [E.out, hk4', show cntC k ks.length = true by rcases hk3 with rfl | rfl | rfl <;> simp [cntC] <;> omega]; simp)
    have H3 : (k = 1 ∨ k = 2 ∨ (k = 3 ∧ Hid (ks.length = 1))) := by
      rcases hk3 with h | h | h
      · exact .inl h
      · exact .inr (.inl h)
      · exact .inr (.inr ⟨h, by show ks.length = 1; exact Decidable.by_contra (fun q => h31 ⟨h, q⟩)⟩)
    generalize (L && (lk == 0)) = LL at *
    clear hk3 h31 hn0 CL
    obtain ⟨p, hp⟩ : ∃ p, p = j - 1 := ⟨_, rfl⟩
    have HP := hide (show (p : Int) = (j : Int) - 1 by omega)
    rw [← hp] at E
    have hp9 := hide (show p ≤ 340 by omega)
    clear hp
    cases LL
    · have F := hide (show RR = false by rw [E.out]; rfl)
      clear E
      rcases H3 with rfl | rfl | ⟨rfl, hq⟩
      case inr.inr =>
        have hm1 : (ks.length : Int) = 1 := by have := hq.out; omega
        have hm2 : ((ks.length : Int) == 1) = true := by simpa using hm1
        have hm3 : ((ks.length : Int) != 1) = false := by simpa using hm1
        clear hn1 hn2
        have hn2 : ((1 : Int) == 0) = false := rfl
        go_enter Tryd.func33, Tryd.ntmps33
        go_upto_region 1 with fail
        rw [HW0.out]
        go_wp2_with (go_at_call 23; refine CS.out.mono ?_; rintro _ wl ⟨rfl, hl⟩)
        go_ret
        exact ⟨ret_bool F.out.symm, bto HB0.out hl⟩
      all_goals
        go_enter Tryd.func33, Tryd.ntmps33
        go_upto_region 1 with fail
        rw [HW0.out]
        go_wp2_with (go_at_call 23; refine CS.out.mono ?_; rintro _ wl ⟨rfl, hl⟩)
        go_ret
        exact ⟨ret_bool F.out.symm, bto HB0.out hl⟩
    · replace E := hide (show RR = cnMs ks p by rw [E.out]; rfl)
      rcases H3 with rfl | rfl | ⟨rfl, hq⟩
      case inl =>
        go_enter Tryd.func33, Tryd.ntmps33
        go_upto_region 1 with fail
        rw [HW0.out]
        go_upto_region 7 with (go_at_call 23; refine CS.out.mono ?_; rintro _ wl ⟨rfl, hl⟩; obtain ⟨v0, v1, v2, v3, v4, v5, v6, v7, v8, v9, va, vb, vc, vd⟩ := KH.out wl hl)
        have HB1 := hide (bto HB0.out hl)
        go_wp2_with fail
        go_loopw [56] (fun i wr => RelCm w ks p i wr) (fun i _ => ks.length - (intOf i).toNat)
        case atStart => exact .mk 0 rfl (by omega) HB1.out (by simp)
        case round =>
          obtain ⟨m, rfl, hm, BE, R⟩ := hrel
          replace BE := hide BE
          clear CS KH HW0 y0 y1 y2 y3 y4 y5 y6 y7 y8 y9 ya yb yc yd v0 v1 v2 v3 v4 v5 v6 v7 v8 v9 va vb vc vd
          by_cases hlt : m < ks.length
          · obtain ⟨x, hx⟩ : ∃ x, ks[m]? = some x := ⟨_, List.getElem?_eq_getElem hlt⟩
            obtain ⟨b, o, c', u, zz, hv', hb, -, -, xo, t14, hzz, hku⟩ := HV.out.at hx
            obtain ⟨rfl, rfl⟩ : a = some ⟨b, o, none⟩ ∧ c = c' := by cases hv'; exact ⟨rfl, rfl⟩
            obtain ⟨ua, uc, hus, hks9⟩ := hku.shape
            obtain ⟨xza, xzc, hzs, hzs9⟩ := hzz.shape
            have SZ := hide (show szC x ≤ N by have := szCs_at hx; omega)
            have KU := hide hku
            have KZ := hide hzz
            have XO := hide xo
            have R2 := hide (show cnMs ks p = (cnM x p && cnMs (ks.drop (m + 1)) p) by rw [R.out, drop_atE hx, cnMs_cons])
            have hlt' : (m : Int) < ks.length := by omega
            obtain ⟨c0, c1, c2, c3, c4, c5, c6, c7, c8, c9, ca, cb, cc, cd⟩ := t14.below BE.out hb
            have hbw : b < wr.heap.size := by have := BE.out.size; omega
            have nb : b ≠ wr.heap.size := by omega
            clear hx hv' t14 hku hzz R xo
            subst hus hzs
            have CI := hide (fun (W : World) (h : Below w.heap.size w W) => IH.out x p (.slice ua x.ks.length uc) (.slice xza x.lf.e.ks.length xzc) W SZ.out XO.out hp9.out (KU.out.low h) (KZ.out.low h))
            unfold cnV at CI
            rw [HP.out] at CI
            generalize x.k = xk at *
            generalize x.lf.k = xlk at *
            generalize x.lf.t = xlt at *
            generalize x.lf.nm = xnm at *
            generalize x.lf.op = xop at *
            generalize x.lf.e.k = xek at *
            generalize x.lf.e.n = xen at *
            generalize x.lf.e.d = xed at *
            generalize x.lf.e.u = xeu at *
            generalize x.lf.wd = xwd at *
            generalize x.lf.vl = xvl at *
            generalize x.lf.an = xan at *
            cases hm2 : cnM x p
            · have HM := hide hm2
              have F := hide (show RR = false by rw [E.out, R2.out, hm2]; rfl)
              clear hm2 R2 E
              go_wp2_with (go_at_call 33; refine (CI.out _ (bplus BE.out _)).mono ?_; rintro e w4 ⟨rfl, B4⟩; rw [HM.out]; replace B4 := hide (bto (bplus BE.out _) B4))
              go_ret
              exact ⟨ret_bool F.out.symm, B4.out⟩
            · have HM := hide hm2
              have E2 := hide (show cnMs ks p = cnMs (ks.drop (m + 1)) p by rw [R2.out, hm2]; rfl)
              clear hm2 R2
              go_wp2_with (go_at_call 33; refine (CI.out _ (bplus BE.out _)).mono ?_; rintro e w4 ⟨rfl, B4⟩; rw [HM.out]; replace B4 := hide (bto (bplus BE.out _) B4))
              go_roundw
              case rel => exact .mk (m + 1) (by go_num) (by omega) B4.out E2.out
              case measure => simp [intOf]; omega
          · have F := hide (show RR = true by rw [E.out, R.out, List.drop_of_length_le (by omega), cnMs_nil])
            have hlt' : ¬ (m : Int) < ks.length := by omega
            go_wp2
            go_ret
            exact ⟨ret_bool F.out.symm, BE.out⟩
      case inr.inl =>
        go_enter Tryd.func33, Tryd.ntmps33
        go_upto_region 1 with fail
        rw [HW0.out]
        go_upto_region 7 with (go_at_call 23; refine CS.out.mono ?_; rintro _ wl ⟨rfl, hl⟩; obtain ⟨v0, v1, v2, v3, v4, v5, v6, v7, v8, v9, va, vb, vc, vd⟩ := KH.out wl hl)
        have HB1 := hide (bto HB0.out hl)
        go_wp2_with fail
        go_loopw [56] (fun i wr => RelCm w ks p i wr) (fun i _ => ks.length - (intOf i).toNat)
        case atStart => exact .mk 0 rfl (by omega) HB1.out (by simp)
        case round =>
          obtain ⟨m, rfl, hm, BE, R⟩ := hrel
          replace BE := hide BE
          clear CS KH HW0 y0 y1 y2 y3 y4 y5 y6 y7 y8 y9 ya yb yc yd v0 v1 v2 v3 v4 v5 v6 v7 v8 v9 va vb vc vd
          by_cases hlt : m < ks.length
          · obtain ⟨x, hx⟩ : ∃ x, ks[m]? = some x := ⟨_, List.getElem?_eq_getElem hlt⟩
            obtain ⟨b, o, c', u, zz, hv', hb, -, -, xo, t14, hzz, hku⟩ := HV.out.at hx
            obtain ⟨rfl, rfl⟩ : a = some ⟨b, o, none⟩ ∧ c = c' := by cases hv'; exact ⟨rfl, rfl⟩
            obtain ⟨ua, uc, hus, hks9⟩ := hku.shape
            obtain ⟨xza, xzc, hzs, hzs9⟩ := hzz.shape
            have SZ := hide (show szC x ≤ N by have := szCs_at hx; omega)
            have KU := hide hku
            have KZ := hide hzz
            have XO := hide xo
            have R2 := hide (show cnMs ks p = (cnM x p && cnMs (ks.drop (m + 1)) p) by rw [R.out, drop_atE hx, cnMs_cons])
            have hlt' : (m : Int) < ks.length := by omega
            obtain ⟨c0, c1, c2, c3, c4, c5, c6, c7, c8, c9, ca, cb, cc, cd⟩ := t14.below BE.out hb
            have hbw : b < wr.heap.size := by have := BE.out.size; omega
            have nb : b ≠ wr.heap.size := by omega
            clear hx hv' t14 hku hzz R xo
            subst hus hzs
            have CI := hide (fun (W : World) (h : Below w.heap.size w W) => IH.out x p (.slice ua x.ks.length uc) (.slice xza x.lf.e.ks.length xzc) W SZ.out XO.out hp9.out (KU.out.low h) (KZ.out.low h))
            unfold cnV at CI
            rw [HP.out] at CI
            generalize x.k = xk at *
            generalize x.lf.k = xlk at *
            generalize x.lf.t = xlt at *
            generalize x.lf.nm = xnm at *
            generalize x.lf.op = xop at *
            generalize x.lf.e.k = xek at *
            generalize x.lf.e.n = xen at *
            generalize x.lf.e.d = xed at *
            generalize x.lf.e.u = xeu at *
            generalize x.lf.wd = xwd at *
            generalize x.lf.vl = xvl at *
            generalize x.lf.an = xan at *
            cases hm2 : cnM x p
            · have HM := hide hm2
              have F := hide (show RR = false by rw [E.out, R2.out, hm2]; rfl)
              clear hm2 R2 E
              go_wp2_with (go_at_call 33; refine (CI.out _ (bplus BE.out _)).mono ?_; rintro e w4 ⟨rfl, B4⟩; rw [HM.out]; replace B4 := hide (bto (bplus BE.out _) B4))
              go_ret
              exact ⟨ret_bool F.out.symm, B4.out⟩
            · have HM := hide hm2
              have E2 := hide (show cnMs ks p = cnMs (ks.drop (m + 1)) p by rw [R2.out, hm2]; rfl)
              clear hm2 R2
              go_wp2_with (go_at_call 33; refine (CI.out _ (bplus BE.out _)).mono ?_; rintro e w4 ⟨rfl, B4⟩; rw [HM.out]; replace B4 := hide (bto (bplus BE.out _) B4))
              go_roundw
              case rel => exact .mk (m + 1) (by go_num) (by omega) B4.out E2.out
              case measure => simp [intOf]; omega
          · have F := hide (show RR = true by rw [E.out, R.out, List.drop_of_length_le (by omega), cnMs_nil])
            have hlt' : ¬ (m : Int) < ks.length := by omega
            go_wp2
            go_ret
            exact ⟨ret_bool F.out.symm, BE.out⟩
      case inr.inr =>
        have hm1 : (ks.length : Int) = 1 := by have := hq.out; omega
        have hm2 : ((ks.length : Int) == 1) = true := by simpa using hm1
        have hm3 : ((ks.length : Int) != 1) = false := by simpa using hm1
        go_enter Tryd.func33, Tryd.ntmps33
        go_upto_region 1 with fail
        rw [HW0.out]
        go_upto_region 7 with (go_at_call 23; refine CS.out.mono ?_; rintro _ wl ⟨rfl, hl⟩; obtain ⟨v0, v1, v2, v3, v4, v5, v6, v7, v8, v9, va, vb, vc, vd⟩ := KH.out wl hl)
        clear hm1 hm2 hm3
        have HB1 := hide (bto HB0.out hl)
        go_wp2_with fail
        go_loopw [56] (fun i wr => RelCm w ks p i wr) (fun i _ => ks.length - (intOf i).toNat)
        case atStart => exact .mk 0 rfl (by omega) HB1.out (by simp)
        case round =>
          obtain ⟨m, rfl, hm, BE, R⟩ := hrel
          replace BE := hide BE
          clear CS KH HW0 y0 y1 y2 y3 y4 y5 y6 y7 y8 y9 ya yb yc yd v0 v1 v2 v3 v4 v5 v6 v7 v8 v9 va vb vc vd
          by_cases hlt : m < ks.length
          · obtain ⟨x, hx⟩ : ∃ x, ks[m]? = some x := ⟨_, List.getElem?_eq_getElem hlt⟩
            obtain ⟨b, o, c', u, zz, hv', hb, -, -, xo, t14, hzz, hku⟩ := HV.out.at hx
            obtain ⟨rfl, rfl⟩ : a = some ⟨b, o, none⟩ ∧ c = c' := by cases hv'; exact ⟨rfl, rfl⟩
            obtain ⟨ua, uc, hus, hks9⟩ := hku.shape
            obtain ⟨xza, xzc, hzs, hzs9⟩ := hzz.shape
            have SZ := hide (show szC x ≤ N by have := szCs_at hx; omega)
            have KU := hide hku
            have KZ := hide hzz
            have XO := hide xo
            have R2 := hide (show cnMs ks p = (cnM x p && cnMs (ks.drop (m + 1)) p) by rw [R.out, drop_atE hx, cnMs_cons])
            have hlt' : (m : Int) < ks.length := by omega
            obtain ⟨c0, c1, c2, c3, c4, c5, c6, c7, c8, c9, ca, cb, cc, cd⟩ := t14.below BE.out hb
            have hbw : b < wr.heap.size := by have := BE.out.size; omega
            have nb : b ≠ wr.heap.size := by omega
            clear hx hv' t14 hku hzz R xo
            subst hus hzs
            have CI := hide (fun (W : World) (h : Below w.heap.size w W) => IH.out x p (.slice ua x.ks.length uc) (.slice xza x.lf.e.ks.length xzc) W SZ.out XO.out hp9.out (KU.out.low h) (KZ.out.low h))
            unfold cnV at CI
            rw [HP.out] at CI
            generalize x.k = xk at *
            generalize x.lf.k = xlk at *
            generalize x.lf.t = xlt at *
            generalize x.lf.nm = xnm at *
            generalize x.lf.op = xop at *
            generalize x.lf.e.k = xek at *
            generalize x.lf.e.n = xen at *
            generalize x.lf.e.d = xed at *
            generalize x.lf.e.u = xeu at *
            generalize x.lf.wd = xwd at *
            generalize x.lf.vl = xvl at *
            generalize x.lf.an = xan at *
            cases hm2 : cnM x p
            · have HM := hide hm2
              have F := hide (show RR = false by rw [E.out, R2.out, hm2]; rfl)
              clear hm2 R2 E
              go_wp2_with (go_at_call 33; refine (CI.out _ (bplus BE.out _)).mono ?_; rintro e w4 ⟨rfl, B4⟩; rw [HM.out]; replace B4 := hide (bto (bplus BE.out _) B4))
              go_ret
              exact ⟨ret_bool F.out.symm, B4.out⟩
            · have HM := hide hm2
              have E2 := hide (show cnMs ks p = cnMs (ks.drop (m + 1)) p by rw [R2.out, hm2]; rfl)
              clear hm2 R2
              go_wp2_with (go_at_call 33; refine (CI.out _ (bplus BE.out _)).mono ?_; rintro e w4 ⟨rfl, B4⟩; rw [HM.out]; replace B4 := hide (bto (bplus BE.out _) B4))
              go_roundw
              case rel => exact .mk (m + 1) (by go_num) (by omega) B4.out E2.out
              case measure => simp [intOf]; omega
          · have F := hide (show RR = true by rw [E.out, R.out, List.drop_of_length_le (by omega), cnMs_nil])
            have hlt' : ¬ (m : Int) < ks.length := by omega
            go_wp2
            go_ret
            exact ⟨ret_bool F.out.symm, BE.out⟩
theorem condMayR_any (x : Cn) (u z : Value) (w : World) (hx : x.Ok) (hv : CM w u x.ks) (hz : EM w z x.lf.e.ks) :
    Calls Tryd.prog 18 #[cnV x u z] w fun e w' => e = .returned (.bool (cnM x 340)) ∧ Below w.heap.size w w' := by
  obtain ⟨a, c, rfl, hl9⟩ := hv.shape
  obtain ⟨za, zc, rfl, hz9⟩ := hz.shape
  have B0 := bplus (Below.refl w.heap.size w) (.cells #[.int .i64 x.k, .slice a x.ks.length c, .int .i64 x.lf.k, .int .i64 x.lf.t, .string x.lf.nm, .int .i64 x.lf.op, .int .i64 x.lf.e.k, .int .i64 x.lf.e.n, .int .i64 x.lf.e.d, .int .i64 x.lf.e.u, .slice za x.lf.e.ks.length zc, .string x.lf.wd, .string x.lf.vl, .bool x.lf.an] 39)
  have C := hide (mayCR_any (szC x) x 340 (.slice a x.ks.length c) (.slice za x.lf.e.ks.length zc) _ (Nat.le_refl _) hx (by omega) (hv.low B0) (hz.low B0))
  replace B0 := hide B0
  unfold cnV at C ⊢
  clear hx hv hz
  go_enter Tryd.func18, Tryd.ntmps18
  go_wp2_with (go_at_call 33; refine C.out.mono ?_; rintro e w1 ⟨rfl, B1⟩)
  go_ret
  exact ⟨rfl, bto B0.out B1⟩
end Go.Proofs.YtpcdhdllclenaaaDoor.cd
