/-
  May a condition be: by the program.
-/
import Derived.Test.YtpcdhdllclenaaaDoorCdE
import Derived.BigQuiet
set_option linter.unusedVariables false
set_option linter.unusedSimpArgs false
namespace Go.Proofs.YtpcdhdllclenaaaDoor.cd
open Go.RowKit

set_option maxRecDepth 100000 in
set_option maxHeartbeats 4000000 in
theorem leaf_out (x : Lf) (z : Value) (w : World) (h : x.k < 0 ∨ 7 ≤ x.k) : Calls Tryd.prog 50 #[lfV x z] w fun e w' => e = .returned (.bool (lfM x)) ∧ Below w.heap.size w w' := by
  have F := hide (show lfM x = false by unfold lfM; repeat rw [if_neg (by omega)])
  obtain ⟨lk, lt, nm, op, ⟨ek, en, ed, eu, eks⟩, wd, vl, an⟩ := x
  replace h : lk < 0 ∨ 7 ≤ lk := h
  have B0 := bplus (Below.refl w.heap.size w) (.cells #[.int .i64 lk, .int .i64 lt, .string nm, .int .i64 op, .int .i64 ek, .int .i64 en, .int .i64 ed, .int .i64 eu, z, .string wd, .string vl, .bool an] 37)
  have PQ := heap_alloc_new w (.cells #[.int .i64 lk, .int .i64 lt, .string nm, .int .i64 op, .int .i64 ek, .int .i64 en, .int .i64 ed, .int .i64 eu, z, .string wd, .string vl, .bool an] 37)
  simp only [lfV, Ex.k, Ex.n, Ex.d, Ex.u]
  rcases h with h | h
  · go_enter Tryd.func50, Tryd.ntmps50
    go_upto_region 1 with fail
    generalize w.alloc (.cells #[.int .i64 lk, .int .i64 lt, .string nm, .int .i64 op, .int .i64 ek, .int .i64 en, .int .i64 ed, .int .i64 eu, z, .string wd, .string vl, .bool an] 37) = w0 at *
    have HB0 := hide B0
    have HP := hide PQ
    have y0 := (keep12 (Below.refl _ _) PQ).1
    clear B0 PQ
    go_quiet (fail)
    go_wp2
    go_ret
    refine ⟨ret_bool F.out.symm, bto HB0.out ?_⟩
    repeat (first | exact Below.refl _ _ | (with_reducible refine Below.drew ?_) | (with_reducible refine below_drewN ?_ _) | (refine bto ?_ (by assumption)))
  · have h0 : ¬ lk < 0 := by omega
    go_enter Tryd.func50, Tryd.ntmps50
    go_upto_region 1 with fail
    generalize w.alloc (.cells #[.int .i64 lk, .int .i64 lt, .string nm, .int .i64 op, .int .i64 ek, .int .i64 en, .int .i64 ed, .int .i64 eu, z, .string wd, .string vl, .bool an] 37) = w0 at *
    have HB0 := hide B0
    have HP := hide PQ
    have y0 := (keep12 (Below.refl _ _) PQ).1
    clear B0 PQ
    go_quiet (fail)
    go_wp2
    go_ret
    refine ⟨ret_bool F.out.symm, bto HB0.out ?_⟩
    repeat (first | exact Below.refl _ _ | (with_reducible refine Below.drew ?_) | (with_reducible refine below_drewN ?_ _) | (refine bto ?_ (by assumption)))
theorem leafMay_any (x : Lf) (z : Value) (w : World) (he : x.e.Ok) (hz : EM w z x.e.ks) (hF : FO w) : Calls Tryd.prog 50 #[lfV x z] w fun e w' => e = .returned (.bool (lfM x)) ∧ Below w.heap.size w w' := by
  obtain ⟨lk, lt, nm, op, E0, wd, vl, an⟩ := x
  rcases (show (lk < 0 ∨ 7 ≤ lk) ∨ lk = 0 ∨ lk = 1 ∨ lk = 2 ∨ lk = 3 ∨ lk = 4 ∨ lk = 5 ∨ lk = 6 by omega) with h | rfl | rfl | rfl | rfl | rfl | rfl | rfl
  · exact leaf_out _ z w h
  · exact leaf_0 lt nm op E0 wd vl an z w he hz hF
  · exact leaf_1 lt nm op E0 wd vl an z w he hz hF
  · exact leaf_2 lt nm op E0 wd vl an z w he hz hF
  · exact leaf_3 lt nm op E0 wd vl an z w he hz hF
  · exact leaf_4 lt nm op E0 wd vl an z w he hz hF
  · exact leaf_5 lt nm op E0 wd vl an z w he hz hF
  · exact leaf_6 lt nm op E0 wd vl an z w he hz hF
theorem countC_any (k : Int) (n : Nat) (w : World) : Calls Tryd.prog 49 #[.int .i64 k, .int .i64 n] w fun e w' => e = .returned (.bool (cntC k n)) ∧ w' = w := by
  rcases (show k = 1 ∨ k = 2 ∨ k = 3 ∨ k = 4 ∨ (¬ k = 1 ∧ ¬ k = 2 ∧ ¬ k = 3 ∧ ¬ k = 4) by omega) with rfl | rfl | rfl | rfl | ⟨g1, g2, g3, g4⟩
  case inr.inr.inr.inr =>
    have h1 : (k == 1) = false := by simpa using g1
    have h2 : (k == 2) = false := by simpa using g2
    have h3 : (k == 3) = false := by simpa using g3
    have h4 : (k == 4) = false := by simpa using g4
    have F := hide (show cntC k n = false by unfold cntC; simp [g1, g2, g3, g4])
    go_enter Tryd.func49, Tryd.ntmps49
    go_wp2
    go_ret
    exact ⟨ret_bool F.out.symm, rfl⟩
  all_goals
    go_enter Tryd.func49, Tryd.ntmps49
    go_wp2
    go_ret
    exact ⟨ret_bool (by rw [Bool.eq_iff_iff]; simp [cntC]; try omega), rfl⟩
theorem keep14 {w0 w' : World} {b : Nat} {u0 u1 u2 u3 u4 u5 u6 u7 u8 u9 ua ub uc ud : Value} {T : TypeId} (h : Below w0.heap.size w0 w') (P : w0.heap[b]? = some (.cells #[u0, u1, u2, u3, u4, u5, u6, u7, u8, u9, ua, ub, uc, ud] T)) : w'.cell? ⟨b, 0, none⟩ = some u0 ∧ w'.cell? ⟨b, 1, none⟩ = some u1 ∧ w'.cell? ⟨b, 2, none⟩ = some u2 ∧ w'.cell? ⟨b, 3, none⟩ = some u3 ∧ w'.cell? ⟨b, 4, none⟩ = some u4 ∧ w'.cell? ⟨b, 5, none⟩ = some u5 ∧ w'.cell? ⟨b, 6, none⟩ = some u6 ∧ w'.cell? ⟨b, 7, none⟩ = some u7 ∧ w'.cell? ⟨b, 8, none⟩ = some u8 ∧ w'.cell? ⟨b, 9, none⟩ = some u9 ∧ w'.cell? ⟨b, 10, none⟩ = some ua ∧ w'.cell? ⟨b, 11, none⟩ = some ub ∧ w'.cell? ⟨b, 12, none⟩ = some uc ∧ w'.cell? ⟨b, 13, none⟩ = some ud := by
  have hb : b < w0.heap.size := (Array.getElem?_eq_some_iff.1 P).1
  have P' := (h.block b hb).trans P
  exact ⟨by rw [row_blk P']; rfl, by rw [row_blk P']; rfl, by rw [row_blk P']; rfl, by rw [row_blk P']; rfl, by rw [row_blk P']; rfl, by rw [row_blk P']; rfl, by rw [row_blk P']; rfl, by rw [row_blk P']; rfl, by rw [row_blk P']; rfl, by rw [row_blk P']; rfl, by rw [row_blk P']; rfl, by rw [row_blk P']; rfl, by rw [row_blk P']; rfl, by rw [row_blk P']; rfl⟩
def RelCm (w : World) (l : List Cn) (n : Nat) (i : Value) (wr : World) : Prop := ∃ k : Nat, i = .int .i64 k ∧ k ≤ l.length ∧ Below w.heap.size w wr ∧ Hid (cnMs l n = cnMs (l.drop k) n)
theorem RelCm.mk {w : World} {l : List Cn} {n : Nat} {i : Value} {wr : World} (k : Nat) (h1 : i = .int .i64 k) (h2 : k ≤ l.length) (h3 : Below w.heap.size w wr) (h4 : cnMs l n = cnMs (l.drop k) n) : RelCm w l n i wr := ⟨k, h1, h2, h3, h4⟩
set_option maxRecDepth 100000 in
set_option maxHeartbeats 8000000 in
theorem mayAtC_any (N : Nat) : ∀ (x : Cn) (j : Nat) (u z : Value) (w : World), szC x ≤ N → x.Ok → 1 ≤ j → j ≤ 341 → CM w u x.ks → EM w z x.lf.e.ks → FO w →
    Calls Tryd.prog 32 #[cnV x u z, .int .i64 j] w fun e w' => e = .returned (.bool (cnM x (341 - j))) ∧ Below w.heap.size w w' := by
  induction N with
  | zero => intro x j u z w hN; rw [szC_ks] at hN; omega
  | succ N ih =>
    intro x j u z w hN hx hj hj2 hv hz hF
    obtain ⟨a, c, rfl, hl9⟩ := hv.shape
    have E := hide (cnM_eq x (341 - j))
    rw [szC_ks] at hN
    obtain ⟨k, ⟨lk, lt, nm, op, ⟨ek, en, ed, eu, eks⟩, wd, vl, an⟩, ks⟩ := x
    obtain ⟨⟨k1, k2⟩, lok⟩ := hx
    have eok : (Ex.mk ek en ed eu eks).Ok := lok.2.2.2
    simp only [Cn.k, Cn.lf, Cn.ks] at k1 k2 hN hl9 E
    replace hv : CM w (.slice a ks.length c) ks := hv
    replace hz : EM w z eks := hz
    have CL := hide (fun (W : World) (h0 : Below w.heap.size w W) => leafMay_any ⟨lk, lt, nm, op, .mk ek en ed eu eks, wd, vl, an⟩ z W eok (hz.low h0) (hF.low h0))
    simp only [lfV, Ex.k, Ex.n, Ex.d, Ex.u] at CL
    show Calls Tryd.prog 32 #[.agg #[.int .i64 k, .slice a ks.length c, .int .i64 lk, .int .i64 lt, .string nm, .int .i64 op, .int .i64 ek, .int .i64 en, .int .i64 ed, .int .i64 eu, z, .string wd, .string vl, .bool an], .int .i64 j] w _
    have HV := hide hv
    have IH := hide ih
    have HFO := hide hF
    have CN := hide (fun (W : World) => countC_any k ks.length W)
    have B0 := bplus (Below.refl w.heap.size w) (.cells #[.int .i64 k, .slice a ks.length c, .int .i64 lk, .int .i64 lt, .string nm, .int .i64 op, .int .i64 ek, .int .i64 en, .int .i64 ed, .int .i64 eu, z, .string wd, .string vl, .bool an] 39)
    have PQ := heap_alloc_new w (.cells #[.int .i64 k, .slice a ks.length c, .int .i64 lk, .int .i64 lt, .string nm, .int .i64 op, .int .i64 ek, .int .i64 en, .int .i64 ed, .int .i64 eu, z, .string wd, .string vl, .bool an] 39)
    obtain ⟨w0, hw0⟩ : ∃ w0, w.alloc (.cells #[.int .i64 k, .slice a ks.length c, .int .i64 lk, .int .i64 lt, .string nm, .int .i64 op, .int .i64 ek, .int .i64 en, .int .i64 ed, .int .i64 eu, z, .string wd, .string vl, .bool an] 39) = w0 := ⟨_, rfl⟩
    rw [hw0] at B0 PQ
    have HW0 := hide hw0
    have HB0 := hide B0
    have HP := hide PQ
    replace CL := hide (fun (W : World) (h0 : Below w0.heap.size w0 W) => CL.out W (bto HB0.out h0))
    obtain ⟨y0, y1, y2, y3, y4, y5, y6, y7, y8, y9, ya, yb, yc, yd⟩ := keep14 (Below.refl _ _) PQ
    generalize hcm : cnM (.mk k ⟨lk, lt, nm, op, .mk ek en ed eu eks, wd, vl, an⟩ ks) (341 - j) = RR at *
    generalize lfM ⟨lk, lt, nm, op, .mk ek en ed eu eks, wd, vl, an⟩ = L at *
    clear hv ih hF hz hcm PQ B0 eok lok hw0
    by_cases hj3 : j = 341
    · subst hj3
      have F := hide (show RR = false by rw [E.out]; simp)
      clear E
      go_enter Tryd.func32, Tryd.ntmps32
      go_upto_region 1 with fail
      rw [HW0.out]
      go_wp2
      go_ret
      exact ⟨ret_bool F.out.symm, HB0.out⟩
    have hj4 : (j : Int) ≤ 340 := by omega
    replace E := hide (show RR = (cntC k ks.length && L && (k == 4 || lk == 0) && cnMs ks (340 - j)) by
      rw [E.out, show decide (0 < 341 - j) = true by simp; omega, show 341 - j - 1 = 340 - j by omega]; simp)
    cases hn : cntC k ks.length
    · have HN := hide hn
      have F := hide (show RR = false by rw [E.out, hn]; rfl)
      clear E hn
      go_enter Tryd.func32, Tryd.ntmps32
      go_upto_region 1 with fail
      rw [HW0.out]
      go_wp2_with (go_at_call 49; refine (CN.out _).mono ?_; rintro _ wm ⟨rfl, rfl⟩; rw [HN.out])
      go_ret
      exact ⟨ret_bool F.out.symm, HB0.out⟩
    have HN := hide hn
    cases L
    · have F := hide (show RR = false by rw [E.out, hn]; rfl)
      clear E hn
      go_enter Tryd.func32, Tryd.ntmps32
      go_upto_region 1 with fail
      rw [HW0.out]
      go_wp2_with (first
        | (go_at_call 49; refine (CN.out _).mono ?_; rintro _ wm ⟨rfl, rfl⟩; rw [HN.out])
        | (go_at_call 50; refine (CL.out _ (Below.refl _ _)).mono ?_; rintro _ wl ⟨rfl, hl⟩; obtain ⟨q0, q1, q2, q3, q4, q5, q6, q7, q8, q9, qa, qb, qc, qd⟩ := keep14 hl HP.out))
      go_ret
      exact ⟨ret_bool F.out.symm, bto HB0.out hl⟩
    by_cases hkk : k = 4 ∨ lk = 0
    case neg =>
      have F := hide (show RR = false by rw [E.out, hn, show (k == 4) = false by simp; omega, show (lk == 0) = false by simp; omega]; rfl)
      have hk4 : ¬ k = 4 := by omega
      have hl0 : ¬ lk = 0 := by omega
      have hk4' : (k == 4) = false := by simpa using hk4
      have hl0' : (lk == 0) = false := by simpa using hl0
      have hk5' : (k != 4) = true := by simpa using hk4
      have hl5' : (lk != 0) = true := by simpa using hl0
      clear E hn
      go_enter Tryd.func32, Tryd.ntmps32
      go_upto_region 1 with fail
      rw [HW0.out]
      go_wp2_with (first
        | (go_at_call 49; refine (CN.out _).mono ?_; rintro _ wm ⟨rfl, rfl⟩; rw [HN.out])
        | (go_at_call 50; refine (CL.out _ (Below.refl _ _)).mono ?_; rintro _ wl ⟨rfl, hl⟩; obtain ⟨q0, q1, q2, q3, q4, q5, q6, q7, q8, q9, qa, qb, qc, qd⟩ := keep14 hl HP.out))
      go_ret
      exact ⟨ret_bool F.out.symm, bto HB0.out hl⟩
    replace E := hide (show RR = cnMs ks (340 - j) by rw [E.out, hn, show (k == 4 || lk == 0) = true by simpa using hkk]; simp)
    clear hn
    have hk2 : k = 4 ∨ (¬ k = 4 ∧ lk = 0) := by omega
    clear hkk
    rcases hk2 with rfl | ⟨hk4, rfl⟩
    case inl =>
      go_enter Tryd.func32, Tryd.ntmps32
      go_upto_region 1 with fail
      rw [HW0.out]
      go_wp2_with (first
          | (go_at_call 49; refine (CN.out _).mono ?_; rintro _ wm ⟨rfl, rfl⟩; rw [HN.out])
          | (go_at_call 50; refine (CL.out _ (Below.refl _ _)).mono ?_; rintro _ wl ⟨rfl, hl⟩; obtain ⟨q0, q1, q2, q3, q4, q5, q6, q7, q8, q9, qa, qb, qc, qd⟩ := keep14 hl HP.out))
      have HB1 := hide (bto HB0.out hl)
      go_loopw [36] (fun i wr => RelCm w ks (340 - j) i wr) (fun i _ => ks.length - (intOf i).toNat)
      case atStart => exact .mk 0 rfl (by omega) HB1.out (by simp)
      case round =>
        obtain ⟨m, rfl, hm, BE, R⟩ := hrel
        replace BE := hide BE
        by_cases hlt : m < ks.length
        · obtain ⟨x, hx⟩ : ∃ x, ks[m]? = some x := ⟨_, List.getElem?_eq_getElem hlt⟩
          obtain ⟨b, o, c', u, zz, hv', hb, -, -, xo, t14, hzz, hku⟩ := HV.out.at hx
          obtain ⟨rfl, rfl⟩ : a = some ⟨b, o, none⟩ ∧ c = c' := by cases hv'; exact ⟨rfl, rfl⟩
          obtain ⟨ua, uc, hus, hks9⟩ := hku.shape
          obtain ⟨za, zc, hzs, hzs9⟩ := hzz.shape
          have SZ := hide (show szC x ≤ N by have := szCs_at hx; omega)
          have KU := hide hku
          have KZ := hide hzz
          have XO := hide xo
          have R2 := hide (show cnMs ks (340 - j) = (cnM x (340 - j) && cnMs (ks.drop (m + 1)) (340 - j)) by rw [R.out, drop_atE hx, cnMs_cons])
          have hlt' : (m : Int) < ks.length := by omega
          obtain ⟨c0, c1, c2, c3, c4, c5, c6, c7, c8, c9, ca, cb, cc, cd⟩ := t14.below BE.out hb
          have hbw : b < wr.heap.size := by have := BE.out.size; omega
          have nb : b ≠ wr.heap.size := by omega
          clear hx hv' t14 hku hzz R xo
          subst hus hzs
          have CI := hide (fun (W : World) (h : Below w.heap.size w W) => IH.out x (j + 1) (.slice ua x.ks.length uc) (.slice za x.lf.e.ks.length zc) W SZ.out XO.out (by omega) (by omega) (KU.out.low h) (KZ.out.low h) (HFO.out.low h))
          rw [show 341 - (j + 1) = 340 - j by omega] at CI
          unfold cnV at CI
          rw [show ((j + 1 : Nat) : Int) = (j : Int) + 1 by omega] at CI
          generalize x.k = xk at *
          generalize x.lf.k = xlk at *
          generalize x.lf.t = xlt at *
          generalize x.lf.nm = xnm at *
          generalize x.lf.op = xop at *
          generalize x.lf.e.k = xek at *
          generalize x.lf.e.n = xen at *
          generalize x.lf.e.d = xed at *
          generalize x.lf.e.u = xeu at *
          generalize x.lf.wd = xwd at *
          generalize x.lf.vl = xvl at *
          generalize x.lf.an = xan at *
          cases hm2 : cnM x (340 - j)
          · have HM := hide hm2
            have F := hide (show RR = false by rw [E.out, R2.out, hm2]; rfl)
            clear hm2 R2 E
            go_wp2_with (go_at_call 32; refine (CI.out _ (bplus BE.out _)).mono ?_; rintro e w4 ⟨rfl, B4⟩; rw [HM.out]; replace B4 := hide (bto (bplus BE.out _) B4))
            go_ret
            exact ⟨ret_bool F.out.symm, B4.out⟩
          · have HM := hide hm2
            have E2 := hide (show cnMs ks (340 - j) = cnMs (ks.drop (m + 1)) (340 - j) by rw [R2.out, hm2]; rfl)
            clear hm2 R2
            go_wp2_with (go_at_call 32; refine (CI.out _ (bplus BE.out _)).mono ?_; rintro e w4 ⟨rfl, B4⟩; rw [HM.out]; replace B4 := hide (bto (bplus BE.out _) B4))
            go_roundw
            case rel => exact .mk (m + 1) (by go_num) (by omega) B4.out E2.out
            case measure => simp [intOf]; omega
        · have F := hide (show RR = true by rw [E.out, R.out, List.drop_of_length_le (by omega), cnMs_nil])
          have hlt' : ¬ (m : Int) < ks.length := by omega
          go_wp2
          go_ret
          exact ⟨ret_bool F.out.symm, BE.out⟩
    case inr =>
      have hk4' : (k == 4) = false := by simpa using hk4
      have hk5' : (k != 4) = true := by simpa using hk4
      go_enter Tryd.func32, Tryd.ntmps32
      go_upto_region 1 with fail
      rw [HW0.out]
      go_wp2_with (first
          | (go_at_call 49; refine (CN.out _).mono ?_; rintro _ wm ⟨rfl, rfl⟩; rw [HN.out])
          | (go_at_call 50; refine (CL.out _ (Below.refl _ _)).mono ?_; rintro _ wl ⟨rfl, hl⟩; obtain ⟨q0, q1, q2, q3, q4, q5, q6, q7, q8, q9, qa, qb, qc, qd⟩ := keep14 hl HP.out))
      have HB1 := hide (bto HB0.out hl)
      go_loopw [36] (fun i wr => RelCm w ks (340 - j) i wr) (fun i _ => ks.length - (intOf i).toNat)
      case atStart => exact .mk 0 rfl (by omega) HB1.out (by simp)
      case round =>
        obtain ⟨m, rfl, hm, BE, R⟩ := hrel
        replace BE := hide BE
        by_cases hlt : m < ks.length
        · obtain ⟨x, hx⟩ : ∃ x, ks[m]? = some x := ⟨_, List.getElem?_eq_getElem hlt⟩
          obtain ⟨b, o, c', u, zz, hv', hb, -, -, xo, t14, hzz, hku⟩ := HV.out.at hx
          obtain ⟨rfl, rfl⟩ : a = some ⟨b, o, none⟩ ∧ c = c' := by cases hv'; exact ⟨rfl, rfl⟩
          obtain ⟨ua, uc, hus, hks9⟩ := hku.shape
          obtain ⟨za, zc, hzs, hzs9⟩ := hzz.shape
          have SZ := hide (show szC x ≤ N by have := szCs_at hx; omega)
          have KU := hide hku
          have KZ := hide hzz
          have XO := hide xo
          have R2 := hide (show cnMs ks (340 - j) = (cnM x (340 - j) && cnMs (ks.drop (m + 1)) (340 - j)) by rw [R.out, drop_atE hx, cnMs_cons])
          have hlt' : (m : Int) < ks.length := by omega
          obtain ⟨c0, c1, c2, c3, c4, c5, c6, c7, c8, c9, ca, cb, cc, cd⟩ := t14.below BE.out hb
          have hbw : b < wr.heap.size := by have := BE.out.size; omega
          have nb : b ≠ wr.heap.size := by omega
          clear hx hv' t14 hku hzz R xo
          subst hus hzs
          have CI := hide (fun (W : World) (h : Below w.heap.size w W) => IH.out x (j + 1) (.slice ua x.ks.length uc) (.slice za x.lf.e.ks.length zc) W SZ.out XO.out (by omega) (by omega) (KU.out.low h) (KZ.out.low h) (HFO.out.low h))
          rw [show 341 - (j + 1) = 340 - j by omega] at CI
          unfold cnV at CI
          rw [show ((j + 1 : Nat) : Int) = (j : Int) + 1 by omega] at CI
          generalize x.k = xk at *
          generalize x.lf.k = xlk at *
          generalize x.lf.t = xlt at *
          generalize x.lf.nm = xnm at *
          generalize x.lf.op = xop at *
          generalize x.lf.e.k = xek at *
          generalize x.lf.e.n = xen at *
          generalize x.lf.e.d = xed at *
          generalize x.lf.e.u = xeu at *
          generalize x.lf.wd = xwd at *
          generalize x.lf.vl = xvl at *
          generalize x.lf.an = xan at *
          cases hm2 : cnM x (340 - j)
          · have HM := hide hm2
            have F := hide (show RR = false by rw [E.out, R2.out, hm2]; rfl)
            clear hm2 R2 E
            go_wp2_with (go_at_call 32; refine (CI.out _ (bplus BE.out _)).mono ?_; rintro e w4 ⟨rfl, B4⟩; rw [HM.out]; replace B4 := hide (bto (bplus BE.out _) B4))
            go_ret
            exact ⟨ret_bool F.out.symm, B4.out⟩
          · have HM := hide hm2
            have E2 := hide (show cnMs ks (340 - j) = cnMs (ks.drop (m + 1)) (340 - j) by rw [R2.out, hm2]; rfl)
            clear hm2 R2
            go_wp2_with (go_at_call 32; refine (CI.out _ (bplus BE.out _)).mono ?_; rintro e w4 ⟨rfl, B4⟩; rw [HM.out]; replace B4 := hide (bto (bplus BE.out _) B4))
            go_roundw
            case rel => exact .mk (m + 1) (by go_num) (by omega) B4.out E2.out
            case measure => simp [intOf]; omega
        · have F := hide (show RR = true by rw [E.out, R.out, List.drop_of_length_le (by omega), cnMs_nil])
          have hlt' : ¬ (m : Int) < ks.length := by omega
          go_wp2
          go_ret
          exact ⟨ret_bool F.out.symm, BE.out⟩
theorem condMay_any (x : Cn) (u z : Value) (w : World) (hx : x.Ok) (hv : CM w u x.ks) (hz : EM w z x.lf.e.ks) (hF : FO w) :
    Calls Tryd.prog 17 #[cnV x u z] w fun e w' => e = .returned (.bool (cnM x 340)) ∧ Below w.heap.size w w' := by
  obtain ⟨a, c, rfl, hl9⟩ := hv.shape
  have B0 := bplus (Below.refl w.heap.size w) (.cells #[.int .i64 x.k, .slice a x.ks.length c, .int .i64 x.lf.k, .int .i64 x.lf.t, .string x.lf.nm, .int .i64 x.lf.op, .int .i64 x.lf.e.k, .int .i64 x.lf.e.n, .int .i64 x.lf.e.d, .int .i64 x.lf.e.u, z, .string x.lf.wd, .string x.lf.vl, .bool x.lf.an] 39)
  have C := hide (mayAtC_any (szC x) x 1 (.slice a x.ks.length c) z _ (Nat.le_refl _) hx (by omega) (by omega) (hv.low B0) (hz.low B0) (hF.low B0))
  replace B0 := hide B0
  unfold cnV at C ⊢
  clear hx hv hz hF
  go_enter Tryd.func17, Tryd.ntmps17
  go_wp2_with (go_at_call 32; refine C.out.mono ?_; rintro e w1 ⟨rfl, B1⟩)
  go_ret
  exact ⟨rfl, bto B0.out B1⟩
end Go.Proofs.YtpcdhdllclenaaaDoor.cd
