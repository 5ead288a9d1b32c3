/-
  The truth of a condition: by the reference, Eval.
-/
import Derived.Test.YtpcdhdllclenaaaDoorCeG
set_option linter.unusedVariables false
set_option linter.unusedSimpArgs false
namespace Go.Proofs.YtpcdhdllclenaaaDoor.cd
open Go.RowKit

def RelEr (M W : World) (ks : List Cn) (ts : List Int) (t l i : Value) (wr : World) : Prop := ∃ (m : Nat) (rs ts' : List Int), i = .int .i64 m ∧ m ≤ ks.length ∧ rs.length = m ∧ NuW M t ts' ∧ Hid (Own W .i64 3 wr l rs) ∧ Hid (evRs ks ts = (rs ++ (evRs (ks.drop m) ts').1, (evRs (ks.drop m) ts').2))
theorem RelEr.mk {M W : World} {ks : List Cn} {ts : List Int} {t l i : Value} {wr : World} (m : Nat) (rs ts' : List Int) (h1 : i = .int .i64 m) (h2 : m ≤ ks.length) (h3 : rs.length = m) (h4 : NuW M t ts') (h5 : Own W .i64 3 wr l rs) (h6 : evRs ks ts = (rs ++ (evRs (ks.drop m) ts').1, (evRs (ks.drop m) ts').2)) : RelEr M W ks ts t l i wr := ⟨m, rs, ts', h1, h2, h3, h4, h5, h6⟩
set_option maxRecDepth 100000 in
set_option maxHeartbeats 16000000 in
theorem evalR_any (M : World) (N : Nat) : ∀ (x : Cn) (u z v : Value) (ts : List Int) (w : World) (j : Nat), szC x ≤ N → CM M u x.ks → EM M z x.lf.e.ks → cnM x j = true → NuW M v ts → Below M.heap.size M w →
    Calls Tryd.prog 41 #[cnV x u z, v] w fun e w' => ∃ v', e = .returned (.tuple #[.int .i64 (evR x ts).1, v']) ∧ NuW M v' (evR x ts).2 ∧ Below w.heap.size w w' := by
  induction N with
  | zero => intro x u z v ts w j hN; rw [szC_ks] at hN; omega
  | succ N ih =>
    intro x u z v ts w j hN hu hz hm hv hMw
    obtain ⟨hct, hkid⟩ := cn_kid hm
    have E := hide (evR_eq x ts)
    by_cases hk4 : x.k = 4
    · obtain ⟨k, lf, ks⟩ := x
      obtain rfl : k = 4 := hk4
      rw [E.out]
      exact evalR_leaf M lf ks u z v ts w (by obtain ⟨a, c, h, -⟩ := hu.shape; exact ⟨a, _, c, h⟩) (by obtain ⟨a, c, h, -⟩ := hz.shape; exact ⟨a, _, c, h⟩) hv hMw
    obtain ⟨a, c, rfl, hl9⟩ := hu.shape
    obtain ⟨za, zc, rfl, hz9⟩ := hz.shape
    obtain ⟨va, vc, rfl, hv9⟩ := hv.shape
    rw [szC_ks] at hN
    replace E := hide (E.out.trans (if_neg hk4))
    obtain ⟨k, ⟨lk, lt, nm, op, ⟨ek, en, ed, eu, eks⟩, wd, vl, an⟩, ks⟩ := x
    simp only [Cn.k, Cn.lf, Cn.ks] at hN hl9 E hct hkid hk4
    replace hu : CM M (.slice a ks.length c) ks := hu
    show Calls Tryd.prog 41 #[.agg #[.int .i64 k, .slice a ks.length c, .int .i64 lk, .int .i64 lt, .string nm, .int .i64 op, .int .i64 ek, .int .i64 en, .int .i64 ed, .int .i64 eu, .slice za eks.length zc, .string wd, .string vl, .bool an], .slice va ts.length vc] w _
    clear hz hz9
    generalize eks.length = zm at *
    have HU := hide hu
    have IH := hide ih
    have HK := hide hkid
    have HMW := hide hMw
    have HV := hide hv
    obtain ⟨w0, hw0⟩ : ∃ w0, w.alloc (.cells #[.int .i64 k, .slice a ks.length c, .int .i64 lk, .int .i64 lt, .string nm, .int .i64 op, .int .i64 ek, .int .i64 en, .int .i64 ed, .int .i64 eu, .slice za zm zc, .string wd, .string vl, .bool an] 39) = w0 := ⟨_, rfl⟩
    have B0 : Below w.heap.size w w0 := by rw [← hw0]; exact bplus (Below.refl _ _) _
    have P0 : w0.heap[w.heap.size]? = some (.cells #[.int .i64 k, .slice a ks.length c, .int .i64 lk, .int .i64 lt, .string nm, .int .i64 op, .int .i64 ek, .int .i64 en, .int .i64 ed, .int .i64 eu, .slice za zm zc, .string wd, .string vl, .bool an] 39) := by rw [← hw0]; exact heap_alloc_new w _
    have KH := hide (fun (W : World) (h : Below w0.heap.size w0 W) => (keep14 h P0).1)
    have HB0 := hide B0
    have HW0 := hide hw0
    obtain ⟨y0, y1, y2, y3, y4, y5, y6, y7, y8, y9, ya, yb, yc, yd⟩ := keep14 (Below.refl w0.heap.size w0) P0
    obtain ⟨i0, hi, hz0, hz1, hz2⟩ := info_parts info64
    have H3 := cnt4 hct hk4
    have hk4' : (k == 4) = false := by simpa using hk4
    generalize hR : evR (.mk k ⟨lk, lt, nm, op, .mk ek en ed eu eks, wd, vl, an⟩ ks) ts = R at *
    have hkk : k = 1 ∨ k = 2 ∨ k = 3 := by rcases H3 with h | h | ⟨h, -⟩ <;> omega
    have HH3 := hide H3
    clear hu ih hkid hm hw0 B0 P0 hMw hct hv H3 hR
    go_enter Tryd.func41, Tryd.ntmps41
    go_upto_region 1 with fail
    rw [HW0.out]
    go_wp2_with fail
    go_loopw [1, 7, 38] (fun t l i wr => RelEr M w0 ks ts t l i wr) (fun _ _ i _ => ks.length - (intOf i).toNat)
    case atStart => exact .mk 0 [] ts rfl (by omega) rfl HV.out (Own.nil _ _ _) (by simp)
    case round =>
      obtain ⟨m, rs, ts', rfl, hm, hrl, NT, OW, R2⟩ := hrel
      obtain ⟨ta, tc, rfl, -⟩ := NT.shape
      replace NT := hide NT
      have BM := hide (bto HMW.out (bto HB0.out OW.out.2))
      clear HW0 y0 y1 y2 y3 y4 y5 y6 y7 y8 y9 ya yb yc yd HV
      by_cases hlt : m < ks.length
      · obtain ⟨x, hx⟩ : ∃ x, ks[m]? = some x := ⟨_, List.getElem?_eq_getElem hlt⟩
        obtain ⟨b, o, c', xu, xz, hv', hb, -, -, xo, t14, hzz, hku⟩ := HU.out.at hx
        obtain ⟨rfl, rfl⟩ : a = some ⟨b, o, none⟩ ∧ c = c' := by cases hv'; exact ⟨rfl, rfl⟩
        obtain ⟨ua, uc, rfl, hks9⟩ := hku.shape
        obtain ⟨xa, xc, rfl, hzs9⟩ := hzz.shape
        have SZ : szC x ≤ N := by have := szCs_at hx; omega
        have CI := hide (fun (W : World) (h : Below M.heap.size M W) => IH.out x (.slice ua x.ks.length uc) (.slice xa x.lf.e.ks.length xc) (.slice ta ts'.length tc) ts' W (j - 1) SZ hku hzz (HK.out m x hx) NT.out h)
        have R3 := hide (show evRs ks ts = ((rs ++ [(evR x ts').1]) ++ (evRs (ks.drop (m + 1)) (evR x ts').2).1, (evRs (ks.drop (m + 1)) (evR x ts').2).2) by rw [R2.out, drop_atE hx, evRs_cons]; simp)
        have hlt' : (m : Int) < ks.length := by omega
        obtain ⟨c0, c1, c2, c3, c4, c5, c6, c7, c8, c9, ca, cb, cc, cd⟩ := t14.below BM.out hb
        have hbw : b < wr.heap.size := by have := BM.out.size; omega
        have nb : b ≠ wr.heap.size := by omega
        clear hx hv' t14 hzz hku SZ R2 xo
        unfold cnV at CI
        clear IH
        generalize evR x ts' = er at *
        generalize x.lf.e.ks.length = xem at *
        generalize x.ks.length = xm at *
        generalize x.k = xk at *
        generalize x.lf.k = xlk at *
        generalize x.lf.t = xlt at *
        generalize x.lf.nm = xnm at *
        generalize x.lf.op = xop at *
        generalize x.lf.e.k = xek at *
        generalize x.lf.e.n = xen at *
        generalize x.lf.e.d = xed at *
        generalize x.lf.e.u = xeu at *
        generalize x.lf.wd = xwd at *
        generalize x.lf.vl = xvl at *
        generalize x.lf.an = xan at *
        have hrs9 : rs.length ≤ 1000000000 := by omega
        go_wp2_with (first
          | (go_at_call 41; refine (CI.out _ (bto BM.out (bplus (Below.refl _ _) _))).mono ?_; rintro e w5 ⟨v', rfl, NV, B5⟩; replace NV := hide NV; replace B5 := hide (bto (bplus (Below.refl wr.heap.size wr) _) B5); have O5 := hide (show Own w0 .i64 3 w5 _ rs from ⟨own_low OW.out.1 B5.out, bto OW.out.2 B5.out⟩))
          | (at_builtin; refine wpList_append_own _ rfl _ _ 22 rfl w0.heap.size 3 i0 (.int .i64 0) 1 8 Tryd.underlying22 hi hz0 hz1 hz2 rfl (by decide) _ _ _ rfl (O5.out.1.alloc _) ⟨_, 0, none⟩ 1 1 [.int .i64 er.1] rfl rfl (news1 _ _ _) (by intro u hu; simp at hu; subst hu; rfl) (by unfold maxLen; omega) (by omega) (by have := O5.out.2.size; simp; omega) ?_; intro vv w6 hown' hgrow _; have O6 := hide (O5.out.grow (ys := [er.1]) hown' hgrow); clear hown' hgrow))
        go_roundw
        case rel => exact .mk (m + 1) (rs ++ [er.1]) er.2 (by go_num) (by omega) (by simp; omega) NV.out O6.out R3.out
        case measure => simp [intOf]; omega
      · obtain rfl : m = ks.length := by omega
        have hlt' : ¬ ((ks.length : Nat) : Int) < ks.length := by omega
        have R4 := hide (show evRs ks ts = (rs, ts') by rw [R2.out, List.drop_length, evRs_nil]; simp)
        have NU := hide (own_nu OW.out)
        obtain ⟨la, lc, rfl, -⟩ := NU.out.shape
        have z0 := KH.out wr OW.out.2
        have BW := hide (bto HB0.out OW.out.2)
        have C1 := hide (fun (W : World) (h : Below wr.heap.size wr W) => andR_any rs _ W (NU.out.below h))
        have C2 := hide (fun (W : World) (h : Below wr.heap.size wr W) => orR_any rs _ W (NU.out.below h))
        have NUR := hide (show (.slice la rs.length lc : Value) = .slice la ks.length lc by rw [hrl])
        have E2 := hide (show R = ((if k = 1 then anN 2 rs else if k = 2 then orN 0 rs else 2 - tr (rs.headD 0)), ts') by rw [E.out, R4.out]; rfl)
        clear R2 R4 OW KH HU IH HK
        rcases HH3.out with rfl | rfl | ⟨rfl, hq⟩
        · have F := hide (show R = (anN 2 rs, ts') by rw [E2.out]; simp)
          clear E E2
          generalize anN 2 rs = r at *
          clear hrl
          go_wp2_with (go_at_call 10; refine (C1.out _ (Below.refl _ _)).mono ?_; rintro e w6 ⟨rfl, rfl⟩)
          go_ret2
          exact ⟨_, tup2 (congrArg Prod.fst F.out).symm, (by rw [F.out]; exact NT.out), BW.out⟩
        · have F := hide (show R = (orN 0 rs, ts') by rw [E2.out]; simp)
          clear E E2
          generalize orN 0 rs = r at *
          clear hrl
          go_wp2_with (go_at_call 12; refine (C2.out _ (Below.refl _ _)).mono ?_; rintro e w6 ⟨rfl, rfl⟩)
          go_ret2
          exact ⟨_, tup2 (congrArg Prod.fst F.out).symm, (by rw [F.out]; exact NT.out), BW.out⟩
        · have F := hide (show R = (2 - tr (rs.headD 0), ts') by rw [E2.out]; simp)
          clear E E2
          have hq1 := hq.out
          obtain ⟨r0, rfl⟩ : ∃ r0, rs = [r0] := by
            rw [hq1] at hrl
            match rs, hrl with
            | [r0], _ => exact ⟨r0, rfl⟩
          have g0 : ∃ bb oo, la = some ⟨bb, oo, none⟩ ∧ wr.cell? ⟨bb, oo, none⟩ = some (.int .i64 r0) := by
            obtain ⟨bb, oo, e1, -, e2⟩ := NU.out.at (k := 0) (by simp)
            exact ⟨bb, oo, e1, by simpa [gt] using e2⟩
          obtain ⟨bb, oo, rfl, g1⟩ := g0
          have CN := hide (fun (W : World) => notR_any r0 W)
          show Code.wp _ _ _ _ _
          clear hrl hq hq1 HH3
          go_wp2_with (go_at_call 14; refine (CN.out _).mono ?_; rintro e w6 ⟨rfl, rfl⟩)
          go_ret2
          exact ⟨_, tup2 (congrArg Prod.fst F.out).symm, (by rw [F.out]; exact NT.out), BW.out⟩
end Go.Proofs.YtpcdhdllclenaaaDoor.cd
