/-
  What an expression of numbers comes to: the walk of the program.
  What an expression comes to: the walk of the reference.
-/
import Derived.Test.YtlhmecagijdinaaDoorH12
import Derived.Deep.MidRow
import Derived.Deep.DeepCutAuto
set_option linter.unusedVariables false
set_option linter.unusedSimpArgs false
namespace Go.Proofs.YtlhmecagijdinaaDoor.nm
open Go.RowKit cc

set_option maxRecDepth 100000 in
set_option maxHeartbeats 8000000 in
theorem numP_all (sz : Int → Int × Int) (N : Nat) : NuC sz N := by
  induction N with
  | zero => intro x j u w hN; rw [szE_ks] at hN; omega
  | succ N ih =>
    intro x j u w hN hx hm hk hu
    obtain ⟨a, c, rfl, hl9⟩ := hu.shape
    have RX := rk_64 sz hx
    have KX := hx.kids
    have KN := fun h => kids_num hm h hk
    have KL := fun h => kids_len hm h
    have KM := fun h => exMs_mem (exM_kids hm h).1
    rw [szE_ks] at hN
    obtain ⟨k, n, d, q, ks⟩ := x
    simp only [Ex.k, Ex.n, Ex.d, Ex.u, Ex.ks] at hN hl9 hu KX KN KL KM
    have E := rkE_mk sz k n d q ks
    show Calls Tryd.prog 55 #[.agg #[.int .i64 k, .int .i64 n, .int .i64 d, .int .i64 q, .slice a ks.length c]] w _
    by_cases k1 : k = 1
    · subst k1
      obtain rfl := num_unit hk
      rw [if_pos rfl, if_pos rfl] at E
      rw [E]
      clear E hm hu ih KX KN KL KM RX hx hk hN
      have HB := hide (bplus (bplus (Below.refl w.heap.size w) (.cells #[.int .i64 1, .int .i64 n, .int .i64 d, .int .i64 0, .slice a ks.length c] 26)) (.cells #[.int .i64 0, .int .i64 0] 23))
      go_enter Tryd.func55, Tryd.ntmps55
      go_wp2
      exact bodyPost_ret (v := .agg #[.int .i64 n, .int .i64 d]) (by simp [results, Tryd.results55, go_sem, *]) rfl ⟨rfl, by repeat (first | exact Below.refl _ _ | (refine bplus ?_ _) | (refine Below.setCell ?_ (by first | (simp; done) | (simp; omega)) _))⟩
    replace KN := hide (KN k1)
    replace KM := hide (KM k1)
    obtain ⟨hkk, hl1, h83⟩ := KL k1
    have k1' : (k == 1) = false := by simpa using k1
    rw [if_neg k1] at E
    obtain ⟨rs, hrs⟩ : ∃ rs, ks.map (rkE sz) = rs := ⟨_, rfl⟩
    have RL : rs.length = ks.length := by rw [← hrs, List.length_map]
    have RA := hide (show ∀ i y, ks[i]? = some y → rs[i]? = some (rkE sz y) by intro i y h; rw [← hrs, List.getElem?_map, h]; rfl)
    have RI := hide (show ∀ r ∈ rs, R64 r by intro r hr; rw [← hrs] at hr; obtain ⟨y, hy, rfl⟩ := List.mem_map.1 hr; exact rk_64 sz (KX y hy))
    rw [hrs] at E
    obtain ⟨X, hX⟩ : ∃ X, rkE sz (.mk k n d q ks) = X := ⟨_, rfl⟩
    rw [hX] at E RX ⊢
    replace E := hide E
    have HV := hide hu
    have KXH := hide KX
    have IH := hide (fun (i : Nat) (y : Ex) (u : Value) (W : World) (hy : ks[i]? = some y) (hW : Below w.heap.size w W) (hu : EM w u y.ks) => ih y (j - 1) u W (by have := szEs_at hy; omega) (KX y (List.mem_of_getElem? hy)) (KM.out y (List.mem_of_getElem? hy)) (KN.out y (List.mem_of_getElem? hy)) (hu.low hW))
    have RL := hide RL
    clear hX hrs hm hu ih KX KN KL KM hx hk hN
    obtain ⟨W1, hW1⟩ : ∃ W1, (w.alloc (.cells #[.int .i64 k, .int .i64 n, .int .i64 d, .int .i64 q, .slice a ks.length c] 26)).alloc (.cells #[.int .i64 0, .int .i64 0] 23) = W1 := ⟨_, rfl⟩
    have S1 : W1.heap.size = w.heap.size + 2 := by rw [← hW1]; simp
    have B0 := hide (show Below w.heap.size w W1 by rw [← hW1]; exact bplus (bplus (Below.refl _ _) _) _)
    have P0 := hide (show Bk W1 w.heap.size 26 [.int .i64 k, .int .i64 n, .int .i64 d, .int .i64 q, .slice a ks.length c] by rw [← hW1]; exact (two_new w _ _).1)
    have P1 := hide (show Bk W1 (w.heap.size + 1) 23 [.int .i64 0, .int .i64 0] by rw [← hW1]; exact (two_new w _ _).2)
    have HW1 := hide hW1
    have a0 := Bk.cell P0.out 0
    have a4 := Bk.cell P0.out 4
    simp at a0 a4
    clear hW1
    go_enter Tryd.func55, Tryd.ntmps55
    go_upto_region 1 with fail
    rw [HW1.out]
    clear HW1
    have MK := madeR ks.length hl9 W1
    have K0 := hide (show Rw2 (W1.alloc (.cells (madeCells #[.int .i64 0, .int .i64 0] (ks.length * 2)) 23)) (w.heap.size + 2) ks.length 0 rs by rw [← S1]; exact Rw2.new W1 _ _)
    have K1 := hide (show Bk (W1.alloc (.cells (madeCells #[.int .i64 0, .int .i64 0] (ks.length * 2)) 23)) (w.heap.size + 1) 23 [.int .i64 0, .int .i64 0] from Bk.more P1.out _)
    have K2 := hide (show Bk (W1.alloc (.cells (madeCells #[.int .i64 0, .int .i64 0] (ks.length * 2)) 23)) w.heap.size 26 [.int .i64 k, .int .i64 n, .int .i64 d, .int .i64 q, .slice a ks.length c] from Bk.more P0.out _)
    have K3 := hide (show Below w.heap.size w (W1.alloc (.cells (madeCells #[.int .i64 0, .int .i64 0] (ks.length * 2)) 23)) from bplus B0.out _)
    go_upto_region 4 with fail
    clear MK P0 P1 B0 a0 a4
    (try rw [S1])
    generalize W1.alloc (.cells (madeCells #[.int .i64 0, .int .i64 0] (ks.length * 2)) 23) = W2 at *
    clear S1
    have a4 := Bk.cell K2.out 4
    simp at a4
    go_wp2_with fail
    go_loopw [18] (fun i wr => RelNu w rs ks.length [.int .i64 k, .int .i64 n, .int .i64 d, .int .i64 q, .slice a ks.length c] i wr) (fun i _ => ks.length - (intOf i).toNat)
    case atStart => exact .mk 0 rfl (by omega) K0.out K1.out K2.out K3.out
    case round =>
      obtain ⟨m, rfl, hmn, R⟩ := hrel
      have Q0 := hide R.out.1
      have Q1 := hide R.out.2.1
      have Q2 := hide R.out.2.2.1
      have BW := hide R.out.2.2.2
      clear R K0 K1 K2 K3 a4
      by_cases hlt : m < ks.length
      · have hlt' : (m : Int) < ks.length := by omega
        obtain ⟨y, hy⟩ : ∃ y, ks[m]? = some y := ⟨_, List.getElem?_eq_getElem hlt⟩
        obtain ⟨b, o, c', u5, hv', hb, -, -, yo, t5, hu5, hku⟩ := HV.out.at hy
        obtain ⟨rfl, -, rfl⟩ := Value.slice.inj hv'
        have CI := hide (fun (W : World) (hW : Below w.heap.size w W) => IH.out m y u5 W hy hW hku)
        obtain ⟨ua, uc, rfl, -⟩ := hku.shape
        have AY := hide (RA.out m y hy)
        obtain ⟨ry, hry⟩ : ∃ ry, rkE sz y = ry := ⟨_, rfl⟩
        rw [hry] at CI AY
        obtain ⟨c0, c1, c2, c3⟩ := t5.below BW.out hb
        have c4 := (BW.out.cell (p := ⟨b, o + m * 5 + 4, none⟩) hb).trans hu5
        have hbw : b < wr.heap.size := by have := BW.out.size; omega
        have nb : b ≠ wr.heap.size := by omega
        have hq2 : w.heap.size + 2 < wr.heap.size := Rw2.lt Q0.out
        unfold exV at CI
        clear hy t5 hu5 hku yo hry
        (try clear hv')
        generalize y.k = yk at *
        generalize y.n = yn at *
        generalize y.d = yd at *
        generalize y.u = yu at *
        generalize y.ks.length = yl at *
        have BB := hide (bplus BW.out (.cells #[.int .i64 yk, .int .i64 yn, .int .i64 yd, .int .i64 yu, .slice ua yl uc] 26))
        have BX := hide (bplus (Below.refl wr.heap.size wr) (.cells #[.int .i64 yk, .int .i64 yn, .int .i64 yd, .int .i64 yu, .slice ua yl uc] 26))
        have RM := hide (Q0.out.more (.cells #[.int .i64 yk, .int .i64 yn, .int .i64 yd, .int .i64 yu, .slice ua yl uc] 26))
        have PP := hide (fun (W : World) (h : Below wr.heap.size wr W) => (Rw2.up Q0.out h).put hlt AY.out)
        have NY := hide (fun (W : World) (h : Below wr.heap.size wr W) => show Bk ((W.setCell ⟨w.heap.size + 2, m * 2, none⟩ (.int .i64 ry.1)).setCell ⟨w.heap.size + 2, m * 2 + 1, none⟩ (.int .i64 ry.2)) (w.heap.size + 1) 23 [.int .i64 0, .int .i64 0] from Bk.far (Bk.far (Bk.up Q1.out h) (by omega) _ _) (by omega) _ _)
        have NZ := hide (fun (W : World) (h : Below wr.heap.size wr W) => show Bk ((W.setCell ⟨w.heap.size + 2, m * 2, none⟩ (.int .i64 ry.1)).setCell ⟨w.heap.size + 2, m * 2 + 1, none⟩ (.int .i64 ry.2)) w.heap.size 26 [.int .i64 k, .int .i64 n, .int .i64 d, .int .i64 q, .slice (some ⟨b, o, none⟩) ks.length c] from Bk.far (Bk.far (Bk.up Q2.out h) (by omega) _ _) (by omega) _ _)
        have NB := hide (fun (W : World) (h : Below wr.heap.size wr W) => show Below w.heap.size w ((W.setCell ⟨w.heap.size + 2, m * 2, none⟩ (.int .i64 ry.1)).setCell ⟨w.heap.size + 2, m * 2 + 1, none⟩ (.int .i64 ry.2)) from ((bto BW.out h).setCell (by simp) _).setCell (by simp) _)
        have TH := hide (fun (W : World) (h : Below wr.heap.size wr W) => And.intro (Rw2.there (Rw2.up Q0.out h) (j := m * 2) (by omega)) (Rw2.there (Rw2.up Q0.out h) (j := m * 2 + 1) (by omega)))
        clear IH RA HV Q0 Q1 Q2 AY
        unfold ratV at CI
        go_wp2_with (go_at_call 55; refine (CI.out _ BB.out).mono ?_; rintro e w2 ⟨rfl, B2⟩; replace B2 := hide (bto BX.out B2); obtain ⟨⟨⟨z0, t0⟩, v0⟩, ⟨z1, t1⟩, v1⟩ := TH.out _ B2.out)
        go_roundw
        case rel => exact .mk (m + 1) (by go_num) (by omega) (PP.out _ B2.out) (NY.out _ B2.out) (NZ.out _ B2.out) (NB.out _ B2.out)
        case measure => simp [intOf]; omega
      · obtain rfl : m = ks.length := by omega
        have hlt' : ¬ (ks.length : Int) < ks.length := by omega
        have b0 := Bk.cell Q2.out 0
        simp at b0
        have RW := hide (Rw2.row Q0.out RL.out hl9)
        have TR := hide (fun (W : World) (h : Below wr.heap.size wr W) => show (W.cell? ⟨w.heap.size + 1, 0, none⟩ = some (.int .i64 0) ∧ W.cell? ⟨w.heap.size + 1, 1, none⟩ = some (.int .i64 0)) ∧ W.frozen? ⟨w.heap.size + 1, 0, none⟩ = false ∧ W.frozen? ⟨w.heap.size + 1, 1, none⟩ = false from ⟨⟨Bk.cell (Bk.up Q1.out h) 0, Bk.cell (Bk.up Q1.out h) 1⟩, Bk.fz (Bk.up Q1.out h) 0, Bk.fz (Bk.up Q1.out h) 1⟩)
        have NB := hide (fun (W : World) (u v : Value) (h : Below wr.heap.size wr W) => show Below w.heap.size w ((W.setCell ⟨w.heap.size + 1, 0, none⟩ u).setCell ⟨w.heap.size + 1, 1, none⟩ v) from ((bto BW.out h).setCell (by simp) _).setCell (by simp) _)
        have LC := hide (fun (i : Nat) (hi : i < ks.length) (W : World) (h : Below wr.heap.size wr W) => show W.cell? ⟨w.heap.size + 2, i * 2, none⟩ = some (.int .i64 (rAt rs i).1) ∧ W.cell? ⟨w.heap.size + 2, i * 2 + 1, none⟩ = some (.int .i64 (rAt rs i).2) from Rw2.at (Rw2.up Q0.out h) hi (show rs[i]? = some (rAt rs i) by have := RL.out; rw [List.getElem?_eq_getElem (by omega)]; unfold rAt; rw [List.getD_eq_getElem?_getD, List.getElem?_eq_getElem (by omega)]; rfl))
        have BX := hide (Below.refl wr.heap.size wr)
        have hs1 : w.heap.size + 1 < wr.heap.size := Bk.lt Q1.out
        have hs2 : w.heap.size + 2 < wr.heap.size := Rw2.lt Q0.out
        have hl1' : (1 : Int) ≤ ks.length := by omega
        have hl0' : (0 : Int) < ks.length := by omega
        have R0 := rAt_64 RI.out 0
        have R1 := rAt_64 RI.out 1
        have R2 := rAt_64 RI.out 2
        clear Q0 Q1 Q2 HV IH RA RL KXH RX
        generalize ks.length = kl at *
        rcases hkk with rfl | rfl | rfl | rfl | rfl | rfl | rfl
        · replace E := hide (show X = wk.addAll rs from E.out)
          have CO := hide (addP_op RW.out RI.out)
          obtain ⟨r, hr⟩ : ∃ r, wk.addAll rs = r := ⟨_, rfl⟩
          rw [hr] at CO E
          clear hr
          unfold OpC ratV at CO
          go_wp2_with (go_at_call 67; refine (CO.out _ BX.out).mono ?_; rintro e w5 ⟨rfl, B5⟩; replace BX := hide B5; obtain ⟨⟨e0, e1⟩, f0, f1⟩ := TR.out _ B5)
          exact bodyPost_ret (v := ratV r) (by simp [ratV, results, Tryd.results55, go_sem, *]) rfl ⟨by rw [E.out], NB.out _ _ _ BX.out⟩
        · replace E := hide (show X = ngR (rAt rs 0) from E.out)
          have CO := hide (negP_op (W0 := wr) R0)
          obtain ⟨g0, g1⟩ := LC.out 0 (by omega) wr BX.out
          rw [Nat.zero_mul] at g0 g1
          obtain ⟨r, hr⟩ : ∃ r, ngR (rAt rs 0) = r := ⟨_, rfl⟩
          rw [hr] at CO E
          clear hr LC
          generalize rAt rs 0 = r0 at *
          unfold OpC ratV at CO
          go_wp2_with (go_at_call 79; refine (CO.out _ BX.out).mono ?_; rintro e w5 ⟨rfl, B5⟩; replace BX := hide B5; obtain ⟨⟨e0, e1⟩, f0, f1⟩ := TR.out _ B5)
          exact bodyPost_ret (v := ratV r) (by simp [ratV, results, Tryd.results55, go_sem, *]) rfl ⟨by rw [E.out], NB.out _ _ _ BX.out⟩
        · replace E := hide (show X = wk.mulAll rs from E.out)
          have CO := hide (mulP_op RW.out RI.out)
          obtain ⟨r, hr⟩ : ∃ r, wk.mulAll rs = r := ⟨_, rfl⟩
          rw [hr] at CO E
          clear hr
          unfold OpC ratV at CO
          go_wp2_with (go_at_call 56; refine (CO.out _ BX.out).mono ?_; rintro e w5 ⟨rfl, B5⟩; replace BX := hide B5; obtain ⟨⟨e0, e1⟩, f0, f1⟩ := TR.out _ B5)
          exact bodyPost_ret (v := ratV r) (by simp [ratV, results, Tryd.results55, go_sem, *]) rfl ⟨by rw [E.out], NB.out _ _ _ BX.out⟩
        · replace E := hide (show X = dvR (1, 1) (rAt rs 0) from E.out)
          have CO := hide (fun (W : World) (h : Below wr.heap.size wr W) => (wk.of_all 1 1 W (by decide) (by decide) (by decide) (by decide)).mono (R' := fun e w' => e = .returned (ratV (1, 1)) ∧ Below wr.heap.size wr w') (by rintro e w1 ⟨rfl, U⟩; exact ⟨rfl, bto h U.1⟩))
          have CD := hide (fun (W : World) (h : Below wr.heap.size wr W) => (wk.divP_any 1 1 (rAt rs 0).1 (rAt rs 0).2 W ⟨by decide, by decide⟩ ⟨by decide, by decide⟩ R0.1 R0.2).mono (R' := fun e w' => e = .returned (ratV (dvR (1, 1) (rAt rs 0))) ∧ Below wr.heap.size wr w') (by rintro e w1 ⟨rfl, U⟩; exact ⟨rfl, bto h U.1⟩))
          have L0 := hide (fun (W : World) (h : Below wr.heap.size wr W) => show W.cell? ⟨w.heap.size + 2, 0, none⟩ = some (.int .i64 (rAt rs 0).1) ∧ W.cell? ⟨w.heap.size + 2, 1, none⟩ = some (.int .i64 (rAt rs 0).2) by have := LC.out 0 (by omega) W h; rwa [Nat.zero_mul] at this)
          obtain ⟨r, hr⟩ : ∃ r, dvR (1, 1) (rAt rs 0) = r := ⟨_, rfl⟩
          rw [hr] at CD E
          clear hr LC
          generalize rAt rs 0 = r0 at *
          obtain ⟨g0, g1⟩ := L0.out wr BX.out
          unfold ratV at CO CD
          go_upto_region 17 with fail
          go_region_with (first
            | (go_at_call 34; refine (CO.out _ (by repeat (first | exact BX.out | exact Below.refl _ _ | (with_reducible refine Below.drew ?_) | (with_reducible refine below_drewN ?_ _) | (refine bplus ?_ _)))).mono ?_; rintro e w4 ⟨rfl, B4⟩; replace BX := hide B4; obtain ⟨g2, g3⟩ := L0.out _ B4)
            | (go_at_call 80; refine (CD.out _ (by repeat (first | exact BX.out | exact Below.refl _ _ | (with_reducible refine Below.drew ?_) | (with_reducible refine below_drewN ?_ _) | (refine bplus ?_ _)))).mono ?_; rintro e w5 ⟨rfl, B5⟩; replace BX := hide B5; obtain ⟨⟨e0, e1⟩, f0, f1⟩ := TR.out _ B5))
          all_goals
            go_wp2_with fail
            exact bodyPost_ret (v := ratV r) (by simp [ratV, results, Tryd.results55, go_sem, *]) rfl ⟨by rw [E.out], NB.out _ _ _ BX.out⟩
        · replace E := hide (show X = wk.utAll (-1) rs from E.out)
          have CO := hide (leastP_op RW.out RI.out)
          obtain ⟨r, hr⟩ : ∃ r, wk.utAll (-1) rs = r := ⟨_, rfl⟩
          rw [hr] at CO E
          clear hr
          unfold OpC ratV at CO
          go_wp2_with (go_at_call 74; refine (CO.out _ BX.out).mono ?_; rintro e w5 ⟨rfl, B5⟩; replace BX := hide B5; obtain ⟨⟨e0, e1⟩, f0, f1⟩ := TR.out _ B5)
          exact bodyPost_ret (v := ratV r) (by simp [ratV, results, Tryd.results55, go_sem, *]) rfl ⟨by rw [E.out], NB.out _ _ _ BX.out⟩
        · replace E := hide (show X = wk.utAll 1 rs from E.out)
          have CO := hide (mostP_op RW.out RI.out)
          obtain ⟨r, hr⟩ : ∃ r, wk.utAll 1 rs = r := ⟨_, rfl⟩
          rw [hr] at CO E
          clear hr
          unfold OpC ratV at CO
          go_wp2_with (go_at_call 73; refine (CO.out _ BX.out).mono ?_; rintro e w5 ⟨rfl, B5⟩; replace BX := hide B5; obtain ⟨⟨e0, e1⟩, f0, f1⟩ := TR.out _ B5)
          exact bodyPost_ret (v := ratV r) (by simp [ratV, results, Tryd.results55, go_sem, *]) rfl ⟨by rw [E.out], NB.out _ _ _ BX.out⟩
        · obtain rfl := h83 rfl
          replace E := hide (show X = wk.utAll 1 [rAt rs 0, wk.utAll (-1) [rAt rs 1, rAt rs 2]] from E.out)
          obtain ⟨s, hs⟩ : ∃ s, wk.utAll (-1) [rAt rs 1, rAt rs 2] = s := ⟨_, rfl⟩
          have RS : R64 s := by rw [← hs]; exact ut_64 _ (in_two R1 R2)
          have CL := hide (fun (W : World) (T : TypeId) (h : Below wr.heap.size wr W) => (wk.leastP_any _ [rAt rs 1, rAt rs 2] _ (two_drew (W := W) (T := T)) (in_two R1 R2)).mono (R' := fun e w' => e = .returned (ratV s) ∧ Below wr.heap.size wr w') (by rintro e w1 ⟨rfl, U⟩; exact ⟨by rw [hs]; rfl, bto (bplus h _).drew U.1⟩))
          have CM := hide (fun (W : World) (T : TypeId) (h : Below wr.heap.size wr W) => (wk.mostP_any _ [rAt rs 0, s] _ (two_drew (W := W) (T := T)) (in_two R0 RS)).mono (R' := fun e w' => e = .returned (ratV (wk.utAll 1 [rAt rs 0, s])) ∧ Below wr.heap.size wr w') (by rintro e w1 ⟨rfl, U⟩; exact ⟨rfl, bto (bplus h _).drew U.1⟩))
          have CL2 := hide (fun (W : World) (T : TypeId) (h : Below wr.heap.size wr W) => (wk.leastP_any _ [rAt rs 1, rAt rs 2] _ (two_row (W := W) (T := T)) (in_two R1 R2)).mono (R' := fun e w' => e = .returned (ratV s) ∧ Below wr.heap.size wr w') (by rintro e w1 ⟨rfl, U⟩; exact ⟨by rw [hs]; rfl, bto (bplus h _) U.1⟩))
          have CM2 := hide (fun (W : World) (T : TypeId) (h : Below wr.heap.size wr W) => (wk.mostP_any _ [rAt rs 0, s] _ (two_row (W := W) (T := T)) (in_two R0 RS)).mono (R' := fun e w' => e = .returned (ratV (wk.utAll 1 [rAt rs 0, s])) ∧ Below wr.heap.size wr w') (by rintro e w1 ⟨rfl, U⟩; exact ⟨rfl, bto (bplus h _) U.1⟩))
          have L0 := hide (fun (W : World) (h : Below wr.heap.size wr W) => show (W.cell? ⟨w.heap.size + 2, 0, none⟩ = some (.int .i64 (rAt rs 0).1) ∧ W.cell? ⟨w.heap.size + 2, 1, none⟩ = some (.int .i64 (rAt rs 0).2)) ∧ (W.cell? ⟨w.heap.size + 2, 2, none⟩ = some (.int .i64 (rAt rs 1).1) ∧ W.cell? ⟨w.heap.size + 2, 3, none⟩ = some (.int .i64 (rAt rs 1).2)) ∧ (W.cell? ⟨w.heap.size + 2, 4, none⟩ = some (.int .i64 (rAt rs 2).1) ∧ W.cell? ⟨w.heap.size + 2, 5, none⟩ = some (.int .i64 (rAt rs 2).2)) by
            have l0 := LC.out 0 (by omega) W h
            have l1 := LC.out 1 (by omega) W h
            have l2 := LC.out 2 (by omega) W h
            exact ⟨by rwa [Nat.zero_mul] at l0, l1, l2⟩)
          rw [hs] at E
          obtain ⟨r, hr⟩ : ∃ r, wk.utAll 1 [rAt rs 0, s] = r := ⟨_, rfl⟩
          rw [hr] at CM CM2 E
          clear hr hs LC
          generalize rAt rs 0 = r0 at *
          generalize rAt rs 1 = r1 at *
          generalize rAt rs 2 = r2 at *
          obtain ⟨⟨g0, g1⟩, ⟨g2, g3⟩, g4, g5⟩ := L0.out wr BX.out
          unfold ratV at CL CM CL2 CM2
          go_upto_region 22 with fail
          go_region_with (first
            | (go_at_call 74; (first | refine (CL.out _ _ (by repeat (first | exact BX.out | exact Below.refl _ _ | (with_reducible refine Below.drew ?_) | (with_reducible refine below_drewN ?_ _) | (refine bplus ?_ _)))).mono ?_ | refine (CL2.out _ _ (by repeat (first | exact BX.out | exact Below.refl _ _ | (with_reducible refine Below.drew ?_) | (with_reducible refine below_drewN ?_ _) | (refine bplus ?_ _)))).mono ?_); rintro e w4 ⟨rfl, B4⟩; replace BX := hide B4; obtain ⟨⟨m0, m1⟩, ⟨m2, m3⟩, m4, m5⟩ := L0.out _ B4)
            | (go_at_call 73; (first | refine (CM.out _ _ (by repeat (first | exact BX.out | exact Below.refl _ _ | (with_reducible refine Below.drew ?_) | (with_reducible refine below_drewN ?_ _) | (refine bplus ?_ _)))).mono ?_ | refine (CM2.out _ _ (by repeat (first | exact BX.out | exact Below.refl _ _ | (with_reducible refine Below.drew ?_) | (with_reducible refine below_drewN ?_ _) | (refine bplus ?_ _)))).mono ?_); rintro e w5 ⟨rfl, B5⟩; replace BX := hide B5; obtain ⟨⟨e0, e1⟩, f0, f1⟩ := TR.out _ B5))
          all_goals
            go_wp2_with fail
            exact bodyPost_ret (v := ratV r) (by simp [ratV, results, Tryd.results55, go_sem, *]) rfl ⟨by rw [E.out], NB.out _ _ _ BX.out⟩
end Go.Proofs.YtlhmecagijdinaaDoor.nm
set_option linter.unusedVariables false
set_option linter.unusedSimpArgs false
namespace Go.Proofs.YtlhmecagijdinaaDoor.nm
open Go.RowKit cc

theorem mulR_op {W0 : World} {v : Value} {rs : List (Int × Int)} (h : wk.Row W0 v rs) (hi : ∀ r ∈ rs, R64 r) : OpC 12 W0 v (wk.mulAll rs) := fun W hW => (wk.mulR_any v rs W (row_low h hW) hi).mono (by rintro e w1 ⟨rfl, U⟩; exact ⟨rfl, bto hW U.1⟩)
theorem infoRat : (Tryd.prog.info? 23).map (fun i => (i.zero, i.size, i.bytes)) = some (some (.agg #[.int .i64 0, .int .i64 0]), 2, 16) := by kernel_rfl
theorem own_up {w w' : World} {base : Nat} {e : TypeId} {size : Nat} {v : Value} {n : Nat} {xs : List Value} (h : w.ownsRow base e size v n xs) (hw : Below w.heap.size w w') : w'.ownsRow base e size v n xs := by
  obtain ⟨h1, h2 | ⟨g, cap, cur, rfl, hb, hg, hr⟩⟩ := h
  · exact ⟨h1, .inl h2⟩
  · exact ⟨h1, .inr ⟨g, cap, cur, rfl, hb, (hw.block _ (Array.getElem?_eq_some_iff.1 hg).1).trans hg, hr⟩⟩
theorem own_cell {w : World} {base : Nat} {e : TypeId} {g n cap : Nat} {xs : List Value} (h : w.ownsRow base e 2 (.slice (some ⟨g, 0, none⟩) n cap) n xs) {j : Nat} {u : Value} (hj : xs[j]? = some u) : w.cell? ⟨g, j, none⟩ = some u := by
  obtain ⟨h1, ⟨h2, _⟩ | ⟨g', cap', cur, hv, hb, hg, hn, hm, hs, ht⟩⟩ := h
  · cases h2
  · obtain ⟨rfl, rfl⟩ : g = g' ∧ cap = cap' := by cases hv; exact ⟨rfl, rfl⟩
    rw [row_blk hg]
    have hjn : j < n * 2 := by have := (List.getElem?_eq_some_iff.1 hj).1; omega
    rw [← ht, List.getElem?_take_of_lt hjn] at hj
    simpa using hj
theorem own_row {w : World} {base g n cap : Nat} {e : TypeId} {rs : List (Int × Int)} (h : w.ownsRow base e 2 (.slice (some ⟨g, 0, none⟩) n cap) n (usL rs)) (hn : rs.length = n) (h9 : n ≤ 1000000000) : wk.Row w (.slice (some ⟨g, 0, none⟩) n cap) rs := by
  refine .inr ⟨g, 0, cap, by rw [hn], ?_, by omega, fun i hi => ?_⟩
  · obtain ⟨h1, ⟨h2, _⟩ | ⟨g', cap', cur, hv, hb, hg, hr⟩⟩ := h
    · cases h2
    · obtain ⟨rfl, rfl⟩ : g = g' ∧ cap = cap' := by cases hv; exact ⟨rfl, rfl⟩
      exact (Array.getElem?_eq_some_iff.1 hg).1
  · obtain ⟨e1, e2⟩ := usL_at (us := rs) (k := i) (n := rs[i].1) (d := rs[i].2) (List.getElem?_eq_getElem hi)
    rw [Nat.zero_add]
    exact ⟨own_cell h e1, own_cell h e2⟩
theorem news2 (w : World) (u v : Value) (t : TypeId) : ∀ j x, [u, v][j]? = some x → (w.alloc (.cells #[u, v] t)).cell? ((⟨w.heap.size, 0, none⟩ : Addr).add j) = some x := fun j x hx => by
  match j, hx with
  | 0, hx => simp at hx; subst hx; simp [Addr.add]
  | 1, hx => simp at hx; subst hx; simp [Addr.add]
theorem usL_snoc (rs : List (Int × Int)) (r : Int × Int) : usL (rs ++ [r]) = usL rs ++ [.int .i64 r.1, .int .i64 r.2] := by simp [usL]
/-- A context in memory. -/
def cxV (cs : List (Int × Int)) : Value := .agg (usL cs).toArray
theorem three_blk (w : World) (A B C : Obj) : (((w.alloc A).alloc B).alloc C).heap[w.heap.size]? = some A ∧ (((w.alloc A).alloc B).alloc C).heap[w.heap.size + 1]? = some B ∧ (((w.alloc A).alloc B).alloc C).heap[w.heap.size + 2]? = some C := by
  obtain ⟨h1, h2⟩ := two_new w A B
  refine ⟨(Below.heap_alloc _ C _ (by simp; omega)).trans h1, (Below.heap_alloc _ C _ (by simp)).trans h2, ?_⟩
  have := heap_alloc_new ((w.alloc A).alloc B) C
  rwa [show ((w.alloc A).alloc B).heap.size = w.heap.size + 2 by simp] at this
theorem six {cs : List (Int × Int)} (h : cs.length = 6) : ∃ a0 b0 a1 b1 a2 b2 a3 b3 a4 b4 a5 b5 : Int, cs = [(a0, b0), (a1, b1), (a2, b2), (a3, b3), (a4, b4), (a5, b5)] := by
  match cs, h with
  | [(a0, b0), (a1, b1), (a2, b2), (a3, b3), (a4, b4), (a5, b5)], _ => exact ⟨a0, b0, a1, b1, a2, b2, a3, b3, a4, b4, a5, b5, rfl⟩
theorem unit_may {n d q : Int} {ks : List Ex} {j : Nat} (h : exM (.mk 1 n d q ks) j = true) : 0 ≤ q ∧ q ≤ 7 := by
  rw [exM_eq] at h
  simp only [Ex.k, Ex.u, Ex.n, Ex.d, Ex.ks, if_true, Bool.and_eq_true, decide_eq_true_eq] at h
  exact ⟨of_decide_eq_true h.2.1.2.1, of_decide_eq_true h.2.1.2.2⟩
end Go.Proofs.YtlhmecagijdinaaDoor.nm
