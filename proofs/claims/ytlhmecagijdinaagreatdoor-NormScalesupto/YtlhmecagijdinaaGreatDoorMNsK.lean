/-
  The law of forms times fractions.
-/
import Derived.Test.YtlhmecagijdinaaGreatDoorMNsJ
import Derived.Test.YtlhmecagijdinaaGreatDoorMNoD
import Derived.Test.YtlhmecagijdinaaGreatDoorH06
import Derived.Shelf.Abstract
set_option linter.unusedVariables false
set_option linter.unusedSimpArgs false
namespace Go.Proofs.YtlhmecagijdinaaGreatDoor.nm
open Go.RowKit cc be

set_option maxRecDepth 100000 in
set_option maxHeartbeats 20000000 in
theorem law_scales (n : Nat) (us : List (Int × Int)) (ps : List Pa) (u : Value) (k1 k2 : Int) (w : World) (hN : Nth w) (hT : TabD w) (hus : Us us) (hu : PM w n u ps) (hsz : szF (.mk us ps) ≤ 1048576) (h1 : i64 k1) (h2 : i64 k2) : Calls Tryz.prog 4 #[foV us u, .agg #[.int .i64 k1, .int .i64 k2]] w fun e w' => e = .returned (.bool true) ∧ Below w.heap.size w w' := by
  have hk : R64 (k1, k2) := ⟨h1, h2⟩
  have hsz9 : szF (.mk us ps) ≤ 1000000000 := by omega
  have SUS := hide (scG_us (ctR (k1, k2)) n hus hu).2
  have HSC := hide (fun (W : World) (h : Below w.heap.size w W) => scaleN_any (k1, k2) hk n us ps u W (hN.low h) (hT.low h) hus (PM.low h hu) hsz9)
  have CZ := hide (zeroR_any w)
  rw [show foV z01 nilS = .agg #[.int .i64 0, .int .i64 1, .int .i64 0, .int .i64 1, .int .i64 0, .int .i64 1, .int .i64 0, .int .i64 1, .int .i64 0, .int .i64 1, .int .i64 0, .int .i64 1, .int .i64 0, .int .i64 1, .slice none 0 0] from rfl] at CZ
  have CL := hide (fun (W : World) (h : Below w.heap.size w W) => fmayR_any n us ps u W hus (PM.low h hu))
  have CR := hide (fun (W : World) (h : Below w.heap.size w W) => scaleR_all n (k1, k2) hk us ps u W hus (PM.low h hu) hsz9)
  have ET := hide (show scT (k1, k2) n (.mk us ps) = if maF 340 (.mk us ps) = true then scF (ctR (k1, k2)) n (.mk us ps) else .mk z01 [] from rfl)
  obtain ⟨UU, hUU0⟩ : ∃ q, (scT (k1, k2) n (.mk us ps)).us = q := ⟨_, rfl⟩
  obtain ⟨PP, hPP0⟩ : ∃ q, (scT (k1, k2) n (.mk us ps)).ps = q := ⟨_, rfl⟩
  obtain ⟨sa, sc, hu1, hl9⟩ := PM.shape hu
  obtain ⟨x0, y0, x1, y1, x2, y2, x3, y3, x4, y4, x5, y5, x6, y6, rfl⟩ := us7 hus
  replace hUU0 := hide hUU0
  replace hPP0 := hide hPP0
  have HN := hide hN
  have HT := hide hT
  have HU := hide hu
  have hu1' := hide hu1
  replace HSC := hide (fun (W : World) (h : Below w.heap.size w W) => show Calls Tryz.prog 16 #[.agg #[.int .i64 x0, .int .i64 y0, .int .i64 x1, .int .i64 y1, .int .i64 x2, .int .i64 y2, .int .i64 x3, .int .i64 y3, .int .i64 x4, .int .i64 y4, .int .i64 x5, .int .i64 y5, .int .i64 x6, .int .i64 y6, u], .agg #[.int .i64 k1, .int .i64 k2]] W (PkPost n (scT (k1, k2) n (.mk [(x0, y0), (x1, y1), (x2, y2), (x3, y3), (x4, y4), (x5, y5), (x6, y6)] ps)) W) from HSC.out W h)
  replace CL := hide (fun (W : World) (h : Below w.heap.size w W) => show Calls Tryz.prog 14 #[.agg #[.int .i64 x0, .int .i64 y0, .int .i64 x1, .int .i64 y1, .int .i64 x2, .int .i64 y2, .int .i64 x3, .int .i64 y3, .int .i64 x4, .int .i64 y4, .int .i64 x5, .int .i64 y5, .int .i64 x6, .int .i64 y6, u]] W fun e w' => e = .returned (.bool (maF 340 (.mk [(x0, y0), (x1, y1), (x2, y2), (x3, y3), (x4, y4), (x5, y5), (x6, y6)] ps))) ∧ Below W.heap.size W w' from CL.out W h)
  replace CR := hide (fun (W : World) (h : Below w.heap.size w W) => show Calls Tryz.prog 15 #[.agg #[.int .i64 x0, .int .i64 y0, .int .i64 x1, .int .i64 y1, .int .i64 x2, .int .i64 y2, .int .i64 x3, .int .i64 y3, .int .i64 x4, .int .i64 y4, .int .i64 x5, .int .i64 y5, .int .i64 x6, .int .i64 y6, u], .agg #[.int .i64 k1, .int .i64 k2]] W fun e w' => ∃ v, e = .returned (foV (scF (ctR (k1, k2)) n (.mk [(x0, y0), (x1, y1), (x2, y2), (x3, y3), (x4, y4), (x5, y5), (x6, y6)] ps)).us v) ∧ PM (cutW W.heap.size w') n v (scF (ctR (k1, k2)) n (.mk [(x0, y0), (x1, y1), (x2, y2), (x3, y3), (x4, y4), (x5, y5), (x6, y6)] ps)).ps ∧ Below W.heap.size W w' from CR.out W h)
  show Calls Tryz.prog 4 #[.agg #[.int .i64 x0, .int .i64 y0, .int .i64 x1, .int .i64 y1, .int .i64 x2, .int .i64 y2, .int .i64 x3, .int .i64 y3, .int .i64 x4, .int .i64 y4, .int .i64 x5, .int .i64 y5, .int .i64 x6, .int .i64 y6, u], .agg #[.int .i64 k1, .int .i64 k2]] w _
  obtain ⟨fj, hfj⟩ : ∃ q : Fo, .mk [(x0, y0), (x1, y1), (x2, y2), (x3, y3), (x4, y4), (x5, y5), (x6, y6)] ps = q := ⟨_, rfl⟩
  rw [hfj] at HSC CL CR ET SUS hUU0 hPP0
  clear hN hu hT hus hsz hsz9 hfj hu1 hk
  obtain ⟨W1, hW1⟩ : ∃ W1, (w.alloc (.cells #[.int .i64 x0, .int .i64 y0, .int .i64 x1, .int .i64 y1, .int .i64 x2, .int .i64 y2, .int .i64 x3, .int .i64 y3, .int .i64 x4, .int .i64 y4, .int .i64 x5, .int .i64 y5, .int .i64 x6, .int .i64 y6, u] 30)).alloc (.cells #[.int .i64 k1, .int .i64 k2] 23) = W1 := ⟨_, rfl⟩
  have B0 := hide (show Below w.heap.size w W1 by rw [← hW1]; exact bplus (bplus (Below.refl _ _) _) _)
  have P0 := hide (show Bk W1 w.heap.size 30 [.int .i64 x0, .int .i64 y0, .int .i64 x1, .int .i64 y1, .int .i64 x2, .int .i64 y2, .int .i64 x3, .int .i64 y3, .int .i64 x4, .int .i64 y4, .int .i64 x5, .int .i64 y5, .int .i64 x6, .int .i64 y6, u] by rw [← hW1]; exact (two_new w _ _).1)
  have P1 := hide (show Bk W1 (w.heap.size + 1) 23 [.int .i64 k1, .int .i64 k2] by rw [← hW1]; exact (two_new w _ _).2)
  have HW1 := hide hW1
  have CZ := hide (zeroR_any W1)
  rw [show foV z01 nilS = .agg #[.int .i64 0, .int .i64 1, .int .i64 0, .int .i64 1, .int .i64 0, .int .i64 1, .int .i64 0, .int .i64 1, .int .i64 0, .int .i64 1, .int .i64 0, .int .i64 1, .int .i64 0, .int .i64 1, .slice none 0 0] from rfl] at CZ
  clear hW1
  go_enter Tryz.func4, Tryz.ntmps4
  go_upto_region 1 with fail
  rw [HW1.out]
  clear HW1
  have hw1 : w.heap.size + 1 < W1.heap.size := Bk.lt P1.out
  go_upto_region 2 with (go_at_call 13; refine CZ.out.mono ?_; rintro e wz ⟨rfl, BZ⟩; replace BZ := hide BZ)
  obtain ⟨wy, hwy⟩ : ∃ wy, wz.alloc (.cells #[.int .i64 0, .int .i64 1, .int .i64 0, .int .i64 1, .int .i64 0, .int .i64 1, .int .i64 0, .int .i64 1, .int .i64 0, .int .i64 1, .int .i64 0, .int .i64 1, .int .i64 0, .int .i64 1, .slice none 0 0] 30) = wy := ⟨_, rfl⟩
  have FZ := hide (show BF wy wz.heap.size z01 nilS by rw [← hwy]; exact Bk.new wz _ _)
  have hbz := hide (show W1.heap.size ≤ wz.heap.size from BZ.out.size)
  have BZ2 := hide (show Below W1.heap.size W1 wy by rw [← hwy]; exact bplus BZ.out _)
  rw [hwy]
  clear hwy BZ CZ
  generalize wz.heap.size = bw at *
  have HB2 := hide (Bk.up P0.out BZ2.out)
  have HB3 := hide (Bk.up P1.out BZ2.out)
  have BZ3 := hide (bto B0.out BZ2.out)
  obtain ⟨f0, f1, f2, f3, f4, f5, f6, f7, f8, f9, f10, f11, f12, f13, f14⟩ := (show wy.cell? ⟨w.heap.size, 0, none⟩ = some (.int .i64 x0) ∧ wy.cell? ⟨w.heap.size, 1, none⟩ = some (.int .i64 y0) ∧ wy.cell? ⟨w.heap.size, 2, none⟩ = some (.int .i64 x1) ∧ wy.cell? ⟨w.heap.size, 3, none⟩ = some (.int .i64 y1) ∧ wy.cell? ⟨w.heap.size, 4, none⟩ = some (.int .i64 x2) ∧ wy.cell? ⟨w.heap.size, 5, none⟩ = some (.int .i64 y2) ∧ wy.cell? ⟨w.heap.size, 6, none⟩ = some (.int .i64 x3) ∧ wy.cell? ⟨w.heap.size, 7, none⟩ = some (.int .i64 y3) ∧ wy.cell? ⟨w.heap.size, 8, none⟩ = some (.int .i64 x4) ∧ wy.cell? ⟨w.heap.size, 9, none⟩ = some (.int .i64 y4) ∧ wy.cell? ⟨w.heap.size, 10, none⟩ = some (.int .i64 x5) ∧ wy.cell? ⟨w.heap.size, 11, none⟩ = some (.int .i64 y5) ∧ wy.cell? ⟨w.heap.size, 12, none⟩ = some (.int .i64 x6) ∧ wy.cell? ⟨w.heap.size, 13, none⟩ = some (.int .i64 y6) ∧ wy.cell? ⟨w.heap.size, 14, none⟩ = some (u) from by
    have q0 := fun j => Bk.cell HB2.out j
    exact ⟨q0 0, q0 1, q0 2, q0 3, q0 4, q0 5, q0 6, q0 7, q0 8, q0 9, q0 10, q0 11, q0 12, q0 13, q0 14⟩)
  cases hm : maF 340 fj
  · rw [hm] at CL ET
    have E2 : scT (k1, k2) n fj = .mk z01 [] := ET.out
    have EU2 : z01 = UU := by rw [← hUU0.out, E2]; rfl
    have EP2 : [] = PP := by rw [← hPP0.out, E2]; rfl
    have HUS := hide (show Us UU by rw [← EU2]; exact zus)
    rw [EU2] at FZ
    clear CR SUS
    go_upto_region 4 with (go_at_call 14; refine (CL.out _ BZ3.out).mono ?_; rintro e wb ⟨rfl, BB⟩; replace BB := hide BB)
    have BF2 := hide (Bk.up FZ.out BB.out)
    have BFF := hide (Bk.up HB2.out BB.out)
    have BFK := hide (Bk.up HB3.out BB.out)
    have BWB := hide (bto BZ3.out BB.out)
    obtain ⟨u2, hu2⟩ : ∃ u2, nilS = u2 := ⟨_, rfl⟩
    have hp2 : PM wb n u2 PP := by rw [← hu2, ← EP2]; exact .inl ⟨_, _, rfl, rfl⟩
    rw [hu2] at BF2
    clear hm ET E2 EU2 EP2 hu2 FZ BZ2 BZ3 BB CL HB2 HB3 P0 P1 B0 f0 f1 f2 f3 f4 f5 f6 f7 f8 f9 f10 f11 f12 f13 f14
    have HP2 := hide hp2
    obtain ⟨n0, d0, n1, d1, n2, d2, n3, d3, n4, d4, n5, d5, n6, d6, hUU⟩ := us7 HUS.out
    have BW3 := hide (show Bk wb bw 30 [.int .i64 n0, .int .i64 d0, .int .i64 n1, .int .i64 d1, .int .i64 n2, .int .i64 d2, .int .i64 n3, .int .i64 d3, .int .i64 n4, .int .i64 d4, .int .i64 n5, .int .i64 d5, .int .i64 n6, .int .i64 d6, u2] by
      have q := BF2.out
      unfold Bk at q
      rw [hUU] at q
      exact q)
    have KS := hide (fun (W : World) (h : Below wb.heap.size wb W) => show W.cell? ⟨w.heap.size, 0, none⟩ = some (.int .i64 x0) ∧ W.cell? ⟨w.heap.size, 1, none⟩ = some (.int .i64 y0) ∧ W.cell? ⟨w.heap.size, 2, none⟩ = some (.int .i64 x1) ∧ W.cell? ⟨w.heap.size, 3, none⟩ = some (.int .i64 y1) ∧ W.cell? ⟨w.heap.size, 4, none⟩ = some (.int .i64 x2) ∧ W.cell? ⟨w.heap.size, 5, none⟩ = some (.int .i64 y2) ∧ W.cell? ⟨w.heap.size, 6, none⟩ = some (.int .i64 x3) ∧ W.cell? ⟨w.heap.size, 7, none⟩ = some (.int .i64 y3) ∧ W.cell? ⟨w.heap.size, 8, none⟩ = some (.int .i64 x4) ∧ W.cell? ⟨w.heap.size, 9, none⟩ = some (.int .i64 y4) ∧ W.cell? ⟨w.heap.size, 10, none⟩ = some (.int .i64 x5) ∧ W.cell? ⟨w.heap.size, 11, none⟩ = some (.int .i64 y5) ∧ W.cell? ⟨w.heap.size, 12, none⟩ = some (.int .i64 x6) ∧ W.cell? ⟨w.heap.size, 13, none⟩ = some (.int .i64 y6) ∧ W.cell? ⟨w.heap.size, 14, none⟩ = some (u) ∧ W.cell? ⟨w.heap.size + 1, 0, none⟩ = some (.int .i64 k1) ∧ W.cell? ⟨w.heap.size + 1, 1, none⟩ = some (.int .i64 k2) ∧ W.cell? ⟨bw, 0, none⟩ = some (.int .i64 n0) ∧ W.cell? ⟨bw, 1, none⟩ = some (.int .i64 d0) ∧ W.cell? ⟨bw, 2, none⟩ = some (.int .i64 n1) ∧ W.cell? ⟨bw, 3, none⟩ = some (.int .i64 d1) ∧ W.cell? ⟨bw, 4, none⟩ = some (.int .i64 n2) ∧ W.cell? ⟨bw, 5, none⟩ = some (.int .i64 d2) ∧ W.cell? ⟨bw, 6, none⟩ = some (.int .i64 n3) ∧ W.cell? ⟨bw, 7, none⟩ = some (.int .i64 d3) ∧ W.cell? ⟨bw, 8, none⟩ = some (.int .i64 n4) ∧ W.cell? ⟨bw, 9, none⟩ = some (.int .i64 d4) ∧ W.cell? ⟨bw, 10, none⟩ = some (.int .i64 n5) ∧ W.cell? ⟨bw, 11, none⟩ = some (.int .i64 d5) ∧ W.cell? ⟨bw, 12, none⟩ = some (.int .i64 n6) ∧ W.cell? ⟨bw, 13, none⟩ = some (.int .i64 d6) ∧ W.cell? ⟨bw, 14, none⟩ = some (u2) from by
      have q0 := fun j => Bk.cell (Bk.up BFF.out h) j
      have q1 := fun j => Bk.cell (Bk.up BFK.out h) j
      have q2 := fun j => Bk.cell (Bk.up BW3.out h) j
      exact ⟨q0 0, q0 1, q0 2, q0 3, q0 4, q0 5, q0 6, q0 7, q0 8, q0 9, q0 10, q0 11, q0 12, q0 13, q0 14, q1 0, q1 1, q2 0, q2 1, q2 2, q2 3, q2 4, q2 5, q2 6, q2 7, q2 8, q2 9, q2 10, q2 11, q2 12, q2 13, q2 14⟩)
    have CA := hide (fun (W : World) (h : Below wb.heap.size wb W) => (HSC.out W (bto BWB.out h)).mono (R' := fun e w' => ∃ u1, e = .returned (foV UU u1) ∧ PM w' n u1 PP ∧ Below wb.heap.size wb w') (by rintro e w' ⟨u1, rfl, h2, h3⟩; exact ⟨u1, by rw [hUU0.out], by rw [← hPP0.out]; exact h2, bto h h3⟩))
    have CS := hide (fun (u1 : Value) (W : World) (h1 : PM W n u1 PP) (h2 : Below wb.heap.size wb W) => (saR_all n UU UU PP PP u1 u2 W HUS.out HUS.out h1 ⟨n, PM.low h2 HP2.out⟩).mono (R' := fun e w' => e = .returned (.bool true) ∧ Below wb.heap.size wb w') (by rintro e w' ⟨rfl, h3⟩; exact ⟨by rw [saF_refl], bto h2 h3⟩))
    have CW := hide (fun (W : World) (h : Below wb.heap.size wb W) => (awakeN_any W (HN.out.low (bto BWB.out h))).mono (R' := fun e w' => e = .returned (.bool true) ∧ Below wb.heap.size wb w') (by rintro e w' ⟨rfl, h3⟩; exact ⟨rfl, bto h h3⟩))
    rw [show foV UU u2 = .agg #[.int .i64 n0, .int .i64 d0, .int .i64 n1, .int .i64 d1, .int .i64 n2, .int .i64 d2, .int .i64 n3, .int .i64 d3, .int .i64 n4, .int .i64 d4, .int .i64 n5, .int .i64 d5, .int .i64 n6, .int .i64 d6, u2] by rw [hUU]; rfl] at CS
    have BE := hide (Below.refl wb.heap.size wb)
    have hbw : bw < wb.heap.size := Bk.lt BF2.out
    have EVU := fun u1 => show foV UU u1 = .agg (usL UU ++ [u1]).toArray from rfl
    simp only [EVU] at CA CS
    obtain ⟨c0, c1, c2, c3, c4, c5, c6, c7, c8, c9, c10, c11, c12, c13, c14, c15, c16, c17, c18, c19, c20, c21, c22, c23, c24, c25, c26, c27, c28, c29, c30, c31⟩ := KS.out wb BE.out
    clear hUU hp2 EVU BF2 BFF BFK BW3 HSC
    generalize usL UU = UL at *
    go_region_held3 (fun w' => w'.cell? ⟨w.heap.size, 0, none⟩ = some (.int .i64 x0) ∧ w'.cell? ⟨w.heap.size, 1, none⟩ = some (.int .i64 y0) ∧ w'.cell? ⟨w.heap.size, 2, none⟩ = some (.int .i64 x1) ∧ w'.cell? ⟨w.heap.size, 3, none⟩ = some (.int .i64 y1) ∧ w'.cell? ⟨w.heap.size, 4, none⟩ = some (.int .i64 x2) ∧ w'.cell? ⟨w.heap.size, 5, none⟩ = some (.int .i64 y2) ∧ w'.cell? ⟨w.heap.size, 6, none⟩ = some (.int .i64 x3) ∧ w'.cell? ⟨w.heap.size, 7, none⟩ = some (.int .i64 y3) ∧ w'.cell? ⟨w.heap.size, 8, none⟩ = some (.int .i64 x4) ∧ w'.cell? ⟨w.heap.size, 9, none⟩ = some (.int .i64 y4) ∧ w'.cell? ⟨w.heap.size, 10, none⟩ = some (.int .i64 x5) ∧ w'.cell? ⟨w.heap.size, 11, none⟩ = some (.int .i64 y5) ∧ w'.cell? ⟨w.heap.size, 12, none⟩ = some (.int .i64 x6) ∧ w'.cell? ⟨w.heap.size, 13, none⟩ = some (.int .i64 y6) ∧ w'.cell? ⟨w.heap.size, 14, none⟩ = some (u) ∧ w'.cell? ⟨w.heap.size + 1, 0, none⟩ = some (.int .i64 k1) ∧ w'.cell? ⟨w.heap.size + 1, 1, none⟩ = some (.int .i64 k2) ∧ w'.cell? ⟨bw, 0, none⟩ = some (.int .i64 n0) ∧ w'.cell? ⟨bw, 1, none⟩ = some (.int .i64 d0) ∧ w'.cell? ⟨bw, 2, none⟩ = some (.int .i64 n1) ∧ w'.cell? ⟨bw, 3, none⟩ = some (.int .i64 d1) ∧ w'.cell? ⟨bw, 4, none⟩ = some (.int .i64 n2) ∧ w'.cell? ⟨bw, 5, none⟩ = some (.int .i64 d2) ∧ w'.cell? ⟨bw, 6, none⟩ = some (.int .i64 n3) ∧ w'.cell? ⟨bw, 7, none⟩ = some (.int .i64 d3) ∧ w'.cell? ⟨bw, 8, none⟩ = some (.int .i64 n4) ∧ w'.cell? ⟨bw, 9, none⟩ = some (.int .i64 d4) ∧ w'.cell? ⟨bw, 10, none⟩ = some (.int .i64 n5) ∧ w'.cell? ⟨bw, 11, none⟩ = some (.int .i64 d5) ∧ w'.cell? ⟨bw, 12, none⟩ = some (.int .i64 n6) ∧ w'.cell? ⟨bw, 13, none⟩ = some (.int .i64 d6) ∧ w'.cell? ⟨bw, 14, none⟩ = some (u2))
      ((refine KS.out _ ?_; (repeat (first | exact BE.out | (with_reducible refine Below.drew ?_) | (with_reducible refine below_drewN ?_ _) | (with_reducible refine bplus ?_ _))); done))
      (first
        | (go_at_call 16; refine (CA.out _ (by repeat (first | exact BE.out | (with_reducible refine Below.drew ?_) | (with_reducible refine below_drewN ?_ _) | exact Below.refl _ _))).mono ?_; rintro e w5 ⟨u1, rfl, P1', B5⟩; replace P1' := hide P1'; replace BE := hide B5)
        | (go_at_call 10; refine (CS.out u1 _ (by first | exact P1'.out | exact PM.low (Below.drew (Below.refl _ _)) P1'.out) (by repeat (first | exact BE.out | (with_reducible refine Below.drew ?_) | (with_reducible refine below_drewN ?_ _) | exact Below.refl _ _))).mono ?_; rintro e w6 ⟨rfl, B6⟩; replace BE := hide B6)
        | (go_at_call 11; refine (CW.out _ (by repeat (first | exact BE.out | (with_reducible refine Below.drew ?_) | (with_reducible refine below_drewN ?_ _) | exact Below.refl _ _))).mono ?_; rintro e w7 ⟨rfl, B7⟩; replace BE := hide B7))
    all_goals
      go_wp2_with fail
      go_ret
      exact ⟨rfl, bto BWB.out BE.out⟩
  · rw [hm] at CL ET
    have E2 : scT (k1, k2) n fj = scF (ctR (k1, k2)) n fj := ET.out
    have E3 : scF (ctR (k1, k2)) n fj = .mk UU PP := by rw [← E2, ← hUU0.out, ← hPP0.out]; cases scT (k1, k2) n fj; rfl
    have HUS := hide (show Us UU by have q := SUS.out; rw [E3] at q; exact q)
    replace CR := hide (fun (W : World) (h : Below w.heap.size w W) => show Calls Tryz.prog 15 #[.agg #[.int .i64 x0, .int .i64 y0, .int .i64 x1, .int .i64 y1, .int .i64 x2, .int .i64 y2, .int .i64 x3, .int .i64 y3, .int .i64 x4, .int .i64 y4, .int .i64 x5, .int .i64 y5, .int .i64 x6, .int .i64 y6, u], .agg #[.int .i64 k1, .int .i64 k2]] W (fun e w' => ∃ u2, e = .returned (.agg (usL UU ++ [u2]).toArray) ∧ PM (cutW W.heap.size w') n u2 PP ∧ Below W.heap.size W w') from (by have q := CR.out W h; rw [E3] at q; exact q))
    have OL := hide (fun (q : Value) (h : q.oneCell' = true) => us_one (us := UU) h)
    have LL := hide (fun (q : Value) => fo_len HUS.out q)
    have HBA := hide (fun (W : World) (h : Below wy.heap.size wy W) => show (W.cell? ⟨w.heap.size, 0, none⟩ = some (.int .i64 x0) ∧ W.cell? ⟨w.heap.size, 1, none⟩ = some (.int .i64 y0) ∧ W.cell? ⟨w.heap.size, 2, none⟩ = some (.int .i64 x1) ∧ W.cell? ⟨w.heap.size, 3, none⟩ = some (.int .i64 y1) ∧ W.cell? ⟨w.heap.size, 4, none⟩ = some (.int .i64 x2) ∧ W.cell? ⟨w.heap.size, 5, none⟩ = some (.int .i64 y2) ∧ W.cell? ⟨w.heap.size, 6, none⟩ = some (.int .i64 x3) ∧ W.cell? ⟨w.heap.size, 7, none⟩ = some (.int .i64 y3) ∧ W.cell? ⟨w.heap.size, 8, none⟩ = some (.int .i64 x4) ∧ W.cell? ⟨w.heap.size, 9, none⟩ = some (.int .i64 y4) ∧ W.cell? ⟨w.heap.size, 10, none⟩ = some (.int .i64 x5) ∧ W.cell? ⟨w.heap.size, 11, none⟩ = some (.int .i64 y5) ∧ W.cell? ⟨w.heap.size, 12, none⟩ = some (.int .i64 x6) ∧ W.cell? ⟨w.heap.size, 13, none⟩ = some (.int .i64 y6) ∧ W.cell? ⟨w.heap.size, 14, none⟩ = some (u)) ∧ W.cell? ⟨w.heap.size + 1, 0, none⟩ = some (.int .i64 k1) ∧ W.cell? ⟨w.heap.size + 1, 1, none⟩ = some (.int .i64 k2) from by
      have q0 := fun j => Bk.cell (Bk.up HB2.out h) j
      have q1 := fun j => Bk.cell (Bk.up HB3.out h) j
      exact ⟨⟨q0 0, q0 1, q0 2, q0 3, q0 4, q0 5, q0 6, q0 7, q0 8, q0 9, q0 10, q0 11, q0 12, q0 13, q0 14⟩, q1 0, q1 1⟩)
    clear SUS
    go_upto_region 4 with (first
      | (go_at_call 14; refine (CL.out _ BZ3.out).mono ?_; rintro e wa ⟨rfl, BA⟩; replace BA := hide BA; obtain ⟨⟨af0, af1, af2, af3, af4, af5, af6, af7, af8, af9, af10, af11, af12, af13, af14⟩, ak0, ak1⟩ := HBA.out wa BA.out)
      | (go_at_call 15; refine (CR.out _ (bto BZ3.out BA.out)).mono ?_; rintro e wr ⟨u2, rfl, RP, BR⟩; replace RP := hide RP; have BR0 := hide BR; replace BR := hide (bto BA.out BR))
      | (refine wpList_store_mid rfl 30 (.tmp 5) (.tmp 11) rfl bw 0 (usL UU ++ [u2]).toArray rfl rfl (there_blk (show wr.heap[bw]? = some (.cells (usL z01 ++ [nilS]).toArray 30) from Bk.up FZ.out BR.out) (by rw [List.size_toArray, List.size_toArray, LL.out u2]; rfl)) (by rw [List.size_toArray, LL.out u2]; kernel_rfl) (all_oneCell_toArray (OL.out u2 (pm_one RP.out))) ?_))
    (try rw [show (usL UU ++ [u2]).toArray.toList = usL UU ++ [u2] from rfl])
    have hbb : bw < wa.heap.size := Nat.lt_of_lt_of_le (Bk.lt FZ.out) BA.out.size
    have hbw2 := hbz.out
    have BF2 := hide (show Bk (wr.setCells bw 0 (usL UU ++ [u2])) bw 30 (usL UU ++ [u2]) by
      have q := Bk.puts (usL UU ++ [u2]) 0 wr _ (Bk.up FZ.out BR.out) (by rw [LL.out u2]; decide)
      rwa [List.take_zero, List.nil_append, Nat.zero_add, List.drop_of_length_le (by rw [LL.out u2]; decide), List.append_nil] at q)
    have BFF := hide (show Bk (wr.setCells bw 0 (usL UU ++ [u2])) w.heap.size 30 [.int .i64 x0, .int .i64 y0, .int .i64 x1, .int .i64 y1, .int .i64 x2, .int .i64 y2, .int .i64 x3, .int .i64 y3, .int .i64 x4, .int .i64 y4, .int .i64 x5, .int .i64 y5, .int .i64 x6, .int .i64 y6, u] from (setCells_far _ bw 0 (by omega) _ _ _).trans (Bk.up HB2.out BR.out))
    have BFK := hide (show Bk (wr.setCells bw 0 (usL UU ++ [u2])) (w.heap.size + 1) 23 [.int .i64 k1, .int .i64 k2] from (setCells_far _ bw 0 (by omega) _ _ _).trans (Bk.up HB3.out BR.out))
    have BWB := hide (show Below w.heap.size w (wr.setCells bw 0 (usL UU ++ [u2])) from (bto BZ3.out BR.out).grown (setCells_grown _ _ _ _) (bto BZ3.out BR.out).size (fun k hk => by cases hk; omega))
    have hp2 : PM (wr.setCells bw 0 (usL UU ++ [u2])) n u2 PP := pm_sees ⟨by rw [cut_size, setCells_size]; exact Nat.le_refl _, fun b o v' h => by
      by_cases hb : b < wa.heap.size
      · rw [cut_low _ hb] at h; cases h
      · rw [cell_blk (cut_blk _ (by omega)) o] at h
        rw [cell_blk (setCells_far b bw 0 (by omega) _ _ _) o]
        exact h⟩ RP.out
    clear hm ET E2 E3 FZ BZ2 BZ3 BA BR BR0 CL CR OL LL RP HB2 HB3 P0 P1 B0 HBA f0 f1 f2 f3 f4 f5 f6 f7 f8 f9 f10 f11 f12 f13 f14 af0 af1 af2 af3 af4 af5 af6 af7 af8 af9 af10 af11 af12 af13 af14 ak0 ak1
    generalize wr.setCells bw 0 (usL UU ++ [u2]) = wb at *
    have HP2 := hide hp2
    obtain ⟨n0, d0, n1, d1, n2, d2, n3, d3, n4, d4, n5, d5, n6, d6, hUU⟩ := us7 HUS.out
    have BW3 := hide (show Bk wb bw 30 [.int .i64 n0, .int .i64 d0, .int .i64 n1, .int .i64 d1, .int .i64 n2, .int .i64 d2, .int .i64 n3, .int .i64 d3, .int .i64 n4, .int .i64 d4, .int .i64 n5, .int .i64 d5, .int .i64 n6, .int .i64 d6, u2] by
      have q := BF2.out
      unfold Bk at q
      rw [hUU] at q
      exact q)
    have KS := hide (fun (W : World) (h : Below wb.heap.size wb W) => show W.cell? ⟨w.heap.size, 0, none⟩ = some (.int .i64 x0) ∧ W.cell? ⟨w.heap.size, 1, none⟩ = some (.int .i64 y0) ∧ W.cell? ⟨w.heap.size, 2, none⟩ = some (.int .i64 x1) ∧ W.cell? ⟨w.heap.size, 3, none⟩ = some (.int .i64 y1) ∧ W.cell? ⟨w.heap.size, 4, none⟩ = some (.int .i64 x2) ∧ W.cell? ⟨w.heap.size, 5, none⟩ = some (.int .i64 y2) ∧ W.cell? ⟨w.heap.size, 6, none⟩ = some (.int .i64 x3) ∧ W.cell? ⟨w.heap.size, 7, none⟩ = some (.int .i64 y3) ∧ W.cell? ⟨w.heap.size, 8, none⟩ = some (.int .i64 x4) ∧ W.cell? ⟨w.heap.size, 9, none⟩ = some (.int .i64 y4) ∧ W.cell? ⟨w.heap.size, 10, none⟩ = some (.int .i64 x5) ∧ W.cell? ⟨w.heap.size, 11, none⟩ = some (.int .i64 y5) ∧ W.cell? ⟨w.heap.size, 12, none⟩ = some (.int .i64 x6) ∧ W.cell? ⟨w.heap.size, 13, none⟩ = some (.int .i64 y6) ∧ W.cell? ⟨w.heap.size, 14, none⟩ = some (u) ∧ W.cell? ⟨w.heap.size + 1, 0, none⟩ = some (.int .i64 k1) ∧ W.cell? ⟨w.heap.size + 1, 1, none⟩ = some (.int .i64 k2) ∧ W.cell? ⟨bw, 0, none⟩ = some (.int .i64 n0) ∧ W.cell? ⟨bw, 1, none⟩ = some (.int .i64 d0) ∧ W.cell? ⟨bw, 2, none⟩ = some (.int .i64 n1) ∧ W.cell? ⟨bw, 3, none⟩ = some (.int .i64 d1) ∧ W.cell? ⟨bw, 4, none⟩ = some (.int .i64 n2) ∧ W.cell? ⟨bw, 5, none⟩ = some (.int .i64 d2) ∧ W.cell? ⟨bw, 6, none⟩ = some (.int .i64 n3) ∧ W.cell? ⟨bw, 7, none⟩ = some (.int .i64 d3) ∧ W.cell? ⟨bw, 8, none⟩ = some (.int .i64 n4) ∧ W.cell? ⟨bw, 9, none⟩ = some (.int .i64 d4) ∧ W.cell? ⟨bw, 10, none⟩ = some (.int .i64 n5) ∧ W.cell? ⟨bw, 11, none⟩ = some (.int .i64 d5) ∧ W.cell? ⟨bw, 12, none⟩ = some (.int .i64 n6) ∧ W.cell? ⟨bw, 13, none⟩ = some (.int .i64 d6) ∧ W.cell? ⟨bw, 14, none⟩ = some (u2) from by
      have q0 := fun j => Bk.cell (Bk.up BFF.out h) j
      have q1 := fun j => Bk.cell (Bk.up BFK.out h) j
      have q2 := fun j => Bk.cell (Bk.up BW3.out h) j
      exact ⟨q0 0, q0 1, q0 2, q0 3, q0 4, q0 5, q0 6, q0 7, q0 8, q0 9, q0 10, q0 11, q0 12, q0 13, q0 14, q1 0, q1 1, q2 0, q2 1, q2 2, q2 3, q2 4, q2 5, q2 6, q2 7, q2 8, q2 9, q2 10, q2 11, q2 12, q2 13, q2 14⟩)
    have CA := hide (fun (W : World) (h : Below wb.heap.size wb W) => (HSC.out W (bto BWB.out h)).mono (R' := fun e w' => ∃ u1, e = .returned (foV UU u1) ∧ PM w' n u1 PP ∧ Below wb.heap.size wb w') (by rintro e w' ⟨u1, rfl, h2, h3⟩; exact ⟨u1, by rw [hUU0.out], by rw [← hPP0.out]; exact h2, bto h h3⟩))
    have CS := hide (fun (u1 : Value) (W : World) (h1 : PM W n u1 PP) (h2 : Below wb.heap.size wb W) => (saR_all n UU UU PP PP u1 u2 W HUS.out HUS.out h1 ⟨n, PM.low h2 HP2.out⟩).mono (R' := fun e w' => e = .returned (.bool true) ∧ Below wb.heap.size wb w') (by rintro e w' ⟨rfl, h3⟩; exact ⟨by rw [saF_refl], bto h2 h3⟩))
    have CW := hide (fun (W : World) (h : Below wb.heap.size wb W) => (awakeN_any W (HN.out.low (bto BWB.out h))).mono (R' := fun e w' => e = .returned (.bool true) ∧ Below wb.heap.size wb w') (by rintro e w' ⟨rfl, h3⟩; exact ⟨rfl, bto h h3⟩))
    rw [show foV UU u2 = .agg #[.int .i64 n0, .int .i64 d0, .int .i64 n1, .int .i64 d1, .int .i64 n2, .int .i64 d2, .int .i64 n3, .int .i64 d3, .int .i64 n4, .int .i64 d4, .int .i64 n5, .int .i64 d5, .int .i64 n6, .int .i64 d6, u2] by rw [hUU]; rfl] at CS
    have BE := hide (Below.refl wb.heap.size wb)
    have hbw : bw < wb.heap.size := Bk.lt BF2.out
    have EVU := fun u1 => show foV UU u1 = .agg (usL UU ++ [u1]).toArray from rfl
    simp only [EVU] at CA CS
    obtain ⟨c0, c1, c2, c3, c4, c5, c6, c7, c8, c9, c10, c11, c12, c13, c14, c15, c16, c17, c18, c19, c20, c21, c22, c23, c24, c25, c26, c27, c28, c29, c30, c31⟩ := KS.out wb BE.out
    clear hUU hp2 EVU BF2 BFF BFK BW3 HSC
    generalize usL UU = UL at *
    go_region_held3 (fun w' => w'.cell? ⟨w.heap.size, 0, none⟩ = some (.int .i64 x0) ∧ w'.cell? ⟨w.heap.size, 1, none⟩ = some (.int .i64 y0) ∧ w'.cell? ⟨w.heap.size, 2, none⟩ = some (.int .i64 x1) ∧ w'.cell? ⟨w.heap.size, 3, none⟩ = some (.int .i64 y1) ∧ w'.cell? ⟨w.heap.size, 4, none⟩ = some (.int .i64 x2) ∧ w'.cell? ⟨w.heap.size, 5, none⟩ = some (.int .i64 y2) ∧ w'.cell? ⟨w.heap.size, 6, none⟩ = some (.int .i64 x3) ∧ w'.cell? ⟨w.heap.size, 7, none⟩ = some (.int .i64 y3) ∧ w'.cell? ⟨w.heap.size, 8, none⟩ = some (.int .i64 x4) ∧ w'.cell? ⟨w.heap.size, 9, none⟩ = some (.int .i64 y4) ∧ w'.cell? ⟨w.heap.size, 10, none⟩ = some (.int .i64 x5) ∧ w'.cell? ⟨w.heap.size, 11, none⟩ = some (.int .i64 y5) ∧ w'.cell? ⟨w.heap.size, 12, none⟩ = some (.int .i64 x6) ∧ w'.cell? ⟨w.heap.size, 13, none⟩ = some (.int .i64 y6) ∧ w'.cell? ⟨w.heap.size, 14, none⟩ = some (u) ∧ w'.cell? ⟨w.heap.size + 1, 0, none⟩ = some (.int .i64 k1) ∧ w'.cell? ⟨w.heap.size + 1, 1, none⟩ = some (.int .i64 k2) ∧ w'.cell? ⟨bw, 0, none⟩ = some (.int .i64 n0) ∧ w'.cell? ⟨bw, 1, none⟩ = some (.int .i64 d0) ∧ w'.cell? ⟨bw, 2, none⟩ = some (.int .i64 n1) ∧ w'.cell? ⟨bw, 3, none⟩ = some (.int .i64 d1) ∧ w'.cell? ⟨bw, 4, none⟩ = some (.int .i64 n2) ∧ w'.cell? ⟨bw, 5, none⟩ = some (.int .i64 d2) ∧ w'.cell? ⟨bw, 6, none⟩ = some (.int .i64 n3) ∧ w'.cell? ⟨bw, 7, none⟩ = some (.int .i64 d3) ∧ w'.cell? ⟨bw, 8, none⟩ = some (.int .i64 n4) ∧ w'.cell? ⟨bw, 9, none⟩ = some (.int .i64 d4) ∧ w'.cell? ⟨bw, 10, none⟩ = some (.int .i64 n5) ∧ w'.cell? ⟨bw, 11, none⟩ = some (.int .i64 d5) ∧ w'.cell? ⟨bw, 12, none⟩ = some (.int .i64 n6) ∧ w'.cell? ⟨bw, 13, none⟩ = some (.int .i64 d6) ∧ w'.cell? ⟨bw, 14, none⟩ = some (u2))
      ((refine KS.out _ ?_; (repeat (first | exact BE.out | (with_reducible refine Below.drew ?_) | (with_reducible refine below_drewN ?_ _) | (with_reducible refine bplus ?_ _))); done))
      (first
        | (go_at_call 16; refine (CA.out _ (by repeat (first | exact BE.out | (with_reducible refine Below.drew ?_) | (with_reducible refine below_drewN ?_ _) | exact Below.refl _ _))).mono ?_; rintro e w5 ⟨u1, rfl, P1', B5⟩; replace P1' := hide P1'; replace BE := hide B5)
        | (go_at_call 10; refine (CS.out u1 _ (by first | exact P1'.out | exact PM.low (Below.drew (Below.refl _ _)) P1'.out) (by repeat (first | exact BE.out | (with_reducible refine Below.drew ?_) | (with_reducible refine below_drewN ?_ _) | exact Below.refl _ _))).mono ?_; rintro e w6 ⟨rfl, B6⟩; replace BE := hide B6)
        | (go_at_call 11; refine (CW.out _ (by repeat (first | exact BE.out | (with_reducible refine Below.drew ?_) | (with_reducible refine below_drewN ?_ _) | exact Below.refl _ _))).mono ?_; rintro e w7 ⟨rfl, B7⟩; replace BE := hide B7))
    all_goals
      go_wp2_with fail
      go_ret
      exact ⟨rfl, bto BWB.out BE.out⟩
end Go.Proofs.YtlhmecagijdinaaGreatDoor.nm
