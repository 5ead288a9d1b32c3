/-
  The law of brackets.
-/
import Derived.Test.YtlhmecagijdinaaDoorMNbC
import Derived.Test.YtlhmecagijdinaaDoorK07
import Derived.Test.YtlhmecagijdinaaDoorH06
set_option linter.unusedVariables false
set_option linter.unusedSimpArgs false
namespace Go.Proofs.YtlhmecagijdinaaDoor.nm
open Go.RowKit cc

/-- Fifteen cells that are a form. -/
def FoP (w : World) (F : Fo) (A : List Value) : Prop := ∃ fu, A = usL F.us ++ [fu] ∧ Us F.us ∧ PM w 680 fu F.ps
theorem FoP.low {w w' : World} {F : Fo} {A : List Value} (h : FoP w F A) (hw : Below w.heap.size w w') : FoP w' F A := by
  obtain ⟨fu, h1, h2, h3⟩ := h
  exact ⟨fu, h1, h2, PM.low hw h3⟩
theorem FoP.len {w : World} {F : Fo} {A : List Value} (h : FoP w F A) : A.length = 15 := by
  obtain ⟨fu, rfl, h2, h3⟩ := h
  exact fo_len h2 fu
theorem FoP.one {w : World} {F : Fo} {A : List Value} (h : FoP w F A) : ∀ v ∈ A, v.oneCell' = true := by
  obtain ⟨fu, rfl, h2, h3⟩ := h
  exact us_one (pm_one h3)
/-- What Form tells of a sum, over an elder world. -/
theorem form_sm (l : List Ex) (v : Value) (w0 W : World) (hN : Nth W) (hT : TabD W) (hx : ∀ y ∈ l, OkX y) (hv : EM W v l) (hsz : szE (smX l) ≤ 200000000) (h0 : Below w0.heap.size w0 W) : Calls Tryd.prog 6 #[.agg #[.int .i64 2, .int .i64 0, .int .i64 0, .int .i64 0, v]] W fun e w' => ∃ A : List Value, e = .returned (.tuple #[.agg A.toArray, .int .i64 (lnX (smX l))]) ∧ FoP w' (lnF (smX l)) A ∧ Below w0.heap.size w0 w' := by
  refine (formN_any (smX l) v W hN hT (smX_okx hx) hv hsz).mono ?_
  rintro e w' ⟨fu, rfl, h1, h2, h3⟩
  exact ⟨_, rfl, ⟨fu, rfl, h1, pm_sees (cut_sees _ _) h2⟩, bto h0 h3⟩
/-- A form's cells, by letters. -/
theorem FoP.letters {w : World} {F : Fo} {A : List Value} (h : FoP w F A) : ∃ n0 d0 n1 d1 n2 d2 n3 d3 n4 d4 n5 d5 n6 d6 : Int, ∃ a c, A = [.int .i64 n0, .int .i64 d0, .int .i64 n1, .int .i64 d1, .int .i64 n2, .int .i64 d2, .int .i64 n3, .int .i64 d3, .int .i64 n4, .int .i64 d4, .int .i64 n5, .int .i64 d5, .int .i64 n6, .int .i64 d6, .slice a F.ps.length c] := by
  obtain ⟨fu, rfl, h2, h3⟩ := h
  obtain ⟨n0, d0, n1, d1, n2, d2, n3, d3, n4, d4, n5, d5, n6, d6, hu⟩ := us7 h2
  obtain ⟨a, c, rfl, -⟩ := h3.shape
  exact ⟨n0, d0, n1, d1, n2, d2, n3, d3, n4, d4, n5, d5, n6, d6, a, c, by rw [hu]; rfl⟩
theorem FoP.over {w : World} {F : Fo} {A : List Value} (h : FoP w F A) (hp : F.ps = []) (W : World) : Calls Tryd.prog 9 #[.agg A.toArray] W fun e w' => e = .returned (.bool (!okU F.us)) ∧ Below W.heap.size W w' := by
  obtain ⟨fu, rfl, h2, h3⟩ := h
  obtain ⟨a, c, rfl, -⟩ := h3.shape
  rw [hp]
  exact over_plain F.us a c W h2
theorem FoP.same {w : World} {F : Fo} {A B : List Value} (h : FoP w F A) (k : FoP w F B) : Calls Tryd.prog 10 #[.agg A.toArray, .agg B.toArray] w fun e w' => e = .returned (.bool true) ∧ Below w.heap.size w w' := by
  obtain ⟨fu, rfl, h2, h3⟩ := h
  obtain ⟨fv, rfl, k2, k3⟩ := k
  refine (sameF_any 680 680 F.us F.us F.ps F.ps fu fv w (by decide) h2 k2 h3 k3).mono ?_
  rintro e w' ⟨rfl, hb⟩
  exact ⟨by rw [saF_refl], hb⟩
set_option maxRecDepth 100000 in
set_option maxHeartbeats 20000000 in
theorem law_brackets (x y z : Ex) (u v t : Value) (w : World) (hN : Nth w) (hT : TabD w) (hx : OkX x) (hy : OkX y) (hz : OkX z) (hu : EM w u x.ks) (hv : EM w v y.ks) (ht : EM w t z.ks) (sx : szE x ≤ 50000000) (sy : szE y ≤ 50000000) (sz : szE z ≤ 50000000) : Calls Tryd.prog 3 #[exV x u, exV y v, exV z t] w fun e w' => e = .returned (.bool true) ∧ Below w.heap.size w w' := by
  obtain ⟨W1, hW1⟩ : ∃ W1, ((w.alloc (.cells #[.int .i64 x.k, .int .i64 x.n, .int .i64 x.d, .int .i64 x.u, u] 26)).alloc (.cells #[.int .i64 y.k, .int .i64 y.n, .int .i64 y.d, .int .i64 y.u, v] 26)).alloc (.cells #[.int .i64 z.k, .int .i64 z.n, .int .i64 z.d, .int .i64 z.u, t] 26) = W1 := ⟨_, rfl⟩
  have B0 := hide (show Below w.heap.size w W1 by rw [← hW1]; exact bplus (bplus (bplus (Below.refl _ _) _) _) _)
  obtain ⟨P0, P1, P2⟩ := three_new w (.cells #[.int .i64 x.k, .int .i64 x.n, .int .i64 x.d, .int .i64 x.u, u] 26) (.cells #[.int .i64 y.k, .int .i64 y.n, .int .i64 y.d, .int .i64 y.u, v] 26) (.cells #[.int .i64 z.k, .int .i64 z.n, .int .i64 z.d, .int .i64 z.u, t] 26)
  rw [hW1] at P0 P1 P2
  have KE := hide (fun (W : World) (h : Below W1.heap.size W1 W) => And.intro (bxk_5m (far_blkm P0 h)) (And.intro (bxk_5m (far_blkm P1 h)) (bxk_5m (far_blkm P2 h))))
  have HW1 := hide hW1
  have S1 := hide (show W1.heap.size = w.heap.size + 3 by rw [← hW1]; simp)
  have N1 := hN.low B0.out
  have T1 := hT.low B0.out
  have hu1 := hu.low B0.out
  have hv1 := hv.low B0.out
  have ht1 := ht.low B0.out
  have z1 : szE (smX [x, y, z]) ≤ 200000000 := by simp only [smX, szE, szEs]; omega
  have z2 : szE (smX [x, smX [y, z]]) ≤ 200000000 := by simp only [smX, szE, szEs]; omega
  have z3 : szE (smX [smX [z, x], y]) ≤ 200000000 := by simp only [smX, szE, szEs]; omega
  have C1 := hide (fun (W : World) (h : Below W1.heap.size W1 W) => form_sm [x, y, z] (.slice (some ⟨W.heap.size, 0, none⟩) 3 3) W (W.alloc (.cells #[.int .i64 x.k, .int .i64 x.n, .int .i64 x.d, .int .i64 x.u, u, .int .i64 y.k, .int .i64 y.n, .int .i64 y.d, .int .i64 y.u, v, .int .i64 z.k, .int .i64 z.n, .int .i64 z.d, .int .i64 z.u, t] 26)) (N1.low (bplus h _)) (T1.low (bplus h _)) (by intro q hq; simp at hq; rcases hq with rfl | rfl | rfl <;> assumption) (em3 (x := x) (y := y) (z := z) (u := u) (v := v) (t := t) (Bk.new W 26 _) hx.ok hy.ok hz.ok (hu1.low (bplus h _)) (hv1.low (bplus h _)) (ht1.low (bplus h _))) z1 (bplus (Below.refl _ _) _))
  have C2 := hide (fun (W : World) (h : Below W1.heap.size W1 W) => form_sm [x, smX [y, z]] (.slice (some ⟨W.heap.size + 1, 0, none⟩) 2 2) W ((W.alloc (.cells #[.int .i64 y.k, .int .i64 y.n, .int .i64 y.d, .int .i64 y.u, v, .int .i64 z.k, .int .i64 z.n, .int .i64 z.d, .int .i64 z.u, t] 26)).alloc (.cells #[.int .i64 x.k, .int .i64 x.n, .int .i64 x.d, .int .i64 x.u, u, .int .i64 2, .int .i64 0, .int .i64 0, .int .i64 0, .slice (some ⟨W.heap.size, 0, none⟩) 2 2] 26)) (N1.low (bplus (bplus h _) _)) (T1.low (bplus (bplus h _) _)) (by intro q hq; simp at hq; rcases hq with rfl | rfl <;> first | assumption | exact smX_okx (by intro q hq; simp at hq; rcases hq with rfl | rfl <;> assumption)) (by
    have Q := Bk.new (W.alloc (.cells #[.int .i64 y.k, .int .i64 y.n, .int .i64 y.d, .int .i64 y.u, v, .int .i64 z.k, .int .i64 z.n, .int .i64 z.d, .int .i64 z.u, t] 26)) 26 [.int .i64 x.k, .int .i64 x.n, .int .i64 x.d, .int .i64 x.u, u, .int .i64 2, .int .i64 0, .int .i64 0, .int .i64 0, .slice (some ⟨W.heap.size, 0, none⟩) 2 2]
    rw [show (W.alloc (.cells #[.int .i64 y.k, .int .i64 y.n, .int .i64 y.d, .int .i64 y.u, v, .int .i64 z.k, .int .i64 z.n, .int .i64 z.d, .int .i64 z.u, t] 26)).heap.size = W.heap.size + 1 by simp] at Q
    exact em2 (x := x) (y := (smX [y, z])) (u := u) (v := .slice (some ⟨W.heap.size, 0, none⟩) 2 2) Q hx.ok (sm_ok _) (hu1.low (bplus (bplus h _) _)) (EM.low (em2 (x := y) (y := z) (u := v) (v := t) (Bk.new W 26 _) hy.ok hz.ok (hv1.low (bplus h _)) (ht1.low (bplus h _))) (bplus (Below.refl _ _) _))) z2 (bplus (bplus (Below.refl _ _) _) _))
  have C3 := hide (fun (W : World) (h : Below W1.heap.size W1 W) => form_sm [smX [z, x], y] (.slice (some ⟨W.heap.size + 1, 0, none⟩) 2 2) W ((W.alloc (.cells #[.int .i64 z.k, .int .i64 z.n, .int .i64 z.d, .int .i64 z.u, t, .int .i64 x.k, .int .i64 x.n, .int .i64 x.d, .int .i64 x.u, u] 26)).alloc (.cells #[.int .i64 2, .int .i64 0, .int .i64 0, .int .i64 0, .slice (some ⟨W.heap.size, 0, none⟩) 2 2, .int .i64 y.k, .int .i64 y.n, .int .i64 y.d, .int .i64 y.u, v] 26)) (N1.low (bplus (bplus h _) _)) (T1.low (bplus (bplus h _) _)) (by intro q hq; simp at hq; rcases hq with rfl | rfl <;> first | assumption | exact smX_okx (by intro q hq; simp at hq; rcases hq with rfl | rfl <;> assumption)) (by
    have Q := Bk.new (W.alloc (.cells #[.int .i64 z.k, .int .i64 z.n, .int .i64 z.d, .int .i64 z.u, t, .int .i64 x.k, .int .i64 x.n, .int .i64 x.d, .int .i64 x.u, u] 26)) 26 [.int .i64 2, .int .i64 0, .int .i64 0, .int .i64 0, .slice (some ⟨W.heap.size, 0, none⟩) 2 2, .int .i64 y.k, .int .i64 y.n, .int .i64 y.d, .int .i64 y.u, v]
    rw [show (W.alloc (.cells #[.int .i64 z.k, .int .i64 z.n, .int .i64 z.d, .int .i64 z.u, t, .int .i64 x.k, .int .i64 x.n, .int .i64 x.d, .int .i64 x.u, u] 26)).heap.size = W.heap.size + 1 by simp] at Q
    exact em2 (x := (smX [z, x])) (y := y) (u := .slice (some ⟨W.heap.size, 0, none⟩) 2 2) (v := v) Q (sm_ok _) hy.ok (EM.low (em2 (x := z) (y := x) (u := t) (v := u) (Bk.new W 26 _) hz.ok hx.ok (ht1.low (bplus h _)) (hu1.low (bplus h _))) (bplus (Below.refl _ _) _)) (hv1.low (bplus (bplus h _) _))) z3 (bplus (bplus (Below.refl _ _) _) _))
  have CJ := hide (fun (W : World) (h : Below W1.heap.size W1 W) => (jok_any x y z u v t W hx.ok hy.ok hz.ok (hu1.low h) (hv1.low h) (ht1.low h)).mono (R' := fun e w' => e = .returned (.bool (lnX (smX [x, y, z]) == 0)) ∧ Below W1.heap.size W1 w') (by rintro e w' ⟨rfl, h3⟩; exact ⟨rfl, bto h h3⟩))
  have CA := hide (fun (W : World) (h : Below W1.heap.size W1 W) => (awakeN_any W (N1.low h)).mono (R' := fun e w' => e = .returned (.bool true) ∧ Below W1.heap.size W1 w') (by rintro e w' ⟨rfl, h3⟩; exact ⟨rfl, bto h h3⟩))
  have L1 := ln_cases (smX [x, y, z])
  have L2 := ln_cases (smX [x, smX [y, z]])
  have L3 := ln_cases (smX [smX [z, x], y])
  have BR := hide (show lnX (smX [x, y, z]) = 0 → lnX (smX [x, smX [y, z]]) = 0 → lnX (smX [smX [z, x], y]) = 0 → (lnF (smX [x, y, z])).ps = [] → (lnF (smX [x, smX [y, z]])).ps = [] ∧ (lnF (smX [smX [z, x], y])).ps = [] ∧ (noZ (lnF (smX [x, y, z])).us → noZ (lnF (smX [x, smX [y, z]])).us → noZ (lnF (smX [smX [z, x], y])).us → lnF (smX [x, smX [y, z]]) = lnF (smX [x, y, z]) ∧ lnF (smX [smX [z, x], y]) = lnF (smX [x, y, z])) from by
    intro e1 e2 e3 hp
    rcases L1 with ⟨-, f1, m1, k1⟩ | ⟨h, -⟩
    · rcases L2 with ⟨-, f2, m2, k2⟩ | ⟨h, -⟩
      · rcases L3 with ⟨-, f3, m3, k3⟩ | ⟨h, -⟩
        · rw [f1] at hp
          rw [f1, f2, f3]
          exact br_same hx hy hz m1 k1 m2 k2 m3 k3 hp
        · omega
      · omega
    · omega)
  replace L1 : lnX (smX [x, y, z]) = 0 ∨ lnX (smX [x, y, z]) = 1 ∨ lnX (smX [x, y, z]) = 4 := by rcases L1 with ⟨h, -⟩ | ⟨h, -⟩ <;> omega
  replace L2 : lnX (smX [x, smX [y, z]]) = 0 ∨ lnX (smX [x, smX [y, z]]) = 1 ∨ lnX (smX [x, smX [y, z]]) = 4 := by rcases L2 with ⟨h, -⟩ | ⟨h, -⟩ <;> omega
  replace L3 : lnX (smX [smX [z, x], y]) = 0 ∨ lnX (smX [smX [z, x], y]) = 1 ∨ lnX (smX [smX [z, x], y]) = 4 := by rcases L3 with ⟨h, -⟩ | ⟨h, -⟩ <;> omega
  clear hW1 P0 P1 P2 hN hT N1 T1 hx hy hz sx sy sz z1 z2 z3 hu1 hv1 ht1
  obtain ⟨ua, uc, rfl, -⟩ := hu.shape
  obtain ⟨va, vc, rfl, -⟩ := hv.shape
  obtain ⟨ta, tc, rfl, -⟩ := ht.shape
  clear hu hv ht
  unfold exV at CJ ⊢
  generalize lnF (smX [x, y, z]) = F1 at *
  generalize lnF (smX [x, smX [y, z]]) = F2 at *
  generalize lnF (smX [smX [z, x], y]) = F3 at *
  generalize lnX (smX [x, y, z]) = n1 at *
  generalize lnX (smX [x, smX [y, z]]) = n2 at *
  generalize lnX (smX [smX [z, x], y]) = n3 at *
  generalize x.k = xk at *
  generalize x.n = xn at *
  generalize x.d = xd at *
  generalize x.u = xu at *
  generalize x.ks.length = xl at *
  generalize y.k = yk at *
  generalize y.n = yn at *
  generalize y.d = yd at *
  generalize y.u = yu at *
  generalize y.ks.length = yl at *
  generalize z.k = zk at *
  generalize z.n = zn at *
  generalize z.d = zd at *
  generalize z.u = zu at *
  generalize z.ks.length = zl at *
  go_enter Tryd.func3, Tryd.ntmps3
  go_upto_region 1 with fail
  rw [HW1.out]
  clear HW1
  have BA := hide (Below.refl W1.heap.size W1)
  obtain ⟨⟨a0, a1, a2, a3, a4⟩, ⟨b0, b1, b2, b3, b4⟩, ⟨c0, c1, c2, c3, c4⟩⟩ := KE.out W1 BA.out
  have hlt : w.heap.size + 1 < W1.heap.size := by have q1 := BA.out.size; have q2 := S1.out; omega
  have hne : w.heap.size + 1 ≠ W1.heap.size := by omega
  go_upto_region 2 with (first
    | (go_at_call 6; refine (C1.out W1 BA.out).mono ?_; rintro e wq1 ⟨A1, rfl, PV, BQ⟩; replace BQ := hide BQ; replace PV := hide PV; have LV := hide PV.out.len; have OV := hide PV.out.one)
    | (refine wpList_store_mid rfl 30 (.tmp 7) (.tmp 20) rfl wq1.heap.size 0 A1.toArray rfl rfl (by rw [show A1.toArray.size = 15 from LV.out]; exact there_blk (heap_alloc_new wq1 _) rfl) (by rw [show A1.toArray.size = 15 from LV.out]; kernel_rfl) (all_oneCell_toArray OV.out) ?_))
  (try rw [show A1.toArray.toList = A1 from rfl])
  obtain ⟨wa1, hwb⟩ : ∃ wb, (wq1.alloc (.cells #[.int .i64 0, .int .i64 0, .int .i64 0, .int .i64 0, .int .i64 0, .int .i64 0, .int .i64 0, .int .i64 0, .int .i64 0, .int .i64 0, .int .i64 0, .int .i64 0, .int .i64 0, .int .i64 0, .slice none 0 0] 30)).setCells wq1.heap.size 0 A1 = wb := ⟨_, rfl⟩
  have B2 := hide (show Below wq1.heap.size wq1 wa1 by rw [← hwb]; exact (bplus (Below.refl _ _) _).grown (setCells_grown _ _ _ _) (by simp) (fun k hk => by cases hk; exact Nat.le_refl _))
  have K1 := hide (show Bk wa1 wq1.heap.size 30 A1 by
    have q := Bk.puts A1 0 _ _ (Bk.new wq1 30 z15) (by rw [LV.out]; decide)
    rw [List.take_zero, List.nil_append, Nat.zero_add, List.drop_of_length_le (by rw [LV.out]; decide), List.append_nil] at q
    rw [← hwb]
    exact q)
  have FP1 := hide (PV.out.low B2.out)
  have BN := hide (bto BQ.out B2.out)
  (try rw [hwb])
  clear hwb hlt hne a0 a1 a2 a3 a4 b0 b1 b2 b3 b4 c0 c1 c2 c3 c4 LV OV PV C1 B2 BQ
  replace BA := hide (bto BA.out BN.out)
  clear BN
  generalize wq1.heap.size = bw1 at *
  obtain ⟨⟨a0, a1, a2, a3, a4⟩, ⟨b0, b1, b2, b3, b4⟩, ⟨c0, c1, c2, c3, c4⟩⟩ := KE.out wa1 BA.out
  have hlt : w.heap.size + 1 < wa1.heap.size := by have q1 := BA.out.size; have q2 := S1.out; omega
  have hne : w.heap.size + 1 ≠ wa1.heap.size := by omega
  go_upto_region 3 with (first
    | (go_at_call 6; refine (C2.out wa1 BA.out).mono ?_; rintro e wq2 ⟨A2, rfl, PV, BQ⟩; replace BQ := hide BQ; replace PV := hide PV; have LV := hide PV.out.len; have OV := hide PV.out.one)
    | (refine wpList_store_mid rfl 30 (.tmp 9) (.tmp 31) rfl wq2.heap.size 0 A2.toArray rfl rfl (by rw [show A2.toArray.size = 15 from LV.out]; exact there_blk (heap_alloc_new wq2 _) rfl) (by rw [show A2.toArray.size = 15 from LV.out]; kernel_rfl) (all_oneCell_toArray OV.out) ?_))
  (try rw [show A2.toArray.toList = A2 from rfl])
  obtain ⟨wa2, hwb⟩ : ∃ wb, (wq2.alloc (.cells #[.int .i64 0, .int .i64 0, .int .i64 0, .int .i64 0, .int .i64 0, .int .i64 0, .int .i64 0, .int .i64 0, .int .i64 0, .int .i64 0, .int .i64 0, .int .i64 0, .int .i64 0, .int .i64 0, .slice none 0 0] 30)).setCells wq2.heap.size 0 A2 = wb := ⟨_, rfl⟩
  have B2 := hide (show Below wq2.heap.size wq2 wa2 by rw [← hwb]; exact (bplus (Below.refl _ _) _).grown (setCells_grown _ _ _ _) (by simp) (fun k hk => by cases hk; exact Nat.le_refl _))
  have K2 := hide (show Bk wa2 wq2.heap.size 30 A2 by
    have q := Bk.puts A2 0 _ _ (Bk.new wq2 30 z15) (by rw [LV.out]; decide)
    rw [List.take_zero, List.nil_append, Nat.zero_add, List.drop_of_length_le (by rw [LV.out]; decide), List.append_nil] at q
    rw [← hwb]
    exact q)
  have FP2 := hide (PV.out.low B2.out)
  have BN := hide (bto BQ.out B2.out)
  (try rw [hwb])
  clear hwb hlt hne a0 a1 a2 a3 a4 b0 b1 b2 b3 b4 c0 c1 c2 c3 c4 LV OV PV C2 B2 BQ
  replace K1 := hide (Bk.up K1.out BN.out)
  replace FP1 := hide (FP1.out.low BN.out)
  replace BA := hide (bto BA.out BN.out)
  clear BN
  generalize wq2.heap.size = bw2 at *
  obtain ⟨⟨a0, a1, a2, a3, a4⟩, ⟨b0, b1, b2, b3, b4⟩, ⟨c0, c1, c2, c3, c4⟩⟩ := KE.out wa2 BA.out
  have hlt : w.heap.size + 1 < wa2.heap.size := by have q1 := BA.out.size; have q2 := S1.out; omega
  have hne : w.heap.size + 1 ≠ wa2.heap.size := by omega
  go_upto_region 4 with (first
    | (go_at_call 6; refine (C3.out wa2 BA.out).mono ?_; rintro e wq3 ⟨A3, rfl, PV, BQ⟩; replace BQ := hide BQ; replace PV := hide PV; have LV := hide PV.out.len; have OV := hide PV.out.one)
    | (refine wpList_store_mid rfl 30 (.tmp 11) (.tmp 42) rfl wq3.heap.size 0 A3.toArray rfl rfl (by rw [show A3.toArray.size = 15 from LV.out]; exact there_blk (heap_alloc_new wq3 _) rfl) (by rw [show A3.toArray.size = 15 from LV.out]; kernel_rfl) (all_oneCell_toArray OV.out) ?_))
  (try rw [show A3.toArray.toList = A3 from rfl])
  obtain ⟨wa3, hwb⟩ : ∃ wb, (wq3.alloc (.cells #[.int .i64 0, .int .i64 0, .int .i64 0, .int .i64 0, .int .i64 0, .int .i64 0, .int .i64 0, .int .i64 0, .int .i64 0, .int .i64 0, .int .i64 0, .int .i64 0, .int .i64 0, .int .i64 0, .slice none 0 0] 30)).setCells wq3.heap.size 0 A3 = wb := ⟨_, rfl⟩
  have B2 := hide (show Below wq3.heap.size wq3 wa3 by rw [← hwb]; exact (bplus (Below.refl _ _) _).grown (setCells_grown _ _ _ _) (by simp) (fun k hk => by cases hk; exact Nat.le_refl _))
  have K3 := hide (show Bk wa3 wq3.heap.size 30 A3 by
    have q := Bk.puts A3 0 _ _ (Bk.new wq3 30 z15) (by rw [LV.out]; decide)
    rw [List.take_zero, List.nil_append, Nat.zero_add, List.drop_of_length_le (by rw [LV.out]; decide), List.append_nil] at q
    rw [← hwb]
    exact q)
  have FP3 := hide (PV.out.low B2.out)
  have BN := hide (bto BQ.out B2.out)
  (try rw [hwb])
  clear hwb hlt hne a0 a1 a2 a3 a4 b0 b1 b2 b3 b4 c0 c1 c2 c3 c4 LV OV PV C3 B2 BQ
  replace K1 := hide (Bk.up K1.out BN.out)
  replace FP1 := hide (FP1.out.low BN.out)
  replace K2 := hide (Bk.up K2.out BN.out)
  replace FP2 := hide (FP2.out.low BN.out)
  replace BA := hide (bto BA.out BN.out)
  clear BN
  generalize wq3.heap.size = bw3 at *
  obtain ⟨⟨a0, a1, a2, a3, a4⟩, ⟨b0, b1, b2, b3, b4⟩, ⟨c0, c1, c2, c3, c4⟩⟩ := KE.out wa3 BA.out
  have BB := hide (Below.refl wa3.heap.size wa3)
  replace CJ := hide (fun (W : World) (h : Below wa3.heap.size wa3 W) => (CJ.out W (bto BA.out h)).mono (R' := fun e w' => e = .returned (.bool (n1 == 0)) ∧ Below W1.heap.size W1 w') (by rintro e w' ⟨rfl, h3⟩; exact ⟨rfl, h3⟩))
  obtain ⟨m1, hm1⟩ : ∃ m : Int, (n1 : Int) = m := ⟨_, rfl⟩
  obtain ⟨m2, hm2⟩ : ∃ m : Int, (n2 : Int) = m := ⟨_, rfl⟩
  obtain ⟨m3, hm3⟩ : ∃ m : Int, (n3 : Int) = m := ⟨_, rfl⟩
  rw [hm1, hm2, hm3]
  clear KE S1
  by_cases e1 : n1 = 0
  rotate_left
  · as_aux_lemma =>
      replace CJ := hide (show ∀ (W : World) (h : Below wa3.heap.size wa3 W), Calls Tryd.prog 7 #[.agg #[.int .i64 xk, .int .i64 xn, .int .i64 xd, .int .i64 xu, .slice ua xl uc], .agg #[.int .i64 yk, .int .i64 yn, .int .i64 yd, .int .i64 yu, .slice va yl vc], .agg #[.int .i64 zk, .int .i64 zn, .int .i64 zd, .int .i64 zu, .slice ta zl tc]] W fun e w' => e = .returned (.bool false) ∧ Below W1.heap.size W1 w' from by
        have q := CJ.out
        rw [show (n1 == 0) = false by simpa using e1] at q
        exact q)
      have O := (show m1 = 1 ∨ m1 = 4 by omega)
      clear BR L1 L2 L3 hm1 hm2 hm3 e1 K1 K2 K3 FP1 FP2 FP3
      rcases O with rfl | rfl
      all_goals
        go_wp2_with (first
          | (go_at_call 7; refine (CJ.out _ BB.out).mono ?_; rintro e w5 ⟨rfl, B5⟩; replace B5 := hide B5)
          | (go_at_call 8; refine (CA.out _ B5.out).mono ?_; rintro e w6 ⟨rfl, B6⟩; replace B6 := hide B6))
        go_ret
        exact ⟨rfl, bto B0.out B6.out⟩
  by_cases e2 : n2 = 0
  rotate_left
  · as_aux_lemma =>
      replace CJ := hide (show ∀ (W : World) (h : Below wa3.heap.size wa3 W), Calls Tryd.prog 7 #[.agg #[.int .i64 xk, .int .i64 xn, .int .i64 xd, .int .i64 xu, .slice ua xl uc], .agg #[.int .i64 yk, .int .i64 yn, .int .i64 yd, .int .i64 yu, .slice va yl vc], .agg #[.int .i64 zk, .int .i64 zn, .int .i64 zd, .int .i64 zu, .slice ta zl tc]] W fun e w' => e = .returned (.bool true) ∧ Below W1.heap.size W1 w' from by
        have q := CJ.out
        rw [show (n1 == 0) = true by simpa using e1] at q
        exact q)
      have O := (show m2 = 1 ∨ m2 = 4 by omega)
      obtain rfl : m1 = 0 := by omega
      clear BR L1 L2 L3 hm1 hm2 hm3 e1 e2 K1 K2 K3 FP1 FP2 FP3
      rcases O with rfl | rfl
      all_goals
        go_wp2_with (first
          | (go_at_call 7; refine (CJ.out _ BB.out).mono ?_; rintro e w5 ⟨rfl, B5⟩; replace B5 := hide B5)
          | (go_at_call 8; refine (CA.out _ B5.out).mono ?_; rintro e w6 ⟨rfl, B6⟩; replace B6 := hide B6))
        go_ret
        exact ⟨rfl, bto B0.out B6.out⟩
  by_cases e3 : n3 = 0
  rotate_left
  · as_aux_lemma =>
      replace CJ := hide (show ∀ (W : World) (h : Below wa3.heap.size wa3 W), Calls Tryd.prog 7 #[.agg #[.int .i64 xk, .int .i64 xn, .int .i64 xd, .int .i64 xu, .slice ua xl uc], .agg #[.int .i64 yk, .int .i64 yn, .int .i64 yd, .int .i64 yu, .slice va yl vc], .agg #[.int .i64 zk, .int .i64 zn, .int .i64 zd, .int .i64 zu, .slice ta zl tc]] W fun e w' => e = .returned (.bool true) ∧ Below W1.heap.size W1 w' from by
        have q := CJ.out
        rw [show (n1 == 0) = true by simpa using e1] at q
        exact q)
      have O := (show m3 = 1 ∨ m3 = 4 by omega)
      obtain rfl : m1 = 0 := by omega
      obtain rfl : m2 = 0 := by omega
      clear BR L1 L2 L3 hm1 hm2 hm3 e1 e2 e3 K1 K2 K3 FP1 FP2 FP3
      rcases O with rfl | rfl
      all_goals
        go_wp2_with (first
          | (go_at_call 7; refine (CJ.out _ BB.out).mono ?_; rintro e w5 ⟨rfl, B5⟩; replace B5 := hide B5)
          | (go_at_call 8; refine (CA.out _ B5.out).mono ?_; rintro e w6 ⟨rfl, B6⟩; replace B6 := hide B6))
        go_ret
        exact ⟨rfl, bto B0.out B6.out⟩
  obtain rfl : m1 = 0 := by omega
  obtain rfl : m2 = 0 := by omega
  obtain rfl : m3 = 0 := by omega
  have BR' := hide (BR.out e1 e2 e3)
  clear CJ BR a0 a1 a2 a3 a4 b0 b1 b2 b3 b4 c0 c1 c2 c3 c4 L1 L2 L3 hm1 hm2 hm3 e1 e2 e3
  replace CA := hide (fun (W : World) (h : Below wa3.heap.size wa3 W) => CA.out W (bto BA.out h))
  obtain ⟨pn0, pd0, pn1, pd1, pn2, pd2, pn3, pd3, pn4, pd4, pn5, pd5, pn6, pd6, pa, pc, hA1⟩ := FP1.out.letters
  subst hA1
  obtain ⟨rn0, rd0, rn1, rd1, rn2, rd2, rn3, rd3, rn4, rd4, rn5, rd5, rn6, rd6, ra, rc, hA2⟩ := FP2.out.letters
  subst hA2
  obtain ⟨sn0, sd0, sn1, sd1, sn2, sd2, sn3, sd3, sn4, sd4, sn5, sd5, sn6, sd6, sa, sc, hA3⟩ := FP3.out.letters
  subst hA3
  by_cases hp : F1.ps = []
  rotate_left
  · as_aux_lemma =>
      have hl : (0 : Int) < (F1.ps.length : Int) := by
        have : F1.ps.length ≠ 0 := fun h => hp (List.eq_nil_of_length_eq_zero h)
        omega
      have x14 := Bk.cell K1.out 14
      replace x14 : wa3.cell? ⟨bw1, 14, none⟩ = some (.slice pa F1.ps.length pc) := x14
      clear BR' K1 K2 K3 FP1 FP2 FP3 hp
      generalize F1.ps.length = pl at *
      go_wp2_with (go_at_call 8; refine (CA.out _ BB.out).mono ?_; rintro e w6 ⟨rfl, B6⟩; replace B6 := hide B6)
      go_ret
      exact ⟨rfl, bto B0.out B6.out⟩
  obtain ⟨hp2, hp3, HE⟩ := BR'.out hp
  replace HE := hide HE
  have l1 : F1.ps.length = 0 := by rw [hp]; rfl
  have l2 : F2.ps.length = 0 := by rw [hp2]; rfl
  have l3 : F3.ps.length = 0 := by rw [hp3]; rfl
  (try rw [l1, l2, l3])
  rw [l1] at K1 FP1
  rw [l2] at K2 FP2
  rw [l3] at K3 FP3
  clear BR' l1 l2 l3
  have KS1 := hide (fun (W : World) (h : Below wa3.heap.size wa3 W) => show W.cell? ⟨bw1, 0, none⟩ = some (.int .i64 pn0) ∧ W.cell? ⟨bw1, 1, none⟩ = some (.int .i64 pd0) ∧ W.cell? ⟨bw1, 2, none⟩ = some (.int .i64 pn1) ∧ W.cell? ⟨bw1, 3, none⟩ = some (.int .i64 pd1) ∧ W.cell? ⟨bw1, 4, none⟩ = some (.int .i64 pn2) ∧ W.cell? ⟨bw1, 5, none⟩ = some (.int .i64 pd2) ∧ W.cell? ⟨bw1, 6, none⟩ = some (.int .i64 pn3) ∧ W.cell? ⟨bw1, 7, none⟩ = some (.int .i64 pd3) ∧ W.cell? ⟨bw1, 8, none⟩ = some (.int .i64 pn4) ∧ W.cell? ⟨bw1, 9, none⟩ = some (.int .i64 pd4) ∧ W.cell? ⟨bw1, 10, none⟩ = some (.int .i64 pn5) ∧ W.cell? ⟨bw1, 11, none⟩ = some (.int .i64 pd5) ∧ W.cell? ⟨bw1, 12, none⟩ = some (.int .i64 pn6) ∧ W.cell? ⟨bw1, 13, none⟩ = some (.int .i64 pd6) ∧ W.cell? ⟨bw1, 14, none⟩ = some (.slice pa 0 pc) from by
    have q := fun j => Bk.cell (Bk.up K1.out h) j
    exact ⟨q 0, q 1, q 2, q 3, q 4, q 5, q 6, q 7, q 8, q 9, q 10, q 11, q 12, q 13, q 14⟩)
  have OC1 := hide (fun (W : World) (h : Below wa3.heap.size wa3 W) => show Calls Tryd.prog 9 #[.agg #[.int .i64 pn0, .int .i64 pd0, .int .i64 pn1, .int .i64 pd1, .int .i64 pn2, .int .i64 pd2, .int .i64 pn3, .int .i64 pd3, .int .i64 pn4, .int .i64 pd4, .int .i64 pn5, .int .i64 pd5, .int .i64 pn6, .int .i64 pd6, .slice pa 0 pc]] W fun e w' => e = .returned (.bool (!okU F1.us)) ∧ Below wa3.heap.size wa3 w' from (FP1.out.over hp W).mono (by rintro e w' ⟨rfl, h3⟩; exact ⟨rfl, bto h h3⟩))
  have KS2 := hide (fun (W : World) (h : Below wa3.heap.size wa3 W) => show W.cell? ⟨bw2, 0, none⟩ = some (.int .i64 rn0) ∧ W.cell? ⟨bw2, 1, none⟩ = some (.int .i64 rd0) ∧ W.cell? ⟨bw2, 2, none⟩ = some (.int .i64 rn1) ∧ W.cell? ⟨bw2, 3, none⟩ = some (.int .i64 rd1) ∧ W.cell? ⟨bw2, 4, none⟩ = some (.int .i64 rn2) ∧ W.cell? ⟨bw2, 5, none⟩ = some (.int .i64 rd2) ∧ W.cell? ⟨bw2, 6, none⟩ = some (.int .i64 rn3) ∧ W.cell? ⟨bw2, 7, none⟩ = some (.int .i64 rd3) ∧ W.cell? ⟨bw2, 8, none⟩ = some (.int .i64 rn4) ∧ W.cell? ⟨bw2, 9, none⟩ = some (.int .i64 rd4) ∧ W.cell? ⟨bw2, 10, none⟩ = some (.int .i64 rn5) ∧ W.cell? ⟨bw2, 11, none⟩ = some (.int .i64 rd5) ∧ W.cell? ⟨bw2, 12, none⟩ = some (.int .i64 rn6) ∧ W.cell? ⟨bw2, 13, none⟩ = some (.int .i64 rd6) ∧ W.cell? ⟨bw2, 14, none⟩ = some (.slice ra 0 rc) from by
    have q := fun j => Bk.cell (Bk.up K2.out h) j
    exact ⟨q 0, q 1, q 2, q 3, q 4, q 5, q 6, q 7, q 8, q 9, q 10, q 11, q 12, q 13, q 14⟩)
  have OC2 := hide (fun (W : World) (h : Below wa3.heap.size wa3 W) => show Calls Tryd.prog 9 #[.agg #[.int .i64 rn0, .int .i64 rd0, .int .i64 rn1, .int .i64 rd1, .int .i64 rn2, .int .i64 rd2, .int .i64 rn3, .int .i64 rd3, .int .i64 rn4, .int .i64 rd4, .int .i64 rn5, .int .i64 rd5, .int .i64 rn6, .int .i64 rd6, .slice ra 0 rc]] W fun e w' => e = .returned (.bool (!okU F2.us)) ∧ Below wa3.heap.size wa3 w' from (FP2.out.over hp2 W).mono (by rintro e w' ⟨rfl, h3⟩; exact ⟨rfl, bto h h3⟩))
  have KS3 := hide (fun (W : World) (h : Below wa3.heap.size wa3 W) => show W.cell? ⟨bw3, 0, none⟩ = some (.int .i64 sn0) ∧ W.cell? ⟨bw3, 1, none⟩ = some (.int .i64 sd0) ∧ W.cell? ⟨bw3, 2, none⟩ = some (.int .i64 sn1) ∧ W.cell? ⟨bw3, 3, none⟩ = some (.int .i64 sd1) ∧ W.cell? ⟨bw3, 4, none⟩ = some (.int .i64 sn2) ∧ W.cell? ⟨bw3, 5, none⟩ = some (.int .i64 sd2) ∧ W.cell? ⟨bw3, 6, none⟩ = some (.int .i64 sn3) ∧ W.cell? ⟨bw3, 7, none⟩ = some (.int .i64 sd3) ∧ W.cell? ⟨bw3, 8, none⟩ = some (.int .i64 sn4) ∧ W.cell? ⟨bw3, 9, none⟩ = some (.int .i64 sd4) ∧ W.cell? ⟨bw3, 10, none⟩ = some (.int .i64 sn5) ∧ W.cell? ⟨bw3, 11, none⟩ = some (.int .i64 sd5) ∧ W.cell? ⟨bw3, 12, none⟩ = some (.int .i64 sn6) ∧ W.cell? ⟨bw3, 13, none⟩ = some (.int .i64 sd6) ∧ W.cell? ⟨bw3, 14, none⟩ = some (.slice sa 0 sc) from by
    have q := fun j => Bk.cell (Bk.up K3.out h) j
    exact ⟨q 0, q 1, q 2, q 3, q 4, q 5, q 6, q 7, q 8, q 9, q 10, q 11, q 12, q 13, q 14⟩)
  have OC3 := hide (fun (W : World) (h : Below wa3.heap.size wa3 W) => show Calls Tryd.prog 9 #[.agg #[.int .i64 sn0, .int .i64 sd0, .int .i64 sn1, .int .i64 sd1, .int .i64 sn2, .int .i64 sd2, .int .i64 sn3, .int .i64 sd3, .int .i64 sn4, .int .i64 sd4, .int .i64 sn5, .int .i64 sd5, .int .i64 sn6, .int .i64 sd6, .slice sa 0 sc]] W fun e w' => e = .returned (.bool (!okU F3.us)) ∧ Below wa3.heap.size wa3 w' from (FP3.out.over hp3 W).mono (by rintro e w' ⟨rfl, h3⟩; exact ⟨rfl, bto h h3⟩))
  have CS2 := hide (fun (hf : F2 = F1) (W : World) (h : Below wa3.heap.size wa3 W) => show Calls Tryd.prog 10 #[.agg #[.int .i64 pn0, .int .i64 pd0, .int .i64 pn1, .int .i64 pd1, .int .i64 pn2, .int .i64 pd2, .int .i64 pn3, .int .i64 pd3, .int .i64 pn4, .int .i64 pd4, .int .i64 pn5, .int .i64 pd5, .int .i64 pn6, .int .i64 pd6, .slice pa 0 pc], .agg #[.int .i64 rn0, .int .i64 rd0, .int .i64 rn1, .int .i64 rd1, .int .i64 rn2, .int .i64 rd2, .int .i64 rn3, .int .i64 rd3, .int .i64 rn4, .int .i64 rd4, .int .i64 rn5, .int .i64 rd5, .int .i64 rn6, .int .i64 rd6, .slice ra 0 rc]] W fun e w' => e = .returned (.bool true) ∧ Below wa3.heap.size wa3 w' from ((FP1.out.low h).same (show FoP W F1 _ from hf ▸ FP2.out.low h)).mono (by rintro e w' ⟨rfl, h3⟩; exact ⟨rfl, bto h h3⟩))
  have CS3 := hide (fun (hf : F3 = F1) (W : World) (h : Below wa3.heap.size wa3 W) => show Calls Tryd.prog 10 #[.agg #[.int .i64 pn0, .int .i64 pd0, .int .i64 pn1, .int .i64 pd1, .int .i64 pn2, .int .i64 pd2, .int .i64 pn3, .int .i64 pd3, .int .i64 pn4, .int .i64 pd4, .int .i64 pn5, .int .i64 pd5, .int .i64 pn6, .int .i64 pd6, .slice pa 0 pc], .agg #[.int .i64 sn0, .int .i64 sd0, .int .i64 sn1, .int .i64 sd1, .int .i64 sn2, .int .i64 sd2, .int .i64 sn3, .int .i64 sd3, .int .i64 sn4, .int .i64 sd4, .int .i64 sn5, .int .i64 sd5, .int .i64 sn6, .int .i64 sd6, .slice sa 0 sc]] W fun e w' => e = .returned (.bool true) ∧ Below wa3.heap.size wa3 w' from ((FP1.out.low h).same (show FoP W F1 _ from hf ▸ FP3.out.low h)).mono (by rintro e w' ⟨rfl, h3⟩; exact ⟨rfl, bto h h3⟩))
  clear K1 K2 K3 FP1 FP2 FP3
  obtain ⟨x0, x1, x2, x3, x4, x5, x6, x7, x8, x9, x10, x11, x12, x13, x14⟩ := KS1.out wa3 BB.out
  cases O1 : okU F1.us
  · as_aux_lemma =>
      rw [show (!okU F1.us) = true by rw [O1]; rfl] at OC1
      clear O1 HE CS2 CS3
      go_wp2_with (first
        | (go_at_call 9; refine (OC1.out _ BB.out).mono ?_; rintro e w4 ⟨rfl, B4⟩; replace B4 := hide B4; obtain ⟨y0, y1, y2, y3, y4, y5, y6, y7, y8, y9, y10, y11, y12, y13, y14⟩ := KS2.out w4 B4.out)
        | (go_at_call 8; refine (CA.out _ B4.out).mono ?_; rintro e w9 ⟨rfl, B9⟩; replace B9 := hide B9))
      go_ret
      exact ⟨rfl, bto B0.out B9.out⟩
  rw [show (!okU F1.us) = false by rw [O1]; rfl] at OC1
  cases O2 : okU F2.us
  · as_aux_lemma =>
      rw [show (!okU F2.us) = true by rw [O2]; rfl] at OC2
      clear O2 HE CS2 CS3
      go_wp2_with (first
        | (go_at_call 9; refine (OC2.out _ B4.out).mono ?_; rintro e w5 ⟨rfl, B5⟩; replace B5 := hide B5; obtain ⟨z0, z1, z2, z3, z4, z5, z6, z7, z8, z9, z10, z11, z12, z13, z14⟩ := KS3.out w5 B5.out)
        | (go_at_call 9; refine (OC1.out _ BB.out).mono ?_; rintro e w4 ⟨rfl, B4⟩; replace B4 := hide B4; obtain ⟨y0, y1, y2, y3, y4, y5, y6, y7, y8, y9, y10, y11, y12, y13, y14⟩ := KS2.out w4 B4.out)
        | (go_at_call 8; refine (CA.out _ B5.out).mono ?_; rintro e w9 ⟨rfl, B9⟩; replace B9 := hide B9))
      go_ret
      exact ⟨rfl, bto B0.out B9.out⟩
  rw [show (!okU F2.us) = false by rw [O2]; rfl] at OC2
  cases O3 : okU F3.us
  · as_aux_lemma =>
      rw [show (!okU F3.us) = true by rw [O3]; rfl] at OC3
      clear O3 HE CS2 CS3
      go_wp2_with (first
        | (go_at_call 9; refine (OC3.out _ B5.out).mono ?_; rintro e w6 ⟨rfl, B6⟩; replace B6 := hide B6; obtain ⟨x0, x1, x2, x3, x4, x5, x6, x7, x8, x9, x10, x11, x12, x13, x14⟩ := KS1.out w6 B6.out; obtain ⟨y0, y1, y2, y3, y4, y5, y6, y7, y8, y9, y10, y11, y12, y13, y14⟩ := KS2.out w6 B6.out)
        | (go_at_call 9; refine (OC2.out _ B4.out).mono ?_; rintro e w5 ⟨rfl, B5⟩; replace B5 := hide B5; obtain ⟨z0, z1, z2, z3, z4, z5, z6, z7, z8, z9, z10, z11, z12, z13, z14⟩ := KS3.out w5 B5.out)
        | (go_at_call 9; refine (OC1.out _ BB.out).mono ?_; rintro e w4 ⟨rfl, B4⟩; replace B4 := hide B4; obtain ⟨y0, y1, y2, y3, y4, y5, y6, y7, y8, y9, y10, y11, y12, y13, y14⟩ := KS2.out w4 B4.out)
        | (go_at_call 8; refine (CA.out _ B6.out).mono ?_; rintro e w9 ⟨rfl, B9⟩; replace B9 := hide B9))
      go_ret
      exact ⟨rfl, bto B0.out B9.out⟩
  rw [show (!okU F3.us) = false by rw [O3]; rfl] at OC3
  obtain ⟨hf2, hf3⟩ := HE.out (okU_noZ O1) (okU_noZ O2) (okU_noZ O3)
  replace CS2 := hide (CS2.out hf2)
  replace CS3 := hide (CS3.out hf3)
  clear O1 O2 O3 HE hf2 hf3 hp hp2 hp3
  as_aux_lemma =>
    go_upto_region 8 with (first
      | (go_at_call 9; refine (OC3.out _ B5.out).mono ?_; rintro e w6 ⟨rfl, B6⟩; replace B6 := hide B6; obtain ⟨x0, x1, x2, x3, x4, x5, x6, x7, x8, x9, x10, x11, x12, x13, x14⟩ := KS1.out w6 B6.out; obtain ⟨y0, y1, y2, y3, y4, y5, y6, y7, y8, y9, y10, y11, y12, y13, y14⟩ := KS2.out w6 B6.out)
      | (go_at_call 9; refine (OC2.out _ B4.out).mono ?_; rintro e w5 ⟨rfl, B5⟩; replace B5 := hide B5; obtain ⟨z0, z1, z2, z3, z4, z5, z6, z7, z8, z9, z10, z11, z12, z13, z14⟩ := KS3.out w5 B5.out)
      | (go_at_call 9; refine (OC1.out _ BB.out).mono ?_; rintro e w4 ⟨rfl, B4⟩; replace B4 := hide B4; obtain ⟨y0, y1, y2, y3, y4, y5, y6, y7, y8, y9, y10, y11, y12, y13, y14⟩ := KS2.out w4 B4.out))
    go_wp2_with (first
      | (go_at_call 10; refine (CS3.out _ B7.out).mono ?_; rintro e w8 ⟨rfl, B8⟩; replace B8 := hide B8)
      | (go_at_call 10; refine (CS2.out _ B6.out).mono ?_; rintro e w7 ⟨rfl, B7⟩; replace B7 := hide B7; obtain ⟨x0, x1, x2, x3, x4, x5, x6, x7, x8, x9, x10, x11, x12, x13, x14⟩ := KS1.out w7 B7.out; obtain ⟨z0, z1, z2, z3, z4, z5, z6, z7, z8, z9, z10, z11, z12, z13, z14⟩ := KS3.out w7 B7.out)
      | (go_at_call 8; refine (CA.out _ B8.out).mono ?_; rintro e w9 ⟨rfl, B9⟩; replace B9 := hide B9))
    go_ret
    exact ⟨rfl, bto B0.out B9.out⟩
theorem okx_br {x : Ex} {w : World} {u : Value} (hx : x.Ok) (hu : EM w u x.ks) : OkX x := by
  obtain ⟨k, n, d, q, ks⟩ := x
  exact .mk k n d q ks hx (em_okx hu)
theorem law_brackets2 (x : Ex) (u : Value) (y : Ex) (v : Value) (z : Ex) (t : Value) (w : World) (hN : Nth w) (hT : TabD w) (hx : x.Ok) (hu : EM w u x.ks) (sx : szE x ≤ 1048576) (hy : y.Ok) (hv : EM w v y.ks) (sy : szE y ≤ 1048576) (hz : z.Ok) (ht : EM w t z.ks) (sz : szE z ≤ 1048576) : Calls Tryd.prog 3 #[exV x u, exV y v, exV z t] w fun e w' => e = .returned (.bool true) ∧ Below w.heap.size w w' :=
  law_brackets x y z u v t w hN hT (okx_br hx hu) (okx_br hy hv) (okx_br hz ht) hu hv ht (by omega) (by omega) (by omega)
end Go.Proofs.YtlhmecagijdinaaDoor.nm
