/-
  The sizes of units: by the reference.
  A number with a unit: by the reference.
-/
import Derived.Test.YtlhmecagijdinaaGreatDoorK11
import Derived.Deep.RegionHeld3
set_option linter.unusedVariables false
set_option linter.unusedSimpArgs false
namespace Go.Proofs.YtlhmecagijdinaaGreatDoor.nm
open Go.RowKit cc

theorem may_sameS (n d : Int) : wk.mayB n d = mayB n d := rfl
theorem cleanS_any (n d : Int) (w : World) (hn : i64 n) (hd : i64 d) : Calls Tryz.prog 35 #[.agg #[.int .i64 n, .int .i64 d]] w fun e w' => e = .returned (ratV (ctR (n, d))) ∧ Below w.heap.size w w' := by
  refine (wk.clean_any n d w hn hd).mono ?_
  rintro e w1 ⟨rfl, U⟩
  refine ⟨?_, U.1⟩
  unfold wk.clN wk.clD ctR ratV
  rw [may_sameS]
  cases mayB n d <;> rfl
def hdR (r : Int × Int) : Int × Int := dvR (ctR r) (100, 1)
theorem ct_64 {r : Int × Int} (h : R64 r) : R64 (ctR r) := ct_i64 h.1 h.2
theorem hd_64 (r : Int × Int) : R64 (hdR r) := dv_64 ⟨⟨by decide, by decide⟩, ⟨by decide, by decide⟩⟩
set_option maxRecDepth 100000 in
theorem hundredth_any (n d : Int) (w : World) (hn : i64 n) (hd : i64 d) : Calls Tryz.prog 91 #[.agg #[.int .i64 n, .int .i64 d]] w fun e w' => e = .returned (ratV (hdR (n, d))) ∧ Below w.heap.size w w' := by
  obtain ⟨W1, hW1⟩ : ∃ W1, (w.alloc (.cells #[.int .i64 n, .int .i64 d] 23)).alloc (.cells #[.int .i64 0, .int .i64 0] 23) = W1 := ⟨_, rfl⟩
  have B0 := hide (show Below w.heap.size w W1 by rw [← hW1]; exact bplus (bplus (Below.refl _ _) _) _)
  have P0 := hide (show Bk W1 w.heap.size 23 [.int .i64 n, .int .i64 d] by rw [← hW1]; exact (two_new w _ _).1)
  have KR := hide (fun (W : World) (h : Below W1.heap.size W1 W) => show Bk W (w.heap.size + 1) 23 [.int .i64 0, .int .i64 0] from Bk.up (show Bk W1 (w.heap.size + 1) 23 _ by rw [← hW1]; exact (two_new w _ _).2) h)
  have HW1 := hide hW1
  have CC := hide (fun (W : World) => cleanS_any n d W hn hd)
  have CI := hide (fun (W : World) => (wk.int_any 100 W).mono (R' := fun e w' => e = .returned (ratV (100, 1)) ∧ Below W.heap.size W w') (by rintro e w1 ⟨rfl, cc, rfl⟩; exact ⟨rfl, bplus (Below.refl _ _) _⟩))
  have RC := ct_64 (r := (n, d)) ⟨hn, hd⟩
  obtain ⟨c, hc⟩ : ∃ c, ctR (n, d) = c := ⟨_, rfl⟩
  have CD := hide (fun (W : World) => (wk.divR_any c.1 c.2 100 1 W (by rw [← hc]; exact RC.1) (by rw [← hc]; exact RC.2) ⟨by decide, by decide⟩ ⟨by decide, by decide⟩).mono (R' := fun e w' => e = .returned (ratV (dvR c (100, 1))) ∧ Below W.heap.size W w') (by rintro e w1 ⟨rfl, U⟩; exact ⟨rfl, U.1⟩))
  have F := hide (show hdR (n, d) = dvR c (100, 1) by unfold hdR; rw [hc])
  rw [hc] at CC
  rw [F.out]
  generalize dvR c (100, 1) = r at *
  unfold ratV at *
  clear hW1 hc RC F
  obtain ⟨a0, a1⟩ := bxk_2g (show W1.heap[w.heap.size]? = some (.cells #[.int .i64 n, .int .i64 d] 23) from P0.out)
  go_enter Tryz.func91, Tryz.ntmps91
  go_upto_region 1 with fail
  rw [HW1.out]
  clear HW1
  have BX := hide (Below.refl W1.heap.size W1)
  go_wp2_with (first
    | (go_at_call 35; refine (CC.out _).mono ?_; rintro e w2 ⟨rfl, B2⟩; replace BX := hide (bto BX.out B2); clear B2)
    | (go_at_call 30; refine (CI.out _).mono ?_; rintro e w3 ⟨rfl, B3⟩; replace BX := hide (bto BX.out B3); clear B3)
    | (go_at_call 87; refine (CD.out _).mono ?_; rintro e w5 ⟨rfl, B5⟩; replace BX := hide (bto BX.out B5); clear B5; have QR := KR.out _ BX.out; have t0 := Bk.cell QR 0; have t1 := Bk.cell QR 1; simp at t0 t1; have v0 := Bk.fz QR 0; have v1 := Bk.fz QR 1; clear QR))
  exact bodyPost_ret (v := .agg #[.int .i64 r.1, .int .i64 r.2]) (by simp [results, Tryz.results91, go_sem, *]) rfl ⟨rfl, ((bto B0.out BX.out).setCell (by simp) _).setCell (by simp) _⟩
/-- A unit's size in a context. -/
def szC (cs : List (Int × Int)) (u : Int) : Int × Int := if u = 1 then (1, 1) else if u = 2 then ctR (rAt cs 0) else if u = 3 then ctR (rAt cs 1) else if u = 4 then hdR (rAt cs 2) else if u = 5 then hdR (rAt cs 3) else if u = 6 then hdR (rAt cs 4) else if u = 7 then hdR (rAt cs 5) else (0, 0)
theorem szC_64 {cs : List (Int × Int)} (h : ∀ r ∈ cs, R64 r) (u : Int) : R64 (szC cs u) := by
  unfold szC
  split
  · exact ⟨⟨by decide, by decide⟩, ⟨by decide, by decide⟩⟩
  split
  · exact ct_64 (rAt_64 h 0)
  split
  · exact ct_64 (rAt_64 h 1)
  split
  · exact hd_64 _
  split
  · exact hd_64 _
  split
  · exact hd_64 _
  split
  · exact hd_64 _
  · exact r64_zero
theorem sixC {cs : List (Int × Int)} (h : cs.length = 6) : ∃ f0 g0 f1 g1 f2 g2 f3 g3 f4 g4 f5 g5 : Int, cs = [(f0, g0), (f1, g1), (f2, g2), (f3, g3), (f4, g4), (f5, g5)] := by
  match cs, h with
  | [(f0, g0), (f1, g1), (f2, g2), (f3, g3), (f4, g4), (f5, g5)], _ => exact ⟨f0, g0, f1, g1, f2, g2, f3, g3, f4, g4, f5, g5, rfl⟩
set_option maxRecDepth 100000 in
set_option maxHeartbeats 8000000 in
theorem size_any (u : Int) (cs : List (Int × Int)) (w : World) (hcs : cs.length = 6) (h : ∀ r ∈ cs, R64 r) : Calls Tryz.prog 61 #[.int .i64 u, cxV cs] w fun e w' => e = .returned (ratV (szC cs u)) ∧ Below w.heap.size w w' := by
  obtain ⟨f0, g0, f1, g1, f2, g2, f3, g3, f4, g4, f5, g5, rfl⟩ := sixC hcs
  have k := h
  have E := hide (show szC [(f0, g0), (f1, g1), (f2, g2), (f3, g3), (f4, g4), (f5, g5)] u = (if u = 1 then (1, 1) else if u = 2 then ctR (f0, g0) else if u = 3 then ctR (f1, g1) else if u = 4 then hdR (f2, g2) else if u = 5 then hdR (f3, g3) else if u = 6 then hdR (f4, g4) else if u = 7 then hdR (f5, g5) else (0, 0)) from rfl)
  have C2 := hide (fun (W : World) => cleanS_any f0 g0 W (k (f0, g0) (by simp)).1 (k (f0, g0) (by simp)).2)
  have C3 := hide (fun (W : World) => cleanS_any f1 g1 W (k (f1, g1) (by simp)).1 (k (f1, g1) (by simp)).2)
  have C4 := hide (fun (W : World) => hundredth_any f2 g2 W (k (f2, g2) (by simp)).1 (k (f2, g2) (by simp)).2)
  have C5 := hide (fun (W : World) => hundredth_any f3 g3 W (k (f3, g3) (by simp)).1 (k (f3, g3) (by simp)).2)
  have C6 := hide (fun (W : World) => hundredth_any f4 g4 W (k (f4, g4) (by simp)).1 (k (f4, g4) (by simp)).2)
  have C7 := hide (fun (W : World) => hundredth_any f5 g5 W (k (f5, g5) (by simp)).1 (k (f5, g5) (by simp)).2)
  have C1 := hide (fun (W : World) => (wk.int_any 1 W).mono (R' := fun e w' => e = .returned (ratV (1, 1)) ∧ Below W.heap.size W w') (by rintro e w1 ⟨rfl, cc, rfl⟩; exact ⟨rfl, bplus (Below.refl _ _) _⟩))
  have C8 := hide (fun (W : World) => (wk.over_up W).mono (R' := fun e w' => e = .returned (ratV (0, 0)) ∧ Below W.heap.size W w') (by rintro e w1 ⟨rfl, U⟩; exact ⟨rfl, U.1⟩))
  obtain ⟨X, hX⟩ : ∃ X, szC [(f0, g0), (f1, g1), (f2, g2), (f3, g3), (f4, g4), (f5, g5)] u = X := ⟨_, rfl⟩
  rw [hX] at E ⊢
  show Calls Tryz.prog 61 #[.int .i64 u, .agg #[.int .i64 f0, .int .i64 g0, .int .i64 f1, .int .i64 g1, .int .i64 f2, .int .i64 g2, .int .i64 f3, .int .i64 g3, .int .i64 f4, .int .i64 g4, .int .i64 f5, .int .i64 g5]] w _
  obtain ⟨W1, hW1⟩ : ∃ W1, (w.alloc (.cells #[.int .i64 f0, .int .i64 g0, .int .i64 f1, .int .i64 g1, .int .i64 f2, .int .i64 g2, .int .i64 f3, .int .i64 g3, .int .i64 f4, .int .i64 g4, .int .i64 f5, .int .i64 g5] 45)).alloc (.cells #[.int .i64 0, .int .i64 0] 23) = W1 := ⟨_, rfl⟩
  have B0 := hide (show Below w.heap.size w W1 by rw [← hW1]; exact bplus (bplus (Below.refl _ _) _) _)
  have P0 := hide (show Bk W1 w.heap.size 45 [.int .i64 f0, .int .i64 g0, .int .i64 f1, .int .i64 g1, .int .i64 f2, .int .i64 g2, .int .i64 f3, .int .i64 g3, .int .i64 f4, .int .i64 g4, .int .i64 f5, .int .i64 g5] by rw [← hW1]; exact (two_new w _ _).1)
  have KR := hide (fun (W : World) (h : Below W1.heap.size W1 W) => show Bk W (w.heap.size + 1) 23 [.int .i64 0, .int .i64 0] from Bk.up (show Bk W1 (w.heap.size + 1) 23 _ by rw [← hW1]; exact (two_new w _ _).2) h)
  have HW1 := hide hW1
  clear hW1 hX k h hcs
  have a0 := Bk.cell P0.out 0
  have a1 := Bk.cell P0.out 1
  have a2 := Bk.cell P0.out 2
  have a3 := Bk.cell P0.out 3
  have a4 := Bk.cell P0.out 4
  have a5 := Bk.cell P0.out 5
  have a6 := Bk.cell P0.out 6
  have a7 := Bk.cell P0.out 7
  have a8 := Bk.cell P0.out 8
  have a9 := Bk.cell P0.out 9
  have a10 := Bk.cell P0.out 10
  have a11 := Bk.cell P0.out 11
  simp at a0 a1 a2 a3 a4 a5 a6 a7 a8 a9 a10 a11
  have BX := hide (Below.refl W1.heap.size W1)
  generalize ctR (f0, g0) = r2 at *
  generalize ctR (f1, g1) = r3 at *
  generalize hdR (f2, g2) = r4 at *
  generalize hdR (f3, g3) = r5 at *
  generalize hdR (f4, g4) = r6 at *
  generalize hdR (f5, g5) = r7 at *
  unfold ratV at *
  by_cases u1 : u = 1
  · subst u1
    have F := hide (show X = (1, 1) by rw [E.out]; rfl)
    rw [F.out]
    clear E F
    go_enter Tryz.func61, Tryz.ntmps61
    go_upto_region 1 with fail
    rw [HW1.out]
    clear HW1
    go_wp2_with (go_at_call 30; refine (C1.out _).mono ?_; rintro e w5 ⟨rfl, B5⟩; replace BX := hide (bto BX.out B5); clear B5; have QR := KR.out _ BX.out; have t0 := Bk.cell QR 0; have t1 := Bk.cell QR 1; simp at t0 t1; have z0 := Bk.fz QR 0; have z1 := Bk.fz QR 1; clear QR)
    exact bodyPost_ret (v := .agg #[.int .i64 1, .int .i64 1]) (by simp [results, Tryz.results61, go_sem, *]) rfl ⟨rfl, ((bto B0.out BX.out).setCell (by simp) _).setCell (by simp) _⟩
  by_cases u2 : u = 2
  · subst u2
    have F := hide (show X = r2 by rw [E.out]; rfl)
    rw [F.out]
    clear E F
    go_enter Tryz.func61, Tryz.ntmps61
    go_upto_region 1 with fail
    rw [HW1.out]
    clear HW1
    go_wp2_with (go_at_call 35; refine (C2.out _).mono ?_; rintro e w5 ⟨rfl, B5⟩; replace BX := hide (bto BX.out B5); clear B5; have QR := KR.out _ BX.out; have t0 := Bk.cell QR 0; have t1 := Bk.cell QR 1; simp at t0 t1; have z0 := Bk.fz QR 0; have z1 := Bk.fz QR 1; clear QR)
    exact bodyPost_ret (v := .agg #[.int .i64 r2.1, .int .i64 r2.2]) (by simp [results, Tryz.results61, go_sem, *]) rfl ⟨rfl, ((bto B0.out BX.out).setCell (by simp) _).setCell (by simp) _⟩
  by_cases u3 : u = 3
  · subst u3
    have F := hide (show X = r3 by rw [E.out]; rfl)
    rw [F.out]
    clear E F
    go_enter Tryz.func61, Tryz.ntmps61
    go_upto_region 1 with fail
    rw [HW1.out]
    clear HW1
    go_wp2_with (go_at_call 35; refine (C3.out _).mono ?_; rintro e w5 ⟨rfl, B5⟩; replace BX := hide (bto BX.out B5); clear B5; have QR := KR.out _ BX.out; have t0 := Bk.cell QR 0; have t1 := Bk.cell QR 1; simp at t0 t1; have z0 := Bk.fz QR 0; have z1 := Bk.fz QR 1; clear QR)
    exact bodyPost_ret (v := .agg #[.int .i64 r3.1, .int .i64 r3.2]) (by simp [results, Tryz.results61, go_sem, *]) rfl ⟨rfl, ((bto B0.out BX.out).setCell (by simp) _).setCell (by simp) _⟩
  by_cases u4 : u = 4
  · subst u4
    have F := hide (show X = r4 by rw [E.out]; rfl)
    rw [F.out]
    clear E F
    go_enter Tryz.func61, Tryz.ntmps61
    go_upto_region 1 with fail
    rw [HW1.out]
    clear HW1
    go_wp2_with (go_at_call 91; refine (C4.out _).mono ?_; rintro e w5 ⟨rfl, B5⟩; replace BX := hide (bto BX.out B5); clear B5; have QR := KR.out _ BX.out; have t0 := Bk.cell QR 0; have t1 := Bk.cell QR 1; simp at t0 t1; have z0 := Bk.fz QR 0; have z1 := Bk.fz QR 1; clear QR)
    exact bodyPost_ret (v := .agg #[.int .i64 r4.1, .int .i64 r4.2]) (by simp [results, Tryz.results61, go_sem, *]) rfl ⟨rfl, ((bto B0.out BX.out).setCell (by simp) _).setCell (by simp) _⟩
  by_cases u5 : u = 5
  · subst u5
    have F := hide (show X = r5 by rw [E.out]; rfl)
    rw [F.out]
    clear E F
    go_enter Tryz.func61, Tryz.ntmps61
    go_upto_region 1 with fail
    rw [HW1.out]
    clear HW1
    go_wp2_with (go_at_call 91; refine (C5.out _).mono ?_; rintro e w5 ⟨rfl, B5⟩; replace BX := hide (bto BX.out B5); clear B5; have QR := KR.out _ BX.out; have t0 := Bk.cell QR 0; have t1 := Bk.cell QR 1; simp at t0 t1; have z0 := Bk.fz QR 0; have z1 := Bk.fz QR 1; clear QR)
    exact bodyPost_ret (v := .agg #[.int .i64 r5.1, .int .i64 r5.2]) (by simp [results, Tryz.results61, go_sem, *]) rfl ⟨rfl, ((bto B0.out BX.out).setCell (by simp) _).setCell (by simp) _⟩
  by_cases u6 : u = 6
  · subst u6
    have F := hide (show X = r6 by rw [E.out]; rfl)
    rw [F.out]
    clear E F
    go_enter Tryz.func61, Tryz.ntmps61
    go_upto_region 1 with fail
    rw [HW1.out]
    clear HW1
    go_wp2_with (go_at_call 91; refine (C6.out _).mono ?_; rintro e w5 ⟨rfl, B5⟩; replace BX := hide (bto BX.out B5); clear B5; have QR := KR.out _ BX.out; have t0 := Bk.cell QR 0; have t1 := Bk.cell QR 1; simp at t0 t1; have z0 := Bk.fz QR 0; have z1 := Bk.fz QR 1; clear QR)
    exact bodyPost_ret (v := .agg #[.int .i64 r6.1, .int .i64 r6.2]) (by simp [results, Tryz.results61, go_sem, *]) rfl ⟨rfl, ((bto B0.out BX.out).setCell (by simp) _).setCell (by simp) _⟩
  by_cases u7 : u = 7
  · subst u7
    have F := hide (show X = r7 by rw [E.out]; rfl)
    rw [F.out]
    clear E F
    go_enter Tryz.func61, Tryz.ntmps61
    go_upto_region 1 with fail
    rw [HW1.out]
    clear HW1
    go_wp2_with (go_at_call 91; refine (C7.out _).mono ?_; rintro e w5 ⟨rfl, B5⟩; replace BX := hide (bto BX.out B5); clear B5; have QR := KR.out _ BX.out; have t0 := Bk.cell QR 0; have t1 := Bk.cell QR 1; simp at t0 t1; have z0 := Bk.fz QR 0; have z1 := Bk.fz QR 1; clear QR)
    exact bodyPost_ret (v := .agg #[.int .i64 r7.1, .int .i64 r7.2]) (by simp [results, Tryz.results61, go_sem, *]) rfl ⟨rfl, ((bto B0.out BX.out).setCell (by simp) _).setCell (by simp) _⟩
  have F := hide (show X = (0, 0) by rw [E.out, if_neg u1, if_neg u2, if_neg u3, if_neg u4, if_neg u5, if_neg u6, if_neg u7])
  rw [F.out]
  clear E F
  have v1 : (u == 1) = false := by simpa using u1
  have v2 : (u == 2) = false := by simpa using u2
  have v3 : (u == 3) = false := by simpa using u3
  have v4 : (u == 4) = false := by simpa using u4
  have v5 : (u == 5) = false := by simpa using u5
  have v6 : (u == 6) = false := by simpa using u6
  have v7 : (u == 7) = false := by simpa using u7
  go_enter Tryz.func61, Tryz.ntmps61
  go_upto_region 1 with fail
  rw [HW1.out]
  clear HW1
  go_wp2_with (go_at_call 57; refine (C8.out _).mono ?_; rintro e w5 ⟨rfl, B5⟩; replace BX := hide (bto BX.out B5); clear B5; have QR := KR.out _ BX.out; have t0 := Bk.cell QR 0; have t1 := Bk.cell QR 1; simp at t0 t1; have z0 := Bk.fz QR 0; have z1 := Bk.fz QR 1; clear QR)
  exact bodyPost_ret (v := .agg #[.int .i64 0, .int .i64 0]) (by simp [results, Tryz.results61, go_sem, *]) rfl ⟨rfl, ((bto B0.out BX.out).setCell (by simp) _).setCell (by simp) _⟩
end Go.Proofs.YtlhmecagijdinaaGreatDoor.nm
set_option linter.unusedVariables false
set_option linter.unusedSimpArgs false
namespace Go.Proofs.YtlhmecagijdinaaGreatDoor.nm
open Go.RowKit cc

set_option maxRecDepth 100000 in
set_option maxHeartbeats 16000000 in
theorem unC_any (cs : List (Int × Int)) (hcs : cs.length = 6) (hs : ∀ r ∈ cs, R64 r) : UnC (szC cs) cs := by
  intro n d q ks a m c w RN q1 q7
  have qz := szC_64 hs q
  have CS := hide (fun (W : World) => size_any q cs W hcs hs)
  have q0' : (q == 0) = false := by simp; omega
  obtain ⟨s, hs'⟩ : ∃ s, szC cs q = s := ⟨_, rfl⟩
  rw [hs'] at CS qz ⊢
  clear hs' hs
  obtain ⟨f0, g0, f1, g1, f2, g2, f3, g3, f4, g4, f5, g5, rfl⟩ := sixC hcs
  clear hcs
  have CX := hide (fun (W : World) => show Calls Tryz.prog 61 #[.int .i64 q, .agg #[.int .i64 f0, .int .i64 g0, .int .i64 f1, .int .i64 g1, .int .i64 f2, .int .i64 g2, .int .i64 f3, .int .i64 g3, .int .i64 f4, .int .i64 g4, .int .i64 f5, .int .i64 g5]] W _ from CS.out W)
  clear CS
  show Calls Tryz.prog 53 #[.agg #[.int .i64 1, .int .i64 n, .int .i64 d, .int .i64 q, .slice a m c], .agg #[.int .i64 f0, .int .i64 g0, .int .i64 f1, .int .i64 g1, .int .i64 f2, .int .i64 g2, .int .i64 f3, .int .i64 g3, .int .i64 f4, .int .i64 g4, .int .i64 f5, .int .i64 g5]] w _
  obtain ⟨W0, hW0⟩ : ∃ W0, (w.alloc (.cells #[.int .i64 1, .int .i64 n, .int .i64 d, .int .i64 q, .slice a m c] 26)).alloc (.cells #[.int .i64 f0, .int .i64 g0, .int .i64 f1, .int .i64 g1, .int .i64 f2, .int .i64 g2, .int .i64 f3, .int .i64 g3, .int .i64 f4, .int .i64 g4, .int .i64 f5, .int .i64 g5] 45) = W0 := ⟨_, rfl⟩
  have S0 : W0.heap.size = w.heap.size + 2 := by rw [← hW0]; simp
  have B00 := hide (show Below w.heap.size w W0 by rw [← hW0]; exact bplus (bplus (Below.refl _ _) _) _)
  have P0 := hide (show Bk W0 w.heap.size 26 [.int .i64 1, .int .i64 n, .int .i64 d, .int .i64 q, .slice a m c] by rw [← hW0]; exact (two_new w _ _).1)
  have P1 := hide (show Bk W0 (w.heap.size + 1) 45 [.int .i64 f0, .int .i64 g0, .int .i64 f1, .int .i64 g1, .int .i64 f2, .int .i64 g2, .int .i64 f3, .int .i64 g3, .int .i64 f4, .int .i64 g4, .int .i64 f5, .int .i64 g5] by rw [← hW0]; exact (two_new w _ _).2)
  obtain ⟨W1, hW1⟩ : ∃ W1, W0.alloc (.cells #[.int .i64 0, .int .i64 0] 23) = W1 := ⟨_, rfl⟩
  have B01 := hide (show Below W0.heap.size W0 W1 by rw [← hW1]; exact bplus (Below.refl _ _) _)
  have P2 := hide (show Bk W1 (w.heap.size + 2) 23 [.int .i64 0, .int .i64 0] by rw [← hW1, ← S0]; exact heap_alloc_new W0 _)
  have KS := hide (fun (w' : World) (h : Below W0.heap.size W0 w') => show w'.cell? ⟨w.heap.size, 1, none⟩ = some (.int .i64 n) ∧ w'.cell? ⟨w.heap.size, 2, none⟩ = some (.int .i64 d) ∧ w'.cell? ⟨w.heap.size, 3, none⟩ = some (.int .i64 q) ∧ w'.cell? ⟨w.heap.size + 1, 0, none⟩ = some (.int .i64 f0) ∧ w'.cell? ⟨w.heap.size + 1, 1, none⟩ = some (.int .i64 g0) ∧ w'.cell? ⟨w.heap.size + 1, 2, none⟩ = some (.int .i64 f1) ∧ w'.cell? ⟨w.heap.size + 1, 3, none⟩ = some (.int .i64 g1) ∧ w'.cell? ⟨w.heap.size + 1, 4, none⟩ = some (.int .i64 f2) ∧ w'.cell? ⟨w.heap.size + 1, 5, none⟩ = some (.int .i64 g2) ∧ w'.cell? ⟨w.heap.size + 1, 6, none⟩ = some (.int .i64 f3) ∧ w'.cell? ⟨w.heap.size + 1, 7, none⟩ = some (.int .i64 g3) ∧ w'.cell? ⟨w.heap.size + 1, 8, none⟩ = some (.int .i64 f4) ∧ w'.cell? ⟨w.heap.size + 1, 9, none⟩ = some (.int .i64 g4) ∧ w'.cell? ⟨w.heap.size + 1, 10, none⟩ = some (.int .i64 f5) ∧ w'.cell? ⟨w.heap.size + 1, 11, none⟩ = some (.int .i64 g5) from ⟨Bk.cell (Bk.up P0.out h) 1, Bk.cell (Bk.up P0.out h) 2, Bk.cell (Bk.up P0.out h) 3, Bk.cell (Bk.up P1.out h) 0, Bk.cell (Bk.up P1.out h) 1, Bk.cell (Bk.up P1.out h) 2, Bk.cell (Bk.up P1.out h) 3, Bk.cell (Bk.up P1.out h) 4, Bk.cell (Bk.up P1.out h) 5, Bk.cell (Bk.up P1.out h) 6, Bk.cell (Bk.up P1.out h) 7, Bk.cell (Bk.up P1.out h) 8, Bk.cell (Bk.up P1.out h) 9, Bk.cell (Bk.up P1.out h) 10, Bk.cell (Bk.up P1.out h) 11⟩)
  have a0 := Bk.cell (Bk.up P0.out B01.out) 0
  have a3 := Bk.cell (Bk.up P0.out B01.out) 3
  simp at a0 a3
  have BY := hide (Below.refl W1.heap.size W1)
  have CM := hide (fun (W : World) (T : TypeId) => (wk.mulR_any _ [(n, d), s] _ (two_row (W := W) (T := T)) (in_two RN qz)).mono (R' := fun e w' => e = .returned (ratV (wk.mulAll [(n, d), s])) ∧ Below (W.alloc (.cells #[.int .i64 n, .int .i64 d, .int .i64 s.1, .int .i64 s.2] T)).heap.size (W.alloc (.cells #[.int .i64 n, .int .i64 d, .int .i64 s.1, .int .i64 s.2] T)) w') (by rintro e w1 ⟨rfl, U⟩; exact ⟨rfl, U.1⟩))
  obtain ⟨r, hr⟩ : ∃ r, wk.mulAll [(n, d), s] = r := ⟨_, rfl⟩
  rw [hr] at CM ⊢
  have HW1 := hide (show ((w.alloc (.cells #[.int .i64 1, .int .i64 n, .int .i64 d, .int .i64 q, .slice a m c] 26)).alloc (.cells #[.int .i64 f0, .int .i64 g0, .int .i64 f1, .int .i64 g1, .int .i64 f2, .int .i64 g2, .int .i64 f3, .int .i64 g3, .int .i64 f4, .int .i64 g4, .int .i64 f5, .int .i64 g5] 45)).alloc (.cells #[.int .i64 0, .int .i64 0] 23) = W1 by rw [hW0]; exact hW1)
  unfold ratV at CX CM ⊢
  clear hW0 hW1 hr RN qz P0 P1 q1 q7
  go_enter Tryz.func53, Tryz.ntmps53
  go_upto_region 1 with fail
  rw [HW1.out]
  clear HW1
  go_upto_region 4 with fail
  go_region_held3 (fun w' => w'.cell? ⟨w.heap.size, 1, none⟩ = some (.int .i64 n) ∧ w'.cell? ⟨w.heap.size, 2, none⟩ = some (.int .i64 d) ∧ w'.cell? ⟨w.heap.size, 3, none⟩ = some (.int .i64 q) ∧ w'.cell? ⟨w.heap.size + 1, 0, none⟩ = some (.int .i64 f0) ∧ w'.cell? ⟨w.heap.size + 1, 1, none⟩ = some (.int .i64 g0) ∧ w'.cell? ⟨w.heap.size + 1, 2, none⟩ = some (.int .i64 f1) ∧ w'.cell? ⟨w.heap.size + 1, 3, none⟩ = some (.int .i64 g1) ∧ w'.cell? ⟨w.heap.size + 1, 4, none⟩ = some (.int .i64 f2) ∧ w'.cell? ⟨w.heap.size + 1, 5, none⟩ = some (.int .i64 g2) ∧ w'.cell? ⟨w.heap.size + 1, 6, none⟩ = some (.int .i64 f3) ∧ w'.cell? ⟨w.heap.size + 1, 7, none⟩ = some (.int .i64 g3) ∧ w'.cell? ⟨w.heap.size + 1, 8, none⟩ = some (.int .i64 f4) ∧ w'.cell? ⟨w.heap.size + 1, 9, none⟩ = some (.int .i64 g4) ∧ w'.cell? ⟨w.heap.size + 1, 10, none⟩ = some (.int .i64 f5) ∧ w'.cell? ⟨w.heap.size + 1, 11, none⟩ = some (.int .i64 g5))
    ((refine KS.out _ ?_; (repeat (first | exact (bto B01.out BY.out) | (with_reducible refine Below.drew ?_) | (with_reducible refine below_drewN ?_ _) | (with_reducible refine bplus ?_ _) | (with_reducible refine Below.setCell ?_ (by simp; omega) _))); done))
    (first
      | (go_at_call 61; refine (CX.out _).mono ?_; rintro e w4 ⟨rfl, B4⟩; replace BY := hide (bto (show Below W1.heap.size W1 _ from by repeat (first | exact BY.out | (with_reducible refine Below.drew ?_) | (with_reducible refine below_drewN ?_ _) | (with_reducible refine bplus ?_ _))) B4); clear B4)
      | (go_at_call 24; refine (CM.out _ _).mono ?_; rintro e w5 ⟨rfl, B5⟩; replace BY := hide (bto (show Below W1.heap.size W1 _ from by repeat (first | exact BY.out | (with_reducible refine Below.drew ?_) | (with_reducible refine below_drewN ?_ _) | (with_reducible refine bplus ?_ _))) B5); clear B5; have QR := Bk.up P2.out BY.out; have t0 := Bk.cell QR 0; have t1 := Bk.cell QR 1; simp at t0 t1; have z0 := Bk.fz QR 0; have z1 := Bk.fz QR 1; clear QR))
  all_goals
    go_wp2_with fail
    exact bodyPost_ret (v := .agg #[.int .i64 r.1, .int .i64 r.2]) (by simp [results, Tryz.results53, go_sem, *]) rfl ⟨rfl, ((bto B00.out (bto B01.out BY.out)).setCell (by simp; omega) _).setCell (by simp; omega) _⟩
end Go.Proofs.YtlhmecagijdinaaGreatDoor.nm
