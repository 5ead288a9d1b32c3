/-
  The sizes of units: by the reference.
  One unit's form: by the program.
-/
import Derived.Test.YtdnnidnghaifgaaGreatDoorMNuF
import Derived.Test.YtdnnidnghaifgaaGreatDoorG02
set_option linter.unusedVariables false
set_option linter.unusedSimpArgs false
namespace Go.Proofs.YtdnnidnghaifgaaGreatDoor.nm
open Go.RowKit cc

theorem may_sameS (n d : Int) : wk.mayB n d = mayB n d := rfl
theorem cleanS_any (n d : Int) (w : World) (hn : i64 n) (hd : i64 d) : Calls Tryz.prog 37 #[.agg #[.int .i64 n, .int .i64 d]] w fun e w' => e = .returned (ratV (ctR (n, d))) ∧ Below w.heap.size w w' := by
  refine (wk.clean_any n d w hn hd).mono ?_
  rintro e w1 ⟨rfl, U⟩
  refine ⟨?_, U.1⟩
  unfold wk.clN wk.clD ctR ratV
  rw [may_sameS]
  cases mayB n d <;> rfl
def hdR (r : Int × Int) : Int × Int := dvR (ctR r) (100, 1)
theorem ct_64 {r : Int × Int} (h : R64 r) : R64 (ctR r) := ct_i64 h.1 h.2
theorem hd_64 (r : Int × Int) : R64 (hdR r) := dv_64 ⟨⟨by decide, by decide⟩, ⟨by decide, by decide⟩⟩
set_option maxRecDepth 100000 in
theorem hundredth_any (n d : Int) (w : World) (hn : i64 n) (hd : i64 d) : Calls Tryz.prog 38 #[.agg #[.int .i64 n, .int .i64 d]] w fun e w' => e = .returned (ratV (hdR (n, d))) ∧ Below w.heap.size w w' := by
  obtain ⟨W1, hW1⟩ : ∃ W1, (w.alloc (.cells #[.int .i64 n, .int .i64 d] 23)).alloc (.cells #[.int .i64 0, .int .i64 0] 23) = W1 := ⟨_, rfl⟩
  have B0 := hide (show Below w.heap.size w W1 by rw [← hW1]; exact bplus (bplus (Below.refl _ _) _) _)
  have P0 := hide (show Bk W1 w.heap.size 23 [.int .i64 n, .int .i64 d] by rw [← hW1]; exact (two_new w _ _).1)
  have KR := hide (fun (W : World) (h : Below W1.heap.size W1 W) => show Bk W (w.heap.size + 1) 23 [.int .i64 0, .int .i64 0] from Bk.up (show Bk W1 (w.heap.size + 1) 23 _ by rw [← hW1]; exact (two_new w _ _).2) h)
  have HW1 := hide hW1
  have CC := hide (fun (W : World) => cleanS_any n d W hn hd)
  have CI := hide (fun (W : World) => (wk.int_any 100 W).mono (R' := fun e w' => e = .returned (ratV (100, 1)) ∧ Below W.heap.size W w') (by rintro e w1 ⟨rfl, cc, rfl⟩; exact ⟨rfl, bplus (Below.refl _ _) _⟩))
  have RC := ct_64 (r := (n, d)) ⟨hn, hd⟩
  obtain ⟨c, hc⟩ : ∃ c, ctR (n, d) = c := ⟨_, rfl⟩
  have CD := hide (fun (W : World) => (wk.divR_any c.1 c.2 100 1 W (by rw [← hc]; exact RC.1) (by rw [← hc]; exact RC.2) ⟨by decide, by decide⟩ ⟨by decide, by decide⟩).mono (R' := fun e w' => e = .returned (ratV (dvR c (100, 1))) ∧ Below W.heap.size W w') (by rintro e w1 ⟨rfl, U⟩; exact ⟨rfl, U.1⟩))
  have F := hide (show hdR (n, d) = dvR c (100, 1) by unfold hdR; rw [hc])
  rw [hc] at CC
  rw [F.out]
  generalize dvR c (100, 1) = r at *
  unfold ratV at *
  clear hW1 hc RC F
  obtain ⟨a0, a1⟩ := bxk_2g (show W1.heap[w.heap.size]? = some (.cells #[.int .i64 n, .int .i64 d] 23) from P0.out)
  go_enter Tryz.func38, Tryz.ntmps38
  go_upto_region 1 with fail
  rw [HW1.out]
  clear HW1
  have BX := hide (Below.refl W1.heap.size W1)
  go_wp2_with (first
    | (go_at_call 37; refine (CC.out _).mono ?_; rintro e w2 ⟨rfl, B2⟩; replace BX := hide (bto BX.out B2); clear B2)
    | (go_at_call 36; refine (CI.out _).mono ?_; rintro e w3 ⟨rfl, B3⟩; replace BX := hide (bto BX.out B3); clear B3)
    | (go_at_call 67; refine (CD.out _).mono ?_; rintro e w5 ⟨rfl, B5⟩; replace BX := hide (bto BX.out B5); clear B5; have QR := KR.out _ BX.out; have t0 := Bk.cell QR 0; have t1 := Bk.cell QR 1; simp at t0 t1; have v0 := Bk.fz QR 0; have v1 := Bk.fz QR 1; clear QR))
  exact bodyPost_ret (v := .agg #[.int .i64 r.1, .int .i64 r.2]) (by simp [results, Tryz.results38, go_sem, *]) rfl ⟨rfl, ((bto B0.out BX.out).setCell (by simp) _).setCell (by simp) _⟩
/-- A unit's size in a context. -/
def szC (cs : List (Int × Int)) (u : Int) : Int × Int := if u = 1 then (1, 1) else if u = 2 then ctR (rAt cs 0) else if u = 3 then ctR (rAt cs 1) else if u = 4 then hdR (rAt cs 2) else if u = 5 then hdR (rAt cs 3) else if u = 6 then hdR (rAt cs 4) else if u = 7 then hdR (rAt cs 5) else (0, 0)
theorem szC_64 {cs : List (Int × Int)} (h : ∀ r ∈ cs, R64 r) (u : Int) : R64 (szC cs u) := by
  unfold szC
  split
  · exact ⟨⟨by decide, by decide⟩, ⟨by decide, by decide⟩⟩
  split
  · exact ct_64 (rAt_64 h 0)
  split
  · exact ct_64 (rAt_64 h 1)
  split
  · exact hd_64 _
  split
  · exact hd_64 _
  split
  · exact hd_64 _
  split
  · exact hd_64 _
  · exact r64_zero
theorem sixC {cs : List (Int × Int)} (h : cs.length = 6) : ∃ f0 g0 f1 g1 f2 g2 f3 g3 f4 g4 f5 g5 : Int, cs = [(f0, g0), (f1, g1), (f2, g2), (f3, g3), (f4, g4), (f5, g5)] := by
  match cs, h with
  | [(f0, g0), (f1, g1), (f2, g2), (f3, g3), (f4, g4), (f5, g5)], _ => exact ⟨f0, g0, f1, g1, f2, g2, f3, g3, f4, g4, f5, g5, rfl⟩
set_option maxRecDepth 100000 in
set_option maxHeartbeats 8000000 in
theorem size_any (u : Int) (cs : List (Int × Int)) (w : World) (hcs : cs.length = 6) (h : ∀ r ∈ cs, R64 r) : Calls Tryz.prog 12 #[.int .i64 u, cxV cs] w fun e w' => e = .returned (ratV (szC cs u)) ∧ Below w.heap.size w w' := by
  obtain ⟨f0, g0, f1, g1, f2, g2, f3, g3, f4, g4, f5, g5, rfl⟩ := sixC hcs
  have k := h
  have E := hide (show szC [(f0, g0), (f1, g1), (f2, g2), (f3, g3), (f4, g4), (f5, g5)] u = (if u = 1 then (1, 1) else if u = 2 then ctR (f0, g0) else if u = 3 then ctR (f1, g1) else if u = 4 then hdR (f2, g2) else if u = 5 then hdR (f3, g3) else if u = 6 then hdR (f4, g4) else if u = 7 then hdR (f5, g5) else (0, 0)) from rfl)
  have C2 := hide (fun (W : World) => cleanS_any f0 g0 W (k (f0, g0) (by simp)).1 (k (f0, g0) (by simp)).2)
  have C3 := hide (fun (W : World) => cleanS_any f1 g1 W (k (f1, g1) (by simp)).1 (k (f1, g1) (by simp)).2)
  have C4 := hide (fun (W : World) => hundredth_any f2 g2 W (k (f2, g2) (by simp)).1 (k (f2, g2) (by simp)).2)
  have C5 := hide (fun (W : World) => hundredth_any f3 g3 W (k (f3, g3) (by simp)).1 (k (f3, g3) (by simp)).2)
  have C6 := hide (fun (W : World) => hundredth_any f4 g4 W (k (f4, g4) (by simp)).1 (k (f4, g4) (by simp)).2)
  have C7 := hide (fun (W : World) => hundredth_any f5 g5 W (k (f5, g5) (by simp)).1 (k (f5, g5) (by simp)).2)
  have C1 := hide (fun (W : World) => (wk.int_any 1 W).mono (R' := fun e w' => e = .returned (ratV (1, 1)) ∧ Below W.heap.size W w') (by rintro e w1 ⟨rfl, cc, rfl⟩; exact ⟨rfl, bplus (Below.refl _ _) _⟩))
  have C8 := hide (fun (W : World) => (wk.over_up W).mono (R' := fun e w' => e = .returned (ratV (0, 0)) ∧ Below W.heap.size W w') (by rintro e w1 ⟨rfl, U⟩; exact ⟨rfl, U.1⟩))
  obtain ⟨X, hX⟩ : ∃ X, szC [(f0, g0), (f1, g1), (f2, g2), (f3, g3), (f4, g4), (f5, g5)] u = X := ⟨_, rfl⟩
  rw [hX] at E ⊢
  show Calls Tryz.prog 12 #[.int .i64 u, .agg #[.int .i64 f0, .int .i64 g0, .int .i64 f1, .int .i64 g1, .int .i64 f2, .int .i64 g2, .int .i64 f3, .int .i64 g3, .int .i64 f4, .int .i64 g4, .int .i64 f5, .int .i64 g5]] w _
  obtain ⟨W1, hW1⟩ : ∃ W1, (w.alloc (.cells #[.int .i64 f0, .int .i64 g0, .int .i64 f1, .int .i64 g1, .int .i64 f2, .int .i64 g2, .int .i64 f3, .int .i64 g3, .int .i64 f4, .int .i64 g4, .int .i64 f5, .int .i64 g5] 25)).alloc (.cells #[.int .i64 0, .int .i64 0] 23) = W1 := ⟨_, rfl⟩
  have B0 := hide (show Below w.heap.size w W1 by rw [← hW1]; exact bplus (bplus (Below.refl _ _) _) _)
  have P0 := hide (show Bk W1 w.heap.size 25 [.int .i64 f0, .int .i64 g0, .int .i64 f1, .int .i64 g1, .int .i64 f2, .int .i64 g2, .int .i64 f3, .int .i64 g3, .int .i64 f4, .int .i64 g4, .int .i64 f5, .int .i64 g5] by rw [← hW1]; exact (two_new w _ _).1)
  have KR := hide (fun (W : World) (h : Below W1.heap.size W1 W) => show Bk W (w.heap.size + 1) 23 [.int .i64 0, .int .i64 0] from Bk.up (show Bk W1 (w.heap.size + 1) 23 _ by rw [← hW1]; exact (two_new w _ _).2) h)
  have HW1 := hide hW1
  clear hW1 hX k h hcs
  have a0 := Bk.cell P0.out 0
  have a1 := Bk.cell P0.out 1
  have a2 := Bk.cell P0.out 2
  have a3 := Bk.cell P0.out 3
  have a4 := Bk.cell P0.out 4
  have a5 := Bk.cell P0.out 5
  have a6 := Bk.cell P0.out 6
  have a7 := Bk.cell P0.out 7
  have a8 := Bk.cell P0.out 8
  have a9 := Bk.cell P0.out 9
  have a10 := Bk.cell P0.out 10
  have a11 := Bk.cell P0.out 11
  simp at a0 a1 a2 a3 a4 a5 a6 a7 a8 a9 a10 a11
  have BX := hide (Below.refl W1.heap.size W1)
  generalize ctR (f0, g0) = r2 at *
  generalize ctR (f1, g1) = r3 at *
  generalize hdR (f2, g2) = r4 at *
  generalize hdR (f3, g3) = r5 at *
  generalize hdR (f4, g4) = r6 at *
  generalize hdR (f5, g5) = r7 at *
  unfold ratV at *
  by_cases u1 : u = 1
  · subst u1
    have F := hide (show X = (1, 1) by rw [E.out]; rfl)
    rw [F.out]
    clear E F
    go_enter Tryz.func12, Tryz.ntmps12
    go_upto_region 1 with fail
    rw [HW1.out]
    clear HW1
    go_wp2_with (go_at_call 36; refine (C1.out _).mono ?_; rintro e w5 ⟨rfl, B5⟩; replace BX := hide (bto BX.out B5); clear B5; have QR := KR.out _ BX.out; have t0 := Bk.cell QR 0; have t1 := Bk.cell QR 1; simp at t0 t1; have z0 := Bk.fz QR 0; have z1 := Bk.fz QR 1; clear QR)
    exact bodyPost_ret (v := .agg #[.int .i64 1, .int .i64 1]) (by simp [results, Tryz.results12, go_sem, *]) rfl ⟨rfl, ((bto B0.out BX.out).setCell (by simp) _).setCell (by simp) _⟩
  by_cases u2 : u = 2
  · subst u2
    have F := hide (show X = r2 by rw [E.out]; rfl)
    rw [F.out]
    clear E F
    go_enter Tryz.func12, Tryz.ntmps12
    go_upto_region 1 with fail
    rw [HW1.out]
    clear HW1
    go_wp2_with (go_at_call 37; refine (C2.out _).mono ?_; rintro e w5 ⟨rfl, B5⟩; replace BX := hide (bto BX.out B5); clear B5; have QR := KR.out _ BX.out; have t0 := Bk.cell QR 0; have t1 := Bk.cell QR 1; simp at t0 t1; have z0 := Bk.fz QR 0; have z1 := Bk.fz QR 1; clear QR)
    exact bodyPost_ret (v := .agg #[.int .i64 r2.1, .int .i64 r2.2]) (by simp [results, Tryz.results12, go_sem, *]) rfl ⟨rfl, ((bto B0.out BX.out).setCell (by simp) _).setCell (by simp) _⟩
  by_cases u3 : u = 3
  · subst u3
    have F := hide (show X = r3 by rw [E.out]; rfl)
    rw [F.out]
    clear E F
    go_enter Tryz.func12, Tryz.ntmps12
    go_upto_region 1 with fail
    rw [HW1.out]
    clear HW1
    go_wp2_with (go_at_call 37; refine (C3.out _).mono ?_; rintro e w5 ⟨rfl, B5⟩; replace BX := hide (bto BX.out B5); clear B5; have QR := KR.out _ BX.out; have t0 := Bk.cell QR 0; have t1 := Bk.cell QR 1; simp at t0 t1; have z0 := Bk.fz QR 0; have z1 := Bk.fz QR 1; clear QR)
    exact bodyPost_ret (v := .agg #[.int .i64 r3.1, .int .i64 r3.2]) (by simp [results, Tryz.results12, go_sem, *]) rfl ⟨rfl, ((bto B0.out BX.out).setCell (by simp) _).setCell (by simp) _⟩
  by_cases u4 : u = 4
  · subst u4
    have F := hide (show X = r4 by rw [E.out]; rfl)
    rw [F.out]
    clear E F
    go_enter Tryz.func12, Tryz.ntmps12
    go_upto_region 1 with fail
    rw [HW1.out]
    clear HW1
    go_wp2_with (go_at_call 38; refine (C4.out _).mono ?_; rintro e w5 ⟨rfl, B5⟩; replace BX := hide (bto BX.out B5); clear B5; have QR := KR.out _ BX.out; have t0 := Bk.cell QR 0; have t1 := Bk.cell QR 1; simp at t0 t1; have z0 := Bk.fz QR 0; have z1 := Bk.fz QR 1; clear QR)
    exact bodyPost_ret (v := .agg #[.int .i64 r4.1, .int .i64 r4.2]) (by simp [results, Tryz.results12, go_sem, *]) rfl ⟨rfl, ((bto B0.out BX.out).setCell (by simp) _).setCell (by simp) _⟩
  by_cases u5 : u = 5
  · subst u5
    have F := hide (show X = r5 by rw [E.out]; rfl)
    rw [F.out]
    clear E F
    go_enter Tryz.func12, Tryz.ntmps12
    go_upto_region 1 with fail
    rw [HW1.out]
    clear HW1
    go_wp2_with (go_at_call 38; refine (C5.out _).mono ?_; rintro e w5 ⟨rfl, B5⟩; replace BX := hide (bto BX.out B5); clear B5; have QR := KR.out _ BX.out; have t0 := Bk.cell QR 0; have t1 := Bk.cell QR 1; simp at t0 t1; have z0 := Bk.fz QR 0; have z1 := Bk.fz QR 1; clear QR)
    exact bodyPost_ret (v := .agg #[.int .i64 r5.1, .int .i64 r5.2]) (by simp [results, Tryz.results12, go_sem, *]) rfl ⟨rfl, ((bto B0.out BX.out).setCell (by simp) _).setCell (by simp) _⟩
  by_cases u6 : u = 6
  · subst u6
    have F := hide (show X = r6 by rw [E.out]; rfl)
    rw [F.out]
    clear E F
    go_enter Tryz.func12, Tryz.ntmps12
    go_upto_region 1 with fail
    rw [HW1.out]
    clear HW1
    go_wp2_with (go_at_call 38; refine (C6.out _).mono ?_; rintro e w5 ⟨rfl, B5⟩; replace BX := hide (bto BX.out B5); clear B5; have QR := KR.out _ BX.out; have t0 := Bk.cell QR 0; have t1 := Bk.cell QR 1; simp at t0 t1; have z0 := Bk.fz QR 0; have z1 := Bk.fz QR 1; clear QR)
    exact bodyPost_ret (v := .agg #[.int .i64 r6.1, .int .i64 r6.2]) (by simp [results, Tryz.results12, go_sem, *]) rfl ⟨rfl, ((bto B0.out BX.out).setCell (by simp) _).setCell (by simp) _⟩
  by_cases u7 : u = 7
  · subst u7
    have F := hide (show X = r7 by rw [E.out]; rfl)
    rw [F.out]
    clear E F
    go_enter Tryz.func12, Tryz.ntmps12
    go_upto_region 1 with fail
    rw [HW1.out]
    clear HW1
    go_wp2_with (go_at_call 38; refine (C7.out _).mono ?_; rintro e w5 ⟨rfl, B5⟩; replace BX := hide (bto BX.out B5); clear B5; have QR := KR.out _ BX.out; have t0 := Bk.cell QR 0; have t1 := Bk.cell QR 1; simp at t0 t1; have z0 := Bk.fz QR 0; have z1 := Bk.fz QR 1; clear QR)
    exact bodyPost_ret (v := .agg #[.int .i64 r7.1, .int .i64 r7.2]) (by simp [results, Tryz.results12, go_sem, *]) rfl ⟨rfl, ((bto B0.out BX.out).setCell (by simp) _).setCell (by simp) _⟩
  have F := hide (show X = (0, 0) by rw [E.out, if_neg u1, if_neg u2, if_neg u3, if_neg u4, if_neg u5, if_neg u6, if_neg u7])
  rw [F.out]
  clear E F
  have v1 : (u == 1) = false := by simpa using u1
  have v2 : (u == 2) = false := by simpa using u2
  have v3 : (u == 3) = false := by simpa using u3
  have v4 : (u == 4) = false := by simpa using u4
  have v5 : (u == 5) = false := by simpa using u5
  have v6 : (u == 6) = false := by simpa using u6
  have v7 : (u == 7) = false := by simpa using u7
  go_enter Tryz.func12, Tryz.ntmps12
  go_upto_region 1 with fail
  rw [HW1.out]
  clear HW1
  go_wp2_with (go_at_call 39; refine (C8.out _).mono ?_; rintro e w5 ⟨rfl, B5⟩; replace BX := hide (bto BX.out B5); clear B5; have QR := KR.out _ BX.out; have t0 := Bk.cell QR 0; have t1 := Bk.cell QR 1; simp at t0 t1; have z0 := Bk.fz QR 0; have z1 := Bk.fz QR 1; clear QR)
  exact bodyPost_ret (v := .agg #[.int .i64 0, .int .i64 0]) (by simp [results, Tryz.results12, go_sem, *]) rfl ⟨rfl, ((bto B0.out BX.out).setCell (by simp) _).setCell (by simp) _⟩
end Go.Proofs.YtdnnidnghaifgaaGreatDoor.nm
set_option linter.unusedVariables false
set_option linter.unusedSimpArgs false
namespace Go.Proofs.YtdnnidnghaifgaaGreatDoor.nm
open Go.RowKit

/-- So much of one unit. -/
def oneU (u : Int) (r : Int × Int) : List (Int × Int) := if 1 ≤ u ∧ u ≤ 7 then z01.set (u - 1).toNat (ctR r) else z01
theorem one_us (u n d : Int) (hn : i64 n) (hd : i64 d) : Us (oneU u (n, d)) := by
  unfold oneU
  split
  · refine ⟨by rw [List.length_set]; rfl, fun r hr => ?_⟩
    rcases List.mem_or_eq_of_mem_set hr with h | h
    · exact zus.2 r h
    · rw [h]; exact ct_i64 hn hd
  · exact zus
theorem us_one {us : List (Int × Int)} {u : Value} (hu : u.oneCell' = true) : ∀ v ∈ usL us ++ [u], v.oneCell' = true := by
  intro v hv
  rcases List.mem_append.1 hv with hv | hv
  · simp only [usL, List.mem_flatMap] at hv
    obtain ⟨r, -, hv⟩ := hv
    simp at hv
    rcases hv with rfl | rfl <;> rfl
  · simp at hv; subst hv; exact hu
set_option maxRecDepth 100000 in
set_option maxHeartbeats 8000000 in
theorem oneF_any (u n d : Int) (w : World) (hN : Nth w) (hu : i64 u) (hn : i64 n) (hd : i64 d) : Calls Tryz.prog 89 #[.int .i64 u, .agg #[.int .i64 n, .int .i64 d]] w fun e w' => e = .returned (foV (oneU u (n, d)) nilS) ∧ Below w.heap.size w w' := by
  have CZ := hide (fun (W : World) (h : Below w.heap.size w W) => zero_any W (hN.low h))
  rw [show foV z01 nilS = .agg #[.int .i64 0, .int .i64 1, .int .i64 0, .int .i64 1, .int .i64 0, .int .i64 1, .int .i64 0, .int .i64 1, .int .i64 0, .int .i64 1, .int .i64 0, .int .i64 1, .int .i64 0, .int .i64 1, .slice none 0 0] from rfl] at CZ
  have CC := hide (fun (W : World) => counted_any n d W hn hd)
  have US := hide (one_us u n d hn hd)
  obtain ⟨US2, hUS2⟩ : ∃ x, oneU u (n, d) = x := ⟨_, rfl⟩
  rw [hUS2] at US ⊢
  have HUS2 := hide hUS2
  clear hUS2
  obtain ⟨u1, u2⟩ := hu
  obtain ⟨W1, hW1⟩ : ∃ W1, (w.alloc (.cells #[.int .i64 n, .int .i64 d] 23)).alloc (.cells #[.int .i64 0, .int .i64 0, .int .i64 0, .int .i64 0, .int .i64 0, .int .i64 0, .int .i64 0, .int .i64 0, .int .i64 0, .int .i64 0, .int .i64 0, .int .i64 0, .int .i64 0, .int .i64 0, .slice none 0 0] 36) = W1 := ⟨_, rfl⟩
  have B0 := hide (show Below w.heap.size w W1 by rw [← hW1]; exact bplus (bplus (Below.refl _ _) _) _)
  have P0 := hide (show Bk W1 w.heap.size 23 [.int .i64 n, .int .i64 d] by rw [← hW1]; exact (two_new w _ _).1)
  have P1 := hide (show BF W1 (w.heap.size + 1) z00 nilS by rw [← hW1]; exact (two_new w _ _).2)
  have HW1 := hide hW1
  clear hW1 hN
  go_enter Tryz.func89, Tryz.ntmps89
  go_upto_region 1 with fail
  rw [HW1.out]
  clear HW1
  go_upto_region 2 with (go_at_call 60; refine (CZ.out _ B0.out).mono ?_; rintro e wz ⟨rfl, BZ⟩; replace BZ := hide BZ; clear CZ)
  have hz : w.heap.size + 1 < wz.heap.size := Nat.lt_of_lt_of_le (Bk.lt P1.out) BZ.out.size
  have B2 := hide (show Below w.heap.size w (wz.alloc (.cells #[.int .i64 0, .int .i64 1, .int .i64 0, .int .i64 1, .int .i64 0, .int .i64 1, .int .i64 0, .int .i64 1, .int .i64 0, .int .i64 1, .int .i64 0, .int .i64 1, .int .i64 0, .int .i64 1, .slice none 0 0] 36)) from bplus (bto B0.out BZ.out) _)
  have F0 := hide (show BF (wz.alloc (.cells #[.int .i64 0, .int .i64 1, .int .i64 0, .int .i64 1, .int .i64 0, .int .i64 1, .int .i64 0, .int .i64 1, .int .i64 0, .int .i64 1, .int .i64 0, .int .i64 1, .int .i64 0, .int .i64 1, .slice none 0 0] 36)) wz.heap.size z01 nilS from Bk.new wz _ _)
  have F1 := hide (show BF (wz.alloc (.cells #[.int .i64 0, .int .i64 1, .int .i64 0, .int .i64 1, .int .i64 0, .int .i64 1, .int .i64 0, .int .i64 1, .int .i64 0, .int .i64 1, .int .i64 0, .int .i64 1, .int .i64 0, .int .i64 1, .slice none 0 0] 36)) (w.heap.size + 1) z00 nilS from (Bk.up P1.out BZ.out).more _)
  have F2 := hide (show Bk (wz.alloc (.cells #[.int .i64 0, .int .i64 1, .int .i64 0, .int .i64 1, .int .i64 0, .int .i64 1, .int .i64 0, .int .i64 1, .int .i64 0, .int .i64 1, .int .i64 0, .int .i64 1, .int .i64 0, .int .i64 1, .slice none 0 0] 36)) w.heap.size 23 [.int .i64 n, .int .i64 d] from (Bk.up P0.out BZ.out).more _)
  clear P0 P1 B0 BZ
  generalize wz.alloc (.cells #[.int .i64 0, .int .i64 1, .int .i64 0, .int .i64 1, .int .i64 0, .int .i64 1, .int .i64 0, .int .i64 1, .int .i64 0, .int .i64 1, .int .i64 0, .int .i64 1, .int .i64 0, .int .i64 1, .slice none 0 0] 36) = W2 at *
  generalize wz.heap.size = fb at *
  have a0 := Bk.cell F2.out 0
  have a1 := Bk.cell F2.out 1
  simp at a0 a1
  by_cases hin : 1 ≤ u ∧ u ≤ 7
  · obtain ⟨i1, i2⟩ := hin
    obtain ⟨k, hk⟩ : ∃ k : Nat, u - 1 = (k : Int) := ⟨(u - 1).toNat, by omega⟩
    have k7 : k < 7 := by omega
    have wr1 : IntKind.i64.wrap (u - 1) = (k : Int) := by rw [← hk]; simp [IntKind.wrap, go_sem]; omega
    have k7' : (k : Int) < 7 := by omega
    have EU := hide (show US2 = z01.set k (ctR (n, d)) by rw [← HUS2.out]; unfold oneU; rw [if_pos ⟨i1, i2⟩, hk]; rfl)
    clear HUS2
    obtain ⟨ct, hct⟩ : ∃ ct, ctR (n, d) = ct := ⟨_, rfl⟩
    rw [hct] at CC EU
    clear hct hk
    have KC := hide (fun (W : World) (h : Below W2.heap.size W2 W) => And.intro (BF.at (Bk.up F0.out h : BF W fb z01 nilS) rfl (k := k) (n := 0) (d := 1) (by rcases (show k = 0 ∨ k = 1 ∨ k = 2 ∨ k = 3 ∨ k = 4 ∨ k = 5 ∨ k = 6 by omega) with rfl | rfl | rfl | rfl | rfl | rfl | rfl <;> rfl)) (Bk.fz (Bk.up F0.out h)))
    have NF := hide (fun (W : World) (h : Below W2.heap.size W2 W) => show BF ((W.setCell ⟨fb, k * 2, none⟩ (.int .i64 ct.1)).setCell ⟨fb, k * 2 + 1, none⟩ (.int .i64 ct.2)) fb US2 nilS by
      have := BF.put (Bk.up F0.out h : BF W fb z01 nilS) (k := k) k7 ct.1 ct.2
      rwa [show ((ct.1, ct.2) : Int × Int) = ct from rfl, ← EU.out] at this)
    have NR := hide (fun (W : World) (h : Below W2.heap.size W2 W) => show BF ((W.setCell ⟨fb, k * 2, none⟩ (.int .i64 ct.1)).setCell ⟨fb, k * 2 + 1, none⟩ (.int .i64 ct.2)) (w.heap.size + 1) z00 nilS from Bk.far (Bk.far (Bk.up F1.out h) (by omega) _ _) (by omega) _ _)
    have NB := hide (fun (W : World) (h : Below W2.heap.size W2 W) => show Below w.heap.size w ((W.setCell ⟨fb, k * 2, none⟩ (.int .i64 ct.1)).setCell ⟨fb, k * 2 + 1, none⟩ (.int .i64 ct.2)) from ((bto B2.out h).setCell (by simp; omega) _).setCell (by simp; omega) _)
    clear F0 F1 F2 B2
    go_upto_region 4 with (go_at_call 62; refine (CC.out _).mono ?_; rintro e wc ⟨rfl, BC⟩; replace BC := hide BC; obtain ⟨⟨v0, v1⟩, vz⟩ := KC.out wc BC.out; have vz0 := vz (k * 2); have vz1 := vz (k * 2 + 1); clear vz)
    replace NF := hide (NF.out wc BC.out)
    replace NR := hide (NR.out wc BC.out)
    replace NB := hide (NB.out wc BC.out)
    clear KC BC v0 v1 vz0 vz1 EU CC
    generalize (wc.setCell ⟨fb, k * 2, none⟩ (.int .i64 ct.1)).setCell ⟨fb, k * 2 + 1, none⟩ (.int .i64 ct.2) = W3 at *
    have q0 := hide (show W3.heap[fb]? = some (.cells (usL US2 ++ [nilS]).toArray 36) from NF.out)
    have q2 := hide (show W3.heap[w.heap.size + 1]? = some (.cells (usL z00 ++ [nilS]).toArray 36) from NR.out)
    have l3 : (usL US2 ++ [nilS]).length = 15 := by rw [List.length_append, usL_len, US.out.1]; rfl
    refine wp_region_list ?_
    refine wpList_load_mid rfl 36 (.tmp 5) rfl fb 0 rfl (usL US2 ++ [nilS]) _ (range_blk q0.out) Tryz.underlying36 rfl (by rw [l3]; kernel_rfl) ?_
    refine wpList_store_mid rfl 36 (.tmp 4) (.tmp 19) rfl (w.heap.size + 1) 0 (usL US2 ++ [nilS]).toArray rfl rfl (there_blk q2.out (by simp only [List.size_toArray, l3]; rfl)) (by rw [List.size_toArray, l3]; kernel_rfl) (all_oneCell_toArray (us_one rfl)) ?_
    go_wp2_with fail
    refine ret_cell (b := w.heap.size + 1) (cs := usL US2 ++ [nilS]) Tryz.results89 rfl (World.rangeAt_setCells_same _ _ _ _ (there_blk q2.out (by simp only [List.size_toArray, l3]; rfl))) Tryz.underlying36 rfl (by rw [l3]; kernel_rfl) rfl ?_
    exact ⟨rfl, NB.out.grown (setCells_grown _ _ _ _) NB.out.size (fun k hk => by cases hk; simp)⟩
  · obtain rfl : US2 = z01 := by rw [← HUS2.out]; unfold oneU; rw [if_neg hin]
    clear HUS2
    have q0 := hide (show W2.heap[fb]? = some (.cells (usL z01 ++ [nilS]).toArray 36) from F0.out)
    have q2 := hide (show W2.heap[w.heap.size + 1]? = some (.cells (usL z00 ++ [nilS]).toArray 36) from F1.out)
    clear CC US F0 F1 F2 a0 a1
    rcases (show u < 1 ∨ (1 ≤ u ∧ 7 < u) by omega) with hlo | ⟨hlo, hhi⟩
    all_goals
      (try have hl1 : ¬ 1 ≤ u := (by omega))
      (try have hl2 : ¬ u ≤ 7 := (by omega))
      (try have hl3 : decide (1 ≤ u) = false := (by simp; omega))
      (try have hl4 : decide (1 ≤ u) = true := (by simp; omega))
      go_upto_region 4 with fail
      refine wp_region_list ?_
      refine wpList_load_mid rfl 36 (.tmp 5) rfl fb 0 rfl (usL z01 ++ [nilS]) _ (range_blk q0.out) Tryz.underlying36 rfl (by kernel_rfl) ?_
      refine wpList_store_mid rfl 36 (.tmp 4) (.tmp 19) rfl (w.heap.size + 1) 0 (usL z01 ++ [nilS]).toArray rfl rfl (there_blk q2.out rfl) (by kernel_rfl) (all_oneCell_toArray (us_one rfl)) ?_
      go_wp2_with fail
      refine ret_cell (b := w.heap.size + 1) (cs := usL z01 ++ [nilS]) Tryz.results89 rfl (World.rangeAt_setCells_same _ _ _ _ (there_blk q2.out rfl)) Tryz.underlying36 rfl (by kernel_rfl) rfl ?_
      exact ⟨rfl, B2.out.grown (setCells_grown _ _ _ _) B2.out.size (fun k hk => by cases hk; simp)⟩
end Go.Proofs.YtdnnidnghaifgaaGreatDoor.nm
