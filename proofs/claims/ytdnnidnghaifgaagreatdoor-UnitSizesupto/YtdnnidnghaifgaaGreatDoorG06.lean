/-
  The sizes of units: by the program.
  A unit's size, and a number as it is written: by the program.
-/
import Derived.Test.YtdnnidnghaifgaaGreatDoorG03
import Derived.Test.YtdnnidnghaifgaaGreatDoorG05
import Derived.Shelf.Abstract
set_option linter.unusedVariables false
set_option linter.unusedSimpArgs false
namespace Go.Proofs.YtdnnidnghaifgaaGreatDoor.nm
open Go.RowKit be

theorem countedU_any (n d : Int) (w : World) (hn : i64 n) (hd : i64 d) : Calls Tryz.prog 64 #[.agg #[.int .i64 n, .int .i64 d]] w fun e w' => e = .returned (.agg #[.int .i64 (ctR (n, d)).1, .int .i64 (ctR (n, d)).2]) ∧ Below w.heap.size w w' := by
  obtain ⟨n1, n2⟩ := hn
  obtain ⟨d1, d2⟩ := hd
  have C := hide (fun (W : World) => may_any n d W n1 n2 d1 d2)
  obtain ⟨W1, hW1⟩ : ∃ W1, (w.alloc (.cells #[.int .i64 n, .int .i64 d] 23)).alloc (.cells #[.int .i64 0, .int .i64 0] 23) = W1 := ⟨_, rfl⟩
  have B0 := hide (show Below w.heap.size w W1 by rw [← hW1]; exact bplus (bplus (Below.refl _ _) _) _)
  have P0 := hide (show Bk W1 w.heap.size 23 [.int .i64 n, .int .i64 d] by rw [← hW1]; exact (Bk.new w _ _).more _)
  have P1 := hide (show Bk W1 (w.heap.size + 1) 23 [.int .i64 0, .int .i64 0] by rw [← hW1]; have := Bk.new (w.alloc (.cells #[.int .i64 n, .int .i64 d] 23)) 23 [.int .i64 0, .int .i64 0]; rwa [show (w.alloc (.cells #[.int .i64 n, .int .i64 d] 23)).heap.size = w.heap.size + 1 by simp] at this)
  have HW1 := hide hW1
  clear hW1
  have a0 := Bk.cell P0.out 0
  have a1 := Bk.cell P0.out 1
  simp at a0 a1
  cases hm : mayB n d
  · have HM := hide hm
    have F := hide (show ctR (n, d) = (0, 0) by unfold ctR; simp [hm])
    clear hm
    go_enter Tryz.func64, Tryz.ntmps64
    go_upto_region 1 with fail
    rw [HW1.out]
    go_wp2_with (go_at_call 94; refine (C.out _).mono ?_; rintro e w1 ⟨rfl, U1⟩; rw [HM.out]; have Q1 := Bk.up P1.out U1.1; have b0 := Bk.cell Q1 0; have b1 := Bk.cell Q1 1; have z0 := Bk.fz Q1 0; have z1 := Bk.fz Q1 1; simp at b0 b1; replace Q1 := hide Q1; have U2 := hide (bto B0.out U1.1); clear U1)
    exact bodyPost_ret (v := .agg #[.int .i64 0, .int .i64 0]) (by simp [results, Tryz.results64, go_sem, *]) rfl ⟨by rw [F.out], (U2.out.setCell (by simp) _).setCell (by simp) _⟩
  · have HM := hide hm
    have F := hide (show ctR (n, d) = (n, d) by unfold ctR; simp [hm])
    clear hm
    go_enter Tryz.func64, Tryz.ntmps64
    go_upto_region 1 with fail
    rw [HW1.out]
    go_wp2_with (go_at_call 94; refine (C.out _).mono ?_; rintro e w1 ⟨rfl, U1⟩; rw [HM.out]; have Q1 := Bk.up P1.out U1.1; have b0 := Bk.cell Q1 0; have b1 := Bk.cell Q1 1; have z0 := Bk.fz Q1 0; have z1 := Bk.fz Q1 1; simp at b0 b1; replace Q1 := hide Q1; have Q2 := Bk.up P0.out U1.1; have d0 := Bk.cell Q2 0; have d1 := Bk.cell Q2 1; simp at d0 d1; clear Q2; have U2 := hide (bto B0.out U1.1); clear U1)
    exact bodyPost_ret (v := .agg #[.int .i64 n, .int .i64 d]) (by simp [results, Tryz.results64, go_sem, *]) rfl ⟨by rw [F.out], (U2.out.setCell (by simp) _).setCell (by simp) _⟩
/-- What may not be is over when it is divided. -/
theorem div_ct {n d m e : Int} : dvR (ctR (n, d)) (m, e) = dvR (n, d) (m, e) := by
  by_cases h : mayB n d = true
  · unfold ctR; rw [if_pos h]
  · have e1 : ctR (n, d) = (0, 0) := by unfold ctR; rw [if_neg h]
    have v : wk.isV n d = false := wk.isV_of_not (show wk.mayB n d = false by rw [may_sameS]; simpa using h)
    rw [e1]
    unfold dvR
    obtain ⟨a1, a2⟩ := wk.div_no (n := n) (d := d) (m := m) (e := e) (by simp [v])
    obtain ⟨b1, b2⟩ := wk.div_no (n := 0) (d := 0) (m := m) (e := e) (by simp [show wk.isV 0 0 = false by decide])
    rw [a1, a2, b1, b2]
theorem hd_dv (n d : Int) : hdR (n, d) = dvR (n, d) (100, 1) := by unfold hdR; exact div_ct
set_option maxRecDepth 100000 in
set_option maxHeartbeats 4000000 in
theorem hundredthU_any (n d : Int) (w : World) (hn : i64 n) (hd : i64 d) : Calls Tryz.prog 65 #[.agg #[.int .i64 n, .int .i64 d]] w fun e w' => e = .returned (ratV (hdR (n, d))) ∧ Below w.heap.size w w' := by
  obtain ⟨W1, hW1⟩ : ∃ W1, (w.alloc (.cells #[.int .i64 n, .int .i64 d] 23)).alloc (.cells #[.int .i64 0, .int .i64 0] 23) = W1 := ⟨_, rfl⟩
  have B0 := hide (show Below w.heap.size w W1 by rw [← hW1]; exact bplus (bplus (Below.refl _ _) _) _)
  have KP := hide (fun (W : World) (h : Below W1.heap.size W1 W) => bxk_2g (show W.heap[w.heap.size]? = some (.cells #[.int .i64 n, .int .i64 d] 23) from Bk.up (show Bk W1 w.heap.size 23 [.int .i64 n, .int .i64 d] by rw [← hW1]; exact (two_new w _ _).1) h))
  have KR := hide (fun (W : World) (h : Below W1.heap.size W1 W) => show Bk W (w.heap.size + 1) 23 [.int .i64 0, .int .i64 0] from Bk.up (show Bk W1 (w.heap.size + 1) 23 _ by rw [← hW1]; exact (two_new w _ _).2) h)
  have HW1 := hide hW1
  have BX := hide (Below.refl W1.heap.size W1)
  have CI := hide (fun (W : World) (h : Below W1.heap.size W1 W) => (wk.of_all 100 1 W (by decide) (by decide) (by decide) (by decide)).mono (R' := fun e w' => e = .returned (.agg #[.int .i64 100, .int .i64 1]) ∧ Below W1.heap.size W1 w') (by rintro e w1 ⟨rfl, U⟩; exact ⟨rfl, bto h U.1⟩))
  have CD := hide (fun (W : World) (h : Below W1.heap.size W1 W) => (wk.divP_any n d 100 1 W hn hd ⟨by decide, by decide⟩ ⟨by decide, by decide⟩).mono (R' := fun e w' => e = .returned (ratV (hdR (n, d))) ∧ Below W1.heap.size W1 w') (by rintro e w1 ⟨rfl, U⟩; exact ⟨by rw [hd_dv]; rfl, bto h U.1⟩))
  generalize hdR (n, d) = r at *
  unfold ratV at *
  clear hW1
  obtain ⟨a0, a1⟩ := KP.out _ BX.out
  go_enter Tryz.func65, Tryz.ntmps65
  go_upto_region 1 with fail
  rw [HW1.out]
  clear HW1
  go_region_with (first
    | (go_at_call 63; refine (CI.out _ (by repeat (first | exact BX.out | exact Below.refl _ _ | (with_reducible refine Below.drew ?_) | (with_reducible refine below_drewN ?_ _) | (refine bplus ?_ _)))).mono ?_; rintro e w3 ⟨rfl, B3⟩; replace BX := hide B3; obtain ⟨c0, c1⟩ := KP.out _ BX.out)
    | (go_at_call 77; refine (CD.out _ (by repeat (first | exact BX.out | exact Below.refl _ _ | (with_reducible refine Below.drew ?_) | (with_reducible refine below_drewN ?_ _) | (refine bplus ?_ _)))).mono ?_; rintro e w5 ⟨rfl, B5⟩; replace BX := hide B5; have QR := KR.out _ BX.out; have t0 := Bk.cell QR 0; have t1 := Bk.cell QR 1; simp at t0 t1; have v0 := Bk.fz QR 0; have v1 := Bk.fz QR 1; clear QR))
  all_goals
    go_wp2_with fail
    exact bodyPost_ret (v := .agg #[.int .i64 r.1, .int .i64 r.2]) (by simp [results, Tryz.results65, go_sem, *]) rfl ⟨rfl, ((bto B0.out BX.out).setCell (by simp) _).setCell (by simp) _⟩
/-- All sizes. -/
def szL (cs : List (Int × Int)) : List (Int × Int) := [(0, 0), (1, 1), ctR (rAt cs 0), ctR (rAt cs 1), hdR (rAt cs 2), hdR (rAt cs 3), hdR (rAt cs 4), hdR (rAt cs 5)]
def szV (cs : List (Int × Int)) : Value := .agg (usL (szL cs)).toArray
theorem szL_at (cs : List (Int × Int)) {k : Nat} (h : k < 8) : (szL cs)[k]? = some (szC cs k) := by
  rcases (show k = 0 ∨ k = 1 ∨ k = 2 ∨ k = 3 ∨ k = 4 ∨ k = 5 ∨ k = 6 ∨ k = 7 by omega) with rfl | rfl | rfl | rfl | rfl | rfl | rfl | rfl <;> rfl
theorem szL_64 {cs : List (Int × Int)} (h : ∀ r ∈ cs, R64 r) : ∀ r ∈ szL cs, R64 r := by
  intro r hr
  obtain ⟨k, hk⟩ := List.mem_iff_getElem?.1 hr
  have hk8 : k < 8 := (List.getElem?_eq_some_iff.1 hk).1
  rw [szL_at cs hk8] at hk
  obtain rfl := Option.some.inj hk
  exact szC_64 h k
theorem rng2 {w : World} {b k : Nat} {T : TypeId} {cs : List Value} {x y : Value} (h : Bk w b T cs) (h0 : cs[k]? = some x) (h1 : cs[k + 1]? = some y) : w.rangeAt b k [x, y] := fun j v hv => by
  match j, hv with
  | 0, hv => obtain rfl := Option.some.inj hv; rw [Nat.add_zero, Bk.cell h]; exact h0
  | 1, hv => obtain rfl := Option.some.inj hv; rw [Bk.cell h]; exact h1
theorem run_faC0 {ρ : Operand → Value} {w : World} {o : Oper} {x : Operand} {b : Nat} (ho : o.op = .fieldAddr 25 x 0) (hx : ρ x = .pointer (some ⟨b, 0, none⟩)) : (execOp ρ o).run Tryz.prog w = .ok (.value (.pointer (some ⟨b, 0, none⟩))) w := by
  unfold execOp
  rw [ho]
  simp [go_sem, hx]
theorem run_faC1 {ρ : Operand → Value} {w : World} {o : Oper} {x : Operand} {b : Nat} (ho : o.op = .fieldAddr 25 x 1) (hx : ρ x = .pointer (some ⟨b, 0, none⟩)) : (execOp ρ o).run Tryz.prog w = .ok (.value (.pointer (some ⟨b, 2, none⟩))) w := by
  unfold execOp
  rw [ho]
  simp [go_sem, hx]
theorem run_faC2 {ρ : Operand → Value} {w : World} {o : Oper} {x : Operand} {b : Nat} (ho : o.op = .fieldAddr 25 x 2) (hx : ρ x = .pointer (some ⟨b, 0, none⟩)) : (execOp ρ o).run Tryz.prog w = .ok (.value (.pointer (some ⟨b, 4, none⟩))) w := by
  unfold execOp
  rw [ho]
  simp [go_sem, hx]
theorem run_faC3 {ρ : Operand → Value} {w : World} {o : Oper} {x : Operand} {b : Nat} (ho : o.op = .fieldAddr 25 x 3) (hx : ρ x = .pointer (some ⟨b, 0, none⟩)) : (execOp ρ o).run Tryz.prog w = .ok (.value (.pointer (some ⟨b, 6, none⟩))) w := by
  unfold execOp
  rw [ho]
  simp [go_sem, hx]
theorem run_faC4 {ρ : Operand → Value} {w : World} {o : Oper} {x : Operand} {b : Nat} (ho : o.op = .fieldAddr 25 x 4) (hx : ρ x = .pointer (some ⟨b, 0, none⟩)) : (execOp ρ o).run Tryz.prog w = .ok (.value (.pointer (some ⟨b, 8, none⟩))) w := by
  unfold execOp
  rw [ho]
  simp [go_sem, hx]
theorem run_faC5 {ρ : Operand → Value} {w : World} {o : Oper} {x : Operand} {b : Nat} (ho : o.op = .fieldAddr 25 x 5) (hx : ρ x = .pointer (some ⟨b, 0, none⟩)) : (execOp ρ o).run Tryz.prog w = .ok (.value (.pointer (some ⟨b, 10, none⟩))) w := by
  unfold execOp
  rw [ho]
  simp [go_sem, hx]
theorem run_bdS {ρ : Operand → Value} {w : World} {o : Oper} {x1 x2 x3 x4 x5 x6 x7 : Operand} {p1 q1 p2 q2 p3 q3 p4 q4 p5 q5 p6 q6 p7 q7 : Int} (ho : o.op = .build 63 #[(1, x1), (2, x2), (3, x3), (4, x4), (5, x5), (6, x6), (7, x7)]) (h1 : ρ x1 = .agg #[.int .i64 p1, .int .i64 q1]) (h2 : ρ x2 = .agg #[.int .i64 p2, .int .i64 q2]) (h3 : ρ x3 = .agg #[.int .i64 p3, .int .i64 q3]) (h4 : ρ x4 = .agg #[.int .i64 p4, .int .i64 q4]) (h5 : ρ x5 = .agg #[.int .i64 p5, .int .i64 q5]) (h6 : ρ x6 = .agg #[.int .i64 p6, .int .i64 q6]) (h7 : ρ x7 = .agg #[.int .i64 p7, .int .i64 q7]) : (execOp ρ o).run Tryz.prog w = .ok (.value (.agg #[.int .i64 0, .int .i64 0, .int .i64 p1, .int .i64 q1, .int .i64 p2, .int .i64 q2, .int .i64 p3, .int .i64 q3, .int .i64 p4, .int .i64 q4, .int .i64 p5, .int .i64 q5, .int .i64 p6, .int .i64 q6, .int .i64 p7, .int .i64 q7])) w := by
  have h := run_build w 63 #[((1 : Nat), Value.agg #[.int .i64 p1, .int .i64 q1]), ((2 : Nat), Value.agg #[.int .i64 p2, .int .i64 q2]), ((3 : Nat), Value.agg #[.int .i64 p3, .int .i64 q3]), ((4 : Nat), Value.agg #[.int .i64 p4, .int .i64 q4]), ((5 : Nat), Value.agg #[.int .i64 p5, .int .i64 q5]), ((6 : Nat), Value.agg #[.int .i64 p6, .int .i64 q6]), ((7 : Nat), Value.agg #[.int .i64 p7, .int .i64 q7])] #[.int .i64 0, .int .i64 0, .int .i64 p1, .int .i64 q1, .int .i64 p2, .int .i64 q2, .int .i64 p3, .int .i64 q3, .int .i64 p4, .int .i64 q4, .int .i64 p5, .int .i64 q5, .int .i64 p6, .int .i64 q6, .int .i64 p7, .int .i64 q7] (P := Tryz.prog) (by kernel_rfl)
  unfold execOp
  rw [ho]
  simp [go_sem, h1, h2, h3, h4, h5, h6, h7, h]
def kdZ (B : Nat) (f0 g0 f1 g1 f2 g2 f3 g3 f4 g4 f5 g5 : Int) (s2 s3 s4 s5 s6 s7 : Int × Int) : Nat → Kd
  | 0 => .val (.agg #[.int .i64 1, .int .i64 1])
  | 1 => .val (.pointer (some ⟨B, 0, none⟩))
  | 2 => .val (.agg #[.int .i64 f0, .int .i64 g0])
  | 3 => .val (.agg #[.int .i64 s2.1, .int .i64 s2.2])
  | 4 => .val (.pointer (some ⟨B, 2, none⟩))
  | 5 => .val (.agg #[.int .i64 f1, .int .i64 g1])
  | 6 => .val (.agg #[.int .i64 s3.1, .int .i64 s3.2])
  | 7 => .val (.pointer (some ⟨B, 4, none⟩))
  | 8 => .val (.agg #[.int .i64 f2, .int .i64 g2])
  | 9 => .val (.agg #[.int .i64 s4.1, .int .i64 s4.2])
  | 10 => .val (.pointer (some ⟨B, 6, none⟩))
  | 11 => .val (.agg #[.int .i64 f3, .int .i64 g3])
  | 12 => .val (.agg #[.int .i64 s5.1, .int .i64 s5.2])
  | 13 => .val (.pointer (some ⟨B, 8, none⟩))
  | 14 => .val (.agg #[.int .i64 f4, .int .i64 g4])
  | 15 => .val (.agg #[.int .i64 s6.1, .int .i64 s6.2])
  | 16 => .val (.pointer (some ⟨B, 10, none⟩))
  | 17 => .val (.agg #[.int .i64 f5, .int .i64 g5])
  | 18 => .val (.agg #[.int .i64 s7.1, .int .i64 s7.2])
  | 19 => .val (.agg #[.int .i64 0, .int .i64 0, .int .i64 1, .int .i64 1, .int .i64 s2.1, .int .i64 s2.2, .int .i64 s3.1, .int .i64 s3.2, .int .i64 s4.1, .int .i64 s4.2, .int .i64 s5.1, .int .i64 s5.2, .int .i64 s6.1, .int .i64 s6.2, .int .i64 s7.1, .int .i64 s7.2])
  | _ => .val undef
set_option maxRecDepth 100000 in
set_option maxHeartbeats 8000000 in
theorem sizesOf_any (cs : List (Int × Int)) (w : World) (hcs : cs.length = 6) (h : ∀ r ∈ cs, R64 r) : Calls Tryz.prog 35 #[cxV cs] w fun e w' => e = .returned (szV cs) ∧ Below w.heap.size w w' := by
  obtain ⟨f0, g0, f1, g1, f2, g2, f3, g3, f4, g4, f5, g5, rfl⟩ := sixC hcs
  have k := h
  obtain ⟨W1, hW1⟩ : ∃ W1, (w.alloc (.cells #[.int .i64 f0, .int .i64 g0, .int .i64 f1, .int .i64 g1, .int .i64 f2, .int .i64 g2, .int .i64 f3, .int .i64 g3, .int .i64 f4, .int .i64 g4, .int .i64 f5, .int .i64 g5] 25)).alloc (.cells #[.int .i64 0, .int .i64 0, .int .i64 0, .int .i64 0, .int .i64 0, .int .i64 0, .int .i64 0, .int .i64 0, .int .i64 0, .int .i64 0, .int .i64 0, .int .i64 0, .int .i64 0, .int .i64 0, .int .i64 0, .int .i64 0] 63) = W1 := ⟨_, rfl⟩
  have B0 := hide (show Below w.heap.size w W1 by rw [← hW1]; exact bplus (bplus (Below.refl _ _) _) _)
  have P0 := hide (show Bk W1 w.heap.size 25 [.int .i64 f0, .int .i64 g0, .int .i64 f1, .int .i64 g1, .int .i64 f2, .int .i64 g2, .int .i64 f3, .int .i64 g3, .int .i64 f4, .int .i64 g4, .int .i64 f5, .int .i64 g5] by rw [← hW1]; exact (two_new w _ _).1)
  have KR := hide (fun (W : World) (h : Below W1.heap.size W1 W) => show Bk W (w.heap.size + 1) 63 [.int .i64 0, .int .i64 0, .int .i64 0, .int .i64 0, .int .i64 0, .int .i64 0, .int .i64 0, .int .i64 0, .int .i64 0, .int .i64 0, .int .i64 0, .int .i64 0, .int .i64 0, .int .i64 0, .int .i64 0, .int .i64 0] from Bk.up (show Bk W1 (w.heap.size + 1) 63 _ by rw [← hW1]; exact (two_new w _ _).2) h)
  have HW1 := hide hW1
  clear hW1
  have RX := hide (fun (W : World) (h : Below W1.heap.size W1 W) => show W.rangeAt w.heap.size 0 [.int .i64 f0, .int .i64 g0] ∧ W.rangeAt w.heap.size 2 [.int .i64 f1, .int .i64 g1] ∧ W.rangeAt w.heap.size 4 [.int .i64 f2, .int .i64 g2] ∧ W.rangeAt w.heap.size 6 [.int .i64 f3, .int .i64 g3] ∧ W.rangeAt w.heap.size 8 [.int .i64 f4, .int .i64 g4] ∧ W.rangeAt w.heap.size 10 [.int .i64 f5, .int .i64 g5] from ⟨rng2 (Bk.up P0.out h) rfl rfl, rng2 (Bk.up P0.out h) rfl rfl, rng2 (Bk.up P0.out h) rfl rfl, rng2 (Bk.up P0.out h) rfl rfl, rng2 (Bk.up P0.out h) rfl rfl, rng2 (Bk.up P0.out h) rfl rfl⟩)
  have C1 := hide (fun (W : World) (h : Below W1.heap.size W1 W) => wk.of_all 1 1 W (by decide) (by decide) (by decide) (by decide))
  replace C1 := hide (fun (W : World) (h : Below W1.heap.size W1 W) => (C1.out W h).mono (R' := fun e w' => e = .returned (.agg #[.int .i64 1, .int .i64 1]) ∧ Below W.heap.size W w') (by rintro e w1 ⟨rfl, U⟩; exact ⟨rfl, U.1⟩))
  have C2 := hide (fun (W : World) (h : Below W1.heap.size W1 W) => countedU_any f0 g0 W (k (f0, g0) (by simp)).1 (k (f0, g0) (by simp)).2)
  have C3 := hide (fun (W : World) (h : Below W1.heap.size W1 W) => countedU_any f1 g1 W (k (f1, g1) (by simp)).1 (k (f1, g1) (by simp)).2)
  have C4 := hide (fun (W : World) (h : Below W1.heap.size W1 W) => hundredthU_any f2 g2 W (k (f2, g2) (by simp)).1 (k (f2, g2) (by simp)).2)
  have C5 := hide (fun (W : World) (h : Below W1.heap.size W1 W) => hundredthU_any f3 g3 W (k (f3, g3) (by simp)).1 (k (f3, g3) (by simp)).2)
  have C6 := hide (fun (W : World) (h : Below W1.heap.size W1 W) => hundredthU_any f4 g4 W (k (f4, g4) (by simp)).1 (k (f4, g4) (by simp)).2)
  have C7 := hide (fun (W : World) (h : Below W1.heap.size W1 W) => hundredthU_any f5 g5 W (k (f5, g5) (by simp)).1 (k (f5, g5) (by simp)).2)
  have EV := hide (show szV [(f0, g0), (f1, g1), (f2, g2), (f3, g3), (f4, g4), (f5, g5)] = .agg #[.int .i64 0, .int .i64 0, .int .i64 1, .int .i64 1, .int .i64 (ctR (f0, g0)).1, .int .i64 (ctR (f0, g0)).2, .int .i64 (ctR (f1, g1)).1, .int .i64 (ctR (f1, g1)).2, .int .i64 (hdR (f2, g2)).1, .int .i64 (hdR (f2, g2)).2, .int .i64 (hdR (f3, g3)).1, .int .i64 (hdR (f3, g3)).2, .int .i64 (hdR (f4, g4)).1, .int .i64 (hdR (f4, g4)).2, .int .i64 (hdR (f5, g5)).1, .int .i64 (hdR (f5, g5)).2] from rfl)
  rw [EV.out]
  clear EV k h hcs
  generalize ctR (f0, g0) = s2 at *
  generalize ctR (f1, g1) = s3 at *
  generalize hdR (f2, g2) = s4 at *
  generalize hdR (f3, g3) = s5 at *
  generalize hdR (f4, g4) = s6 at *
  generalize hdR (f5, g5) = s7 at *
  unfold ratV at *
  show Calls Tryz.prog 35 #[.agg #[.int .i64 f0, .int .i64 g0, .int .i64 f1, .int .i64 g1, .int .i64 f2, .int .i64 g2, .int .i64 f3, .int .i64 g3, .int .i64 f4, .int .i64 g4, .int .i64 f5, .int .i64 g5]] w _
  go_enter Tryz.func35, Tryz.ntmps35
  go_upto_region 1 with fail
  rw [HW1.out]
  clear HW1 P0
  refine wp_region_tl1 (by kernel_rfl) (kdZ w.heap.size f0 g0 f1 g1 f2 g2 f3 g3 f4 g4 f5 g5 s2 s3 s4 s5 s6 s7) 20 rfl (Stat.of (by kernel_rfl)) (acy_of (by kernel_rfl)) (by kernel_rfl) ?_ ?_
  · as_aux_lemma =>
    intro Q' i o hi ho blk listed a wx I hd
    rcases (show i = 0 ∨ i = 1 ∨ i = 2 ∨ i = 3 ∨ i = 4 ∨ i = 5 ∨ i = 6 ∨ i = 7 ∨ i = 8 ∨ i = 9 ∨ i = 10 ∨ i = 11 ∨ i = 12 ∨ i = 13 ∨ i = 14 ∨ i = 15 ∨ i = 16 ∨ i = 17 ∨ i = 18 ∨ i = 19 by omega) with rfl | rfl | rfl | rfl | rfl | rfl | rfl | rfl | rfl | rfl | rfl | rfl | rfl | rfl | rfl | rfl | rfl | rfl | rfl | rfl
    · obtain rfl := Option.some.inj ho
      refine wpOp_callW rfl (wn rfl) (run_cl2 rfl rfl (fun v u => enters_of Tryz.func63 (by kernel_rfl) rfl #[v, u] wx)) ?_
      refine (show Calls Tryz.prog 63 #[.int .i64 1, .int .i64 1] wx _ from ?_)
      exact (C1.out wx I.up).mono (by rintro e w' ⟨rfl, hu⟩; exact ⟨_, rfl, (show _ ∧ _ from ⟨rfl, hu⟩)⟩)
    · obtain rfl := Option.some.inj ho
      exact wpOp_valW rfl (wn rfl) (run_faC0 rfl (show a.tmps.getD 1 undef = _ from (I.oth_at (by kernel_rfl)).trans rfl)) (show _ ∧ _ from ⟨rfl, be.Up.refl _⟩)
    · obtain rfl := Option.some.inj ho
      exact wpOp_valW rfl (wn rfl) (run_ldO (cs := [.int .i64 f0, .int .i64 g0]) rfl (I.val_at (i := 1) (by decide) (hd ⟨1, .data⟩ (by simp) rfl) (.inl rfl) rfl) (RX.out wx I.up).1 Tryz.underlying23 rfl (by kernel_rfl)) (show _ ∧ _ from ⟨rfl, be.Up.refl _⟩)
    · obtain rfl := Option.some.inj ho
      have v0 := (I.val_at (i := 2) (by decide) (hd ⟨2, .data⟩ (by simp) rfl) (.inl rfl) rfl)
      refine wpOp_callW rfl (wn rfl) (run_cl1 rfl rfl (fun v => enters_of Tryz.func64 (by kernel_rfl) rfl #[v] wx)) ?_
      refine (show Calls Tryz.prog 64 #[a.tmps.getD _ undef] wx _ from ?_)
      rw [v0]
      exact (C2.out wx I.up).mono (by rintro e w' ⟨rfl, hu⟩; exact ⟨_, rfl, (show _ ∧ _ from ⟨rfl, hu⟩)⟩)
    · obtain rfl := Option.some.inj ho
      exact wpOp_valW rfl (wn rfl) (run_faC1 rfl (show a.tmps.getD 1 undef = _ from (I.oth_at (by kernel_rfl)).trans rfl)) (show _ ∧ _ from ⟨rfl, be.Up.refl _⟩)
    · obtain rfl := Option.some.inj ho
      exact wpOp_valW rfl (wn rfl) (run_ldO (cs := [.int .i64 f1, .int .i64 g1]) rfl (I.val_at (i := 4) (by decide) (hd ⟨4, .data⟩ (by simp) rfl) (.inl rfl) rfl) (RX.out wx I.up).2.1 Tryz.underlying23 rfl (by kernel_rfl)) (show _ ∧ _ from ⟨rfl, be.Up.refl _⟩)
    · obtain rfl := Option.some.inj ho
      have v0 := (I.val_at (i := 5) (by decide) (hd ⟨5, .data⟩ (by simp) rfl) (.inl rfl) rfl)
      refine wpOp_callW rfl (wn rfl) (run_cl1 rfl rfl (fun v => enters_of Tryz.func64 (by kernel_rfl) rfl #[v] wx)) ?_
      refine (show Calls Tryz.prog 64 #[a.tmps.getD _ undef] wx _ from ?_)
      rw [v0]
      exact (C3.out wx I.up).mono (by rintro e w' ⟨rfl, hu⟩; exact ⟨_, rfl, (show _ ∧ _ from ⟨rfl, hu⟩)⟩)
    · obtain rfl := Option.some.inj ho
      exact wpOp_valW rfl (wn rfl) (run_faC2 rfl (show a.tmps.getD 1 undef = _ from (I.oth_at (by kernel_rfl)).trans rfl)) (show _ ∧ _ from ⟨rfl, be.Up.refl _⟩)
    · obtain rfl := Option.some.inj ho
      exact wpOp_valW rfl (wn rfl) (run_ldO (cs := [.int .i64 f2, .int .i64 g2]) rfl (I.val_at (i := 7) (by decide) (hd ⟨7, .data⟩ (by simp) rfl) (.inl rfl) rfl) (RX.out wx I.up).2.2.1 Tryz.underlying23 rfl (by kernel_rfl)) (show _ ∧ _ from ⟨rfl, be.Up.refl _⟩)
    · obtain rfl := Option.some.inj ho
      have v0 := (I.val_at (i := 8) (by decide) (hd ⟨8, .data⟩ (by simp) rfl) (.inl rfl) rfl)
      refine wpOp_callW rfl (wn rfl) (run_cl1 rfl rfl (fun v => enters_of Tryz.func65 (by kernel_rfl) rfl #[v] wx)) ?_
      refine (show Calls Tryz.prog 65 #[a.tmps.getD _ undef] wx _ from ?_)
      rw [v0]
      exact (C4.out wx I.up).mono (by rintro e w' ⟨rfl, hu⟩; exact ⟨_, rfl, (show _ ∧ _ from ⟨rfl, hu⟩)⟩)
    · obtain rfl := Option.some.inj ho
      exact wpOp_valW rfl (wn rfl) (run_faC3 rfl (show a.tmps.getD 1 undef = _ from (I.oth_at (by kernel_rfl)).trans rfl)) (show _ ∧ _ from ⟨rfl, be.Up.refl _⟩)
    · obtain rfl := Option.some.inj ho
      exact wpOp_valW rfl (wn rfl) (run_ldO (cs := [.int .i64 f3, .int .i64 g3]) rfl (I.val_at (i := 10) (by decide) (hd ⟨10, .data⟩ (by simp) rfl) (.inl rfl) rfl) (RX.out wx I.up).2.2.2.1 Tryz.underlying23 rfl (by kernel_rfl)) (show _ ∧ _ from ⟨rfl, be.Up.refl _⟩)
    · obtain rfl := Option.some.inj ho
      have v0 := (I.val_at (i := 11) (by decide) (hd ⟨11, .data⟩ (by simp) rfl) (.inl rfl) rfl)
      refine wpOp_callW rfl (wn rfl) (run_cl1 rfl rfl (fun v => enters_of Tryz.func65 (by kernel_rfl) rfl #[v] wx)) ?_
      refine (show Calls Tryz.prog 65 #[a.tmps.getD _ undef] wx _ from ?_)
      rw [v0]
      exact (C5.out wx I.up).mono (by rintro e w' ⟨rfl, hu⟩; exact ⟨_, rfl, (show _ ∧ _ from ⟨rfl, hu⟩)⟩)
    · obtain rfl := Option.some.inj ho
      exact wpOp_valW rfl (wn rfl) (run_faC4 rfl (show a.tmps.getD 1 undef = _ from (I.oth_at (by kernel_rfl)).trans rfl)) (show _ ∧ _ from ⟨rfl, be.Up.refl _⟩)
    · obtain rfl := Option.some.inj ho
      exact wpOp_valW rfl (wn rfl) (run_ldO (cs := [.int .i64 f4, .int .i64 g4]) rfl (I.val_at (i := 13) (by decide) (hd ⟨13, .data⟩ (by simp) rfl) (.inl rfl) rfl) (RX.out wx I.up).2.2.2.2.1 Tryz.underlying23 rfl (by kernel_rfl)) (show _ ∧ _ from ⟨rfl, be.Up.refl _⟩)
    · obtain rfl := Option.some.inj ho
      have v0 := (I.val_at (i := 14) (by decide) (hd ⟨14, .data⟩ (by simp) rfl) (.inl rfl) rfl)
      refine wpOp_callW rfl (wn rfl) (run_cl1 rfl rfl (fun v => enters_of Tryz.func65 (by kernel_rfl) rfl #[v] wx)) ?_
      refine (show Calls Tryz.prog 65 #[a.tmps.getD _ undef] wx _ from ?_)
      rw [v0]
      exact (C6.out wx I.up).mono (by rintro e w' ⟨rfl, hu⟩; exact ⟨_, rfl, (show _ ∧ _ from ⟨rfl, hu⟩)⟩)
    · obtain rfl := Option.some.inj ho
      exact wpOp_valW rfl (wn rfl) (run_faC5 rfl (show a.tmps.getD 1 undef = _ from (I.oth_at (by kernel_rfl)).trans rfl)) (show _ ∧ _ from ⟨rfl, be.Up.refl _⟩)
    · obtain rfl := Option.some.inj ho
      exact wpOp_valW rfl (wn rfl) (run_ldO (cs := [.int .i64 f5, .int .i64 g5]) rfl (I.val_at (i := 16) (by decide) (hd ⟨16, .data⟩ (by simp) rfl) (.inl rfl) rfl) (RX.out wx I.up).2.2.2.2.2 Tryz.underlying23 rfl (by kernel_rfl)) (show _ ∧ _ from ⟨rfl, be.Up.refl _⟩)
    · obtain rfl := Option.some.inj ho
      have v0 := (I.val_at (i := 17) (by decide) (hd ⟨17, .data⟩ (by simp) rfl) (.inl rfl) rfl)
      refine wpOp_callW rfl (wn rfl) (run_cl1 rfl rfl (fun v => enters_of Tryz.func65 (by kernel_rfl) rfl #[v] wx)) ?_
      refine (show Calls Tryz.prog 65 #[a.tmps.getD _ undef] wx _ from ?_)
      rw [v0]
      exact (C7.out wx I.up).mono (by rintro e w' ⟨rfl, hu⟩; exact ⟨_, rfl, (show _ ∧ _ from ⟨rfl, hu⟩)⟩)
    · obtain rfl := Option.some.inj ho
      exact wpOp_valW rfl (wn rfl) (run_bdS rfl (I.val_at (i := 0) (by decide) (hd ⟨0, .data⟩ (by simp) rfl) (.inl rfl) rfl) (I.val_at (i := 3) (by decide) (hd ⟨3, .data⟩ (by simp) rfl) (.inl rfl) rfl) (I.val_at (i := 6) (by decide) (hd ⟨6, .data⟩ (by simp) rfl) (.inl rfl) rfl) (I.val_at (i := 9) (by decide) (hd ⟨9, .data⟩ (by simp) rfl) (.inl rfl) rfl) (I.val_at (i := 12) (by decide) (hd ⟨12, .data⟩ (by simp) rfl) (.inl rfl) rfl) (I.val_at (i := 15) (by decide) (hd ⟨15, .data⟩ (by simp) rfl) (.inl rfl) rfl) (I.val_at (i := 18) (by decide) (hd ⟨18, .data⟩ (by simp) rfl) (.inl rfl) rfl)) (show _ ∧ _ from ⟨rfl, be.Up.refl _⟩)
  · intro blk listed a' wx I hall
    have fr := I.frameL [(3, (.agg #[.int .i64 1, .int .i64 1])), (4, (.pointer (some ⟨w.heap.size, 0, none⟩))), (5, (.agg #[.int .i64 f0, .int .i64 g0])), (6, (.agg #[.int .i64 s2.1, .int .i64 s2.2])), (7, (.pointer (some ⟨w.heap.size, 2, none⟩))), (8, (.agg #[.int .i64 f1, .int .i64 g1])), (9, (.agg #[.int .i64 s3.1, .int .i64 s3.2])), (10, (.pointer (some ⟨w.heap.size, 4, none⟩))), (11, (.agg #[.int .i64 f2, .int .i64 g2])), (12, (.agg #[.int .i64 s4.1, .int .i64 s4.2])), (13, (.pointer (some ⟨w.heap.size, 6, none⟩))), (14, (.agg #[.int .i64 f3, .int .i64 g3])), (15, (.agg #[.int .i64 s5.1, .int .i64 s5.2])), (16, (.pointer (some ⟨w.heap.size, 8, none⟩))), (17, (.agg #[.int .i64 f4, .int .i64 g4])), (18, (.agg #[.int .i64 s6.1, .int .i64 s6.2])), (19, (.pointer (some ⟨w.heap.size, 10, none⟩))), (20, (.agg #[.int .i64 f5, .int .i64 g5])), (21, (.agg #[.int .i64 s7.1, .int .i64 s7.2])), (22, (.agg #[.int .i64 0, .int .i64 0, .int .i64 1, .int .i64 1, .int .i64 s2.1, .int .i64 s2.2, .int .i64 s3.1, .int .i64 s3.2, .int .i64 s4.1, .int .i64 s4.2, .int .i64 s5.1, .int .i64 s5.2, .int .i64 s6.1, .int .i64 s6.2, .int .i64 s7.1, .int .i64 s7.2]))] (by
      intro p hp
      simp only [List.mem_cons, List.not_mem_nil, or_false] at hp
      rcases hp with rfl | rfl | rfl | rfl | rfl | rfl | rfl | rfl | rfl | rfl | rfl | rfl | rfl | rfl | rfl | rfl | rfl | rfl | rfl | rfl
      · exact ⟨by simp, I.val_at (i := 0) (by decide) (hall _ (by decide)) (.inl rfl) rfl⟩
      · exact ⟨by simp, I.val_at (i := 1) (by decide) (hall _ (by decide)) (.inl rfl) rfl⟩
      · exact ⟨by simp, I.val_at (i := 2) (by decide) (hall _ (by decide)) (.inl rfl) rfl⟩
      · exact ⟨by simp, I.val_at (i := 3) (by decide) (hall _ (by decide)) (.inl rfl) rfl⟩
      · exact ⟨by simp, I.val_at (i := 4) (by decide) (hall _ (by decide)) (.inl rfl) rfl⟩
      · exact ⟨by simp, I.val_at (i := 5) (by decide) (hall _ (by decide)) (.inl rfl) rfl⟩
      · exact ⟨by simp, I.val_at (i := 6) (by decide) (hall _ (by decide)) (.inl rfl) rfl⟩
      · exact ⟨by simp, I.val_at (i := 7) (by decide) (hall _ (by decide)) (.inl rfl) rfl⟩
      · exact ⟨by simp, I.val_at (i := 8) (by decide) (hall _ (by decide)) (.inl rfl) rfl⟩
      · exact ⟨by simp, I.val_at (i := 9) (by decide) (hall _ (by decide)) (.inl rfl) rfl⟩
      · exact ⟨by simp, I.val_at (i := 10) (by decide) (hall _ (by decide)) (.inl rfl) rfl⟩
      · exact ⟨by simp, I.val_at (i := 11) (by decide) (hall _ (by decide)) (.inl rfl) rfl⟩
      · exact ⟨by simp, I.val_at (i := 12) (by decide) (hall _ (by decide)) (.inl rfl) rfl⟩
      · exact ⟨by simp, I.val_at (i := 13) (by decide) (hall _ (by decide)) (.inl rfl) rfl⟩
      · exact ⟨by simp, I.val_at (i := 14) (by decide) (hall _ (by decide)) (.inl rfl) rfl⟩
      · exact ⟨by simp, I.val_at (i := 15) (by decide) (hall _ (by decide)) (.inl rfl) rfl⟩
      · exact ⟨by simp, I.val_at (i := 16) (by decide) (hall _ (by decide)) (.inl rfl) rfl⟩
      · exact ⟨by simp, I.val_at (i := 17) (by decide) (hall _ (by decide)) (.inl rfl) rfl⟩
      · exact ⟨by simp, I.val_at (i := 18) (by decide) (hall _ (by decide)) (.inl rfl) rfl⟩
      · exact ⟨by simp, I.val_at (i := 19) (by decide) (hall _ (by decide)) (.inl rfl) rfl⟩) (by kernel_rfl)
    have BX := hide (show Below W1.heap.size W1 wx from I.up)
    clear I hall
    subst fr
    dsimp only [setsL, List.set_cons_zero, List.set_cons_succ]
    have QR := KR.out wx BX.out
    refine wpOp_stM (b := w.heap.size + 1) (off := 0) (cells := #[.int .i64 0, .int .i64 0, .int .i64 1, .int .i64 1, .int .i64 s2.1, .int .i64 s2.2, .int .i64 s3.1, .int .i64 s3.2, .int .i64 s4.1, .int .i64 s4.2, .int .i64 s5.1, .int .i64 s5.2, .int .i64 s6.1, .int .i64 s6.2, .int .i64 s7.1, .int .i64 s7.2]) rfl rfl rfl rfl rfl (there_blk QR rfl) (by kernel_rfl) (by simp [Value.oneCell']) ?_
    have BW := hide (show Below w.heap.size w (wx.setCells (w.heap.size + 1) 0 [.int .i64 0, .int .i64 0, .int .i64 1, .int .i64 1, .int .i64 s2.1, .int .i64 s2.2, .int .i64 s3.1, .int .i64 s3.2, .int .i64 s4.1, .int .i64 s4.2, .int .i64 s5.1, .int .i64 s5.2, .int .i64 s6.1, .int .i64 s6.2, .int .i64 s7.1, .int .i64 s7.2]) from (bto B0.out BX.out).grown (setCells_grown _ _ _ _) (bto B0.out BX.out).size (fun k hk => by cases hk; omega))
    have RA := World.rangeAt_setCells_same wx (w.heap.size + 1) 0 [.int .i64 0, .int .i64 0, .int .i64 1, .int .i64 1, .int .i64 s2.1, .int .i64 s2.2, .int .i64 s3.1, .int .i64 s3.2, .int .i64 s4.1, .int .i64 s4.2, .int .i64 s5.1, .int .i64 s5.2, .int .i64 s6.1, .int .i64 s6.2, .int .i64 s7.1, .int .i64 s7.2] (there_blk QR rfl)
    go_wp2_with fail
    refine ret_cell (b := w.heap.size + 1) (cs := [.int .i64 0, .int .i64 0, .int .i64 1, .int .i64 1, .int .i64 s2.1, .int .i64 s2.2, .int .i64 s3.1, .int .i64 s3.2, .int .i64 s4.1, .int .i64 s4.2, .int .i64 s5.1, .int .i64 s5.2, .int .i64 s6.1, .int .i64 s6.2, .int .i64 s7.1, .int .i64 s7.2]) Tryz.results35 rfl RA Tryz.underlying63 rfl (by kernel_rfl) rfl ?_
    exact ⟨rfl, BW.out⟩
end Go.Proofs.YtdnnidnghaifgaaGreatDoor.nm
set_option linter.unusedVariables false
set_option linter.unusedSimpArgs false
namespace Go.Proofs.YtdnnidnghaifgaaGreatDoor.nm
open Go.RowKit cc

theorem szL_len (cs : List (Int × Int)) : (szL cs).length = 8 := rfl
theorem usL_cell (us : List (Int × Int)) : ∀ v ∈ usL us, v.oneCell' = true := by
  intro v hv
  simp only [usL, List.mem_flatMap] at hv
  obtain ⟨r, _, hv⟩ := hv
  simp at hv
  rcases hv with rfl | rfl <;> rfl
theorem eight {l : List (Int × Int)} (h : l.length = 8) : ∃ n0 d0 n1 d1 n2 d2 n3 d3 n4 d4 n5 d5 n6 d6 n7 d7 : Int, l = [(n0, d0), (n1, d1), (n2, d2), (n3, d3), (n4, d4), (n5, d5), (n6, d6), (n7, d7)] := by
  match l, h with
  | [(n0, d0), (n1, d1), (n2, d2), (n3, d3), (n4, d4), (n5, d5), (n6, d6), (n7, d7)], _ => exact ⟨n0, d0, n1, d1, n2, d2, n3, d3, n4, d4, n5, d5, n6, d6, n7, d7, rfl⟩
/-- One of eight fractions. -/
theorem ix8 {l : List (Int × Int)} (h : l.length = 8) {k : Nat} {r : Int × Int} (hr : l[k]? = some r) (W : World) : (Instr.index 63 (.agg (usL l).toArray) (.int .i64 k)).run Tryz.prog W = .ok (.agg #[.int .i64 r.1, .int .i64 r.2]) W := by
  obtain ⟨n0, d0, n1, d1, n2, d2, n3, d3, n4, d4, n5, d5, n6, d6, n7, d7, rfl⟩ := eight h
  obtain ⟨rn, rd⟩ := r
  have hk := (List.getElem?_eq_some_iff.1 hr).1
  simp only [List.length_cons, List.length_nil] at hk
  show (Instr.index 63 (.agg #[.int .i64 n0, .int .i64 d0, .int .i64 n1, .int .i64 d1, .int .i64 n2, .int .i64 d2, .int .i64 n3, .int .i64 d3, .int .i64 n4, .int .i64 d4, .int .i64 n5, .int .i64 d5, .int .i64 n6, .int .i64 d6, .int .i64 n7, .int .i64 d7]) (.int .i64 k)).run Tryz.prog W = .ok (.agg #[.int .i64 rn, .int .i64 rd]) W
  rcases (show k = 0 ∨ k = 1 ∨ k = 2 ∨ k = 3 ∨ k = 4 ∨ k = 5 ∨ k = 6 ∨ k = 7 by omega) with rfl | rfl | rfl | rfl | rfl | rfl | rfl | rfl <;> (simp at hr; obtain ⟨rfl, rfl⟩ := hr; kernel_rfl)
set_option maxRecDepth 100000 in
set_option maxHeartbeats 8000000 in
theorem sizeU_any (u : Int) (cs : List (Int × Int)) (w : World) (hcs : cs.length = 6) (h : ∀ r ∈ cs, R64 r) (hu : i64 u) : Calls Tryz.prog 11 #[.int .i64 u, cxV cs] w fun e w' => e = .returned (ratV (szC cs u)) ∧ Below w.heap.size w w' := by
  have CS := hide (fun (W : World) => sizesOf_any cs W hcs h)
  have CL := hide (show (usL cs).length = 12 by rw [usL_len, hcs])
  have LS := hide (szL_len cs)
  have IX := hide (fun (k : Nat) (hk : k < 8) (W : World) => ix8 LS.out (szL_at cs hk) W)
  have E := hide (show szC cs u = if 1 ≤ u ∧ u ≤ 7 then szC cs u else (0, 0) by
    by_cases hh : 1 ≤ u ∧ u ≤ 7
    · rw [if_pos hh]
    · rw [if_neg hh]
      unfold szC
      repeat (rw [if_neg (by omega)]))
  unfold szV at CS
  obtain ⟨sa, hsa⟩ : ∃ sa, (usL (szL cs)).toArray = sa := ⟨_, rfl⟩
  rw [hsa] at CS
  rw [hsa] at IX
  unfold cxV at CS ⊢
  obtain ⟨ca, hca⟩ : ∃ ca, (usL cs).toArray = ca := ⟨_, rfl⟩
  have HCA := hide hca
  rw [hca] at CS ⊢
  obtain ⟨W1, hW1⟩ : ∃ W1, (w.alloc (.cells ca 25)).alloc (.cells #[.int .i64 0, .int .i64 0] 23) = W1 := ⟨_, rfl⟩
  have B0 := hide (show Below w.heap.size w W1 by rw [← hW1]; exact bplus (bplus (Below.refl _ _) _) _)
  have P0 := hide (show Bk W1 w.heap.size 25 (usL cs) by rw [← hW1, ← hca]; exact (two_new w _ _).1)
  have P1 := hide (show Bk W1 (w.heap.size + 1) 23 [.int .i64 0, .int .i64 0] by rw [← hW1]; exact (two_new w _ _).2)
  have KR := hide (fun (W : World) (h : Below W1.heap.size W1 W) => show Bk W (w.heap.size + 1) 23 [.int .i64 0, .int .i64 0] from Bk.up P1.out h)
  have RG := hide (show W1.rangeAt w.heap.size 0 (usL cs) from range_blk P0.out)
  have HW1 := hide hW1
  have BX := hide (Below.refl W1.heap.size W1)
  have ca12 : ca.size = 12 := by rw [← hca, List.size_toArray, CL.out]
  obtain ⟨X, hX⟩ : ∃ X, szC cs u = X := ⟨_, rfl⟩
  rw [hX] at E ⊢
  replace hX := hide hX
  have q0 := Bk.cell P1.out 0
  have q1 := Bk.cell P1.out 1
  simp at q0 q1
  have y0 := Bk.fz P1.out 0
  have y1 := Bk.fz P1.out 1
  clear hW1 hca hsa h hcs P0 P1
  obtain ⟨v1, v2⟩ := hu
  by_cases h1 : u < 1
  · have F := hide (show X = (0, 0) by rw [E.out, if_neg (by omega)])
    rw [F.out]
    have h1' : decide (u < 1) = true := by simpa using h1
    clear E F hX
    go_enter Tryz.func11, Tryz.ntmps11
    go_upto_region 1 with fail
    rw [HW1.out]
    go_wp2_with fail
    exact bodyPost_ret (v := .agg #[.int .i64 0, .int .i64 0]) (by simp [results, Tryz.results11, go_sem, *]) rfl ⟨rfl, ((bto B0.out BX.out).setCell (by simp) _).setCell (by simp) _⟩
  by_cases h7 : 7 < u
  · have F := hide (show X = (0, 0) by rw [E.out, if_neg (by omega)])
    rw [F.out]
    have h1' : decide (u < 1) = false := by simpa using h1
    have h7' : decide (7 < u) = true := by simpa using h7
    clear E F hX
    go_enter Tryz.func11, Tryz.ntmps11
    go_upto_region 1 with fail
    rw [HW1.out]
    go_wp2_with fail
    exact bodyPost_ret (v := .agg #[.int .i64 0, .int .i64 0]) (by simp [results, Tryz.results11, go_sem, *]) rfl ⟨rfl, ((bto B0.out BX.out).setCell (by simp) _).setCell (by simp) _⟩
  · have h1' : decide (u < 1) = false := by simpa using h1
    have h7' : decide (7 < u) = false := by simpa using h7
    obtain ⟨k, rfl⟩ : ∃ k : Nat, u = (k : Int) := ⟨u.toNat, by omega⟩
    have k8 : k < 8 := by omega
    have IK := fun W => IX.out k k8 W
    rw [hX.out] at IK
    clear E hX IX LS
    go_enter Tryz.func11, Tryz.ntmps11
    go_upto_region 1 with fail
    rw [HW1.out]
    clear HW1
    go_upto_region 3 with fail
    refine wp_region_list ?_
    refine wpList_load_mid rfl 25 (.tmp 3) rfl w.heap.size 0 rfl (usL cs) _ RG.out Tryz.underlying25 rfl (by rw [CL.out]; kernel_rfl) ?_
    rw [HCA.out]
    go_wp2_with (go_at_call 35; refine (CS.out _).mono ?_; rintro e w5 ⟨rfl, B5⟩; replace BX := hide (bto BX.out B5); have QR := KR.out _ BX.out; have t0 := Bk.cell QR 0; have t1 := Bk.cell QR 1; simp at t0 t1; have z0 := Bk.fz QR 0; have z1 := Bk.fz QR 1; clear QR)
    exact bodyPost_ret (v := .agg #[.int .i64 X.1, .int .i64 X.2]) (by simp [results, Tryz.results11, go_sem, *]) rfl ⟨rfl, ((bto B0.out BX.out).setCell (by simp) _).setCell (by simp) _⟩
/-- What eight sizes tell. -/
def SzA (sz : Int → Int × Int) (sl : List (Int × Int)) : Prop := sl.length = 8 ∧ (∀ r ∈ sl, R64 r) ∧ ∀ k : Nat, k < 8 → sl[k]? = some (sz k)
theorem sza_cs {cs : List (Int × Int)} (h : ∀ r ∈ cs, R64 r) : SzA (szC cs) (szL cs) := ⟨rfl, szL_64 h, fun k hk => szL_at cs hk⟩
set_option maxRecDepth 100000 in
set_option maxHeartbeats 16000000 in
theorem written_any (sz : Int → Int × Int) (sl : List (Int × Int)) (hs : SzA sz sl) (n d q : Int) (a : Option Addr) (m c : Nat) (w : World) (RN : R64 (n, d)) (q0 : 0 ≤ q) (q7 : q ≤ 7) : Calls Tryz.prog 75 #[.agg (usL sl).toArray, .agg #[.int .i64 1, .int .i64 n, .int .i64 d, .int .i64 q, .slice a m c]] w fun e w' => e = .returned (ratV (if q = 0 then (n, d) else wk.mulAll [(n, d), sz q])) ∧ Below w.heap.size w w' := by
  obtain ⟨k, rfl⟩ : ∃ k : Nat, q = (k : Int) := ⟨q.toNat, by omega⟩
  have k8 : k < 8 := by omega
  have hk8 : (k : Int) < 8 := by omega
  have hsk := hs.2.2 k k8
  have qz : R64 (sz k) := hs.2.1 _ (List.mem_of_getElem? hsk)
  obtain ⟨s, hs'⟩ : ∃ s, sz (k : Int) = s := ⟨_, rfl⟩
  rw [hs'] at hsk qz ⊢
  have SL := hide (show (usL sl).length = 16 by rw [usL_len, hs.1])
  obtain ⟨sa, hsa⟩ : ∃ sa, (usL sl).toArray = sa := ⟨_, rfl⟩
  rw [hsa]
  have sa16 : sa.size = 16 := by rw [← hsa, List.size_toArray, SL.out]
  obtain ⟨W0, hW0⟩ : ∃ W0, (w.alloc (.cells sa 63)).alloc (.cells #[.int .i64 1, .int .i64 n, .int .i64 d, .int .i64 k, .slice a m c] 42) = W0 := ⟨_, rfl⟩
  have S0 : W0.heap.size = w.heap.size + 2 := by rw [← hW0]; simp
  have B00 := hide (show Below w.heap.size w W0 by rw [← hW0]; exact bplus (bplus (Below.refl _ _) _) _)
  have P0 := hide (show BU W0 w.heap.size 63 sl by rw [← hW0, ← hsa]; exact (two_new w _ _).1)
  have P1 := hide (show Bk W0 (w.heap.size + 1) 42 [.int .i64 1, .int .i64 n, .int .i64 d, .int .i64 k, .slice a m c] by rw [← hW0]; exact (two_new w _ _).2)
  obtain ⟨W1, hW1⟩ : ∃ W1, W0.alloc (.cells #[.int .i64 0, .int .i64 0] 23) = W1 := ⟨_, rfl⟩
  have B01 := hide (show Below W0.heap.size W0 W1 by rw [← hW1]; exact bplus (Below.refl _ _) _)
  have P2 := hide (show Bk W1 (w.heap.size + 2) 23 [.int .i64 0, .int .i64 0] by rw [← hW1, ← S0]; exact heap_alloc_new W0 _)
  have KS := hide (fun (w' : World) (h : Below W0.heap.size W0 w') => show w'.cell? ⟨w.heap.size + 1, 1, none⟩ = some (.int .i64 n) ∧ w'.cell? ⟨w.heap.size + 1, 2, none⟩ = some (.int .i64 d) ∧ w'.cell? ⟨w.heap.size + 1, 3, none⟩ = some (.int .i64 k) ∧ w'.cell? ⟨w.heap.size, k * 2, none⟩ = some (.int .i64 s.1) ∧ w'.cell? ⟨w.heap.size, k * 2 + 1, none⟩ = some (.int .i64 s.2) from ⟨Bk.cell (Bk.up P1.out h) 1, Bk.cell (Bk.up P1.out h) 2, Bk.cell (Bk.up P1.out h) 3, (BU.at (show BU w' w.heap.size 63 sl from Bk.up P0.out h) hsk).1, (BU.at (show BU w' w.heap.size 63 sl from Bk.up P0.out h) hsk).2⟩)
  obtain ⟨a1, a2, a3, a4, a5⟩ := KS.out W1 B01.out
  have BY := hide (Below.refl W1.heap.size W1)
  have HW1 := hide (show ((w.alloc (.cells sa 63)).alloc (.cells #[.int .i64 1, .int .i64 n, .int .i64 d, .int .i64 k, .slice a m c] 42)).alloc (.cells #[.int .i64 0, .int .i64 0] 23) = W1 by rw [hW0]; exact hW1)
  have t0 := Bk.cell P2.out 0
  have t1 := Bk.cell P2.out 1
  simp at t0 t1
  have z0 := Bk.fz P2.out 0
  have z1 := Bk.fz P2.out 1
  have CM := hide (fun (W : World) (T : TypeId) => show Calls Tryz.prog 70 #[.slice (some ⟨W.heap.size, 0, none⟩) 2 2] ((W.alloc (.cells #[.int .i64 n, .int .i64 d, .int .i64 s.1, .int .i64 s.2] T)).drew) _ from (wk.mulP_any _ [(n, d), s] _ (two_drew (W := W) (T := T)) (in_two RN qz)).mono (R' := fun e w' => e = .returned (ratV (wk.mulAll [(n, d), s])) ∧ Below ((W.alloc (.cells #[.int .i64 n, .int .i64 d, .int .i64 s.1, .int .i64 s.2] T)).drew).heap.size ((W.alloc (.cells #[.int .i64 n, .int .i64 d, .int .i64 s.1, .int .i64 s.2] T)).drew) w') (by rintro e w1 ⟨rfl, U⟩; exact ⟨rfl, U.1⟩))
  obtain ⟨r, hr⟩ : ∃ r, wk.mulAll [(n, d), s] = r := ⟨_, rfl⟩
  rw [hr] at CM ⊢
  unfold ratV at CM ⊢
  clear hW0 hW1 hr RN qz P0 P1 hs hsk hs' hsa
  by_cases k0 : k = 0
  · subst k0
    rw [show (if ((0 : Nat) : Int) = 0 then (n, d) else r) = (n, d) from rfl]
    clear CM KS
    have HW2 := HW1.out
    rw [show ((0 : Nat) : Int) = 0 from rfl] at HW2 a3
    rw [show ((0 : Nat) : Int) = 0 from rfl]
    go_enter Tryz.func75, Tryz.ntmps75
    go_upto_region 1 with fail
    (try rw [HW2])
    go_wp2_with fail
    exact bodyPost_ret (v := .agg #[.int .i64 n, .int .i64 d]) (by simp [results, Tryz.results75, go_sem, *]) rfl ⟨rfl, ((bto B00.out (bto B01.out BY.out)).setCell (by simp; omega) _).setCell (by simp; omega) _⟩
  · rw [show (if (k : Int) = 0 then (n, d) else r) = r from if_neg (by omega)]
    have k0' : ((k : Int) == 0) = false := by simp; omega
    go_enter Tryz.func75, Tryz.ntmps75
    go_upto_region 1 with fail
    rw [HW1.out]
    clear HW1
    go_upto_region 3 with fail
    clear t0 t1 z0 z1
    go_region_held3 (fun w' => w'.cell? ⟨w.heap.size + 1, 1, none⟩ = some (.int .i64 n) ∧ w'.cell? ⟨w.heap.size + 1, 2, none⟩ = some (.int .i64 d) ∧ w'.cell? ⟨w.heap.size + 1, 3, none⟩ = some (.int .i64 k) ∧ w'.cell? ⟨w.heap.size, k * 2, none⟩ = some (.int .i64 s.1) ∧ w'.cell? ⟨w.heap.size, k * 2 + 1, none⟩ = some (.int .i64 s.2))
      ((refine KS.out _ ?_; (repeat (first | exact (bto B01.out BY.out) | (with_reducible refine Below.drew ?_) | (with_reducible refine below_drewN ?_ _) | (with_reducible refine bplus ?_ _) | (with_reducible refine Below.setCell ?_ (by simp; omega) _))); done))
      (first
        | (go_at_call 70; refine (CM.out _ _).mono ?_; rintro e w5 ⟨rfl, B5⟩; replace BY := hide (bto (show Below W1.heap.size W1 _ from by repeat (first | exact BY.out | (with_reducible refine Below.drew ?_) | (with_reducible refine below_drewN ?_ _) | (with_reducible refine bplus ?_ _))) B5); clear B5; have QR := Bk.up P2.out BY.out; have t0 := Bk.cell QR 0; have t1 := Bk.cell QR 1; simp at t0 t1; have z0 := Bk.fz QR 0; have z1 := Bk.fz QR 1; clear QR))
    all_goals
      go_wp2_with fail
      exact bodyPost_ret (v := .agg #[.int .i64 r.1, .int .i64 r.2]) (by simp [results, Tryz.results75, go_sem, *]) rfl ⟨rfl, ((bto B00.out (bto B01.out BY.out)).setCell (by simp; omega) _).setCell (by simp; omega) _⟩
end Go.Proofs.YtdnnidnghaifgaaGreatDoor.nm
