/-
  The sizes of units: by the program.
  A unit's size, and a number as it is written: by the program.
  A form in px: plain.
-/
import Derived.Test.YtlhmecagijdinaaGreatDoorK02
import Derived.Test.YtlhmecagijdinaaGreatDoorH14
import Derived.Shelf.Abstract
import Derived.Test.YtlhmecagijdinaaGreatDoorMBeE
import Derived.Test.YtlhmecagijdinaaGreatDoorH06
set_option linter.unusedVariables false
set_option linter.unusedSimpArgs false
namespace Go.Proofs.YtlhmecagijdinaaGreatDoor.nm
open Go.RowKit be

theorem countedU_any (n d : Int) (w : World) (hn : i64 n) (hd : i64 d) : Calls Tryz.prog 62 #[.agg #[.int .i64 n, .int .i64 d]] w fun e w' => e = .returned (.agg #[.int .i64 (ctR (n, d)).1, .int .i64 (ctR (n, d)).2]) ∧ Below w.heap.size w w' := by
  obtain ⟨n1, n2⟩ := hn
  obtain ⟨d1, d2⟩ := hd
  have C := hide (fun (W : World) => may_any n d W n1 n2 d1 d2)
  obtain ⟨W1, hW1⟩ : ∃ W1, (w.alloc (.cells #[.int .i64 n, .int .i64 d] 23)).alloc (.cells #[.int .i64 0, .int .i64 0] 23) = W1 := ⟨_, rfl⟩
  have B0 := hide (show Below w.heap.size w W1 by rw [← hW1]; exact bplus (bplus (Below.refl _ _) _) _)
  have P0 := hide (show Bk W1 w.heap.size 23 [.int .i64 n, .int .i64 d] by rw [← hW1]; exact (Bk.new w _ _).more _)
  have P1 := hide (show Bk W1 (w.heap.size + 1) 23 [.int .i64 0, .int .i64 0] by rw [← hW1]; have := Bk.new (w.alloc (.cells #[.int .i64 n, .int .i64 d] 23)) 23 [.int .i64 0, .int .i64 0]; rwa [show (w.alloc (.cells #[.int .i64 n, .int .i64 d] 23)).heap.size = w.heap.size + 1 by simp] at this)
  have HW1 := hide hW1
  clear hW1
  have a0 := Bk.cell P0.out 0
  have a1 := Bk.cell P0.out 1
  simp at a0 a1
  cases hm : mayB n d
  · have HM := hide hm
    have F := hide (show ctR (n, d) = (0, 0) by unfold ctR; simp [hm])
    clear hm
    go_enter Tryz.func62, Tryz.ntmps62
    go_upto_region 1 with fail
    rw [HW1.out]
    go_wp2_with (go_at_call 60; refine (C.out _).mono ?_; rintro e w1 ⟨rfl, U1⟩; rw [HM.out]; have Q1 := Bk.up P1.out U1.1; have b0 := Bk.cell Q1 0; have b1 := Bk.cell Q1 1; have z0 := Bk.fz Q1 0; have z1 := Bk.fz Q1 1; simp at b0 b1; replace Q1 := hide Q1; have U2 := hide (bto B0.out U1.1); clear U1)
    exact bodyPost_ret (v := .agg #[.int .i64 0, .int .i64 0]) (by simp [results, Tryz.results62, go_sem, *]) rfl ⟨by rw [F.out], (U2.out.setCell (by simp) _).setCell (by simp) _⟩
  · have HM := hide hm
    have F := hide (show ctR (n, d) = (n, d) by unfold ctR; simp [hm])
    clear hm
    go_enter Tryz.func62, Tryz.ntmps62
    go_upto_region 1 with fail
    rw [HW1.out]
    go_wp2_with (go_at_call 60; refine (C.out _).mono ?_; rintro e w1 ⟨rfl, U1⟩; rw [HM.out]; have Q1 := Bk.up P1.out U1.1; have b0 := Bk.cell Q1 0; have b1 := Bk.cell Q1 1; have z0 := Bk.fz Q1 0; have z1 := Bk.fz Q1 1; simp at b0 b1; replace Q1 := hide Q1; have Q2 := Bk.up P0.out U1.1; have d0 := Bk.cell Q2 0; have d1 := Bk.cell Q2 1; simp at d0 d1; clear Q2; have U2 := hide (bto B0.out U1.1); clear U1)
    exact bodyPost_ret (v := .agg #[.int .i64 n, .int .i64 d]) (by simp [results, Tryz.results62, go_sem, *]) rfl ⟨by rw [F.out], (U2.out.setCell (by simp) _).setCell (by simp) _⟩
/-- What may not be is over when it is divided. -/
theorem div_ct {n d m e : Int} : dvR (ctR (n, d)) (m, e) = dvR (n, d) (m, e) := by
  by_cases h : mayB n d = true
  · unfold ctR; rw [if_pos h]
  · have e1 : ctR (n, d) = (0, 0) := by unfold ctR; rw [if_neg h]
    have v : wk.isV n d = false := wk.isV_of_not (show wk.mayB n d = false by rw [may_sameS]; simpa using h)
    rw [e1]
    unfold dvR
    obtain ⟨a1, a2⟩ := wk.div_no (n := n) (d := d) (m := m) (e := e) (by simp [v])
    obtain ⟨b1, b2⟩ := wk.div_no (n := 0) (d := 0) (m := m) (e := e) (by simp [show wk.isV 0 0 = false by decide])
    rw [a1, a2, b1, b2]
theorem hd_dv (n d : Int) : hdR (n, d) = dvR (n, d) (100, 1) := by unfold hdR; exact div_ct
set_option maxRecDepth 100000 in
set_option maxHeartbeats 4000000 in
theorem hundredthU_any (n d : Int) (w : World) (hn : i64 n) (hd : i64 d) : Calls Tryz.prog 63 #[.agg #[.int .i64 n, .int .i64 d]] w fun e w' => e = .returned (ratV (hdR (n, d))) ∧ Below w.heap.size w w' := by
  obtain ⟨W1, hW1⟩ : ∃ W1, (w.alloc (.cells #[.int .i64 n, .int .i64 d] 23)).alloc (.cells #[.int .i64 0, .int .i64 0] 23) = W1 := ⟨_, rfl⟩
  have B0 := hide (show Below w.heap.size w W1 by rw [← hW1]; exact bplus (bplus (Below.refl _ _) _) _)
  have KP := hide (fun (W : World) (h : Below W1.heap.size W1 W) => bxk_2g (show W.heap[w.heap.size]? = some (.cells #[.int .i64 n, .int .i64 d] 23) from Bk.up (show Bk W1 w.heap.size 23 [.int .i64 n, .int .i64 d] by rw [← hW1]; exact (two_new w _ _).1) h))
  have KR := hide (fun (W : World) (h : Below W1.heap.size W1 W) => show Bk W (w.heap.size + 1) 23 [.int .i64 0, .int .i64 0] from Bk.up (show Bk W1 (w.heap.size + 1) 23 _ by rw [← hW1]; exact (two_new w _ _).2) h)
  have HW1 := hide hW1
  have BX := hide (Below.refl W1.heap.size W1)
  have CI := hide (fun (W : World) (h : Below W1.heap.size W1 W) => (wk.of_all 100 1 W (by decide) (by decide) (by decide) (by decide)).mono (R' := fun e w' => e = .returned (.agg #[.int .i64 100, .int .i64 1]) ∧ Below W1.heap.size W1 w') (by rintro e w1 ⟨rfl, U⟩; exact ⟨rfl, bto h U.1⟩))
  have CD := hide (fun (W : World) (h : Below W1.heap.size W1 W) => (wk.divP_any n d 100 1 W hn hd ⟨by decide, by decide⟩ ⟨by decide, by decide⟩).mono (R' := fun e w' => e = .returned (ratV (hdR (n, d))) ∧ Below W1.heap.size W1 w') (by rintro e w1 ⟨rfl, U⟩; exact ⟨by rw [hd_dv]; rfl, bto h U.1⟩))
  generalize hdR (n, d) = r at *
  unfold ratV at *
  clear hW1
  obtain ⟨a0, a1⟩ := KP.out _ BX.out
  go_enter Tryz.func63, Tryz.ntmps63
  go_upto_region 1 with fail
  rw [HW1.out]
  clear HW1
  go_region_with (first
    | (go_at_call 50; refine (CI.out _ (by repeat (first | exact BX.out | exact Below.refl _ _ | (with_reducible refine Below.drew ?_) | (with_reducible refine below_drewN ?_ _) | (refine bplus ?_ _)))).mono ?_; rintro e w3 ⟨rfl, B3⟩; replace BX := hide B3; obtain ⟨c0, c1⟩ := KP.out _ BX.out)
    | (go_at_call 92; refine (CD.out _ (by repeat (first | exact BX.out | exact Below.refl _ _ | (with_reducible refine Below.drew ?_) | (with_reducible refine below_drewN ?_ _) | (refine bplus ?_ _)))).mono ?_; rintro e w5 ⟨rfl, B5⟩; replace BX := hide B5; have QR := KR.out _ BX.out; have t0 := Bk.cell QR 0; have t1 := Bk.cell QR 1; simp at t0 t1; have v0 := Bk.fz QR 0; have v1 := Bk.fz QR 1; clear QR))
  all_goals
    go_wp2_with fail
    exact bodyPost_ret (v := .agg #[.int .i64 r.1, .int .i64 r.2]) (by simp [results, Tryz.results63, go_sem, *]) rfl ⟨rfl, ((bto B0.out BX.out).setCell (by simp) _).setCell (by simp) _⟩
/-- All sizes. -/
def szL (cs : List (Int × Int)) : List (Int × Int) := [(0, 0), (1, 1), ctR (rAt cs 0), ctR (rAt cs 1), hdR (rAt cs 2), hdR (rAt cs 3), hdR (rAt cs 4), hdR (rAt cs 5)]
def szV (cs : List (Int × Int)) : Value := .agg (usL (szL cs)).toArray
theorem szL_at (cs : List (Int × Int)) {k : Nat} (h : k < 8) : (szL cs)[k]? = some (szC cs k) := by
  rcases (show k = 0 ∨ k = 1 ∨ k = 2 ∨ k = 3 ∨ k = 4 ∨ k = 5 ∨ k = 6 ∨ k = 7 by omega) with rfl | rfl | rfl | rfl | rfl | rfl | rfl | rfl <;> rfl
theorem szL_64 {cs : List (Int × Int)} (h : ∀ r ∈ cs, R64 r) : ∀ r ∈ szL cs, R64 r := by
  intro r hr
  obtain ⟨k, hk⟩ := List.mem_iff_getElem?.1 hr
  have hk8 : k < 8 := (List.getElem?_eq_some_iff.1 hk).1
  rw [szL_at cs hk8] at hk
  obtain rfl := Option.some.inj hk
  exact szC_64 h k
theorem rng2 {w : World} {b k : Nat} {T : TypeId} {cs : List Value} {x y : Value} (h : Bk w b T cs) (h0 : cs[k]? = some x) (h1 : cs[k + 1]? = some y) : w.rangeAt b k [x, y] := fun j v hv => by
  match j, hv with
  | 0, hv => obtain rfl := Option.some.inj hv; rw [Nat.add_zero, Bk.cell h]; exact h0
  | 1, hv => obtain rfl := Option.some.inj hv; rw [Bk.cell h]; exact h1
theorem run_faC0 {ρ : Operand → Value} {w : World} {o : Oper} {x : Operand} {b : Nat} (ho : o.op = .fieldAddr 45 x 0) (hx : ρ x = .pointer (some ⟨b, 0, none⟩)) : (execOp ρ o).run Tryz.prog w = .ok (.value (.pointer (some ⟨b, 0, none⟩))) w := by
  unfold execOp
  rw [ho]
  simp [go_sem, hx]
theorem run_faC1 {ρ : Operand → Value} {w : World} {o : Oper} {x : Operand} {b : Nat} (ho : o.op = .fieldAddr 45 x 1) (hx : ρ x = .pointer (some ⟨b, 0, none⟩)) : (execOp ρ o).run Tryz.prog w = .ok (.value (.pointer (some ⟨b, 2, none⟩))) w := by
  unfold execOp
  rw [ho]
  simp [go_sem, hx]
theorem run_faC2 {ρ : Operand → Value} {w : World} {o : Oper} {x : Operand} {b : Nat} (ho : o.op = .fieldAddr 45 x 2) (hx : ρ x = .pointer (some ⟨b, 0, none⟩)) : (execOp ρ o).run Tryz.prog w = .ok (.value (.pointer (some ⟨b, 4, none⟩))) w := by
  unfold execOp
  rw [ho]
  simp [go_sem, hx]
theorem run_faC3 {ρ : Operand → Value} {w : World} {o : Oper} {x : Operand} {b : Nat} (ho : o.op = .fieldAddr 45 x 3) (hx : ρ x = .pointer (some ⟨b, 0, none⟩)) : (execOp ρ o).run Tryz.prog w = .ok (.value (.pointer (some ⟨b, 6, none⟩))) w := by
  unfold execOp
  rw [ho]
  simp [go_sem, hx]
theorem run_faC4 {ρ : Operand → Value} {w : World} {o : Oper} {x : Operand} {b : Nat} (ho : o.op = .fieldAddr 45 x 4) (hx : ρ x = .pointer (some ⟨b, 0, none⟩)) : (execOp ρ o).run Tryz.prog w = .ok (.value (.pointer (some ⟨b, 8, none⟩))) w := by
  unfold execOp
  rw [ho]
  simp [go_sem, hx]
theorem run_faC5 {ρ : Operand → Value} {w : World} {o : Oper} {x : Operand} {b : Nat} (ho : o.op = .fieldAddr 45 x 5) (hx : ρ x = .pointer (some ⟨b, 0, none⟩)) : (execOp ρ o).run Tryz.prog w = .ok (.value (.pointer (some ⟨b, 10, none⟩))) w := by
  unfold execOp
  rw [ho]
  simp [go_sem, hx]
theorem run_bdS {ρ : Operand → Value} {w : World} {o : Oper} {x1 x2 x3 x4 x5 x6 x7 : Operand} {p1 q1 p2 q2 p3 q3 p4 q4 p5 q5 p6 q6 p7 q7 : Int} (ho : o.op = .build 69 #[(1, x1), (2, x2), (3, x3), (4, x4), (5, x5), (6, x6), (7, x7)]) (h1 : ρ x1 = .agg #[.int .i64 p1, .int .i64 q1]) (h2 : ρ x2 = .agg #[.int .i64 p2, .int .i64 q2]) (h3 : ρ x3 = .agg #[.int .i64 p3, .int .i64 q3]) (h4 : ρ x4 = .agg #[.int .i64 p4, .int .i64 q4]) (h5 : ρ x5 = .agg #[.int .i64 p5, .int .i64 q5]) (h6 : ρ x6 = .agg #[.int .i64 p6, .int .i64 q6]) (h7 : ρ x7 = .agg #[.int .i64 p7, .int .i64 q7]) : (execOp ρ o).run Tryz.prog w = .ok (.value (.agg #[.int .i64 0, .int .i64 0, .int .i64 p1, .int .i64 q1, .int .i64 p2, .int .i64 q2, .int .i64 p3, .int .i64 q3, .int .i64 p4, .int .i64 q4, .int .i64 p5, .int .i64 q5, .int .i64 p6, .int .i64 q6, .int .i64 p7, .int .i64 q7])) w := by
  have h := run_build w 69 #[((1 : Nat), Value.agg #[.int .i64 p1, .int .i64 q1]), ((2 : Nat), Value.agg #[.int .i64 p2, .int .i64 q2]), ((3 : Nat), Value.agg #[.int .i64 p3, .int .i64 q3]), ((4 : Nat), Value.agg #[.int .i64 p4, .int .i64 q4]), ((5 : Nat), Value.agg #[.int .i64 p5, .int .i64 q5]), ((6 : Nat), Value.agg #[.int .i64 p6, .int .i64 q6]), ((7 : Nat), Value.agg #[.int .i64 p7, .int .i64 q7])] #[.int .i64 0, .int .i64 0, .int .i64 p1, .int .i64 q1, .int .i64 p2, .int .i64 q2, .int .i64 p3, .int .i64 q3, .int .i64 p4, .int .i64 q4, .int .i64 p5, .int .i64 q5, .int .i64 p6, .int .i64 q6, .int .i64 p7, .int .i64 q7] (P := Tryz.prog) (by kernel_rfl)
  unfold execOp
  rw [ho]
  simp [go_sem, h1, h2, h3, h4, h5, h6, h7, h]
def kdZ (B : Nat) (f0 g0 f1 g1 f2 g2 f3 g3 f4 g4 f5 g5 : Int) (s2 s3 s4 s5 s6 s7 : Int × Int) : Nat → Kd
  | 0 => .val (.agg #[.int .i64 1, .int .i64 1])
  | 1 => .val (.pointer (some ⟨B, 0, none⟩))
  | 2 => .val (.agg #[.int .i64 f0, .int .i64 g0])
  | 3 => .val (.agg #[.int .i64 s2.1, .int .i64 s2.2])
  | 4 => .val (.pointer (some ⟨B, 2, none⟩))
  | 5 => .val (.agg #[.int .i64 f1, .int .i64 g1])
  | 6 => .val (.agg #[.int .i64 s3.1, .int .i64 s3.2])
  | 7 => .val (.pointer (some ⟨B, 4, none⟩))
  | 8 => .val (.agg #[.int .i64 f2, .int .i64 g2])
  | 9 => .val (.agg #[.int .i64 s4.1, .int .i64 s4.2])
  | 10 => .val (.pointer (some ⟨B, 6, none⟩))
  | 11 => .val (.agg #[.int .i64 f3, .int .i64 g3])
  | 12 => .val (.agg #[.int .i64 s5.1, .int .i64 s5.2])
  | 13 => .val (.pointer (some ⟨B, 8, none⟩))
  | 14 => .val (.agg #[.int .i64 f4, .int .i64 g4])
  | 15 => .val (.agg #[.int .i64 s6.1, .int .i64 s6.2])
  | 16 => .val (.pointer (some ⟨B, 10, none⟩))
  | 17 => .val (.agg #[.int .i64 f5, .int .i64 g5])
  | 18 => .val (.agg #[.int .i64 s7.1, .int .i64 s7.2])
  | 19 => .val (.agg #[.int .i64 0, .int .i64 0, .int .i64 1, .int .i64 1, .int .i64 s2.1, .int .i64 s2.2, .int .i64 s3.1, .int .i64 s3.2, .int .i64 s4.1, .int .i64 s4.2, .int .i64 s5.1, .int .i64 s5.2, .int .i64 s6.1, .int .i64 s6.2, .int .i64 s7.1, .int .i64 s7.2])
  | _ => .val undef
set_option maxRecDepth 100000 in
set_option maxHeartbeats 8000000 in
theorem sizesOf_any (cs : List (Int × Int)) (w : World) (hcs : cs.length = 6) (h : ∀ r ∈ cs, R64 r) : Calls Tryz.prog 42 #[cxV cs] w fun e w' => e = .returned (szV cs) ∧ Below w.heap.size w w' := by
  obtain ⟨f0, g0, f1, g1, f2, g2, f3, g3, f4, g4, f5, g5, rfl⟩ := sixC hcs
  have k := h
  obtain ⟨W1, hW1⟩ : ∃ W1, (w.alloc (.cells #[.int .i64 f0, .int .i64 g0, .int .i64 f1, .int .i64 g1, .int .i64 f2, .int .i64 g2, .int .i64 f3, .int .i64 g3, .int .i64 f4, .int .i64 g4, .int .i64 f5, .int .i64 g5] 45)).alloc (.cells #[.int .i64 0, .int .i64 0, .int .i64 0, .int .i64 0, .int .i64 0, .int .i64 0, .int .i64 0, .int .i64 0, .int .i64 0, .int .i64 0, .int .i64 0, .int .i64 0, .int .i64 0, .int .i64 0, .int .i64 0, .int .i64 0] 69) = W1 := ⟨_, rfl⟩
  have B0 := hide (show Below w.heap.size w W1 by rw [← hW1]; exact bplus (bplus (Below.refl _ _) _) _)
  have P0 := hide (show Bk W1 w.heap.size 45 [.int .i64 f0, .int .i64 g0, .int .i64 f1, .int .i64 g1, .int .i64 f2, .int .i64 g2, .int .i64 f3, .int .i64 g3, .int .i64 f4, .int .i64 g4, .int .i64 f5, .int .i64 g5] by rw [← hW1]; exact (two_new w _ _).1)
  have KR := hide (fun (W : World) (h : Below W1.heap.size W1 W) => show Bk W (w.heap.size + 1) 69 [.int .i64 0, .int .i64 0, .int .i64 0, .int .i64 0, .int .i64 0, .int .i64 0, .int .i64 0, .int .i64 0, .int .i64 0, .int .i64 0, .int .i64 0, .int .i64 0, .int .i64 0, .int .i64 0, .int .i64 0, .int .i64 0] from Bk.up (show Bk W1 (w.heap.size + 1) 69 _ by rw [← hW1]; exact (two_new w _ _).2) h)
  have HW1 := hide hW1
  clear hW1
  have RX := hide (fun (W : World) (h : Below W1.heap.size W1 W) => show W.rangeAt w.heap.size 0 [.int .i64 f0, .int .i64 g0] ∧ W.rangeAt w.heap.size 2 [.int .i64 f1, .int .i64 g1] ∧ W.rangeAt w.heap.size 4 [.int .i64 f2, .int .i64 g2] ∧ W.rangeAt w.heap.size 6 [.int .i64 f3, .int .i64 g3] ∧ W.rangeAt w.heap.size 8 [.int .i64 f4, .int .i64 g4] ∧ W.rangeAt w.heap.size 10 [.int .i64 f5, .int .i64 g5] from ⟨rng2 (Bk.up P0.out h) rfl rfl, rng2 (Bk.up P0.out h) rfl rfl, rng2 (Bk.up P0.out h) rfl rfl, rng2 (Bk.up P0.out h) rfl rfl, rng2 (Bk.up P0.out h) rfl rfl, rng2 (Bk.up P0.out h) rfl rfl⟩)
  have C1 := hide (fun (W : World) (h : Below W1.heap.size W1 W) => wk.of_all 1 1 W (by decide) (by decide) (by decide) (by decide))
  replace C1 := hide (fun (W : World) (h : Below W1.heap.size W1 W) => (C1.out W h).mono (R' := fun e w' => e = .returned (.agg #[.int .i64 1, .int .i64 1]) ∧ Below W.heap.size W w') (by rintro e w1 ⟨rfl, U⟩; exact ⟨rfl, U.1⟩))
  have C2 := hide (fun (W : World) (h : Below W1.heap.size W1 W) => countedU_any f0 g0 W (k (f0, g0) (by simp)).1 (k (f0, g0) (by simp)).2)
  have C3 := hide (fun (W : World) (h : Below W1.heap.size W1 W) => countedU_any f1 g1 W (k (f1, g1) (by simp)).1 (k (f1, g1) (by simp)).2)
  have C4 := hide (fun (W : World) (h : Below W1.heap.size W1 W) => hundredthU_any f2 g2 W (k (f2, g2) (by simp)).1 (k (f2, g2) (by simp)).2)
  have C5 := hide (fun (W : World) (h : Below W1.heap.size W1 W) => hundredthU_any f3 g3 W (k (f3, g3) (by simp)).1 (k (f3, g3) (by simp)).2)
  have C6 := hide (fun (W : World) (h : Below W1.heap.size W1 W) => hundredthU_any f4 g4 W (k (f4, g4) (by simp)).1 (k (f4, g4) (by simp)).2)
  have C7 := hide (fun (W : World) (h : Below W1.heap.size W1 W) => hundredthU_any f5 g5 W (k (f5, g5) (by simp)).1 (k (f5, g5) (by simp)).2)
  have EV := hide (show szV [(f0, g0), (f1, g1), (f2, g2), (f3, g3), (f4, g4), (f5, g5)] = .agg #[.int .i64 0, .int .i64 0, .int .i64 1, .int .i64 1, .int .i64 (ctR (f0, g0)).1, .int .i64 (ctR (f0, g0)).2, .int .i64 (ctR (f1, g1)).1, .int .i64 (ctR (f1, g1)).2, .int .i64 (hdR (f2, g2)).1, .int .i64 (hdR (f2, g2)).2, .int .i64 (hdR (f3, g3)).1, .int .i64 (hdR (f3, g3)).2, .int .i64 (hdR (f4, g4)).1, .int .i64 (hdR (f4, g4)).2, .int .i64 (hdR (f5, g5)).1, .int .i64 (hdR (f5, g5)).2] from rfl)
  rw [EV.out]
  clear EV k h hcs
  generalize ctR (f0, g0) = s2 at *
  generalize ctR (f1, g1) = s3 at *
  generalize hdR (f2, g2) = s4 at *
  generalize hdR (f3, g3) = s5 at *
  generalize hdR (f4, g4) = s6 at *
  generalize hdR (f5, g5) = s7 at *
  unfold ratV at *
  show Calls Tryz.prog 42 #[.agg #[.int .i64 f0, .int .i64 g0, .int .i64 f1, .int .i64 g1, .int .i64 f2, .int .i64 g2, .int .i64 f3, .int .i64 g3, .int .i64 f4, .int .i64 g4, .int .i64 f5, .int .i64 g5]] w _
  go_enter Tryz.func42, Tryz.ntmps42
  go_upto_region 1 with fail
  rw [HW1.out]
  clear HW1 P0
  refine wp_region_tl1 (by kernel_rfl) (kdZ w.heap.size f0 g0 f1 g1 f2 g2 f3 g3 f4 g4 f5 g5 s2 s3 s4 s5 s6 s7) 20 rfl (Stat.of (by kernel_rfl)) (acy_of (by kernel_rfl)) (by kernel_rfl) ?_ ?_
  · as_aux_lemma =>
    intro Q' i o hi ho blk listed a wx I hd
    rcases (show i = 0 ∨ i = 1 ∨ i = 2 ∨ i = 3 ∨ i = 4 ∨ i = 5 ∨ i = 6 ∨ i = 7 ∨ i = 8 ∨ i = 9 ∨ i = 10 ∨ i = 11 ∨ i = 12 ∨ i = 13 ∨ i = 14 ∨ i = 15 ∨ i = 16 ∨ i = 17 ∨ i = 18 ∨ i = 19 by omega) with rfl | rfl | rfl | rfl | rfl | rfl | rfl | rfl | rfl | rfl | rfl | rfl | rfl | rfl | rfl | rfl | rfl | rfl | rfl | rfl
    · obtain rfl := Option.some.inj ho
      refine wpOp_callW rfl (wn rfl) (run_cl2 rfl rfl (fun v u => enters_of Tryz.func50 (by kernel_rfl) rfl #[v, u] wx)) ?_
      refine (show Calls Tryz.prog 50 #[.int .i64 1, .int .i64 1] wx _ from ?_)
      exact (C1.out wx I.up).mono (by rintro e w' ⟨rfl, hu⟩; exact ⟨_, rfl, (show _ ∧ _ from ⟨rfl, hu⟩)⟩)
    · obtain rfl := Option.some.inj ho
      exact wpOp_valW rfl (wn rfl) (run_faC0 rfl (show a.tmps.getD 1 undef = _ from (I.oth_at (by kernel_rfl)).trans rfl)) (show _ ∧ _ from ⟨rfl, be.Up.refl _⟩)
    · obtain rfl := Option.some.inj ho
      exact wpOp_valW rfl (wn rfl) (run_ldO (cs := [.int .i64 f0, .int .i64 g0]) rfl (I.val_at (i := 1) (by decide) (hd ⟨1, .data⟩ (by simp) rfl) (.inl rfl) rfl) (RX.out wx I.up).1 Tryz.underlying23 rfl (by kernel_rfl)) (show _ ∧ _ from ⟨rfl, be.Up.refl _⟩)
    · obtain rfl := Option.some.inj ho
      have v0 := (I.val_at (i := 2) (by decide) (hd ⟨2, .data⟩ (by simp) rfl) (.inl rfl) rfl)
      refine wpOp_callW rfl (wn rfl) (run_cl1 rfl rfl (fun v => enters_of Tryz.func62 (by kernel_rfl) rfl #[v] wx)) ?_
      refine (show Calls Tryz.prog 62 #[a.tmps.getD _ undef] wx _ from ?_)
      rw [v0]
      exact (C2.out wx I.up).mono (by rintro e w' ⟨rfl, hu⟩; exact ⟨_, rfl, (show _ ∧ _ from ⟨rfl, hu⟩)⟩)
    · obtain rfl := Option.some.inj ho
      exact wpOp_valW rfl (wn rfl) (run_faC1 rfl (show a.tmps.getD 1 undef = _ from (I.oth_at (by kernel_rfl)).trans rfl)) (show _ ∧ _ from ⟨rfl, be.Up.refl _⟩)
    · obtain rfl := Option.some.inj ho
      exact wpOp_valW rfl (wn rfl) (run_ldO (cs := [.int .i64 f1, .int .i64 g1]) rfl (I.val_at (i := 4) (by decide) (hd ⟨4, .data⟩ (by simp) rfl) (.inl rfl) rfl) (RX.out wx I.up).2.1 Tryz.underlying23 rfl (by kernel_rfl)) (show _ ∧ _ from ⟨rfl, be.Up.refl _⟩)
    · obtain rfl := Option.some.inj ho
      have v0 := (I.val_at (i := 5) (by decide) (hd ⟨5, .data⟩ (by simp) rfl) (.inl rfl) rfl)
      refine wpOp_callW rfl (wn rfl) (run_cl1 rfl rfl (fun v => enters_of Tryz.func62 (by kernel_rfl) rfl #[v] wx)) ?_
      refine (show Calls Tryz.prog 62 #[a.tmps.getD _ undef] wx _ from ?_)
      rw [v0]
      exact (C3.out wx I.up).mono (by rintro e w' ⟨rfl, hu⟩; exact ⟨_, rfl, (show _ ∧ _ from ⟨rfl, hu⟩)⟩)
    · obtain rfl := Option.some.inj ho
      exact wpOp_valW rfl (wn rfl) (run_faC2 rfl (show a.tmps.getD 1 undef = _ from (I.oth_at (by kernel_rfl)).trans rfl)) (show _ ∧ _ from ⟨rfl, be.Up.refl _⟩)
    · obtain rfl := Option.some.inj ho
      exact wpOp_valW rfl (wn rfl) (run_ldO (cs := [.int .i64 f2, .int .i64 g2]) rfl (I.val_at (i := 7) (by decide) (hd ⟨7, .data⟩ (by simp) rfl) (.inl rfl) rfl) (RX.out wx I.up).2.2.1 Tryz.underlying23 rfl (by kernel_rfl)) (show _ ∧ _ from ⟨rfl, be.Up.refl _⟩)
    · obtain rfl := Option.some.inj ho
      have v0 := (I.val_at (i := 8) (by decide) (hd ⟨8, .data⟩ (by simp) rfl) (.inl rfl) rfl)
      refine wpOp_callW rfl (wn rfl) (run_cl1 rfl rfl (fun v => enters_of Tryz.func63 (by kernel_rfl) rfl #[v] wx)) ?_
      refine (show Calls Tryz.prog 63 #[a.tmps.getD _ undef] wx _ from ?_)
      rw [v0]
      exact (C4.out wx I.up).mono (by rintro e w' ⟨rfl, hu⟩; exact ⟨_, rfl, (show _ ∧ _ from ⟨rfl, hu⟩)⟩)
    · obtain rfl := Option.some.inj ho
      exact wpOp_valW rfl (wn rfl) (run_faC3 rfl (show a.tmps.getD 1 undef = _ from (I.oth_at (by kernel_rfl)).trans rfl)) (show _ ∧ _ from ⟨rfl, be.Up.refl _⟩)
    · obtain rfl := Option.some.inj ho
      exact wpOp_valW rfl (wn rfl) (run_ldO (cs := [.int .i64 f3, .int .i64 g3]) rfl (I.val_at (i := 10) (by decide) (hd ⟨10, .data⟩ (by simp) rfl) (.inl rfl) rfl) (RX.out wx I.up).2.2.2.1 Tryz.underlying23 rfl (by kernel_rfl)) (show _ ∧ _ from ⟨rfl, be.Up.refl _⟩)
    · obtain rfl := Option.some.inj ho
      have v0 := (I.val_at (i := 11) (by decide) (hd ⟨11, .data⟩ (by simp) rfl) (.inl rfl) rfl)
      refine wpOp_callW rfl (wn rfl) (run_cl1 rfl rfl (fun v => enters_of Tryz.func63 (by kernel_rfl) rfl #[v] wx)) ?_
      refine (show Calls Tryz.prog 63 #[a.tmps.getD _ undef] wx _ from ?_)
      rw [v0]
      exact (C5.out wx I.up).mono (by rintro e w' ⟨rfl, hu⟩; exact ⟨_, rfl, (show _ ∧ _ from ⟨rfl, hu⟩)⟩)
    · obtain rfl := Option.some.inj ho
      exact wpOp_valW rfl (wn rfl) (run_faC4 rfl (show a.tmps.getD 1 undef = _ from (I.oth_at (by kernel_rfl)).trans rfl)) (show _ ∧ _ from ⟨rfl, be.Up.refl _⟩)
    · obtain rfl := Option.some.inj ho
      exact wpOp_valW rfl (wn rfl) (run_ldO (cs := [.int .i64 f4, .int .i64 g4]) rfl (I.val_at (i := 13) (by decide) (hd ⟨13, .data⟩ (by simp) rfl) (.inl rfl) rfl) (RX.out wx I.up).2.2.2.2.1 Tryz.underlying23 rfl (by kernel_rfl)) (show _ ∧ _ from ⟨rfl, be.Up.refl _⟩)
    · obtain rfl := Option.some.inj ho
      have v0 := (I.val_at (i := 14) (by decide) (hd ⟨14, .data⟩ (by simp) rfl) (.inl rfl) rfl)
      refine wpOp_callW rfl (wn rfl) (run_cl1 rfl rfl (fun v => enters_of Tryz.func63 (by kernel_rfl) rfl #[v] wx)) ?_
      refine (show Calls Tryz.prog 63 #[a.tmps.getD _ undef] wx _ from ?_)
      rw [v0]
      exact (C6.out wx I.up).mono (by rintro e w' ⟨rfl, hu⟩; exact ⟨_, rfl, (show _ ∧ _ from ⟨rfl, hu⟩)⟩)
    · obtain rfl := Option.some.inj ho
      exact wpOp_valW rfl (wn rfl) (run_faC5 rfl (show a.tmps.getD 1 undef = _ from (I.oth_at (by kernel_rfl)).trans rfl)) (show _ ∧ _ from ⟨rfl, be.Up.refl _⟩)
    · obtain rfl := Option.some.inj ho
      exact wpOp_valW rfl (wn rfl) (run_ldO (cs := [.int .i64 f5, .int .i64 g5]) rfl (I.val_at (i := 16) (by decide) (hd ⟨16, .data⟩ (by simp) rfl) (.inl rfl) rfl) (RX.out wx I.up).2.2.2.2.2 Tryz.underlying23 rfl (by kernel_rfl)) (show _ ∧ _ from ⟨rfl, be.Up.refl _⟩)
    · obtain rfl := Option.some.inj ho
      have v0 := (I.val_at (i := 17) (by decide) (hd ⟨17, .data⟩ (by simp) rfl) (.inl rfl) rfl)
      refine wpOp_callW rfl (wn rfl) (run_cl1 rfl rfl (fun v => enters_of Tryz.func63 (by kernel_rfl) rfl #[v] wx)) ?_
      refine (show Calls Tryz.prog 63 #[a.tmps.getD _ undef] wx _ from ?_)
      rw [v0]
      exact (C7.out wx I.up).mono (by rintro e w' ⟨rfl, hu⟩; exact ⟨_, rfl, (show _ ∧ _ from ⟨rfl, hu⟩)⟩)
    · obtain rfl := Option.some.inj ho
      exact wpOp_valW rfl (wn rfl) (run_bdS rfl (I.val_at (i := 0) (by decide) (hd ⟨0, .data⟩ (by simp) rfl) (.inl rfl) rfl) (I.val_at (i := 3) (by decide) (hd ⟨3, .data⟩ (by simp) rfl) (.inl rfl) rfl) (I.val_at (i := 6) (by decide) (hd ⟨6, .data⟩ (by simp) rfl) (.inl rfl) rfl) (I.val_at (i := 9) (by decide) (hd ⟨9, .data⟩ (by simp) rfl) (.inl rfl) rfl) (I.val_at (i := 12) (by decide) (hd ⟨12, .data⟩ (by simp) rfl) (.inl rfl) rfl) (I.val_at (i := 15) (by decide) (hd ⟨15, .data⟩ (by simp) rfl) (.inl rfl) rfl) (I.val_at (i := 18) (by decide) (hd ⟨18, .data⟩ (by simp) rfl) (.inl rfl) rfl)) (show _ ∧ _ from ⟨rfl, be.Up.refl _⟩)
  · intro blk listed a' wx I hall
    have fr := I.frameL [(3, (.agg #[.int .i64 1, .int .i64 1])), (4, (.pointer (some ⟨w.heap.size, 0, none⟩))), (5, (.agg #[.int .i64 f0, .int .i64 g0])), (6, (.agg #[.int .i64 s2.1, .int .i64 s2.2])), (7, (.pointer (some ⟨w.heap.size, 2, none⟩))), (8, (.agg #[.int .i64 f1, .int .i64 g1])), (9, (.agg #[.int .i64 s3.1, .int .i64 s3.2])), (10, (.pointer (some ⟨w.heap.size, 4, none⟩))), (11, (.agg #[.int .i64 f2, .int .i64 g2])), (12, (.agg #[.int .i64 s4.1, .int .i64 s4.2])), (13, (.pointer (some ⟨w.heap.size, 6, none⟩))), (14, (.agg #[.int .i64 f3, .int .i64 g3])), (15, (.agg #[.int .i64 s5.1, .int .i64 s5.2])), (16, (.pointer (some ⟨w.heap.size, 8, none⟩))), (17, (.agg #[.int .i64 f4, .int .i64 g4])), (18, (.agg #[.int .i64 s6.1, .int .i64 s6.2])), (19, (.pointer (some ⟨w.heap.size, 10, none⟩))), (20, (.agg #[.int .i64 f5, .int .i64 g5])), (21, (.agg #[.int .i64 s7.1, .int .i64 s7.2])), (22, (.agg #[.int .i64 0, .int .i64 0, .int .i64 1, .int .i64 1, .int .i64 s2.1, .int .i64 s2.2, .int .i64 s3.1, .int .i64 s3.2, .int .i64 s4.1, .int .i64 s4.2, .int .i64 s5.1, .int .i64 s5.2, .int .i64 s6.1, .int .i64 s6.2, .int .i64 s7.1, .int .i64 s7.2]))] (by
      intro p hp
      simp only [List.mem_cons, List.not_mem_nil, or_false] at hp
      rcases hp with rfl | rfl | rfl | rfl | rfl | rfl | rfl | rfl | rfl | rfl | rfl | rfl | rfl | rfl | rfl | rfl | rfl | rfl | rfl | rfl
      · exact ⟨by simp, I.val_at (i := 0) (by decide) (hall _ (by decide)) (.inl rfl) rfl⟩
      · exact ⟨by simp, I.val_at (i := 1) (by decide) (hall _ (by decide)) (.inl rfl) rfl⟩
      · exact ⟨by simp, I.val_at (i := 2) (by decide) (hall _ (by decide)) (.inl rfl) rfl⟩
      · exact ⟨by simp, I.val_at (i := 3) (by decide) (hall _ (by decide)) (.inl rfl) rfl⟩
      · exact ⟨by simp, I.val_at (i := 4) (by decide) (hall _ (by decide)) (.inl rfl) rfl⟩
      · exact ⟨by simp, I.val_at (i := 5) (by decide) (hall _ (by decide)) (.inl rfl) rfl⟩
      · exact ⟨by simp, I.val_at (i := 6) (by decide) (hall _ (by decide)) (.inl rfl) rfl⟩
      · exact ⟨by simp, I.val_at (i := 7) (by decide) (hall _ (by decide)) (.inl rfl) rfl⟩
      · exact ⟨by simp, I.val_at (i := 8) (by decide) (hall _ (by decide)) (.inl rfl) rfl⟩
      · exact ⟨by simp, I.val_at (i := 9) (by decide) (hall _ (by decide)) (.inl rfl) rfl⟩
      · exact ⟨by simp, I.val_at (i := 10) (by decide) (hall _ (by decide)) (.inl rfl) rfl⟩
      · exact ⟨by simp, I.val_at (i := 11) (by decide) (hall _ (by decide)) (.inl rfl) rfl⟩
      · exact ⟨by simp, I.val_at (i := 12) (by decide) (hall _ (by decide)) (.inl rfl) rfl⟩
      · exact ⟨by simp, I.val_at (i := 13) (by decide) (hall _ (by decide)) (.inl rfl) rfl⟩
      · exact ⟨by simp, I.val_at (i := 14) (by decide) (hall _ (by decide)) (.inl rfl) rfl⟩
      · exact ⟨by simp, I.val_at (i := 15) (by decide) (hall _ (by decide)) (.inl rfl) rfl⟩
      · exact ⟨by simp, I.val_at (i := 16) (by decide) (hall _ (by decide)) (.inl rfl) rfl⟩
      · exact ⟨by simp, I.val_at (i := 17) (by decide) (hall _ (by decide)) (.inl rfl) rfl⟩
      · exact ⟨by simp, I.val_at (i := 18) (by decide) (hall _ (by decide)) (.inl rfl) rfl⟩
      · exact ⟨by simp, I.val_at (i := 19) (by decide) (hall _ (by decide)) (.inl rfl) rfl⟩) (by kernel_rfl)
    have BX := hide (show Below W1.heap.size W1 wx from I.up)
    clear I hall
    subst fr
    dsimp only [setsL, List.set_cons_zero, List.set_cons_succ]
    have QR := KR.out wx BX.out
    refine wpOp_stM (b := w.heap.size + 1) (off := 0) (cells := #[.int .i64 0, .int .i64 0, .int .i64 1, .int .i64 1, .int .i64 s2.1, .int .i64 s2.2, .int .i64 s3.1, .int .i64 s3.2, .int .i64 s4.1, .int .i64 s4.2, .int .i64 s5.1, .int .i64 s5.2, .int .i64 s6.1, .int .i64 s6.2, .int .i64 s7.1, .int .i64 s7.2]) rfl rfl rfl rfl rfl (there_blk QR rfl) (by kernel_rfl) (by simp [Value.oneCell']) ?_
    have BW := hide (show Below w.heap.size w (wx.setCells (w.heap.size + 1) 0 [.int .i64 0, .int .i64 0, .int .i64 1, .int .i64 1, .int .i64 s2.1, .int .i64 s2.2, .int .i64 s3.1, .int .i64 s3.2, .int .i64 s4.1, .int .i64 s4.2, .int .i64 s5.1, .int .i64 s5.2, .int .i64 s6.1, .int .i64 s6.2, .int .i64 s7.1, .int .i64 s7.2]) from (bto B0.out BX.out).grown (setCells_grown _ _ _ _) (bto B0.out BX.out).size (fun k hk => by cases hk; omega))
    have RA := World.rangeAt_setCells_same wx (w.heap.size + 1) 0 [.int .i64 0, .int .i64 0, .int .i64 1, .int .i64 1, .int .i64 s2.1, .int .i64 s2.2, .int .i64 s3.1, .int .i64 s3.2, .int .i64 s4.1, .int .i64 s4.2, .int .i64 s5.1, .int .i64 s5.2, .int .i64 s6.1, .int .i64 s6.2, .int .i64 s7.1, .int .i64 s7.2] (there_blk QR rfl)
    go_wp2_with fail
    refine ret_cell (b := w.heap.size + 1) (cs := [.int .i64 0, .int .i64 0, .int .i64 1, .int .i64 1, .int .i64 s2.1, .int .i64 s2.2, .int .i64 s3.1, .int .i64 s3.2, .int .i64 s4.1, .int .i64 s4.2, .int .i64 s5.1, .int .i64 s5.2, .int .i64 s6.1, .int .i64 s6.2, .int .i64 s7.1, .int .i64 s7.2]) Tryz.results42 rfl RA Tryz.underlying69 rfl (by kernel_rfl) rfl ?_
    exact ⟨rfl, BW.out⟩
end Go.Proofs.YtlhmecagijdinaaGreatDoor.nm
set_option linter.unusedVariables false
set_option linter.unusedSimpArgs false
namespace Go.Proofs.YtlhmecagijdinaaGreatDoor.nm
open Go.RowKit cc

theorem szL_len (cs : List (Int × Int)) : (szL cs).length = 8 := rfl
theorem usL_cell (us : List (Int × Int)) : ∀ v ∈ usL us, v.oneCell' = true := by
  intro v hv
  simp only [usL, List.mem_flatMap] at hv
  obtain ⟨r, _, hv⟩ := hv
  simp at hv
  rcases hv with rfl | rfl <;> rfl
theorem eight {l : List (Int × Int)} (h : l.length = 8) : ∃ n0 d0 n1 d1 n2 d2 n3 d3 n4 d4 n5 d5 n6 d6 n7 d7 : Int, l = [(n0, d0), (n1, d1), (n2, d2), (n3, d3), (n4, d4), (n5, d5), (n6, d6), (n7, d7)] := by
  match l, h with
  | [(n0, d0), (n1, d1), (n2, d2), (n3, d3), (n4, d4), (n5, d5), (n6, d6), (n7, d7)], _ => exact ⟨n0, d0, n1, d1, n2, d2, n3, d3, n4, d4, n5, d5, n6, d6, n7, d7, rfl⟩
/-- One of eight fractions. -/
theorem ix8 {l : List (Int × Int)} (h : l.length = 8) {k : Nat} {r : Int × Int} (hr : l[k]? = some r) (W : World) : (Instr.index 69 (.agg (usL l).toArray) (.int .i64 k)).run Tryz.prog W = .ok (.agg #[.int .i64 r.1, .int .i64 r.2]) W := by
  obtain ⟨n0, d0, n1, d1, n2, d2, n3, d3, n4, d4, n5, d5, n6, d6, n7, d7, rfl⟩ := eight h
  obtain ⟨rn, rd⟩ := r
  have hk := (List.getElem?_eq_some_iff.1 hr).1
  simp only [List.length_cons, List.length_nil] at hk
  show (Instr.index 69 (.agg #[.int .i64 n0, .int .i64 d0, .int .i64 n1, .int .i64 d1, .int .i64 n2, .int .i64 d2, .int .i64 n3, .int .i64 d3, .int .i64 n4, .int .i64 d4, .int .i64 n5, .int .i64 d5, .int .i64 n6, .int .i64 d6, .int .i64 n7, .int .i64 d7]) (.int .i64 k)).run Tryz.prog W = .ok (.agg #[.int .i64 rn, .int .i64 rd]) W
  rcases (show k = 0 ∨ k = 1 ∨ k = 2 ∨ k = 3 ∨ k = 4 ∨ k = 5 ∨ k = 6 ∨ k = 7 by omega) with rfl | rfl | rfl | rfl | rfl | rfl | rfl | rfl <;> (simp at hr; obtain ⟨rfl, rfl⟩ := hr; kernel_rfl)
/-- What eight sizes tell. -/
def SzA (sz : Int → Int × Int) (sl : List (Int × Int)) : Prop := sl.length = 8 ∧ (∀ r ∈ sl, R64 r) ∧ ∀ k : Nat, k < 8 → sl[k]? = some (sz k)
theorem sza_cs {cs : List (Int × Int)} (h : ∀ r ∈ cs, R64 r) : SzA (szC cs) (szL cs) := ⟨rfl, szL_64 h, fun k hk => szL_at cs hk⟩
end Go.Proofs.YtlhmecagijdinaaGreatDoor.nm
set_option linter.unusedVariables false
set_option linter.unusedSimpArgs false
namespace Go.Proofs.YtlhmecagijdinaaGreatDoor.nm
open Go.RowKit cc

/-- What the units come to, from the unit i on: nothing stays out. -/
def unT (sz : Int → Int × Int) : Int → List (Int × Int) → List (Int × Int)
  | _, [] => []
  | i, r :: l => if r = (0, 1) then unT sz (i + 1) l else wk.mulAll [r, sz i] :: unT sz (i + 1) l
theorem unT_snoc (sz : Int → Int × Int) : ∀ (l : List (Int × Int)) (i : Int) (r : Int × Int), unT sz i (l ++ [r]) = unT sz i l ++ (if r = (0, 1) then [] else [wk.mulAll [r, sz (i + l.length)]]) := by
  intro l
  induction l with
  | nil => intro i r; simp only [List.nil_append, unT, List.length_nil]; rw [show i + ((0 : Nat) : Int) = i by omega]
  | cons x l ih =>
    intro i r
    have e : i + 1 + (l.length : Int) = i + ((x :: l).length : Nat) := by rw [List.length_cons]; omega
    rw [List.cons_append, unT, unT, ih, e]
    split
    · rfl
    · rfl
theorem unT_len (sz : Int → Int × Int) : ∀ (l : List (Int × Int)) (i : Int), (unT sz i l).length ≤ l.length := by
  intro l
  induction l with
  | nil => intro i; exact Nat.le_refl _
  | cons x l ih =>
    intro i
    rw [unT]
    split
    · have := ih (i + 1); rw [List.length_cons]; omega
    · have := ih (i + 1); rw [List.length_cons, List.length_cons]; omega
theorem unT_64 (sz : Int → Int × Int) : ∀ (l : List (Int × Int)) (i : Int), ∀ r ∈ unT sz i l, R64 r := by
  intro l
  induction l with
  | nil => intro i r hr; cases hr
  | cons x l ih =>
    intro i r hr
    rw [unT] at hr
    split at hr
    · exact ih _ r hr
    · rcases List.mem_cons.1 hr with rfl | hr
      · exact wk.mulAll_I64 _
      · exact ih _ r hr
theorem unT_step {sz : Int → Int × Int} {us : List (Int × Int)} {k : Nat} {r : Int × Int} (h : us[k]? = some r) : unT sz 1 (us.take (k + 1)) = unT sz 1 (us.take k) ++ (if r = (0, 1) then [] else [wk.mulAll [r, sz ((k + 1 : Nat) : Int)]]) := by
  have hk := (List.getElem?_eq_some_iff.1 h).1
  rw [List.take_add_one, h]
  show unT sz 1 (us.take k ++ [r]) = _
  rw [unT_snoc, List.length_take, Nat.min_eq_left (by omega), show (1 : Int) + (k : Int) = ((k + 1 : Nat) : Int) by omega]
def ptP (X : Fo → Int × Int) (p : Pa) : Int × Int := wk.utAll (if p.1 then 1 else -1) (p.2.map X)
def pxG (sz : Int → Int × Int) (X : Fo → Int × Int) (f : Fo) : Int × Int := wk.addAll (unT sz 1 f.us ++ f.ps.map (ptP X))
/-- A form in px, its parts' forms at most so deep. -/
def pxN (sz : Int → Int × Int) : Nat → Fo → Int × Int
  | 0, _ => (0, 0)
  | n + 1, f => pxG sz (pxN sz n) f
theorem pxN_succ (sz : Int → Int × Int) (n : Nat) (f : Fo) : pxN sz (n + 1) f = wk.addAll (unT sz 1 f.us ++ f.ps.map (ptP (pxN sz n))) := rfl
theorem pxN_64 (sz : Int → Int × Int) (n : Nat) (f : Fo) : R64 (pxN sz n f) := by
  cases n with
  | zero => exact r64_zero
  | succ n => exact wk.addAll_I64 _
theorem ptP_64 (sz : Int → Int × Int) (n : Nat) (p : Pa) : R64 (ptP (pxN sz n) p) := by
  unfold ptP
  exact ut_64 _ (fun r hr => by obtain ⟨y, _, rfl⟩ := List.mem_map.1 hr; exact pxN_64 sz n y)
theorem terms_64 (sz : Int → Int × Int) (n : Nat) (us : List (Int × Int)) (ps : List Pa) : ∀ r ∈ unT sz 1 us ++ ps.map (ptP (pxN sz n)), R64 r := by
  intro r hr
  rcases List.mem_append.1 hr with hr | hr
  · exact unT_64 sz us 1 r hr
  · obtain ⟨p, _, rfl⟩ := List.mem_map.1 hr; exact ptP_64 sz n p
/-- The variable that is nothing, of package unit. -/
def NthU (w : World) : Prop := 1 < w.heap.size ∧ w.cell? ⟨1, 0, none⟩ = some (.int .i64 0) ∧ w.cell? ⟨1, 1, none⟩ = some (.int .i64 1)
theorem NthU.low {w w' : World} (h : NthU w) (hw : Below w.heap.size w w') : NthU w' := ⟨Nat.lt_of_lt_of_le h.1 hw.size, (hw.cell (p := ⟨1, 0, none⟩) h.1).trans h.2.1, (hw.cell (p := ⟨1, 1, none⟩) h.1).trans h.2.2⟩
/-- A form's fractions on their way into px: by the program. -/
def RelPx (w : World) (sl fl : List Value) (rs : Nat → List (Int × Int)) (n : Nat) (lv i : Value) (wr : World) : Prop := ∃ (k : Nat) (l : Value), l = lv ∧ i = .int .i64 k ∧ k ≤ n ∧ Hid (wr.ownsRow (w.heap.size + 3) 23 2 lv (rs k).length (usL (rs k)) ∧ Bk wr (w.heap.size + 2) 23 [.int .i64 0, .int .i64 0] ∧ Bk wr (w.heap.size + 1) 30 fl ∧ Bk wr w.heap.size 69 sl ∧ Below w.heap.size w wr)
theorem RelPx.mk {w : World} {sl fl : List Value} {rs : Nat → List (Int × Int)} {n : Nat} {lv i : Value} {wr : World} (k : Nat) (h1 : i = .int .i64 k) (h2 : k ≤ n) (h3 : wr.ownsRow (w.heap.size + 3) 23 2 lv (rs k).length (usL (rs k))) (h4 : Bk wr (w.heap.size + 2) 23 [.int .i64 0, .int .i64 0]) (h5 : Bk wr (w.heap.size + 1) 30 fl) (h6 : Bk wr w.heap.size 69 sl) (h7 : Below w.heap.size w wr) : RelPx w sl fl rs n lv i wr := ⟨k, lv, rfl, h1, h2, h3, h4, h5, h6, h7⟩
def PxC (sz : Int → Int × Int) (sl : List (Int × Int)) (n : Nat) : Prop := ∀ (us : List (Int × Int)) (ps : List Pa) (u : Value) (w : World), NthU w → Us us → PM w n u ps → Calls Tryz.prog 43 #[.agg (usL sl).toArray, foV us u] w fun e w' => e = .returned (ratV (pxN sz (n + 1) (.mk us ps))) ∧ Below w.heap.size w w'
def PtC (sz : Int → Int × Int) (sl : List (Int × Int)) (n : Nat) : Prop := ∀ (p : Pa) (u : Value) (w : World), NthU w → FM w n u p.2 → Calls Tryz.prog 65 #[.agg (usL sl).toArray, .agg #[.bool p.1, u]] w fun e w' => e = .returned (ratV (ptP (pxN sz n) p)) ∧ Below w.heap.size w w'
end Go.Proofs.YtlhmecagijdinaaGreatDoor.nm
