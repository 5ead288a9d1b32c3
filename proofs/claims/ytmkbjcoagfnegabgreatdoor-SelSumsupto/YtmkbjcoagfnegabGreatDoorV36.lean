/-
  Weights: plain; which is less, by the program and by the reference.
  The sum of two weights, by the program.
  The greatest of some weights, by the program.
  What selectors weigh: plain; a simple selector, by the program.
-/
import Derived.Test.YtmkbjcoagfnegabGreatDoorV35
import Derived.Test.YtmkbjcoagfnegabGreatDoorV12
import Derived.Deep.RegionHeld3
import Derived.Test.YtmkbjcoagfnegabGreatDoorV33
set_option linter.unusedVariables false
set_option linter.unusedSimpArgs false
namespace Go.Proofs.YtmkbjcoagfnegabGreatDoor
open Go.RowKit

/-- A weight: three numbers. -/
abbrev Wt := Int × Int × Int
def ltW (x y : Wt) : Bool := if x.1 = y.1 then (if x.2.1 = y.2.1 then decide (x.2.2 < y.2.2) else decide (x.2.1 < y.2.1)) else decide (x.1 < y.1)
def upW (m x : Wt) : Wt := if ltW m x then x else m
def z3 : Wt := (0, 0, 0)
def moW : List Wt → Wt
  | [] => z3
  | x :: r => r.foldl upW x
def adW (x y : Wt) : Wt := (x.1 + y.1, x.2.1 + y.2.1, x.2.2 + y.2.2)
def wV (x : Wt) : Value := .agg #[.int .i64 x.1, .int .i64 x.2.1, .int .i64 x.2.2]
/-- A weight in a block of its own. -/
def Bk3 (w : World) (b : Nat) (x : Wt) : Prop := w.heap[b]? = some (.cells #[.int .i64 x.1, .int .i64 x.2.1, .int .i64 x.2.2] 26)
theorem Bk3.cells {w : World} {b : Nat} {x : Wt} (h : Bk3 w b x) : w.cell? ⟨b, 0, none⟩ = some (.int .i64 x.1) ∧ w.cell? ⟨b, 1, none⟩ = some (.int .i64 x.2.1) ∧ w.cell? ⟨b, 2, none⟩ = some (.int .i64 x.2.2) := ⟨by rw [row_blk h]; rfl, by rw [row_blk h]; rfl, by rw [row_blk h]; rfl⟩
theorem Bk3.fz {w : World} {b : Nat} {x : Wt} (h : Bk3 w b x) : ∀ j, w.frozen? ⟨b, j, none⟩ = false := fun j => by simp [World.frozen?, show w.heap[b]? = _ from h]
theorem Bk3.lt {w : World} {b : Nat} {x : Wt} (h : Bk3 w b x) : b < w.heap.size := (Array.getElem?_eq_some_iff.1 h).1
theorem Bk3.low {w w' : World} {b B : Nat} {x : Wt} (h : Bk3 w b x) (hw : Below B w w') (hb : b < B) : Bk3 w' b x := (hw.block _ hb).trans h
theorem Bk3.up {w w' : World} {b : Nat} {x : Wt} (h : Bk3 w b x) (hw : Below w.heap.size w w') : Bk3 w' b x := h.low hw h.lt
theorem Bk3.new (w : World) (x : Wt) : Bk3 (w.alloc (.cells #[.int .i64 x.1, .int .i64 x.2.1, .int .i64 x.2.2] 26)) w.heap.size x := heap_alloc_new w _
theorem Bk3.more {w : World} {b : Nat} {x : Wt} (h : Bk3 w b x) (o : Obj) : Bk3 (w.alloc o) b x := (Below.heap_alloc w o b h.lt).trans h
theorem Bk3.put {w : World} {b : Nat} {x : Wt} (h : Bk3 w b x) (y : Wt) : Bk3 (((w.setCell ⟨b, 0, none⟩ (.int .i64 y.1)).setCell ⟨b, 1, none⟩ (.int .i64 y.2.1)).setCell ⟨b, 2, none⟩ (.int .i64 y.2.2)) b y := by
  have h1 := setCell_blk (setCell_blk (setCell_blk (j := 0) h (.int .i64 y.1)) (j := 1) (.int .i64 y.2.1)) (j := 2) (.int .i64 y.2.2)
  exact h1
theorem Bk3.far {w : World} {b r : Nat} {x : Wt} (h : Bk3 w b x) (hr : b ≠ r) (i : Nat) (u : Value) : Bk3 (w.setCell ⟨r, i, none⟩ u) b x := (Below.heap_setCell w ⟨r, i, none⟩ u b hr).trans h
theorem below_put {w0 w : World} {b : Nat} (h : Below w0.heap.size w0 w) (hb : w0.heap.size ≤ b) (u0 u1 u2 : Value) : Below w0.heap.size w0 (((w.setCell ⟨b, 0, none⟩ u0).setCell ⟨b, 1, none⟩ u1).setCell ⟨b, 2, none⟩ u2) := ((h.setCell hb _).setCell hb _).setCell hb _
theorem ltW_0 {a0 a1 a2 b0 b1 b2 : Int} (h : ¬ a0 = b0) : ltW (a0, a1, a2) (b0, b1, b2) = decide (a0 < b0) := by unfold ltW; simp [h]
theorem ltW_1 {a0 a1 a2 b1 b2 : Int} (h : ¬ a1 = b1) : ltW (a0, a1, a2) (a0, b1, b2) = decide (a1 < b1) := by unfold ltW; simp [h]
theorem ltW_2 {a0 a1 a2 b2 : Int} : ltW (a0, a1, a2) (a0, a1, b2) = decide (a2 < b2) := by unfold ltW; simp
/-- The state of the search for the first that differs. -/
def RelLs (a0 a1 b0 b1 : Int) (w : World) (i : Value) (wr : World) : Prop := (i = .int .i64 0 ∨ (i = .int .i64 1 ∧ a0 = b0) ∨ (i = .int .i64 2 ∧ a0 = b0 ∧ a1 = b1)) ∧ ∃ q, wr = w.drewN q
theorem RelLs.one {a0 a1 b0 b1 : Int} {w wr : World} {i : Value} (h : i = .int .i64 1) (h0 : a0 = b0) (q : ∃ q, wr = w.drewN q) : RelLs a0 a1 b0 b1 w i wr := ⟨.inr (.inl ⟨h, h0⟩), q⟩
theorem RelLs.two {a0 a1 b0 b1 : Int} {w wr : World} {i : Value} (h : i = .int .i64 2) (h0 : a0 = b0) (h1 : a1 = b1) (q : ∃ q, wr = w.drewN q) : RelLs a0 a1 b0 b1 w i wr := ⟨.inr (.inr ⟨h, h0, h1⟩), q⟩
set_option maxRecDepth 100000 in
set_option maxHeartbeats 4000000 in
theorem lessP_any (x y : Wt) (w : World) : Calls Tryz.prog 46 #[wV x, wV y] w fun e w' => e = .returned (.bool (ltW x y)) ∧ Below w.heap.size w w' := by
  obtain ⟨a0, a1, a2⟩ := x
  obtain ⟨b0, b1, b2⟩ := y
  unfold wV
  simp only
  obtain ⟨W1, hW1⟩ : ∃ W1, (w.alloc (.cells #[.int .i64 a0, .int .i64 a1, .int .i64 a2] 26)).alloc (.cells #[.int .i64 b0, .int .i64 b1, .int .i64 b2] 26) = W1 := ⟨_, rfl⟩
  have HW1 := hide hW1
  have B0 := hide (show Below w.heap.size w W1 by rw [← hW1]; exact bplus (bplus (Below.refl _ _) _) _)
  have P0 := hide (show Bk3 W1 w.heap.size (a0, a1, a2) by rw [← hW1]; exact (Bk3.new w (a0, a1, a2)).more _)
  have P1 := hide (show Bk3 W1 (w.heap.size + 1) (b0, b1, b2) by rw [← hW1]; have := Bk3.new (w.alloc (.cells #[.int .i64 a0, .int .i64 a1, .int .i64 a2] 26)) (b0, b1, b2); simpa using this)
  clear hW1
  obtain ⟨p0, p1, p2⟩ := P0.out.cells
  obtain ⟨q0, q1, q2⟩ := P1.out.cells
  simp only at p0 p1 p2 q0 q1 q2
  by_cases e : a0 = b0 ∧ a1 = b1 ∧ a2 = b2
  · obtain ⟨rfl, rfl, rfl⟩ := e
    have E := hide (show ltW (a0, a1, a2) (a0, a1, a2) = false by simp [ltW])
    go_enter Tryz.func46, Tryz.ntmps46
    go_wp2_with fail
    rw [HW1.out]
    go_wp2
    go_ret
    exact ⟨ret_bool E.out.symm, B0.out⟩
  · have hE : ((a0 == b0) && ((a1 == b1) && (a2 == b2))) = false := by rw [Bool.eq_false_iff]; intro k; simp at k; exact e k
    have NE := hide e
    clear e
    go_enter Tryz.func46, Tryz.ntmps46
    go_wp2_with fail
    rw [HW1.out]
    go_wp2_with fail
    go_loopw [5] (fun i wr => RelLs a0 a1 b0 b1 W1 i wr) (fun i _ => 3 - (intOf i).toNat)
    case atStart => exact ⟨.inl rfl, 0, rfl⟩
    case round =>
      obtain ⟨hi, q, hq⟩ := hrel
      have HQ := hide hq
      have k0 : wr.cell? ⟨w.heap.size, 0, none⟩ = some (.int .i64 a0) := by rw [hq]; exact p0
      have k1 : wr.cell? ⟨w.heap.size, 1, none⟩ = some (.int .i64 a1) := by rw [hq]; exact p1
      have k2 : wr.cell? ⟨w.heap.size, 2, none⟩ = some (.int .i64 a2) := by rw [hq]; exact p2
      have l0 : wr.cell? ⟨w.heap.size + 1, 0, none⟩ = some (.int .i64 b0) := by rw [hq]; exact q0
      have l1 : wr.cell? ⟨w.heap.size + 1, 1, none⟩ = some (.int .i64 b1) := by rw [hq]; exact q1
      have l2 : wr.cell? ⟨w.heap.size + 1, 2, none⟩ = some (.int .i64 b2) := by rw [hq]; exact q2
      have BQ := hide (show ∀ m n, Below w.heap.size w ((wr.drewN m).drewN n) by intro m n; rw [hq]; exact below_drewN (below_drewN (below_drewN B0.out _) _) _)
      clear hq hE p0 p1 p2 q0 q1 q2
      rcases hi with rfl | ⟨rfl, rfl⟩ | ⟨rfl, rfl, rfl⟩
      · by_cases e0 : a0 = b0
        · have g0 : (a0 == b0) = true := by simpa using e0
          have E0 := hide e0
          clear e0
          go_wp2
          go_quiet (fail)
          go_wp2
          go_roundw
          case rel => exact .one (by go_num) E0.out ⟨_, by rw [HQ.out]; exact World.drewN_drewN _ _ _⟩
          case measure => simp [intOf]
        · have g0 : (a0 == b0) = false := by simpa using e0
          have E := hide (@ltW_0 a0 a1 a2 b0 b1 b2 e0)
          go_wp2
          go_quiet (fail)
          go_wp2
          go_quiet (fail)
          go_wp2
          go_ret
          exact ⟨ret_bool E.out.symm, BQ.out _ _⟩
      · by_cases e0 : a1 = b1
        · have g0 : (a1 == b1) = true := by simpa using e0
          have E0 := hide e0
          clear e0
          go_wp2
          go_quiet (fail)
          go_wp2
          go_roundw
          case rel => exact .two (by go_num) rfl E0.out ⟨_, by rw [HQ.out]; exact World.drewN_drewN _ _ _⟩
          case measure => simp [intOf]
        · have g0 : (a1 == b1) = false := by simpa using e0
          have E := hide (@ltW_1 a0 a1 a2 b1 b2 e0)
          go_wp2
          go_quiet (fail)
          go_wp2
          go_quiet (fail)
          go_wp2
          go_ret
          exact ⟨ret_bool E.out.symm, BQ.out _ _⟩
      · have e0 : ¬ a2 = b2 := fun e => NE.out ⟨rfl, rfl, e⟩
        have g0 : (a2 == b2) = false := by simpa using e0
        have E := hide (@ltW_2 a0 a1 a2 b2)
        go_wp2
        go_quiet (fail)
        go_wp2
        go_quiet (fail)
        go_wp2
        go_ret
        exact ⟨ret_bool E.out.symm, BQ.out _ _⟩
/-- The state of the reference's search. -/
def RelLr (a0 a1 a2 b0 b1 b2 : Int) (w : World) (i : Value) (wr : World) : Prop := (i = .int .i64 0 ∨ (i = .int .i64 1 ∧ a0 = b0) ∨ (i = .int .i64 2 ∧ a0 = b0 ∧ a1 = b1) ∨ (i = .int .i64 3 ∧ a0 = b0 ∧ a1 = b1 ∧ a2 = b2)) ∧ ∃ q, wr = w.drewN q
theorem RelLr.one {a0 a1 a2 b0 b1 b2 : Int} {w wr : World} {i : Value} (h : i = .int .i64 1) (h0 : a0 = b0) (q : ∃ q, wr = w.drewN q) : RelLr a0 a1 a2 b0 b1 b2 w i wr := ⟨.inr (.inl ⟨h, h0⟩), q⟩
theorem RelLr.two {a0 a1 a2 b0 b1 b2 : Int} {w wr : World} {i : Value} (h : i = .int .i64 2) (h0 : a0 = b0) (h1 : a1 = b1) (q : ∃ q, wr = w.drewN q) : RelLr a0 a1 a2 b0 b1 b2 w i wr := ⟨.inr (.inr (.inl ⟨h, h0, h1⟩)), q⟩
theorem RelLr.three {a0 a1 a2 b0 b1 b2 : Int} {w wr : World} {i : Value} (h : i = .int .i64 3) (h0 : a0 = b0) (h1 : a1 = b1) (h2 : a2 = b2) (q : ∃ q, wr = w.drewN q) : RelLr a0 a1 a2 b0 b1 b2 w i wr := ⟨.inr (.inr (.inr ⟨h, h0, h1, h2⟩)), q⟩
end Go.Proofs.YtmkbjcoagfnegabGreatDoor
set_option linter.unusedVariables false
set_option linter.unusedSimpArgs false
namespace Go.Proofs.YtmkbjcoagfnegabGreatDoor
open Go.RowKit

def In3 (x : Wt) (B : Nat) : Prop := (0 ≤ x.1 ∧ x.1 ≤ B) ∧ (0 ≤ x.2.1 ∧ x.2.1 ≤ B) ∧ (0 ≤ x.2.2 ∧ x.2.2 ≤ B)
/-- A weight that is told out of a block of its own. -/
theorem ret3 {fn : Func} {R : Ending → World → Prop} {a : Act} {w : World} {t : Tmp} {b : Nat} {x : Wt} (hf : fn.results = #[.cell t 26]) (ht : a.tmps.getD t undef = .pointer (some ⟨b, 0, none⟩)) (hb : Bk3 w b x) (hd : a.defers = []) (h : R (.returned (wV x)) w) : bodyPost Tryz.prog fn R .ret a w :=
  ret_cell (cs := [.int .i64 x.1, .int .i64 x.2.1, .int .i64 x.2.2]) hf ht (range_blk (cs := [.int .i64 x.1, .int .i64 x.2.1, .int .i64 x.2.2]) hb) Tryz.underlying26 rfl (by kernel_rfl) hd h
def mix (i : Int) (x y : Wt) : Wt := if i = 0 then x else if i = 1 then (x.1 + y.1, x.2.1, x.2.2) else if i = 2 then (x.1 + y.1, x.2.1 + y.2.1, x.2.2) else adW x y
/-- The state of the loop of plus. -/
def RelPl (w : World) (x y : Wt) (i : Value) (wr : World) : Prop := ∃ k : Int, i = .int .i64 k ∧ (k = 0 ∨ k = 1 ∨ k = 2 ∨ k = 3) ∧ Hid (Bk3 wr w.heap.size (mix k x y) ∧ Bk3 wr (w.heap.size + 1) y ∧ Bk3 wr (w.heap.size + 2) z3 ∧ Below w.heap.size w wr)
theorem RelPl.mk {w : World} {x y : Wt} {i : Value} {wr : World} (k : Int) (h : i = .int .i64 k) (hk : k = 0 ∨ k = 1 ∨ k = 2 ∨ k = 3) (h1 : Bk3 wr w.heap.size (mix k x y)) (h2 : Bk3 wr (w.heap.size + 1) y) (h3 : Bk3 wr (w.heap.size + 2) z3) (h4 : Below w.heap.size w wr) : RelPl w x y i wr := ⟨k, h, hk, h1, h2, h3, h4⟩
set_option maxRecDepth 100000 in
set_option maxHeartbeats 4000000 in
theorem plusP_any (x y : Wt) (A B : Nat) (w : World) (hx : In3 x A) (hy : In3 y B) (hA : A ≤ 1000000000000) (hB : B ≤ 1000000000000) : Calls Tryz.prog 20 #[wV x, wV y] w fun e w' => e = .returned (wV (adW x y)) ∧ Below w.heap.size w w' := by
  obtain ⟨a0, a1, a2⟩ := x
  obtain ⟨b0, b1, b2⟩ := y
  obtain ⟨⟨x1, x2⟩, ⟨x3, x4⟩, x5, x6⟩ := hx
  obtain ⟨⟨y1, y2⟩, ⟨y3, y4⟩, y5, y6⟩ := hy
  simp only at x1 x2 x3 x4 x5 x6 y1 y2 y3 y4 y5 y6
  have w0 : IntKind.i64.wrap (a0 + b0) = a0 + b0 := by simp [IntKind.wrap, go_sem]; omega
  have w1 : IntKind.i64.wrap (a1 + b1) = a1 + b1 := by simp [IntKind.wrap, go_sem]; omega
  have w2 : IntKind.i64.wrap (a2 + b2) = a2 + b2 := by simp [IntKind.wrap, go_sem]; omega
  clear x1 x2 x3 x4 x5 x6 y1 y2 y3 y4 y5 y6 hA hB
  unfold wV
  simp only
  obtain ⟨W1, hW1⟩ : ∃ W1, ((w.alloc (.cells #[.int .i64 a0, .int .i64 a1, .int .i64 a2] 26)).alloc (.cells #[.int .i64 b0, .int .i64 b1, .int .i64 b2] 26)).alloc (.cells #[.int .i64 0, .int .i64 0, .int .i64 0] 26) = W1 := ⟨_, rfl⟩
  have HW1 := hide hW1
  have B0 := hide (show Below w.heap.size w W1 by rw [← hW1]; exact bplus (bplus (bplus (Below.refl _ _) _) _) _)
  have P0 := hide (show Bk3 W1 w.heap.size (a0, a1, a2) by rw [← hW1]; exact ((Bk3.new w (a0, a1, a2)).more _).more _)
  have P1 := hide (show Bk3 W1 (w.heap.size + 1) (b0, b1, b2) by rw [← hW1]; have := (Bk3.new (w.alloc (.cells #[.int .i64 a0, .int .i64 a1, .int .i64 a2] 26)) (b0, b1, b2)).more (.cells #[.int .i64 0, .int .i64 0, .int .i64 0] 26); simpa using this)
  have P2 := hide (show Bk3 W1 (w.heap.size + 2) z3 by rw [← hW1]; have := Bk3.new ((w.alloc (.cells #[.int .i64 a0, .int .i64 a1, .int .i64 a2] 26)).alloc (.cells #[.int .i64 b0, .int .i64 b1, .int .i64 b2] 26)) z3; simpa [z3] using this)
  clear hW1
  go_enter Tryz.func20, Tryz.ntmps20
  go_wp2_with fail
  rw [HW1.out]
  go_wp2_with fail
  go_loopw [6] (fun i wr => RelPl w (a0, a1, a2) (b0, b1, b2) i wr) (fun i _ => 3 - (intOf i).toNat)
  case atStart => exact .mk 0 rfl (.inl rfl) P0.out P1.out P2.out B0.out
  case round =>
    obtain ⟨k, rfl, hk, R⟩ := hrel
    have Q0 := hide R.out.1
    have Q1 := hide R.out.2.1
    have Q2 := hide R.out.2.2.1
    have BW := hide R.out.2.2.2
    clear R P0 P1 P2 B0 HW1
    have c0 := Q0.out.cells.1
    have c1 := Q0.out.cells.2.1
    have c2 := Q0.out.cells.2.2
    have z0 := Q0.out.fz 0
    have z1 := Q0.out.fz 1
    have z2 := Q0.out.fz 2
    obtain ⟨d0, d1, d2⟩ := Q1.out.cells
    obtain ⟨e0, e1, e2⟩ := Q2.out.cells
    have v0 := Q2.out.fz 0
    have v1 := Q2.out.fz 1
    have v2 := Q2.out.fz 2
    rcases hk with rfl | rfl | rfl | rfl
    · simp only [mix, reduceIte, show ¬ (1 : Int) = 0 by decide, show ¬ (2 : Int) = 0 by decide, show ¬ (2 : Int) = 1 by decide] at c0 c1 c2
      have N := hide (show Bk3 (wr.setCell ⟨w.heap.size, 0, none⟩ (.int .i64 (a0 + b0))) w.heap.size (a0 + b0, a1, a2) from setCell_blk Q0.out _)
      have N1 := hide (Q1.out.far (r := w.heap.size) (by omega) 0 (.int .i64 (a0 + b0)))
      have N2 := hide (Q2.out.far (r := w.heap.size) (by omega) 0 (.int .i64 (a0 + b0)))
      have BN := hide ((BW.out.setCell (p := ⟨w.heap.size, 0, none⟩) (Nat.le_refl _) (.int .i64 (a0 + b0))).drew)
      go_wp2
      go_region
      go_wp2
      go_roundw
      case rel => exact .mk 1 (by go_num) (by omega) N.out N1.out N2.out BN.out
      case measure => simp [intOf]
    · simp only [mix, reduceIte, show ¬ (1 : Int) = 0 by decide, show ¬ (2 : Int) = 0 by decide, show ¬ (2 : Int) = 1 by decide] at c0 c1 c2
      have N := hide (show Bk3 (wr.setCell ⟨w.heap.size, 1, none⟩ (.int .i64 (a1 + b1))) w.heap.size (a0 + b0, a1 + b1, a2) from setCell_blk Q0.out _)
      have N1 := hide (Q1.out.far (r := w.heap.size) (by omega) 1 (.int .i64 (a1 + b1)))
      have N2 := hide (Q2.out.far (r := w.heap.size) (by omega) 1 (.int .i64 (a1 + b1)))
      have BN := hide ((BW.out.setCell (p := ⟨w.heap.size, 1, none⟩) (Nat.le_refl _) (.int .i64 (a1 + b1))).drew)
      go_wp2
      go_region
      go_wp2
      go_roundw
      case rel => exact .mk 2 (by go_num) (by omega) N.out N1.out N2.out BN.out
      case measure => simp [intOf]
    · simp only [mix, reduceIte, show ¬ (1 : Int) = 0 by decide, show ¬ (2 : Int) = 0 by decide, show ¬ (2 : Int) = 1 by decide] at c0 c1 c2
      have N := hide (show Bk3 (wr.setCell ⟨w.heap.size, 2, none⟩ (.int .i64 (a2 + b2))) w.heap.size (a0 + b0, a1 + b1, a2 + b2) from setCell_blk Q0.out _)
      have N1 := hide (Q1.out.far (r := w.heap.size) (by omega) 2 (.int .i64 (a2 + b2)))
      have N2 := hide (Q2.out.far (r := w.heap.size) (by omega) 2 (.int .i64 (a2 + b2)))
      have BN := hide ((BW.out.setCell (p := ⟨w.heap.size, 2, none⟩) (Nat.le_refl _) (.int .i64 (a2 + b2))).drew)
      go_wp2
      go_region
      go_wp2
      go_roundw
      case rel => exact .mk 3 (by go_num) (by omega) N.out N1.out N2.out BN.out
      case measure => simp [intOf]
    · simp only [mix, reduceIte, show ¬ (3 : Int) = 0 by decide, show ¬ (3 : Int) = 1 by decide, show ¬ (3 : Int) = 2 by decide, adW] at c0 c1 c2
      have N := hide (Q2.out.put (adW (a0, a1, a2) (b0, b1, b2)))
      have BN := hide (below_put (b := w.heap.size + 2) BW.out (by omega) (.int .i64 (a0 + b0)) (.int .i64 (a1 + b1)) (.int .i64 (a2 + b2)))
      go_wp2
      exact ret3 (b := w.heap.size + 2) Tryz.results20 rfl N.out rfl ⟨rfl, BN.out⟩
end Go.Proofs.YtmkbjcoagfnegabGreatDoor
set_option linter.unusedVariables false
set_option linter.unusedSimpArgs false
namespace Go.Proofs.YtmkbjcoagfnegabGreatDoor
open Go.RowKit

/-- A row of weights in memory. -/
def W3R (w : World) (b o : Nat) (x : Wt) : Prop := w.cell? ⟨b, o, none⟩ = some (.int .i64 x.1) ∧ w.cell? ⟨b, o + 1, none⟩ = some (.int .i64 x.2.1) ∧ w.cell? ⟨b, o + 2, none⟩ = some (.int .i64 x.2.2)
def WsM (w : World) (v : Value) (l : List Wt) : Prop := RowOf w 3 (W3R w) v l
theorem WsM.low {w w' : World} (hw : Below w.heap.size w w') {v : Value} {l : List Wt} (h : WsM w v l) : WsM w' v l := RowOf.mono h hw.size (fun b o x hb _ hx => ⟨(hw.cell (p := ⟨b, o, none⟩) hb).trans hx.1, (hw.cell (p := ⟨b, o + 1, none⟩) hb).trans hx.2.1, (hw.cell (p := ⟨b, o + 2, none⟩) hb).trans hx.2.2⟩)
/-- The state of the search for the greatest. -/
def RelMo (w : World) (x : Wt) (r : List Wt) (i : Value) (wr : World) : Prop := ∃ k : Nat, i = .int .i64 k ∧ k ≤ r.length ∧ Hid (Bk3 wr (w.heap.size + 1) ((r.take k).foldl upW x) ∧ Bk3 wr w.heap.size z3 ∧ Below w.heap.size w wr)
theorem RelMo.mk {w : World} {x : Wt} {r : List Wt} {i : Value} {wr : World} (k : Nat) (h : i = .int .i64 k) (hk : k ≤ r.length) (h1 : Bk3 wr (w.heap.size + 1) ((r.take k).foldl upW x)) (h2 : Bk3 wr w.heap.size z3) (h3 : Below w.heap.size w wr) : RelMo w x r i wr := ⟨k, h, hk, h1, h2, h3⟩
theorem fold_take {x : Wt} {r : List Wt} {k : Nat} {y : Wt} (h : r[k]? = some y) : (r.take (k + 1)).foldl upW x = upW ((r.take k).foldl upW x) y := by
  obtain ⟨hi, rfl⟩ := List.getElem?_eq_some_iff.1 h
  rw [List.take_succ_eq_append_getElem hi, List.foldl_append]
  rfl
theorem upW_t {m x : Wt} (h : ltW m x = true) : upW m x = x := by unfold upW; rw [h]; rfl
theorem upW_f {m x : Wt} (h : ltW m x = false) : upW m x = m := by unfold upW; rw [h]; rfl
set_option maxRecDepth 100000 in
set_option maxHeartbeats 4000000 in
theorem mostP_any (l : List Wt) (v : Value) (w : World) (hv : WsM w v l) : Calls Tryz.prog 36 #[v] w fun e w' => e = .returned (wV (moW l)) ∧ Below w.heap.size w w' := by
  cases l with
  | nil =>
    obtain ⟨a, c, rfl, _⟩ := RowOf.shape hv
    have N := hide (show Bk3 (w.alloc (.cells #[.int .i64 0, .int .i64 0, .int .i64 0] 26)) w.heap.size z3 from Bk3.new w z3)
    have BN := hide (bplus (Below.refl w.heap.size w) (.cells #[.int .i64 0, .int .i64 0, .int .i64 0] 26))
    go_enter Tryz.func36, Tryz.ntmps36
    go_wp2
    exact ret3 (b := w.heap.size) Tryz.results36 rfl N.out rfl ⟨rfl, BN.out⟩
  | cons x r =>
    obtain ⟨b, o, c, hvs, hb, hc, hm, f0, f1, f2⟩ := RowOf.at hv (i := 0) (x := x) rfl
    have h9 := (RowOf.shape hv).choose_spec.choose_spec.2
    rw [Nat.zero_mul, Nat.add_zero] at f0 f1 f2
    subst hvs
    have HV := hide (show ∀ k y, r[k]? = some y → W3R w b (o + 3 + k * 3) y from fun k y hk => by
      obtain ⟨b', o', c', e, _, _, _, h⟩ := RowOf.at hv (i := k + 1) (x := y) (by simpa using hk)
      cases e
      rw [show o + 3 + k * 3 = o + (k + 1) * 3 by omega]
      exact h)
    have hlen : (x :: r).length = r.length + 1 := rfl
    rw [hlen] at hc h9 ⊢
    clear hlen hv
    have E := hide (show moW (x :: r) = (r.take r.length).foldl upW x by rw [List.take_length]; rfl)
    generalize moW (x :: r) = MM at E ⊢
    have g0 : (((r.length : Int) + 1) == 0) = false := by rw [beq_eq_false_iff_ne]; omega
    have g1 : ¬ ((r.length : Int) + 1 = 0) := by omega
    have g2 : (0 : Int) < (r.length : Int) + 1 := by omega
    obtain ⟨x0, x1, x2⟩ := x
    simp only at f0 f1 f2
    obtain ⟨W1, hW1⟩ : ∃ W1, (w.alloc (.cells #[.int .i64 0, .int .i64 0, .int .i64 0] 26)).alloc (.cells #[.int .i64 x0, .int .i64 x1, .int .i64 x2] 26) = W1 := ⟨_, rfl⟩
    have HW1 := hide hW1
    have B0 := hide (show Below w.heap.size w W1 by rw [← hW1]; exact bplus (bplus (Below.refl _ _) _) _)
    have P0 := hide (show Bk3 W1 w.heap.size z3 by rw [← hW1]; exact (Bk3.new w z3).more _)
    have P1 := hide (show Bk3 W1 (w.heap.size + 1) (x0, x1, x2) by rw [← hW1]; have := Bk3.new (w.alloc (.cells #[.int .i64 0, .int .i64 0, .int .i64 0] 26)) (x0, x1, x2); simpa using this)
    clear hW1
    have hbs : b ≠ w.heap.size := by omega
    have hlc : (r.length : Int) + 1 ≤ c := by omega
    by_cases hc1 : c = 1
    · subst hc1
      obtain rfl : r = [] := List.eq_nil_of_length_eq_zero (by omega)
      go_enter Tryz.func36, Tryz.ntmps36
      go_wp2_with fail
      rw [HW1.out]
      go_loopw [16] (fun i wr => RelMo w (x0, x1, x2) [] i wr) (fun i _ => 0)
      case atStart => exact .mk 0 rfl (Nat.le_refl _) P1.out P0.out B0.out
      case round =>
        obtain ⟨k, rfl, hk, R⟩ := hrel
        obtain rfl : k = 0 := by simpa using hk
        have Q1 := hide R.out.1
        have Q0 := hide R.out.2.1
        have BW := hide R.out.2.2
        have F := hide E.out
        clear R E HV P0 P1 B0 HW1
        simp only [List.length_nil, List.take_nil] at Q1 F
        generalize List.foldl upW (x0, x1, x2) [] = m at Q1 F
        have N := hide (Q0.out.put m)
        have BN := hide (below_put (b := w.heap.size) BW.out (Nat.le_refl _) (.int .i64 m.1) (.int .i64 m.2.1) (.int .i64 m.2.2))
        have d0 := Q1.out.cells.1
        have d1 := Q1.out.cells.2.1
        have d2 := Q1.out.cells.2.2
        obtain ⟨e0, e1, e2⟩ := Q0.out.cells
        have v0 := Q0.out.fz 0
        have v1 := Q0.out.fz 1
        have v2 := Q0.out.fz 2
        obtain ⟨m0, m1, m2⟩ := m
        simp only at d0 d1 d2 N BN
        go_wp2
        exact ret3 (b := w.heap.size) Tryz.results36 rfl N.out rfl ⟨by rw [F.out], BN.out⟩
    · have hc2 : 1 < c := by omega
      have hc3 : (1 : Int) < c := by omega
      have hc4 : r.length ≤ c - 1 := by omega
      go_enter Tryz.func36, Tryz.ntmps36
      go_wp2_with fail
      rw [HW1.out]
      go_loopw [16] (fun i wr => RelMo w (x0, x1, x2) r i wr) (fun i _ => r.length - (intOf i).toNat)
      case atStart => exact .mk 0 rfl (by omega) P1.out P0.out B0.out
      case round =>
        obtain ⟨k, rfl, hk, R⟩ := hrel
        have Q1 := hide R.out.1
        have Q0 := hide R.out.2.1
        have BW := hide R.out.2.2
        have hsz := BW.out.size
        have ST := hide (fun y => @fold_take (x0, x1, x2) r k y)
        by_cases hlt : k < r.length
        · obtain ⟨y, hy⟩ : ∃ y, r[k]? = some y := ⟨_, List.getElem?_eq_getElem hlt⟩
          have hlt' : (k : Int) < r.length := by omega
          obtain ⟨h0, h1, h2⟩ := HV.out k y hy
          have k0 := (BW.out.cell (p := ⟨b, o + 3 + k * 3, none⟩) hb).trans h0
          have k1 := (BW.out.cell (p := ⟨b, o + 3 + k * 3 + 1, none⟩) hb).trans h1
          have k2 := (BW.out.cell (p := ⟨b, o + 3 + k * 3 + 2, none⟩) hb).trans h2
          have S := hide (ST.out y hy)
          have T1 := hide (@upW_t ((r.take k).foldl upW (x0, x1, x2)) y)
          have T0 := hide (@upW_f ((r.take k).foldl upW (x0, x1, x2)) y)
          have L := hide (fun V => lessP_any ((r.take k).foldl upW (x0, x1, x2)) y V)
          have nb : b ≠ wr.heap.size := by omega
          have hbw : b < wr.heap.size := by omega
          have n1 : w.heap.size + 1 ≠ wr.heap.size := by have := Q1.out.lt; omega
          have n2 : w.heap.size + 1 < wr.heap.size := Q1.out.lt
          have n0 : w.heap.size ≠ wr.heap.size := by have := Q0.out.lt; omega
          clear h0 h1 h2 R P0 P1 B0 HW1 ST HV E f0 f1 f2 hy
          generalize (r.take k).foldl upW (x0, x1, x2) = m at Q1 S T1 T0 L
          have hd0 := Q1.out.cells.1
          have hd1 := Q1.out.cells.2.1
          have hd2 := Q1.out.cells.2.2
          have Y := hide (Bk3.new wr y)
          have Q1' := hide (Q1.out.more (.cells #[.int .i64 y.1, .int .i64 y.2.1, .int .i64 y.2.2] 26))
          have Q0' := hide (Q0.out.more (.cells #[.int .i64 y.1, .int .i64 y.2.1, .int .i64 y.2.2] 26))
          have BW' := hide (bplus BW.out (.cells #[.int .i64 y.1, .int .i64 y.2.1, .int .i64 y.2.2] 26))
          generalize hB : ltW m y = RB at L T1 T0
          clear hB
          unfold wV at L
          obtain ⟨m0, m1, m2⟩ := m
          obtain ⟨y0, y1, y2⟩ := y
          simp only at *
          cases RB with
          | true =>
            have F := hide (S.out.trans (T1.out rfl))
            clear S T1 T0
            go_wp2_with (go_at_call 46; refine (L.out _).mono ?_; rintro e w2 ⟨rfl, B2⟩; have Y2 := hide (Y.out.up B2); have X1 := hide (Q1'.out.up B2); have X0 := hide (Q0'.out.up B2); replace BW' := hide (bto BW'.out B2); obtain ⟨j0, j1, j2⟩ := Y2.out.cells; obtain ⟨i0, i1, i2⟩ := X1.out.cells; have v0 := X1.out.fz 0; have v1 := X1.out.fz 1; have v2 := X1.out.fz 2; simp only at j0 j1 j2; clear B2)
            go_roundw
            case rel => exact .mk (k + 1) (by go_num) (by omega) (by rw [F.out]; exact X1.out.put (y0, y1, y2)) (((X0.out.far (by omega) _ _).far (by omega) _ _).far (by omega) _ _) (below_put BW'.out (by omega) _ _ _)
            case measure => simp [intOf]; omega
          | false =>
            have F := hide (S.out.trans (T0.out rfl))
            clear S T1 T0
            go_wp2_with (go_at_call 46; refine (L.out _).mono ?_; rintro e w2 ⟨rfl, B2⟩; have Y2 := hide (Y.out.up B2); have X1 := hide (Q1'.out.up B2); have X0 := hide (Q0'.out.up B2); replace BW' := hide (bto BW'.out B2); clear B2)
            go_roundw
            case rel => exact .mk (k + 1) (by go_num) (by omega) (by rw [F.out]; exact X1.out) X0.out BW'.out
            case measure => simp [intOf]; omega
        · have hlt' : ¬ (k : Int) < r.length := by omega
          have F := hide E.out
          rw [show r.take k = r.take r.length by rw [show k = r.length by omega]] at Q1
          clear R E HV P0 P1 B0 HW1 ST
          generalize (r.take r.length).foldl upW (x0, x1, x2) = m at Q1 F
          have N := hide (Q0.out.put m)
          have BN := hide (below_put (b := w.heap.size) BW.out (Nat.le_refl _) (.int .i64 m.1) (.int .i64 m.2.1) (.int .i64 m.2.2))
          have d0 := Q1.out.cells.1
          have d1 := Q1.out.cells.2.1
          have d2 := Q1.out.cells.2.2
          obtain ⟨e0, e1, e2⟩ := Q0.out.cells
          have v0 := Q0.out.fz 0
          have v1 := Q0.out.fz 1
          have v2 := Q0.out.fz 2
          obtain ⟨m0, m1, m2⟩ := m
          simp only at d0 d1 d2 N BN
          go_wp2
          exact ret3 (b := w.heap.size) Tryz.results36 rfl N.out rfl ⟨by rw [F.out], BN.out⟩
end Go.Proofs.YtmkbjcoagfnegabGreatDoor
set_option linter.unusedVariables false
set_option linter.unusedSimpArgs false
namespace Go.Proofs.YtmkbjcoagfnegabGreatDoor
open Go.RowKit

/-- What a simple selector weighs, by what a list weighs. -/
def wtS (r : List Cx → Wt) (s : Sl) : Wt :=
  if s.k = 1 ∨ s.k = 8 then z3 else if s.k = 2 then (0, 0, 1) else if s.k = 4 then (1, 0, 0) else if s.k = 6 ∨ s.k = 7 then r s.ls else (0, 1, 0)
def wtP (r : List Cx → Wt) (l : List Sl) (a : Wt) : Wt := l.foldl (fun a s => adW a (wtS r s)) a
def wtC (r : List Cx → Wt) (c : Cx) : Wt := c.foldl (fun a p => wtP r p.2 a) z3
/-- What a list weighs that is at most so deep. -/
def wtM : Nat → List Cx → Wt
  | 0, _ => z3
  | n + 1, l => moW (l.map (wtC (wtM n)))
/-! ### How great it is -/
def szS (z : List Cx → Nat) (s : Sl) : Nat := 1 + z s.ls
def szP (z : List Cx → Nat) (l : List Sl) : Nat := (l.map (szS z)).sum
def szC (z : List Cx → Nat) (c : Cx) : Nat := (c.map fun p => szP z p.2).sum
def szM : Nat → List Cx → Nat
  | 0, _ => 0
  | n + 1, l => (l.map (szC (szM n))).sum
theorem In3.mono {x : Wt} {A B : Nat} (h : In3 x A) (hb : A ≤ B) : In3 x B := by
  obtain ⟨⟨h1, h2⟩, ⟨h3, h4⟩, h5, h6⟩ := h
  exact ⟨⟨h1, by omega⟩, ⟨h3, by omega⟩, h5, by omega⟩
theorem In3.zero (B : Nat) : In3 z3 B := ⟨⟨by decide, by simp [z3]⟩, ⟨by decide, by simp [z3]⟩, by decide, by simp [z3]⟩
theorem In3.add {x y : Wt} {A B : Nat} (h : In3 x A) (g : In3 y B) : In3 (adW x y) (A + B) := by
  obtain ⟨⟨h1, h2⟩, ⟨h3, h4⟩, h5, h6⟩ := h
  obtain ⟨⟨g1, g2⟩, ⟨g3, g4⟩, g5, g6⟩ := g
  unfold adW
  exact ⟨⟨by simp only; omega, by simp only; omega⟩, ⟨by simp only; omega, by simp only; omega⟩, by simp only; omega, by simp only; omega⟩
theorem wtS_in {r : List Cx → Wt} {z : List Cx → Nat} (h : ∀ l, In3 (r l) (z l)) (s : Sl) : In3 (wtS r s) (szS z s) := by
  unfold wtS szS
  have h1 : ∀ x y t : Int, 0 ≤ x → x ≤ 1 → 0 ≤ y → y ≤ 1 → 0 ≤ t → t ≤ 1 → In3 (x, y, t) (1 + z s.ls) := fun x y t a b c d e f => ⟨⟨a, by simp only; omega⟩, ⟨c, by simp only; omega⟩, e, by simp only; omega⟩
  by_cases e1 : s.k = 1 ∨ s.k = 8
  · rw [if_pos e1]; exact In3.zero _
  rw [if_neg e1]
  by_cases e2 : s.k = 2
  · rw [if_pos e2]; exact h1 _ _ _ (by omega) (by omega) (by omega) (by omega) (by omega) (by omega)
  rw [if_neg e2]
  by_cases e3 : s.k = 4
  · rw [if_pos e3]; exact h1 _ _ _ (by omega) (by omega) (by omega) (by omega) (by omega) (by omega)
  rw [if_neg e3]
  by_cases e4 : s.k = 6 ∨ s.k = 7
  · rw [if_pos e4]; exact (h s.ls).mono (by omega)
  rw [if_neg e4]; exact h1 _ _ _ (by omega) (by omega) (by omega) (by omega) (by omega) (by omega)
theorem wtP_in {r : List Cx → Wt} {z : List Cx → Nat} (h : ∀ l, In3 (r l) (z l)) (l : List Sl) : ∀ {a : Wt} {A : Nat}, In3 a A → In3 (wtP r l a) (A + szP z l) := by
  induction l with
  | nil => intro a A ha; exact ha.mono (by simp [szP])
  | cons s l ih =>
    intro a A ha
    have := ih (ha.add (wtS_in h s))
    unfold wtP at this ⊢
    rw [List.foldl_cons]
    refine this.mono ?_
    unfold szP
    rw [List.map_cons, List.sum_cons]
    omega
theorem wtCf_in {r : List Cx → Wt} {z : List Cx → Nat} (h : ∀ l, In3 (r l) (z l)) (c : Cx) : ∀ {a : Wt} {A : Nat}, In3 a A → In3 (c.foldl (fun a p => wtP r p.2 a) a) (A + szC z c) := by
  induction c with
  | nil => intro a A ha; exact ha.mono (by simp [szC])
  | cons p c ih =>
    intro a A ha
    have := ih (wtP_in h p.2 ha)
    rw [List.foldl_cons]
    refine this.mono ?_
    unfold szC
    rw [List.map_cons, List.sum_cons]
    omega
theorem wtC_in {r : List Cx → Wt} {z : List Cx → Nat} (h : ∀ l, In3 (r l) (z l)) (c : Cx) : In3 (wtC r c) (szC z c) := by
  have := wtCf_in h c (In3.zero 0)
  rw [Nat.zero_add] at this
  exact this
theorem upW_in {m x : Wt} {A : Nat} (h : In3 m A) (g : In3 x A) : In3 (upW m x) A := by unfold upW; split <;> assumption
theorem foW_in {l : List Wt} : ∀ {m : Wt} {A : Nat}, In3 m A → (∀ x ∈ l, In3 x A) → In3 (l.foldl upW m) A := by
  induction l with
  | nil => intro m A h _; exact h
  | cons x l ih => intro m A h g; exact ih (upW_in h (g x (by simp))) (fun y hy => g y (by simp [hy]))
theorem moW_in {l : List Wt} {A : Nat} (g : ∀ x ∈ l, In3 x A) : In3 (moW l) A := by
  cases l with
  | nil => exact In3.zero _
  | cons x l => exact foW_in (g x (by simp)) (fun y hy => g y (by simp [hy]))
theorem sum_mem {α : Type} {l : List α} {f : α → Nat} {x : α} (h : x ∈ l) : f x ≤ (l.map f).sum := by
  induction l with
  | nil => cases h
  | cons y l ih =>
    rw [List.map_cons, List.sum_cons]
    rcases List.mem_cons.1 h with rfl | h
    · omega
    · have := ih h; omega
theorem wtM_in (n : Nat) : ∀ l, In3 (wtM n l) (szM n l) := by
  induction n with
  | zero => intro l; exact In3.zero _
  | succ n ih =>
    intro l
    refine moW_in fun x hx => ?_
    obtain ⟨c, hc, rfl⟩ := List.mem_map.1 hx
    exact (wtC_in ih c).mono (sum_mem hc)
theorem sum_take {α : Type} (l : List α) (f : α → Nat) (i : Nat) {x : α} (h : l[i]? = some x) : ((l.take i).map f).sum + f x ≤ (l.map f).sum := by
  induction l generalizing i with
  | nil => cases h
  | cons y l ih =>
    cases i with
    | zero => simp at h; subst h; simp
    | succ i => have := ih i (by simpa using h); simp at this ⊢; omega
theorem sum_le_take {α : Type} (l : List α) (f : α → Nat) (i : Nat) : ((l.take i).map f).sum ≤ (l.map f).sum := by
  induction l generalizing i with
  | nil => simp
  | cons y l ih =>
    cases i with
    | zero => simp
    | succ i => have := ih i; simp at this ⊢; omega
/-- On the way: so many compounds, so many of the next one's simple selectors. -/
def wtW (r : List Cx → Wt) (c : Cx) (i j : Nat) : Wt := wtP r (((c[i]?).map (·.2)).getD [] |>.take j) (wtC r (c.take i))
theorem wtW_in {r : List Cx → Wt} {z : List Cx → Nat} (h : ∀ l, In3 (r l) (z l)) (c : Cx) (i j : Nat) : In3 (wtW r c i j) (szC z c) := by
  unfold wtW
  cases e : c[i]? with
  | none =>
    have := wtP_in h (([] : List Sl).take j) (wtC_in h (c.take i))
    simp only [Option.map_none, Option.getD_none]
    refine this.mono ?_
    simp only [List.take_nil, szP, List.map_nil, List.sum_nil, Nat.add_zero]
    exact sum_le_take c _ i
  | some p =>
    have := wtP_in h (p.2.take j) (wtC_in h (c.take i))
    simp only [Option.map_some, Option.getD_some]
    refine this.mono ?_
    have h1 := sum_take c (fun p => szP z p.2) i e
    have h2 := sum_le_take p.2 (szS z) j
    unfold szC szP at *
    omega
theorem wtW_zero (r : List Cx → Wt) (c : Cx) (i : Nat) : wtW r c i 0 = wtC r (c.take i) := by unfold wtW; simp [wtP]
theorem wtW_step (r : List Cx → Wt) (c : Cx) (i j : Nat) {p : Cp} {s : Sl} (hp : c[i]? = some p) (hs : p.2[j]? = some s) : wtW r c i (j + 1) = adW (wtW r c i j) (wtS r s) := by
  unfold wtW
  rw [hp]
  simp only [Option.map_some, Option.getD_some]
  obtain ⟨hj, rfl⟩ := List.getElem?_eq_some_iff.1 hs
  rw [List.take_succ_eq_append_getElem hj]
  unfold wtP
  rw [List.foldl_append]
  rfl
theorem wtW_end (r : List Cx → Wt) (c : Cx) (i j : Nat) {p : Cp} (hp : c[i]? = some p) (hj : p.2.length ≤ j) : wtW r c i j = wtC r (c.take (i + 1)) := by
  unfold wtW
  rw [hp]
  simp only [Option.map_some, Option.getD_some]
  obtain ⟨hi, rfl⟩ := List.getElem?_eq_some_iff.1 hp
  rw [List.take_of_length_le hj]
  unfold wtC
  rw [List.take_succ_eq_append_getElem hi, List.foldl_append]
  rfl
/-! ### The greatest -/
theorem ltW_zero {x : Wt} {B : Nat} (h : In3 x B) (g : ltW z3 x = false) : x = z3 := by
  obtain ⟨a, b, c⟩ := x
  obtain ⟨⟨h1, h2⟩, ⟨h3, h4⟩, h5, h6⟩ := h
  unfold ltW z3 at g
  simp only at *
  unfold z3
  by_cases e1 : (0 : Int) = a
  · rw [if_pos e1] at g
    by_cases e2 : (0 : Int) = b
    · rw [if_pos e2] at g
      have : ¬ (0 : Int) < c := by simpa using g
      have : c = 0 := by omega
      subst e1 e2 this
      rfl
    · rw [if_neg e2] at g
      have : ¬ (0 : Int) < b := by simpa using g
      omega
  · rw [if_neg e1] at g
    have : ¬ (0 : Int) < a := by simpa using g
    omega
theorem moW_zero {l : List Wt} {B : Nat} (g : ∀ x ∈ l, In3 x B) : moW l = l.foldl upW z3 := by
  cases l with
  | nil => rfl
  | cons x l =>
    unfold moW
    rw [List.foldl_cons]
    have : upW z3 x = x := by
      unfold upW
      cases e : ltW z3 x with
      | true => rfl
      | false => exact (ltW_zero (g x (by simp)) e).symm
    rw [this]
theorem foW_take {α : Type} (f : α → Wt) (l : List α) (m : Wt) (i : Nat) {x : α} (h : l[i]? = some x) : ((l.take (i + 1)).map f).foldl upW m = upW (((l.take i).map f).foldl upW m) (f x) := by
  obtain ⟨hi, rfl⟩ := List.getElem?_eq_some_iff.1 h
  rw [List.take_succ_eq_append_getElem hi, List.map_append, List.foldl_append]
  rfl

/-- What the selectors of a list weigh, one by one. -/
def wsL : Nat → List Cx → List Wt
  | 0, _ => []
  | n + 1, l => l.map (wtC (wtM n))
theorem wtM_ws (n : Nat) (l : List Cx) : wtM n l = moW (wsL n l) := by cases n <;> rfl
theorem wtS_0 {r : List Cx → Wt} {s : Sl} (h : s.k = 1 ∨ s.k = 8) : wtS r s = z3 := by unfold wtS; rw [if_pos h]
theorem wtS_2 {r : List Cx → Wt} {s : Sl} (h : s.k = 2) : wtS r s = (0, 0, 1) := by unfold wtS; rw [if_neg (by omega), if_pos h]
theorem wtS_4 {r : List Cx → Wt} {s : Sl} (h : s.k = 4) : wtS r s = (1, 0, 0) := by unfold wtS; rw [if_neg (by omega), if_neg (by omega), if_pos h]
theorem wtS_6 {r : List Cx → Wt} {s : Sl} (h : s.k = 6 ∨ s.k = 7) : wtS r s = r s.ls := by unfold wtS; rw [if_neg (by omega), if_neg (by omega), if_neg (by omega), if_pos h]
theorem wtS_x {r : List Cx → Wt} {s : Sl} (h : ¬ s.k = 1) (h2 : ¬ s.k = 8) (h3 : ¬ s.k = 2) (h4 : ¬ s.k = 4) (h5 : ¬ s.k = 6) (h6 : ¬ s.k = 7) : wtS r s = (0, 1, 0) := by unfold wtS; rw [if_neg (by omega), if_neg (by omega), if_neg (by omega), if_neg (by omega)]
theorem szS_at {z : List Cx → Nat} {c : Cx} {i j : Nat} {p : Cp} {s : Sl} (hp : c[i]? = some p) (hs : p.2[j]? = some s) : szS z s ≤ szC z c := by
  have h1 := sum_mem (f := fun p : Cp => szP z p.2) (List.mem_of_getElem? hp)
  have h2 := sum_mem (f := szS z) (List.mem_of_getElem? hs)
  unfold szC
  unfold szP at h1 ⊢
  omega
theorem szM_at {n : Nat} {l : List Cx} {i : Nat} {c : Cx} (h : l[i]? = some c) : szC (szM n) c ≤ szM (n + 1) l := sum_mem (f := szC (szM n)) (List.mem_of_getElem? h)
/-- What is to be known of lists that are at most so deep. -/
def WtLs (n : Nat) : Prop := ∀ (l : List Cx) (v : Value) (W : World), CM W n v l → szM n l ≤ 4194304 → Calls Tryz.prog 37 #[v] W fun e w' => ∃ u, e = .returned u ∧ WsM w' u (wsL n l) ∧ Below W.heap.size W w'
set_option maxRecDepth 100000 in
set_option maxHeartbeats 4000000 in
theorem simpleWeight_any (n : Nat) (s : Sl) (u : Value) (w : World) (hu : CM w n u s.ls) (hz : szM n s.ls ≤ 4194304) (IH : WtLs n) : Calls Tryz.prog 21 #[s.v u] w fun e w' => e = .returned (wV (wtS (wtM n) s)) ∧ Below w.heap.size w w' := by
  obtain ⟨W1, hW1⟩ : ∃ W1, (w.alloc (.cells #[.int .i64 s.k, .string s.nm, .int .i64 s.op, .string s.vl, .bool s.fo, u, .int .i64 s.a, .int .i64 s.b] 37)).alloc (.cells #[.int .i64 0, .int .i64 0, .int .i64 0] 26) = W1 := ⟨_, rfl⟩
  have HW1 := hide hW1
  have B0 := hide (show Below w.heap.size w W1 by rw [← hW1]; exact bplus (bplus (Below.refl _ _) _) _)
  have P1 := hide (show Bk3 W1 (w.heap.size + 1) z3 by rw [← hW1]; have := Bk3.new (w.alloc (.cells #[.int .i64 s.k, .string s.nm, .int .i64 s.op, .string s.vl, .bool s.fo, u, .int .i64 s.a, .int .i64 s.b] 37)) z3; simpa [z3] using this)
  have P0 := hide (show W1.heap[w.heap.size]? = some (.cells #[.int .i64 s.k, .string s.nm, .int .i64 s.op, .string s.vl, .bool s.fo, u, .int .i64 s.a, .int .i64 s.b] 37) by rw [← hW1]; exact (Below.heap_alloc _ _ _ (by simp)).trans (heap_alloc_new w _))
  clear hW1
  have CW := hide (IH s.ls u W1 (hu.low B0.out) hz)
  have EM := hide (wtM_ws n s.ls)
  clear hz IH
  obtain ⟨a0, -, -, -, -, a5, -, -⟩ := bxk_8 P0.out
  obtain ⟨e0, e1, e2⟩ := P1.out.cells
  have v0 := P1.out.fz 0
  have v1 := P1.out.fz 1
  have v2 := P1.out.fz 2
  have PT := hide (fun y : Wt => show Bk3 ((w.alloc (.cells #[.int .i64 s.k, .string s.nm, .int .i64 s.op, .string s.vl, .bool s.fo, u, .int .i64 s.a, .int .i64 s.b] 37)).alloc (.cells #[.int .i64 y.1, .int .i64 y.2.1, .int .i64 y.2.2] 26)) (w.heap.size + 1) y by have := Bk3.new (w.alloc (.cells #[.int .i64 s.k, .string s.nm, .int .i64 s.op, .string s.vl, .bool s.fo, u, .int .i64 s.a, .int .i64 s.b] 37)) y; simpa using this)
  have BT := hide (fun y : Wt => show Below w.heap.size w ((w.alloc (.cells #[.int .i64 s.k, .string s.nm, .int .i64 s.op, .string s.vl, .bool s.fo, u, .int .i64 s.a, .int .i64 s.b] 37)).alloc (.cells #[.int .i64 y.1, .int .i64 y.2.1, .int .i64 y.2.2] 26)) from bplus (bplus (Below.refl _ _) _) _)
  obtain ⟨ua, uc, hus, _⟩ := hu.shape
  unfold Sl.v slV
  subst hus
  by_cases h1 : s.k = 1 ∨ s.k = 8
  · have E := hide (@wtS_0 (wtM n) s h1)
    generalize wtS (wtM n) s = R at E ⊢
    generalize s.k = k at *
    clear CW EM hu HW1 P0 P1 B0 a0 a5 e0 e1 e2 v0 v1 v2
    rcases h1 with rfl | rfl
    all_goals
      go_enter Tryz.func21, Tryz.ntmps21
      go_wp2
      exact ret3 (b := w.heap.size + 1) Tryz.results21 rfl (PT.out z3) rfl ⟨by rw [E.out], BT.out z3⟩
  by_cases h2 : s.k = 2
  · have E := hide (@wtS_2 (wtM n) s h2)
    generalize wtS (wtM n) s = R at E ⊢
    generalize s.k = k at *
    clear CW EM hu HW1 P0 P1 B0 a0 a5 e0 e1 e2 v0 v1 v2
    subst h2
    go_enter Tryz.func21, Tryz.ntmps21
    go_wp2
    exact ret3 (b := w.heap.size + 1) Tryz.results21 rfl (PT.out (0, 0, 1)) rfl ⟨by rw [E.out], BT.out (0, 0, 1)⟩
  by_cases h4 : s.k = 4
  · have E := hide (@wtS_4 (wtM n) s h4)
    generalize wtS (wtM n) s = R at E ⊢
    generalize s.k = k at *
    clear CW EM hu HW1 P0 P1 B0 a0 a5 e0 e1 e2 v0 v1 v2
    subst h4
    go_enter Tryz.func21, Tryz.ntmps21
    go_wp2
    exact ret3 (b := w.heap.size + 1) Tryz.results21 rfl (PT.out (1, 0, 0)) rfl ⟨by rw [E.out], BT.out (1, 0, 0)⟩
  by_cases h6 : s.k = 6 ∨ s.k = 7
  · have E := hide ((@wtS_6 (wtM n) s h6).trans EM.out)
    generalize wtS (wtM n) s = R at E ⊢
    generalize s.k = k at *
    have CM1 := hide (fun (v : Value) (W : World) (h : WsM W v (wsL n s.ls)) => mostP_any (wsL n s.ls) v W h)
    clear EM hu PT BT
    generalize moW (wsL n s.ls) = MM at E CM1
    generalize wsL n s.ls = ws at CW CM1
    obtain ⟨m0, m1, m2⟩ := MM
    unfold wV at CM1
    simp only at CM1
    rcases h6 with rfl | rfl
    all_goals
      go_enter Tryz.func21, Tryz.ntmps21
      go_wp2_with fail
      rw [HW1.out]
      go_wp2_with (first
        | (go_at_call 37; refine CW.out.mono ?_; rintro e w2 ⟨uu, rfl, hw, B2⟩; have BB := hide B2; replace CM1 := hide (CM1.out uu w2 hw); clear hw B2)
        | (go_at_call 36; refine CM1.out.mono ?_; rintro e w3 ⟨rfl, B3⟩; replace BB := hide (bto BB.out B3); replace P1 := hide (P1.out.up BB.out); replace B0 := hide (bto B0.out BB.out); obtain ⟨i0, i1, i2⟩ := P1.out.cells; have j0 := P1.out.fz 0; have j1 := P1.out.fz 1; have j2 := P1.out.fz 2; clear B3))
      exact ret3 (b := w.heap.size + 1) Tryz.results21 rfl (P1.out.put (m0, m1, m2)) rfl ⟨by rw [E.out], below_put B0.out (by omega) _ _ _⟩
  · have E := hide (@wtS_x (wtM n) s (by omega) (by omega) h2 h4 (by omega) (by omega))
    generalize wtS (wtM n) s = R at E ⊢
    generalize s.k = k at *
    clear CW EM hu HW1 P0 P1 B0 a0 a5 e0 e1 e2 v0 v1 v2
    have g1 : (k == 1) = false := by simp; omega
    have g2 : (k == 8) = false := by simp; omega
    have g3 : (k == 2) = false := by simp; omega
    have g4 : (k == 4) = false := by simp; omega
    have g5 : (k == 6) = false := by simp; omega
    have g6 : (k == 7) = false := by simp; omega
    clear h1 h2 h4 h6
    go_enter Tryz.func21, Tryz.ntmps21
    go_wp2
    exact ret3 (b := w.heap.size + 1) Tryz.results21 rfl (PT.out (0, 1, 0)) rfl ⟨by rw [E.out], BT.out (0, 1, 0)⟩
end Go.Proofs.YtmkbjcoagfnegabGreatDoor
