/-
  Weights: plain; which is less, by the program and by the reference.
-/
import Derived.Test.YtmkbjcoagfnegaaGreatDoorLSwE
set_option linter.unusedVariables false
set_option linter.unusedSimpArgs false
namespace Go.Proofs.YtmkbjcoagfnegaaGreatDoor
open Go.RowKit

/-- A weight: three numbers. -/
abbrev Wt := Int × Int × Int
def ltW (x y : Wt) : Bool := if x.1 = y.1 then (if x.2.1 = y.2.1 then decide (x.2.2 < y.2.2) else decide (x.2.1 < y.2.1)) else decide (x.1 < y.1)
def upW (m x : Wt) : Wt := if ltW m x then x else m
def z3 : Wt := (0, 0, 0)
def moW : List Wt → Wt
  | [] => z3
  | x :: r => r.foldl upW x
def adW (x y : Wt) : Wt := (x.1 + y.1, x.2.1 + y.2.1, x.2.2 + y.2.2)
def wV (x : Wt) : Value := .agg #[.int .i64 x.1, .int .i64 x.2.1, .int .i64 x.2.2]
/-- A weight in a block of its own. -/
def Bk3 (w : World) (b : Nat) (x : Wt) : Prop := w.heap[b]? = some (.cells #[.int .i64 x.1, .int .i64 x.2.1, .int .i64 x.2.2] 42)
theorem Bk3.cells {w : World} {b : Nat} {x : Wt} (h : Bk3 w b x) : w.cell? ⟨b, 0, none⟩ = some (.int .i64 x.1) ∧ w.cell? ⟨b, 1, none⟩ = some (.int .i64 x.2.1) ∧ w.cell? ⟨b, 2, none⟩ = some (.int .i64 x.2.2) := ⟨by rw [row_blk h]; rfl, by rw [row_blk h]; rfl, by rw [row_blk h]; rfl⟩
theorem Bk3.fz {w : World} {b : Nat} {x : Wt} (h : Bk3 w b x) : ∀ j, w.frozen? ⟨b, j, none⟩ = false := fun j => by simp [World.frozen?, show w.heap[b]? = _ from h]
theorem Bk3.lt {w : World} {b : Nat} {x : Wt} (h : Bk3 w b x) : b < w.heap.size := (Array.getElem?_eq_some_iff.1 h).1
theorem Bk3.low {w w' : World} {b B : Nat} {x : Wt} (h : Bk3 w b x) (hw : Below B w w') (hb : b < B) : Bk3 w' b x := (hw.block _ hb).trans h
theorem Bk3.up {w w' : World} {b : Nat} {x : Wt} (h : Bk3 w b x) (hw : Below w.heap.size w w') : Bk3 w' b x := h.low hw h.lt
theorem Bk3.new (w : World) (x : Wt) : Bk3 (w.alloc (.cells #[.int .i64 x.1, .int .i64 x.2.1, .int .i64 x.2.2] 42)) w.heap.size x := heap_alloc_new w _
theorem Bk3.more {w : World} {b : Nat} {x : Wt} (h : Bk3 w b x) (o : Obj) : Bk3 (w.alloc o) b x := (Below.heap_alloc w o b h.lt).trans h
theorem Bk3.put {w : World} {b : Nat} {x : Wt} (h : Bk3 w b x) (y : Wt) : Bk3 (((w.setCell ⟨b, 0, none⟩ (.int .i64 y.1)).setCell ⟨b, 1, none⟩ (.int .i64 y.2.1)).setCell ⟨b, 2, none⟩ (.int .i64 y.2.2)) b y := by
  have h1 := setCell_blk (setCell_blk (setCell_blk (j := 0) h (.int .i64 y.1)) (j := 1) (.int .i64 y.2.1)) (j := 2) (.int .i64 y.2.2)
  exact h1
theorem Bk3.far {w : World} {b r : Nat} {x : Wt} (h : Bk3 w b x) (hr : b ≠ r) (i : Nat) (u : Value) : Bk3 (w.setCell ⟨r, i, none⟩ u) b x := (Below.heap_setCell w ⟨r, i, none⟩ u b hr).trans h
theorem below_put {w0 w : World} {b : Nat} (h : Below w0.heap.size w0 w) (hb : w0.heap.size ≤ b) (u0 u1 u2 : Value) : Below w0.heap.size w0 (((w.setCell ⟨b, 0, none⟩ u0).setCell ⟨b, 1, none⟩ u1).setCell ⟨b, 2, none⟩ u2) := ((h.setCell hb _).setCell hb _).setCell hb _
theorem ltW_0 {a0 a1 a2 b0 b1 b2 : Int} (h : ¬ a0 = b0) : ltW (a0, a1, a2) (b0, b1, b2) = decide (a0 < b0) := by unfold ltW; simp [h]
theorem ltW_1 {a0 a1 a2 b1 b2 : Int} (h : ¬ a1 = b1) : ltW (a0, a1, a2) (a0, b1, b2) = decide (a1 < b1) := by unfold ltW; simp [h]
theorem ltW_2 {a0 a1 a2 b2 : Int} : ltW (a0, a1, a2) (a0, a1, b2) = decide (a2 < b2) := by unfold ltW; simp
/-- The state of the search for the first that differs. -/
def RelLs (a0 a1 b0 b1 : Int) (w : World) (i : Value) (wr : World) : Prop := (i = .int .i64 0 ∨ (i = .int .i64 1 ∧ a0 = b0) ∨ (i = .int .i64 2 ∧ a0 = b0 ∧ a1 = b1)) ∧ ∃ q, wr = w.drewN q
theorem RelLs.one {a0 a1 b0 b1 : Int} {w wr : World} {i : Value} (h : i = .int .i64 1) (h0 : a0 = b0) (q : ∃ q, wr = w.drewN q) : RelLs a0 a1 b0 b1 w i wr := ⟨.inr (.inl ⟨h, h0⟩), q⟩
theorem RelLs.two {a0 a1 b0 b1 : Int} {w wr : World} {i : Value} (h : i = .int .i64 2) (h0 : a0 = b0) (h1 : a1 = b1) (q : ∃ q, wr = w.drewN q) : RelLs a0 a1 b0 b1 w i wr := ⟨.inr (.inr ⟨h, h0, h1⟩), q⟩
set_option maxRecDepth 100000 in
set_option maxHeartbeats 4000000 in
theorem lessP_any (x y : Wt) (w : World) : Calls Tryz.prog 22 #[wV x, wV y] w fun e w' => e = .returned (.bool (ltW x y)) ∧ Below w.heap.size w w' := by
  obtain ⟨a0, a1, a2⟩ := x
  obtain ⟨b0, b1, b2⟩ := y
  unfold wV
  simp only
  obtain ⟨W1, hW1⟩ : ∃ W1, (w.alloc (.cells #[.int .i64 a0, .int .i64 a1, .int .i64 a2] 42)).alloc (.cells #[.int .i64 b0, .int .i64 b1, .int .i64 b2] 42) = W1 := ⟨_, rfl⟩
  have HW1 := hide hW1
  have B0 := hide (show Below w.heap.size w W1 by rw [← hW1]; exact bplus (bplus (Below.refl _ _) _) _)
  have P0 := hide (show Bk3 W1 w.heap.size (a0, a1, a2) by rw [← hW1]; exact (Bk3.new w (a0, a1, a2)).more _)
  have P1 := hide (show Bk3 W1 (w.heap.size + 1) (b0, b1, b2) by rw [← hW1]; have := Bk3.new (w.alloc (.cells #[.int .i64 a0, .int .i64 a1, .int .i64 a2] 42)) (b0, b1, b2); simpa using this)
  clear hW1
  obtain ⟨p0, p1, p2⟩ := P0.out.cells
  obtain ⟨q0, q1, q2⟩ := P1.out.cells
  simp only at p0 p1 p2 q0 q1 q2
  by_cases e : a0 = b0 ∧ a1 = b1 ∧ a2 = b2
  · obtain ⟨rfl, rfl, rfl⟩ := e
    have E := hide (show ltW (a0, a1, a2) (a0, a1, a2) = false by simp [ltW])
    go_enter Tryz.func22, Tryz.ntmps22
    go_wp2_with fail
    rw [HW1.out]
    go_wp2
    go_ret
    exact ⟨ret_bool E.out.symm, B0.out⟩
  · have hE : ((a0 == b0) && ((a1 == b1) && (a2 == b2))) = false := by rw [Bool.eq_false_iff]; intro k; simp at k; exact e k
    have NE := hide e
    clear e
    go_enter Tryz.func22, Tryz.ntmps22
    go_wp2_with fail
    rw [HW1.out]
    go_wp2_with fail
    go_loopw [5] (fun i wr => RelLs a0 a1 b0 b1 W1 i wr) (fun i _ => 3 - (intOf i).toNat)
    case atStart => exact ⟨.inl rfl, 0, rfl⟩
    case round =>
      obtain ⟨hi, q, hq⟩ := hrel
      have HQ := hide hq
      have k0 : wr.cell? ⟨w.heap.size, 0, none⟩ = some (.int .i64 a0) := by rw [hq]; exact p0
      have k1 : wr.cell? ⟨w.heap.size, 1, none⟩ = some (.int .i64 a1) := by rw [hq]; exact p1
      have k2 : wr.cell? ⟨w.heap.size, 2, none⟩ = some (.int .i64 a2) := by rw [hq]; exact p2
      have l0 : wr.cell? ⟨w.heap.size + 1, 0, none⟩ = some (.int .i64 b0) := by rw [hq]; exact q0
      have l1 : wr.cell? ⟨w.heap.size + 1, 1, none⟩ = some (.int .i64 b1) := by rw [hq]; exact q1
      have l2 : wr.cell? ⟨w.heap.size + 1, 2, none⟩ = some (.int .i64 b2) := by rw [hq]; exact q2
      have BQ := hide (show ∀ m n, Below w.heap.size w ((wr.drewN m).drewN n) by intro m n; rw [hq]; exact below_drewN (below_drewN (below_drewN B0.out _) _) _)
      clear hq hE p0 p1 p2 q0 q1 q2
      rcases hi with rfl | ⟨rfl, rfl⟩ | ⟨rfl, rfl, rfl⟩
      · by_cases e0 : a0 = b0
        · have g0 : (a0 == b0) = true := by simpa using e0
          have E0 := hide e0
          clear e0
          go_wp2
          go_quiet (fail)
          go_wp2
          go_roundw
          case rel => exact .one (by go_num) E0.out ⟨_, by rw [HQ.out]; exact World.drewN_drewN _ _ _⟩
          case measure => simp [intOf]
        · have g0 : (a0 == b0) = false := by simpa using e0
          have E := hide (@ltW_0 a0 a1 a2 b0 b1 b2 e0)
          go_wp2
          go_quiet (fail)
          go_wp2
          go_quiet (fail)
          go_wp2
          go_ret
          exact ⟨ret_bool E.out.symm, BQ.out _ _⟩
      · by_cases e0 : a1 = b1
        · have g0 : (a1 == b1) = true := by simpa using e0
          have E0 := hide e0
          clear e0
          go_wp2
          go_quiet (fail)
          go_wp2
          go_roundw
          case rel => exact .two (by go_num) rfl E0.out ⟨_, by rw [HQ.out]; exact World.drewN_drewN _ _ _⟩
          case measure => simp [intOf]
        · have g0 : (a1 == b1) = false := by simpa using e0
          have E := hide (@ltW_1 a0 a1 a2 b1 b2 e0)
          go_wp2
          go_quiet (fail)
          go_wp2
          go_quiet (fail)
          go_wp2
          go_ret
          exact ⟨ret_bool E.out.symm, BQ.out _ _⟩
      · have e0 : ¬ a2 = b2 := fun e => NE.out ⟨rfl, rfl, e⟩
        have g0 : (a2 == b2) = false := by simpa using e0
        have E := hide (@ltW_2 a0 a1 a2 b2)
        go_wp2
        go_quiet (fail)
        go_wp2
        go_quiet (fail)
        go_wp2
        go_ret
        exact ⟨ret_bool E.out.symm, BQ.out _ _⟩
/-- The state of the reference's search. -/
def RelLr (a0 a1 a2 b0 b1 b2 : Int) (w : World) (i : Value) (wr : World) : Prop := (i = .int .i64 0 ∨ (i = .int .i64 1 ∧ a0 = b0) ∨ (i = .int .i64 2 ∧ a0 = b0 ∧ a1 = b1) ∨ (i = .int .i64 3 ∧ a0 = b0 ∧ a1 = b1 ∧ a2 = b2)) ∧ ∃ q, wr = w.drewN q
theorem RelLr.one {a0 a1 a2 b0 b1 b2 : Int} {w wr : World} {i : Value} (h : i = .int .i64 1) (h0 : a0 = b0) (q : ∃ q, wr = w.drewN q) : RelLr a0 a1 a2 b0 b1 b2 w i wr := ⟨.inr (.inl ⟨h, h0⟩), q⟩
theorem RelLr.two {a0 a1 a2 b0 b1 b2 : Int} {w wr : World} {i : Value} (h : i = .int .i64 2) (h0 : a0 = b0) (h1 : a1 = b1) (q : ∃ q, wr = w.drewN q) : RelLr a0 a1 a2 b0 b1 b2 w i wr := ⟨.inr (.inr (.inl ⟨h, h0, h1⟩)), q⟩
theorem RelLr.three {a0 a1 a2 b0 b1 b2 : Int} {w wr : World} {i : Value} (h : i = .int .i64 3) (h0 : a0 = b0) (h1 : a1 = b1) (h2 : a2 = b2) (q : ∃ q, wr = w.drewN q) : RelLr a0 a1 a2 b0 b1 b2 w i wr := ⟨.inr (.inr (.inr ⟨h, h0, h1, h2⟩)), q⟩
set_option maxRecDepth 100000 in
set_option maxHeartbeats 4000000 in
theorem lessR_any (x y : Wt) (w : World) : Calls Tryz.prog 21 #[wV x, wV y] w fun e w' => e = .returned (.bool (ltW x y)) ∧ Below w.heap.size w w' := by
  obtain ⟨a0, a1, a2⟩ := x
  obtain ⟨b0, b1, b2⟩ := y
  unfold wV
  simp only
  obtain ⟨W1, hW1⟩ : ∃ W1, (w.alloc (.cells #[.int .i64 a0, .int .i64 a1, .int .i64 a2] 42)).alloc (.cells #[.int .i64 b0, .int .i64 b1, .int .i64 b2] 42) = W1 := ⟨_, rfl⟩
  have HW1 := hide hW1
  have B0 := hide (show Below w.heap.size w W1 by rw [← hW1]; exact bplus (bplus (Below.refl _ _) _) _)
  have P0 := hide (show Bk3 W1 w.heap.size (a0, a1, a2) by rw [← hW1]; exact (Bk3.new w (a0, a1, a2)).more _)
  have P1 := hide (show Bk3 W1 (w.heap.size + 1) (b0, b1, b2) by rw [← hW1]; have := Bk3.new (w.alloc (.cells #[.int .i64 a0, .int .i64 a1, .int .i64 a2] 42)) (b0, b1, b2); simpa using this)
  clear hW1
  obtain ⟨p0, p1, p2⟩ := P0.out.cells
  obtain ⟨q0, q1, q2⟩ := P1.out.cells
  simp only at p0 p1 p2 q0 q1 q2
  go_enter Tryz.func21, Tryz.ntmps21
  go_wp2_with fail
  rw [HW1.out]
  go_wp2_with fail
  go_loopw [6] (fun i wr => RelLr a0 a1 a2 b0 b1 b2 W1 i wr) (fun i _ => 3 - (intOf i).toNat)
  case atStart => exact ⟨.inl rfl, 0, rfl⟩
  case round =>
    obtain ⟨hi, q, hq⟩ := hrel
    have HQ := hide hq
    have k0 : wr.cell? ⟨w.heap.size, 0, none⟩ = some (.int .i64 a0) := by rw [hq]; exact p0
    have k1 : wr.cell? ⟨w.heap.size, 1, none⟩ = some (.int .i64 a1) := by rw [hq]; exact p1
    have k2 : wr.cell? ⟨w.heap.size, 2, none⟩ = some (.int .i64 a2) := by rw [hq]; exact p2
    have l0 : wr.cell? ⟨w.heap.size + 1, 0, none⟩ = some (.int .i64 b0) := by rw [hq]; exact q0
    have l1 : wr.cell? ⟨w.heap.size + 1, 1, none⟩ = some (.int .i64 b1) := by rw [hq]; exact q1
    have l2 : wr.cell? ⟨w.heap.size + 1, 2, none⟩ = some (.int .i64 b2) := by rw [hq]; exact q2
    have BQ := hide (show ∀ m n, Below w.heap.size w ((wr.drewN m).drewN n) by intro m n; rw [hq]; exact below_drewN (below_drewN (below_drewN B0.out _) _) _)
    have BW := hide (show Below w.heap.size w wr by rw [hq]; exact below_drewN B0.out _)
    clear hq p0 p1 p2 q0 q1 q2
    rcases hi with rfl | ⟨rfl, rfl⟩ | ⟨rfl, rfl, rfl⟩ | ⟨rfl, rfl, rfl, rfl⟩
    · by_cases e0 : a0 = b0
      · have g0 : (a0 == b0) = true := by simpa using e0
        have E0 := hide e0
        clear e0
        go_wp2
        go_quiet (fail)
        go_wp2
        go_roundw
        case rel => exact .one (by go_num) E0.out ⟨_, by rw [HQ.out]; exact World.drewN_drewN _ _ _⟩
        case measure => simp [intOf]
      · have g0 : (a0 == b0) = false := by simpa using e0
        have E := hide (@ltW_0 a0 a1 a2 b0 b1 b2 e0)
        go_wp2
        go_quiet (fail)
        go_wp2
        go_quiet (fail)
        go_wp2
        go_ret
        exact ⟨ret_bool E.out.symm, BQ.out _ _⟩
    · by_cases e0 : a1 = b1
      · have g0 : (a1 == b1) = true := by simpa using e0
        have E0 := hide e0
        clear e0
        go_wp2
        go_quiet (fail)
        go_wp2
        go_roundw
        case rel => exact .two (by go_num) rfl E0.out ⟨_, by rw [HQ.out]; exact World.drewN_drewN _ _ _⟩
        case measure => simp [intOf]
      · have g0 : (a1 == b1) = false := by simpa using e0
        have E := hide (@ltW_1 a0 a1 a2 b1 b2 e0)
        go_wp2
        go_quiet (fail)
        go_wp2
        go_quiet (fail)
        go_wp2
        go_ret
        exact ⟨ret_bool E.out.symm, BQ.out _ _⟩
    · have E := hide (@ltW_2 a0 a1 a2 b2)
      by_cases e0 : a2 = b2
      · have g0 : (a2 == b2) = true := by simpa using e0
        have E0 := hide e0
        clear e0
        go_wp2
        go_quiet (fail)
        go_wp2
        go_roundw
        case rel => exact .three (by go_num) rfl rfl E0.out ⟨_, by rw [HQ.out]; exact World.drewN_drewN _ _ _⟩
        case measure => simp [intOf]
      · have g0 : (a2 == b2) = false := by simpa using e0
        go_wp2
        go_quiet (fail)
        go_wp2
        go_quiet (fail)
        go_wp2
        go_ret
        exact ⟨ret_bool E.out.symm, BQ.out _ _⟩
    · have E := hide (show ltW (a0, a1, a2) (a0, a1, a2) = false by simp [ltW])
      go_wp2
      go_ret
      exact ⟨ret_bool E.out.symm, BW.out⟩
end Go.Proofs.YtmkbjcoagfnegaaGreatDoor
