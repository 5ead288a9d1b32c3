/-
  The sum of two weights, by the program.
-/
import Derived.Test.YtmkbjcoagfnegaaGreatDoorLSwA
import Derived.Test.YtmkbjcoagfnegaaGreatDoorX12
import Derived.Deep.RegionHeld3
set_option linter.unusedVariables false
set_option linter.unusedSimpArgs false
namespace Go.Proofs.YtmkbjcoagfnegaaGreatDoor
open Go.RowKit

def In3 (x : Wt) (B : Nat) : Prop := (0 ≤ x.1 ∧ x.1 ≤ B) ∧ (0 ≤ x.2.1 ∧ x.2.1 ≤ B) ∧ (0 ≤ x.2.2 ∧ x.2.2 ≤ B)
/-- A weight that is told out of a block of its own. -/
theorem ret3 {fn : Func} {R : Ending → World → Prop} {a : Act} {w : World} {t : Tmp} {b : Nat} {x : Wt} (hf : fn.results = #[.cell t 42]) (ht : a.tmps.getD t undef = .pointer (some ⟨b, 0, none⟩)) (hb : Bk3 w b x) (hd : a.defers = []) (h : R (.returned (wV x)) w) : bodyPost Tryz.prog fn R .ret a w :=
  ret_cell (cs := [.int .i64 x.1, .int .i64 x.2.1, .int .i64 x.2.2]) hf ht (range_blk (cs := [.int .i64 x.1, .int .i64 x.2.1, .int .i64 x.2.2]) hb) Tryz.underlying42 rfl (by kernel_rfl) hd h
def mix (i : Int) (x y : Wt) : Wt := if i = 0 then x else if i = 1 then (x.1 + y.1, x.2.1, x.2.2) else if i = 2 then (x.1 + y.1, x.2.1 + y.2.1, x.2.2) else adW x y
/-- The state of the loop of plus. -/
def RelPl (w : World) (x y : Wt) (i : Value) (wr : World) : Prop := ∃ k : Int, i = .int .i64 k ∧ (k = 0 ∨ k = 1 ∨ k = 2 ∨ k = 3) ∧ Hid (Bk3 wr w.heap.size (mix k x y) ∧ Bk3 wr (w.heap.size + 1) y ∧ Bk3 wr (w.heap.size + 2) z3 ∧ Below w.heap.size w wr)
theorem RelPl.mk {w : World} {x y : Wt} {i : Value} {wr : World} (k : Int) (h : i = .int .i64 k) (hk : k = 0 ∨ k = 1 ∨ k = 2 ∨ k = 3) (h1 : Bk3 wr w.heap.size (mix k x y)) (h2 : Bk3 wr (w.heap.size + 1) y) (h3 : Bk3 wr (w.heap.size + 2) z3) (h4 : Below w.heap.size w wr) : RelPl w x y i wr := ⟨k, h, hk, h1, h2, h3, h4⟩
set_option maxRecDepth 100000 in
set_option maxHeartbeats 4000000 in
theorem plusP_any (x y : Wt) (A B : Nat) (w : World) (hx : In3 x A) (hy : In3 y B) (hA : A ≤ 1000000000000) (hB : B ≤ 1000000000000) : Calls Tryz.prog 61 #[wV x, wV y] w fun e w' => e = .returned (wV (adW x y)) ∧ Below w.heap.size w w' := by
  obtain ⟨a0, a1, a2⟩ := x
  obtain ⟨b0, b1, b2⟩ := y
  obtain ⟨⟨x1, x2⟩, ⟨x3, x4⟩, x5, x6⟩ := hx
  obtain ⟨⟨y1, y2⟩, ⟨y3, y4⟩, y5, y6⟩ := hy
  simp only at x1 x2 x3 x4 x5 x6 y1 y2 y3 y4 y5 y6
  have w0 : IntKind.i64.wrap (a0 + b0) = a0 + b0 := by simp [IntKind.wrap, go_sem]; omega
  have w1 : IntKind.i64.wrap (a1 + b1) = a1 + b1 := by simp [IntKind.wrap, go_sem]; omega
  have w2 : IntKind.i64.wrap (a2 + b2) = a2 + b2 := by simp [IntKind.wrap, go_sem]; omega
  clear x1 x2 x3 x4 x5 x6 y1 y2 y3 y4 y5 y6 hA hB
  unfold wV
  simp only
  obtain ⟨W1, hW1⟩ : ∃ W1, ((w.alloc (.cells #[.int .i64 a0, .int .i64 a1, .int .i64 a2] 42)).alloc (.cells #[.int .i64 b0, .int .i64 b1, .int .i64 b2] 42)).alloc (.cells #[.int .i64 0, .int .i64 0, .int .i64 0] 42) = W1 := ⟨_, rfl⟩
  have HW1 := hide hW1
  have B0 := hide (show Below w.heap.size w W1 by rw [← hW1]; exact bplus (bplus (bplus (Below.refl _ _) _) _) _)
  have P0 := hide (show Bk3 W1 w.heap.size (a0, a1, a2) by rw [← hW1]; exact ((Bk3.new w (a0, a1, a2)).more _).more _)
  have P1 := hide (show Bk3 W1 (w.heap.size + 1) (b0, b1, b2) by rw [← hW1]; have := (Bk3.new (w.alloc (.cells #[.int .i64 a0, .int .i64 a1, .int .i64 a2] 42)) (b0, b1, b2)).more (.cells #[.int .i64 0, .int .i64 0, .int .i64 0] 42); simpa using this)
  have P2 := hide (show Bk3 W1 (w.heap.size + 2) z3 by rw [← hW1]; have := Bk3.new ((w.alloc (.cells #[.int .i64 a0, .int .i64 a1, .int .i64 a2] 42)).alloc (.cells #[.int .i64 b0, .int .i64 b1, .int .i64 b2] 42)) z3; simpa [z3] using this)
  clear hW1
  go_enter Tryz.func61, Tryz.ntmps61
  go_wp2_with fail
  rw [HW1.out]
  go_wp2_with fail
  go_loopw [6] (fun i wr => RelPl w (a0, a1, a2) (b0, b1, b2) i wr) (fun i _ => 3 - (intOf i).toNat)
  case atStart => exact .mk 0 rfl (.inl rfl) P0.out P1.out P2.out B0.out
  case round =>
    obtain ⟨k, rfl, hk, R⟩ := hrel
    have Q0 := hide R.out.1
    have Q1 := hide R.out.2.1
    have Q2 := hide R.out.2.2.1
    have BW := hide R.out.2.2.2
    clear R P0 P1 P2 B0 HW1
    have c0 := Q0.out.cells.1
    have c1 := Q0.out.cells.2.1
    have c2 := Q0.out.cells.2.2
    have z0 := Q0.out.fz 0
    have z1 := Q0.out.fz 1
    have z2 := Q0.out.fz 2
    obtain ⟨d0, d1, d2⟩ := Q1.out.cells
    obtain ⟨e0, e1, e2⟩ := Q2.out.cells
    have v0 := Q2.out.fz 0
    have v1 := Q2.out.fz 1
    have v2 := Q2.out.fz 2
    rcases hk with rfl | rfl | rfl | rfl
    · simp only [mix, reduceIte, show ¬ (1 : Int) = 0 by decide, show ¬ (2 : Int) = 0 by decide, show ¬ (2 : Int) = 1 by decide] at c0 c1 c2
      have N := hide (show Bk3 (wr.setCell ⟨w.heap.size, 0, none⟩ (.int .i64 (a0 + b0))) w.heap.size (a0 + b0, a1, a2) from setCell_blk Q0.out _)
      have N1 := hide (Q1.out.far (r := w.heap.size) (by omega) 0 (.int .i64 (a0 + b0)))
      have N2 := hide (Q2.out.far (r := w.heap.size) (by omega) 0 (.int .i64 (a0 + b0)))
      have BN := hide ((BW.out.setCell (p := ⟨w.heap.size, 0, none⟩) (Nat.le_refl _) (.int .i64 (a0 + b0))).drew)
      go_wp2
      go_region
      go_wp2
      go_roundw
      case rel => exact .mk 1 (by go_num) (by omega) N.out N1.out N2.out BN.out
      case measure => simp [intOf]
    · simp only [mix, reduceIte, show ¬ (1 : Int) = 0 by decide, show ¬ (2 : Int) = 0 by decide, show ¬ (2 : Int) = 1 by decide] at c0 c1 c2
      have N := hide (show Bk3 (wr.setCell ⟨w.heap.size, 1, none⟩ (.int .i64 (a1 + b1))) w.heap.size (a0 + b0, a1 + b1, a2) from setCell_blk Q0.out _)
      have N1 := hide (Q1.out.far (r := w.heap.size) (by omega) 1 (.int .i64 (a1 + b1)))
      have N2 := hide (Q2.out.far (r := w.heap.size) (by omega) 1 (.int .i64 (a1 + b1)))
      have BN := hide ((BW.out.setCell (p := ⟨w.heap.size, 1, none⟩) (Nat.le_refl _) (.int .i64 (a1 + b1))).drew)
      go_wp2
      go_region
      go_wp2
      go_roundw
      case rel => exact .mk 2 (by go_num) (by omega) N.out N1.out N2.out BN.out
      case measure => simp [intOf]
    · simp only [mix, reduceIte, show ¬ (1 : Int) = 0 by decide, show ¬ (2 : Int) = 0 by decide, show ¬ (2 : Int) = 1 by decide] at c0 c1 c2
      have N := hide (show Bk3 (wr.setCell ⟨w.heap.size, 2, none⟩ (.int .i64 (a2 + b2))) w.heap.size (a0 + b0, a1 + b1, a2 + b2) from setCell_blk Q0.out _)
      have N1 := hide (Q1.out.far (r := w.heap.size) (by omega) 2 (.int .i64 (a2 + b2)))
      have N2 := hide (Q2.out.far (r := w.heap.size) (by omega) 2 (.int .i64 (a2 + b2)))
      have BN := hide ((BW.out.setCell (p := ⟨w.heap.size, 2, none⟩) (Nat.le_refl _) (.int .i64 (a2 + b2))).drew)
      go_wp2
      go_region
      go_wp2
      go_roundw
      case rel => exact .mk 3 (by go_num) (by omega) N.out N1.out N2.out BN.out
      case measure => simp [intOf]
    · simp only [mix, reduceIte, show ¬ (3 : Int) = 0 by decide, show ¬ (3 : Int) = 1 by decide, show ¬ (3 : Int) = 2 by decide, adW] at c0 c1 c2
      have N := hide (Q2.out.put (adW (a0, a1, a2) (b0, b1, b2)))
      have BN := hide (below_put (b := w.heap.size + 2) BW.out (by omega) (.int .i64 (a0 + b0)) (.int .i64 (a1 + b1)) (.int .i64 (a2 + b2)))
      go_wp2
      exact ret3 (b := w.heap.size + 2) Tryz.results61 rfl N.out rfl ⟨rfl, BN.out⟩
end Go.Proofs.YtmkbjcoagfnegaaGreatDoor
