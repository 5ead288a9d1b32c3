/-
  The walk of the statement RatOrder.
-/
import Derived.Test.YthnkaimhmldjoaaDoorWalksU
import Derived.Deep.RegionHeld3
import Derived.Deep.DrawnRows
import Derived.Deep.DeepCutAuto
set_option linter.unusedVariables false
namespace Go.Proofs.YthnkaimhmldjoaaDoor
open Go.RowKit

def S3 (w wr : World) (n d m e f g : Int) : Prop := Up w wr ∧ w.heap.size + 1 + 1 < wr.heap.size ∧
  wr.cell? ⟨w.heap.size, 0, none⟩ = some (.int .i64 n) ∧ wr.cell? ⟨w.heap.size, 1, none⟩ = some (.int .i64 d) ∧
  wr.cell? ⟨w.heap.size + 1, 0, none⟩ = some (.int .i64 m) ∧ wr.cell? ⟨w.heap.size + 1, 1, none⟩ = some (.int .i64 e) ∧
  wr.cell? ⟨w.heap.size + 1 + 1, 0, none⟩ = some (.int .i64 f) ∧ wr.cell? ⟨w.heap.size + 1 + 1, 1, none⟩ = some (.int .i64 g)
theorem S3.start (w : World) (n d m e f g : Int) : S3 w (((w.alloc (.cells #[.int .i64 n, .int .i64 d] 23)).alloc (.cells #[.int .i64 m, .int .i64 e] 23)).alloc (.cells #[.int .i64 f, .int .i64 g] 23)) n d m e f g := by
  refine ⟨(((Up.refl _).alloc _ _).alloc _ _).alloc _ _, ?_, ?_, ?_, ?_, ?_, ?_, ?_⟩ <;> simp [go_sem]
theorem S3.up {w wr wl : World} {n d m e f g : Int} (s : S3 w wr n d m e f g) (h : Up wr wl) : S3 w wl n d m e f g := by
  obtain ⟨s0, s1, s2, s3, s4, s5, s6, s7⟩ := s
  exact ⟨s0.trans h, Nat.lt_of_lt_of_le s1 h.size, (h.cell _ _ (by omega)).trans s2, (h.cell _ _ (by omega)).trans s3, (h.cell _ _ (by omega)).trans s4, (h.cell _ _ (by omega)).trans s5, (h.cell _ _ (by omega)).trans s6, (h.cell _ _ (by omega)).trans s7⟩
theorem S3.cells {w wr : World} {n d m e f g : Int} (s : S3 w wr n d m e f g) : wr.cell? ⟨w.heap.size, 0, none⟩ = some (.int .i64 n) ∧ wr.cell? ⟨w.heap.size, 1, none⟩ = some (.int .i64 d) ∧
  wr.cell? ⟨w.heap.size + 1, 0, none⟩ = some (.int .i64 m) ∧ wr.cell? ⟨w.heap.size + 1, 1, none⟩ = some (.int .i64 e) ∧ wr.cell? ⟨w.heap.size + 1 + 1, 0, none⟩ = some (.int .i64 f) ∧ wr.cell? ⟨w.heap.size + 1 + 1, 1, none⟩ = some (.int .i64 g) := s.2.2
theorem turn_isV {n d : Int} (hn : I64 n) (va : isV n d = true) : isV (-n) d = true := by
  have := isV_num va
  have h2 := hn
  unfold I64 at h2
  unfold isV at *
  rw [show ab (-n) = ab n by unfold ab; split <;> split <;> omega]
  simp at va ⊢
  omega
attribute [local go_sem ↓] Go.wp_at_zero Go.wp_at_succ
end Go.Proofs.YthnkaimhmldjoaaDoor
