/-
  The reference's sum of two fractions.
-/
import Derived.Test.YtlhmecagijdinaaDoorN09
import Derived.Deep.RegionHeld3
import Derived.Deep.DrawnRows
import Derived.Deep.DeepCutAuto
set_option linter.unusedVariables false
namespace Go.Proofs.YtlhmecagijdinaaDoor.wk
open Go.RowKit

def Sy (w wr : World) (n d m e : Int) (bp bq : Nat) (X Y : Int) : Prop := S2 w wr n d m e ∧ w.heap.size + 1 + 1 < bp ∧ w.heap.size + 1 + 1 < bq ∧ bp < wr.heap.size ∧ bq < wr.heap.size ∧
  wr.cell? ⟨bp, 0, none⟩ = some (.int .u64 (hi X)) ∧ wr.cell? ⟨bp, 1, none⟩ = some (.int .u64 (lo X)) ∧ wr.cell? ⟨bq, 0, none⟩ = some (.int .u64 (hi Y)) ∧ wr.cell? ⟨bq, 1, none⟩ = some (.int .u64 (lo Y))
theorem Sy.up {w wr wl : World} {n d m e : Int} {bp bq : Nat} {X Y : Int} (s : Sy w wr n d m e bp bq X Y) (h : Up wr wl) : Sy w wl n d m e bp bq X Y := by
  obtain ⟨s0, s1, s2, s3, s4, s5, s6, s7, s8⟩ := s
  exact ⟨s0.up h, s1, s2, Nat.lt_of_lt_of_le s3 h.size, Nat.lt_of_lt_of_le s4 h.size, (h.cell _ _ (by omega)).trans s5, (h.cell _ _ (by omega)).trans s6, (h.cell _ _ (by omega)).trans s7, (h.cell _ _ (by omega)).trans s8⟩
def Sz (w wr : World) (n d m e : Int) (bp bq bd : Nat) (X Y D : Int) : Prop := Sy w wr n d m e bp bq X Y ∧ w.heap.size + 1 + 1 < bd ∧ bd < wr.heap.size ∧
  wr.cell? ⟨bd, 0, none⟩ = some (.int .u64 (hi D)) ∧ wr.cell? ⟨bd, 1, none⟩ = some (.int .u64 (lo D))
theorem Sz.up {w wr wl : World} {n d m e : Int} {bp bq bd : Nat} {X Y D : Int} (s : Sz w wr n d m e bp bq bd X Y D) (h : Up wr wl) : Sz w wl n d m e bp bq bd X Y D := by
  obtain ⟨s0, s1, s2, s3, s4⟩ := s
  exact ⟨s0.up h, s1, Nat.lt_of_lt_of_le s2 h.size, (h.cell _ _ (by omega)).trans s3, (h.cell _ _ (by omega)).trans s4⟩
theorem Sz.cells {w wr : World} {n d m e : Int} {bp bq bd : Nat} {X Y D : Int} (s : Sz w wr n d m e bp bq bd X Y D) :
    wr.cell? ⟨bp, 0, none⟩ = some (.int .u64 (hi X)) ∧ wr.cell? ⟨bp, 1, none⟩ = some (.int .u64 (lo X)) ∧ wr.cell? ⟨bq, 0, none⟩ = some (.int .u64 (hi Y)) ∧ wr.cell? ⟨bq, 1, none⟩ = some (.int .u64 (lo Y)) ∧ wr.cell? ⟨bd, 0, none⟩ = some (.int .u64 (hi D)) ∧ wr.cell? ⟨bd, 1, none⟩ = some (.int .u64 (lo D)) :=
  ⟨s.1.2.2.2.2.2.1, s.1.2.2.2.2.2.2.1, s.1.2.2.2.2.2.2.2.1, s.1.2.2.2.2.2.2.2.2, s.2.2.2.1, s.2.2.2.2⟩
attribute [local go_sem ↓] Go.wp_at_zero Go.wp_at_succ
end Go.Proofs.YtlhmecagijdinaaDoor.wk
