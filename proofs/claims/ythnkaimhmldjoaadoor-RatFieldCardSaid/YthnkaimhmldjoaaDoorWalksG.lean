/-
  The two makers of fractions.
-/
import Derived.Test.YthnkaimhmldjoaaDoorWalksF
import Derived.Deep.RegionWith
import Derived.Deep.DrawnRows
set_option linter.unusedVariables false
namespace Go.Proofs.YthnkaimhmldjoaaDoor
open Go.RowKit

/-- n over d in lowest terms: has it room? -/
def fits (n d : Int) : Bool := decide (0 < d) && decide (n / gc n d ≤ 9223372036854775807) && decide (d / gc n d ≤ 9223372036854775807)
def lowN (neg : Bool) (n d : Int) : Int := if fits n d then (if neg then -(n / gc n d) else n / gc n d) else 0
def lowD (n d : Int) : Int := if fits n d then d / gc n d else 0
theorem gc_dvd_l (n d : Int) : gc n d ∣ n := by unfold gc; exact Int.gcd_dvd_left _ _
theorem gc_dvd_r (n d : Int) : gc n d ∣ d := by unfold gc; exact Int.gcd_dvd_right _ _
theorem quo_bd {n g : Int} (h : 0 ≤ n) (hg : 0 < g) : 0 ≤ n / g ∧ n / g ≤ n := ⟨Int.ediv_nonneg h (Int.le_of_lt hg), Int.ediv_le_self _ h⟩
attribute [local go_sem ↓] Go.wp_at_zero Go.wp_at_succ
def Sm (w wr : World) (b : Nat) (n d g : Int) : Prop := Up w wr ∧ w.heap.size + 1 + 1 < b ∧ b < wr.heap.size ∧
  wr.cell? ⟨w.heap.size, 0, none⟩ = some (.int .u64 (hi n)) ∧ wr.cell? ⟨w.heap.size, 1, none⟩ = some (.int .u64 (lo n)) ∧
  wr.cell? ⟨w.heap.size + 1, 0, none⟩ = some (.int .u64 (hi d)) ∧ wr.cell? ⟨w.heap.size + 1, 1, none⟩ = some (.int .u64 (lo d)) ∧
  wr.cell? ⟨w.heap.size + 1 + 1, 0, none⟩ = some (.int .i64 0) ∧ wr.cell? ⟨w.heap.size + 1 + 1, 1, none⟩ = some (.int .i64 0) ∧
  wr.cell? ⟨b, 0, none⟩ = some (.int .u64 (hi g)) ∧ wr.cell? ⟨b, 1, none⟩ = some (.int .u64 (lo g))
theorem Sm.up {w wr wl : World} {b : Nat} {n d g : Int} (s : Sm w wr b n d g) (h : Up wr wl) : Sm w wl b n d g := by
  obtain ⟨s0, s1, s2, s3, s4, s5, s6, s7, s8, s9, sa⟩ := s
  exact ⟨s0.trans h, s1, Nat.lt_of_lt_of_le s2 h.size, (h.cell _ _ (by omega)).trans s3, (h.cell _ _ (by omega)).trans s4, (h.cell _ _ (by omega)).trans s5, (h.cell _ _ (by omega)).trans s6, (h.cell _ _ (by omega)).trans s7, (h.cell _ _ (by omega)).trans s8, (h.cell _ _ (by omega)).trans s9, (h.cell _ _ (by omega)).trans sa⟩
theorem Sm.fz {w wr : World} {b : Nat} {n d g : Int} (s : Sm w wr b n d g) : wr.frozen? ⟨w.heap.size, 0, none⟩ = false ∧ wr.frozen? ⟨w.heap.size, 1, none⟩ = false ∧ wr.frozen? ⟨w.heap.size + 1, 0, none⟩ = false ∧ wr.frozen? ⟨w.heap.size + 1, 1, none⟩ = false ∧ wr.frozen? ⟨w.heap.size + 1 + 1, 0, none⟩ = false ∧ wr.frozen? ⟨w.heap.size + 1 + 1, 1, none⟩ = false :=
  ⟨s.1.fz 0 (by omega), s.1.fz 1 (by omega), s.1.fz 0 (by omega), s.1.fz 1 (by omega), s.1.fz 0 (by omega), s.1.fz 1 (by omega)⟩
theorem Sm.setA {w wr : World} {b : Nat} {n d g : Int} (s : Sm w wr b n d g) (z : Int) : Sm w ((wr.setCell ⟨w.heap.size, 0, none⟩ (.int .u64 (hi z))).setCell ⟨w.heap.size, 1, none⟩ (.int .u64 (lo z))) b z d g := by
  obtain ⟨s0, s1, s2, s3, s4, s5, s6, s7, s8, s9, sa⟩ := s
  have h1 : ¬ w.heap.size = b := by omega
  refine ⟨(s0.setCell (by simp) _).setCell (by simp) _, s1, by rw [size_set, size_set]; exact s2, ?_, ?_, ?_, ?_, ?_, ?_, ?_, ?_⟩ <;> simp [go_sem, *]
theorem Sm.setB {w wr : World} {b : Nat} {n d g : Int} (s : Sm w wr b n d g) (z : Int) : Sm w ((wr.setCell ⟨w.heap.size + 1, 0, none⟩ (.int .u64 (hi z))).setCell ⟨w.heap.size + 1, 1, none⟩ (.int .u64 (lo z))) b n z g := by
  obtain ⟨s0, s1, s2, s3, s4, s5, s6, s7, s8, s9, sa⟩ := s
  have h1 : ¬ w.heap.size + 1 = b := by omega
  refine ⟨(s0.setCell (by simp) _).setCell (by simp) _, s1, by rw [size_set, size_set]; exact s2, ?_, ?_, ?_, ?_, ?_, ?_, ?_, ?_⟩ <;> simp [go_sem, *]
end Go.Proofs.YthnkaimhmldjoaaDoor
