/-
  The two makers of fractions.
  The program's maker of fractions, and the fraction of two numbers.
-/
import Derived.Test.YtdnnidnghaifgaaDoorN04
import Derived.Deep.RegionWith
import Derived.Deep.DrawnRows
set_option linter.unusedVariables false
namespace Go.Proofs.YtdnnidnghaifgaaDoor.wk
open Go.RowKit

/-- n over d in lowest terms: has it room? -/
def fits (n d : Int) : Bool := decide (0 < d) && decide (n / gc n d ≤ 9223372036854775807) && decide (d / gc n d ≤ 9223372036854775807)
def lowN (neg : Bool) (n d : Int) : Int := if fits n d then (if neg then -(n / gc n d) else n / gc n d) else 0
def lowD (n d : Int) : Int := if fits n d then d / gc n d else 0
theorem gc_dvd_l (n d : Int) : gc n d ∣ n := by unfold gc; exact Int.gcd_dvd_left _ _
theorem gc_dvd_r (n d : Int) : gc n d ∣ d := by unfold gc; exact Int.gcd_dvd_right _ _
theorem quo_bd {n g : Int} (h : 0 ≤ n) (hg : 0 < g) : 0 ≤ n / g ∧ n / g ≤ n := ⟨Int.ediv_nonneg h (Int.le_of_lt hg), Int.ediv_le_self _ h⟩
attribute [local go_sem ↓] Go.wp_at_zero Go.wp_at_succ
def Sm (w wr : World) (b : Nat) (n d g : Int) : Prop := Up w wr ∧ w.heap.size + 1 + 1 < b ∧ b < wr.heap.size ∧
  wr.cell? ⟨w.heap.size, 0, none⟩ = some (.int .u64 (hi n)) ∧ wr.cell? ⟨w.heap.size, 1, none⟩ = some (.int .u64 (lo n)) ∧
  wr.cell? ⟨w.heap.size + 1, 0, none⟩ = some (.int .u64 (hi d)) ∧ wr.cell? ⟨w.heap.size + 1, 1, none⟩ = some (.int .u64 (lo d)) ∧
  wr.cell? ⟨w.heap.size + 1 + 1, 0, none⟩ = some (.int .i64 0) ∧ wr.cell? ⟨w.heap.size + 1 + 1, 1, none⟩ = some (.int .i64 0) ∧
  wr.cell? ⟨b, 0, none⟩ = some (.int .u64 (hi g)) ∧ wr.cell? ⟨b, 1, none⟩ = some (.int .u64 (lo g))
theorem Sm.up {w wr wl : World} {b : Nat} {n d g : Int} (s : Sm w wr b n d g) (h : Up wr wl) : Sm w wl b n d g := by
  obtain ⟨s0, s1, s2, s3, s4, s5, s6, s7, s8, s9, sa⟩ := s
  exact ⟨s0.trans h, s1, Nat.lt_of_lt_of_le s2 h.size, (h.cell _ _ (by omega)).trans s3, (h.cell _ _ (by omega)).trans s4, (h.cell _ _ (by omega)).trans s5, (h.cell _ _ (by omega)).trans s6, (h.cell _ _ (by omega)).trans s7, (h.cell _ _ (by omega)).trans s8, (h.cell _ _ (by omega)).trans s9, (h.cell _ _ (by omega)).trans sa⟩
theorem Sm.fz {w wr : World} {b : Nat} {n d g : Int} (s : Sm w wr b n d g) : wr.frozen? ⟨w.heap.size, 0, none⟩ = false ∧ wr.frozen? ⟨w.heap.size, 1, none⟩ = false ∧ wr.frozen? ⟨w.heap.size + 1, 0, none⟩ = false ∧ wr.frozen? ⟨w.heap.size + 1, 1, none⟩ = false ∧ wr.frozen? ⟨w.heap.size + 1 + 1, 0, none⟩ = false ∧ wr.frozen? ⟨w.heap.size + 1 + 1, 1, none⟩ = false :=
  ⟨s.1.fz 0 (by omega), s.1.fz 1 (by omega), s.1.fz 0 (by omega), s.1.fz 1 (by omega), s.1.fz 0 (by omega), s.1.fz 1 (by omega)⟩
theorem Sm.setA {w wr : World} {b : Nat} {n d g : Int} (s : Sm w wr b n d g) (z : Int) : Sm w ((wr.setCell ⟨w.heap.size, 0, none⟩ (.int .u64 (hi z))).setCell ⟨w.heap.size, 1, none⟩ (.int .u64 (lo z))) b z d g := by
  obtain ⟨s0, s1, s2, s3, s4, s5, s6, s7, s8, s9, sa⟩ := s
  have h1 : ¬ w.heap.size = b := by omega
  refine ⟨(s0.setCell (by simp) _).setCell (by simp) _, s1, by rw [size_set, size_set]; exact s2, ?_, ?_, ?_, ?_, ?_, ?_, ?_, ?_⟩ <;> simp [go_sem, *]
theorem Sm.setB {w wr : World} {b : Nat} {n d g : Int} (s : Sm w wr b n d g) (z : Int) : Sm w ((wr.setCell ⟨w.heap.size + 1, 0, none⟩ (.int .u64 (hi z))).setCell ⟨w.heap.size + 1, 1, none⟩ (.int .u64 (lo z))) b n z g := by
  obtain ⟨s0, s1, s2, s3, s4, s5, s6, s7, s8, s9, sa⟩ := s
  have h1 : ¬ w.heap.size + 1 = b := by omega
  refine ⟨(s0.setCell (by simp) _).setCell (by simp) _, s1, by rw [size_set, size_set]; exact s2, ?_, ?_, ?_, ?_, ?_, ?_, ?_, ?_⟩ <;> simp [go_sem, *]
end Go.Proofs.YtdnnidnghaifgaaDoor.wk
set_option linter.unusedVariables false
namespace Go.Proofs.YtdnnidnghaifgaaDoor.wk
open Go.RowKit

/-- What the program's maker tells of two magnitudes. -/
def mkN (neg : Bool) (n d : Int) : Int := if n ≤ 9223372036854775807 ∧ d ≤ 9223372036854775807 then (if neg then -n else n) else 0
def mkD (n d : Int) : Int := if n ≤ 9223372036854775807 ∧ d ≤ 9223372036854775807 then d else 0
theorem made_any (neg : Bool) (n d : Int) (w : World) (n0 : 0 ≤ n) (n1 : n < 18446744073709551616) (d0 : 0 ≤ d) (d1 : d < 18446744073709551616) :
    Calls Tryd.prog 62 #[.bool neg, .int .u64 n, .int .u64 d] w fun e w' => e = .returned (.agg #[.int .i64 (mkN neg n d), .int .i64 (mkD n d)]) ∧ ∃ c, w' = w.alloc (.cells c 23) := by
  by_cases hn : n ≤ 9223372036854775807
  · by_cases hd : d ≤ 9223372036854775807
    · have e1 : mkN neg n d = if neg then -n else n := if_pos ⟨hn, hd⟩
      have e2 : mkD n d = d := if_pos ⟨hn, hd⟩
      rw [e1, e2]; clear e1 e2
      cases neg
      all_goals
        go_enter Tryd.func62, Tryd.ntmps62
        go_wp2
        first
          | exact bodyPost_ret (v := .agg #[.int .i64 n, .int .i64 d]) (by simp [results, Tryd.results62, go_sem]) rfl ⟨rfl, _, rfl⟩
          | exact bodyPost_ret (v := .agg #[.int .i64 (-n), .int .i64 d]) (by simp [results, Tryd.results62, go_sem]) rfl ⟨rfl, _, rfl⟩
    · have e1 : mkN neg n d = 0 := if_neg (by omega)
      have e2 : mkD n d = 0 := if_neg (by omega)
      rw [e1, e2]; clear e1 e2
      go_enter Tryd.func62, Tryd.ntmps62
      go_wp2
      exact bodyPost_ret (v := .agg #[.int .i64 0, .int .i64 0]) (by simp [results, Tryd.results62, go_sem]) rfl ⟨rfl, _, rfl⟩
  · have e1 : mkN neg n d = 0 := if_neg (by omega)
    have e2 : mkD n d = 0 := if_neg (by omega)
    rw [e1, e2]; clear e1 e2
    go_enter Tryd.func62, Tryd.ntmps62
    go_wp2
    exact bodyPost_ret (v := .agg #[.int .i64 0, .int .i64 0]) (by simp [results, Tryd.results62, go_sem]) rfl ⟨rfl, _, rfl⟩
/-- The sign of a quotient. -/
def ng (n d : Int) : Bool := !(decide (n < 0) == decide (d < 0))
theorem of_zero (n : Int) (w : World) :
    Calls Tryd.prog 35 #[.int .i64 n, .int .i64 0] w fun e w' => e = .returned (.agg #[.int .i64 0, .int .i64 0]) ∧ Up w w' := by
  go_enter Tryd.func35, Tryd.ntmps35
  go_wp2
  exact bodyPost_ret (v := .agg #[.int .i64 0, .int .i64 0]) (by simp [results, Tryd.results35, go_sem]) rfl ⟨rfl, (Up.refl _).alloc _ _⟩
theorem wrap_quo {x g : Int} (h0 : 0 ≤ x) (h1 : x < 18446744073709551616) : IntKind.u64.wrap (x.tdiv g) = x / g ∨ g ≤ 0 := by
  by_cases hg : 0 < g
  · left
    rw [Int.tdiv_eq_ediv_of_nonneg h0, IntKind.wrap_u64]
    have := Int.ediv_nonneg h0 (Int.le_of_lt hg)
    have := Int.ediv_le_self g h0
    omega
  · right; omega
set_option maxHeartbeats 1000000 in
theorem of_any (n d : Int) (w : World) (n1 : -9223372036854775808 ≤ n) (n2 : n ≤ 9223372036854775807) (d1 : -9223372036854775808 ≤ d) (d2 : d ≤ 9223372036854775807) (hd : ¬ d = 0) :
    Calls Tryd.prog 35 #[.int .i64 n, .int .i64 d] w fun e w' => e = .returned (.agg #[.int .i64 (mkN (ng n d) (ab n / gc (ab n) (ab d)) (ab d / gc (ab n) (ab d))), .int .i64 (mkD (ab n / gc (ab n) (ab d)) (ab d / gc (ab n) (ab d)))]) ∧ Up w w' := by
  obtain ⟨p1, p2⟩ := ab_bd n1 n2
  obtain ⟨q1, q2⟩ := ab_bd d1 d2
  have q3 : 0 < ab d := by unfold ab; split <;> omega
  have z0 : (d == 0) = false := by simpa using hd
  have g0 : 0 < gc (ab n) (ab d) := by rw [gc_comm]; exact gc_pos q3
  have g1 : ¬ gc (ab n) (ab d) = 0 := by omega
  have x0 : 0 ≤ ab n / gc (ab n) (ab d) := Int.ediv_nonneg p1 (Int.le_of_lt g0)
  have x1 : ab n / gc (ab n) (ab d) < 18446744073709551616 := Int.lt_of_le_of_lt (Int.ediv_le_self _ p1) p2
  have y0 : 0 ≤ ab d / gc (ab n) (ab d) := Int.ediv_nonneg q1 (Int.le_of_lt g0)
  have y1 : ab d / gc (ab n) (ab d) < 18446744073709551616 := Int.lt_of_le_of_lt (Int.ediv_le_self _ q1) q2
  have T1 : Hid _ := (wrap_quo (g := gc (ab n) (ab d)) p1 p2).resolve_right (by omega)
  have T2 : Hid _ := (wrap_quo (g := gc (ab n) (ab d)) q1 q2).resolve_right (by omega)
  clear hd
  go_enter Tryd.func35, Tryd.ntmps35
  go_wp2_with (first
    | (go_at_call 60; refine (magnitude_any _ _ (by omega) (by omega)).mono ?_; rintro _ _ ⟨rfl, rfl⟩)
    | (go_at_call 61; refine (divisor_any _ _ _ p1 p2 q1 q2).mono ?_; rintro _ _ ⟨rfl, k, rfl⟩))
  go_region_with (first | (go_at_call 62; rw [T1.out, T2.out]; refine (made_any _ _ _ _ x0 x1 y0 y1).mono ?_; rintro _ _ ⟨rfl, c, rfl⟩))
  go_wp2
  refine bodyPost_ret (v := .agg #[.int .i64 (mkN (ng n d) (ab n / gc (ab n) (ab d)) (ab d / gc (ab n) (ab d))), .int .i64 (mkD (ab n / gc (ab n) (ab d)) (ab d / gc (ab n) (ab d)))]) (by simp [results, Tryd.results35, go_sem, ng]) rfl ⟨rfl, ?_⟩
  repeat (first | exact Up.refl _ | apply Up.alloc | apply Up.drewN | apply Up.drew | (refine Up.setCell ?_ (by simp) _))
end Go.Proofs.YtdnnidnghaifgaaDoor.wk
