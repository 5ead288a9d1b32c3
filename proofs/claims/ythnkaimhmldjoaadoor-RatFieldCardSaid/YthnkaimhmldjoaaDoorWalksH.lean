/-
  The program's maker of fractions, and the fraction of two numbers.
-/
import Derived.Test.YthnkaimhmldjoaaDoorWalksF
import Derived.Deep.RegionWith
import Derived.Deep.DrawnRows
set_option linter.unusedVariables false
namespace Go.Proofs.YthnkaimhmldjoaaDoor
open Go.RowKit

/-- What the program's maker tells of two magnitudes. -/
def mkN (neg : Bool) (n d : Int) : Int := if n ≤ 9223372036854775807 ∧ d ≤ 9223372036854775807 then (if neg then -n else n) else 0
def mkD (n d : Int) : Int := if n ≤ 9223372036854775807 ∧ d ≤ 9223372036854775807 then d else 0
theorem made_any (neg : Bool) (n d : Int) (w : World) (n0 : 0 ≤ n) (n1 : n < 18446744073709551616) (d0 : 0 ≤ d) (d1 : d < 18446744073709551616) :
    Calls Tryd.prog 23 #[.bool neg, .int .u64 n, .int .u64 d] w fun e w' => e = .returned (.agg #[.int .i64 (mkN neg n d), .int .i64 (mkD n d)]) ∧ ∃ c, w' = w.alloc (.cells c 23) := by
  by_cases hn : n ≤ 9223372036854775807
  · by_cases hd : d ≤ 9223372036854775807
    · have e1 : mkN neg n d = if neg then -n else n := if_pos ⟨hn, hd⟩
      have e2 : mkD n d = d := if_pos ⟨hn, hd⟩
      rw [e1, e2]; clear e1 e2
      cases neg
      all_goals
        go_enter Tryd.func23, Tryd.ntmps23
        go_wp2
        first
          | exact bodyPost_ret (v := .agg #[.int .i64 n, .int .i64 d]) (by simp [results, Tryd.results23, go_sem]) rfl ⟨rfl, _, rfl⟩
          | exact bodyPost_ret (v := .agg #[.int .i64 (-n), .int .i64 d]) (by simp [results, Tryd.results23, go_sem]) rfl ⟨rfl, _, rfl⟩
    · have e1 : mkN neg n d = 0 := if_neg (by omega)
      have e2 : mkD n d = 0 := if_neg (by omega)
      rw [e1, e2]; clear e1 e2
      go_enter Tryd.func23, Tryd.ntmps23
      go_wp2
      exact bodyPost_ret (v := .agg #[.int .i64 0, .int .i64 0]) (by simp [results, Tryd.results23, go_sem]) rfl ⟨rfl, _, rfl⟩
  · have e1 : mkN neg n d = 0 := if_neg (by omega)
    have e2 : mkD n d = 0 := if_neg (by omega)
    rw [e1, e2]; clear e1 e2
    go_enter Tryd.func23, Tryd.ntmps23
    go_wp2
    exact bodyPost_ret (v := .agg #[.int .i64 0, .int .i64 0]) (by simp [results, Tryd.results23, go_sem]) rfl ⟨rfl, _, rfl⟩
/-- The sign of a quotient. -/
def ng (n d : Int) : Bool := !(decide (n < 0) == decide (d < 0))
theorem of_zero (n : Int) (w : World) :
    Calls Tryd.prog 15 #[.int .i64 n, .int .i64 0] w fun e w' => e = .returned (.agg #[.int .i64 0, .int .i64 0]) ∧ Up w w' := by
  go_enter Tryd.func15, Tryd.ntmps15
  go_wp2
  exact bodyPost_ret (v := .agg #[.int .i64 0, .int .i64 0]) (by simp [results, Tryd.results15, go_sem]) rfl ⟨rfl, (Up.refl _).alloc _ _⟩
theorem wrap_quo {x g : Int} (h0 : 0 ≤ x) (h1 : x < 18446744073709551616) : IntKind.u64.wrap (x.tdiv g) = x / g ∨ g ≤ 0 := by
  by_cases hg : 0 < g
  · left
    rw [Int.tdiv_eq_ediv_of_nonneg h0, IntKind.wrap_u64]
    have := Int.ediv_nonneg h0 (Int.le_of_lt hg)
    have := Int.ediv_le_self g h0
    omega
  · right; omega
set_option maxHeartbeats 1000000 in
theorem of_any (n d : Int) (w : World) (n1 : -9223372036854775808 ≤ n) (n2 : n ≤ 9223372036854775807) (d1 : -9223372036854775808 ≤ d) (d2 : d ≤ 9223372036854775807) (hd : ¬ d = 0) :
    Calls Tryd.prog 15 #[.int .i64 n, .int .i64 d] w fun e w' => e = .returned (.agg #[.int .i64 (mkN (ng n d) (ab n / gc (ab n) (ab d)) (ab d / gc (ab n) (ab d))), .int .i64 (mkD (ab n / gc (ab n) (ab d)) (ab d / gc (ab n) (ab d)))]) ∧ Up w w' := by
  obtain ⟨p1, p2⟩ := ab_bd n1 n2
  obtain ⟨q1, q2⟩ := ab_bd d1 d2
  have q3 : 0 < ab d := by unfold ab; split <;> omega
  have z0 : (d == 0) = false := by simpa using hd
  have g0 : 0 < gc (ab n) (ab d) := by rw [gc_comm]; exact gc_pos q3
  have g1 : ¬ gc (ab n) (ab d) = 0 := by omega
  have x0 : 0 ≤ ab n / gc (ab n) (ab d) := Int.ediv_nonneg p1 (Int.le_of_lt g0)
  have x1 : ab n / gc (ab n) (ab d) < 18446744073709551616 := Int.lt_of_le_of_lt (Int.ediv_le_self _ p1) p2
  have y0 : 0 ≤ ab d / gc (ab n) (ab d) := Int.ediv_nonneg q1 (Int.le_of_lt g0)
  have y1 : ab d / gc (ab n) (ab d) < 18446744073709551616 := Int.lt_of_le_of_lt (Int.ediv_le_self _ q1) q2
  have T1 : Hid _ := (wrap_quo (g := gc (ab n) (ab d)) p1 p2).resolve_right (by omega)
  have T2 : Hid _ := (wrap_quo (g := gc (ab n) (ab d)) q1 q2).resolve_right (by omega)
  clear hd
  go_enter Tryd.func15, Tryd.ntmps15
  go_wp2_with (first
    | (go_at_call 18; refine (magnitude_any _ _ (by omega) (by omega)).mono ?_; rintro _ _ ⟨rfl, rfl⟩)
    | (go_at_call 17; refine (divisor_any _ _ _ p1 p2 q1 q2).mono ?_; rintro _ _ ⟨rfl, k, rfl⟩))
  go_region_with (first | (go_at_call 23; rw [T1.out, T2.out]; refine (made_any _ _ _ _ x0 x1 y0 y1).mono ?_; rintro _ _ ⟨rfl, c, rfl⟩))
  go_wp2
  refine bodyPost_ret (v := .agg #[.int .i64 (mkN (ng n d) (ab n / gc (ab n) (ab d)) (ab d / gc (ab n) (ab d))), .int .i64 (mkD (ab n / gc (ab n) (ab d)) (ab d / gc (ab n) (ab d)))]) (by simp [results, Tryd.results15, go_sem, ng]) rfl ⟨rfl, ?_⟩
  repeat (first | exact Up.refl _ | apply Up.alloc | apply Up.drewN | apply Up.drew | (refine Up.setCell ?_ (by simp) _))
end Go.Proofs.YthnkaimhmldjoaaDoor
