/-
  The program's maker of fractions, and the fraction of two numbers.
-/
import Derived.Test.YtjeflecigeamnaaWalksF
import Derived.Deep.RegionWith
import Derived.Deep.DrawnRows
set_option linter.unusedVariables false
namespace Go.Proofs.Ytjeflecigeamnaa
open Go.RowKit

/-- What the program's maker tells of two magnitudes. -/
def mkN (neg : Bool) (n d : Int) : Int := if n ≤ 9223372036854775807 ∧ d ≤ 9223372036854775807 then (if neg then -n else n) else 0
def mkD (n d : Int) : Int := if n ≤ 9223372036854775807 ∧ d ≤ 9223372036854775807 then d else 0
theorem made_any (neg : Bool) (n d : Int) (w : World) (n0 : 0 ≤ n) (n1 : n < 18446744073709551616) (d0 : 0 ≤ d) (d1 : d < 18446744073709551616) :
    Calls Try.prog 28 #[.bool neg, .int .u64 n, .int .u64 d] w fun e w' => e = .returned (.agg #[.int .i64 (mkN neg n d), .int .i64 (mkD n d)]) ∧ ∃ c, w' = w.alloc (.cells c 23) := by
  by_cases hn : n ≤ 9223372036854775807
  · by_cases hd : d ≤ 9223372036854775807
    · have e1 : mkN neg n d = if neg then -n else n := if_pos ⟨hn, hd⟩
      have e2 : mkD n d = d := if_pos ⟨hn, hd⟩
      rw [e1, e2]; clear e1 e2
      cases neg
      all_goals
        go_enter Try.func28, Try.ntmps28
        go_wp2
        first
          | exact bodyPost_ret (v := .agg #[.int .i64 n, .int .i64 d]) (by simp [results, Try.results28, go_sem]) rfl ⟨rfl, _, rfl⟩
          | exact bodyPost_ret (v := .agg #[.int .i64 (-n), .int .i64 d]) (by simp [results, Try.results28, go_sem]) rfl ⟨rfl, _, rfl⟩
    · have e1 : mkN neg n d = 0 := if_neg (by omega)
      have e2 : mkD n d = 0 := if_neg (by omega)
      rw [e1, e2]; clear e1 e2
      go_enter Try.func28, Try.ntmps28
      go_wp2
      exact bodyPost_ret (v := .agg #[.int .i64 0, .int .i64 0]) (by simp [results, Try.results28, go_sem]) rfl ⟨rfl, _, rfl⟩
  · have e1 : mkN neg n d = 0 := if_neg (by omega)
    have e2 : mkD n d = 0 := if_neg (by omega)
    rw [e1, e2]; clear e1 e2
    go_enter Try.func28, Try.ntmps28
    go_wp2
    exact bodyPost_ret (v := .agg #[.int .i64 0, .int .i64 0]) (by simp [results, Try.results28, go_sem]) rfl ⟨rfl, _, rfl⟩
/-- The sign of a quotient. -/
def ng (n d : Int) : Bool := !(decide (n < 0) == decide (d < 0))
theorem wrap_quo {x g : Int} (h0 : 0 ≤ x) (h1 : x < 18446744073709551616) : IntKind.u64.wrap (x.tdiv g) = x / g ∨ g ≤ 0 := by
  by_cases hg : 0 < g
  · left
    rw [Int.tdiv_eq_ediv_of_nonneg h0, IntKind.wrap_u64]
    have := Int.ediv_nonneg h0 (Int.le_of_lt hg)
    have := Int.ediv_le_self g h0
    omega
  · right; omega
end Go.Proofs.Ytjeflecigeamnaa
