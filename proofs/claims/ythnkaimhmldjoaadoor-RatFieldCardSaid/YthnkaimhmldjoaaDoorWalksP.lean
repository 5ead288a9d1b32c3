/-
  The sum's upper part, crosswise.
-/
import Derived.Test.YthnkaimhmldjoaaDoorWalksK
import Derived.Test.YthnkaimhmldjoaaDoorWalksO
set_option linter.unusedVariables false
namespace Go.Proofs.YthnkaimhmldjoaaDoor
open Go.RowKit

theorem add64 (x y c : Int) (hx : 0 ≤ x) (hy : 0 ≤ y) (hc0 : 0 ≤ c) (hc : c ≤ 1) (w : World) : (callFunc 24 #[.int .u64 x, .int .u64 y, .int .u64 c]).run Tryd.prog w =
    .ok (.value (.tuple #[.int .u64 (lo (x + y + c)), .int .u64 (hi (x + y + c))])) w := by
  rw [run_callFunc_extern Tryd.func24 (by kernel_rfl) (by kernel_rfl) (by kernel_rfl) (e := add64Entry) (by kernel_rfl), run_add64 x y c hx hy hc0 hc]
  rfl
theorem add64_0 (x y : Int) (hx : 0 ≤ x) (hy : 0 ≤ y) (w : World) : (callFunc 24 #[.int .u64 x, .int .u64 y, .int .u64 0]).run Tryd.prog w =
    .ok (.value (.tuple #[.int .u64 (lo (x + y)), .int .u64 (hi (x + y))])) w := by
  simpa using add64 x y 0 hx hy (Int.le_refl 0) (by decide) w
theorem add_lo (a b : Int) : lo (lo a + lo b) = lo (a + b) := by unfold lo; omega
theorem add_hi (a b : Int) (a0 : 0 ≤ a) (b0 : 0 ≤ b) (h : a + b < 340282366920938463463374607431768211456) : lo (hi a + hi b + hi (lo a + lo b)) = hi (a + b) := by
  unfold lo hi; omega
/-- Is the sum below 0? And its magnitude. X and Y: the magnitudes of the two. -/
def belw (n m X Y : Int) : Bool := if decide (n < 0) == decide (m < 0) then decide (n < 0) else if X < Y then !decide (n < 0) else decide (n < 0)
def mg (n m X Y : Int) : Int := if decide (n < 0) == decide (m < 0) then X + Y else if X < Y then Y - X else X - Y
theorem fin3 {a b : Bool} {x y z t : Int} (h : a = b) (k : x = y) (l : z = t) : Ending.returned (.tuple #[.bool a, .int .u64 x, .int .u64 z]) = .returned (.tuple #[.bool b, .int .u64 y, .int .u64 t]) := by rw [h, k, l]
set_option maxHeartbeats 2000000 in
theorem cross_any (n d p m e q : Int) (w : World) (n1 : -9223372036854775808 ≤ n) (n2 : n ≤ 9223372036854775807) (m1 : -9223372036854775808 ≤ m) (m2 : m ≤ 9223372036854775807)
    (p0 : 0 ≤ p) (p1 : p ≤ 9223372036854775807) (q0 : 0 ≤ q) (q1 : q ≤ 9223372036854775807) :
    Calls Tryd.prog 19 #[.agg #[.int .i64 n, .int .i64 d], .int .u64 p, .agg #[.int .i64 m, .int .i64 e], .int .u64 q] w fun x w' => x = .returned (.tuple #[.bool (belw n m (ab n * p) (ab m * q)), .int .u64 (hi (mg n m (ab n * p) (ab m * q))), .int .u64 (lo (mg n m (ab n * p) (ab m * q)))]) ∧ Up w w' := by
  obtain ⟨a1, a2⟩ := ab_bd n1 n2
  obtain ⟨b1, b2⟩ := ab_bd m1 m2
  have a3 : ab n ≤ 9223372036854775808 := by unfold ab; split <;> omega
  have b3 : ab m ≤ 9223372036854775808 := by unfold ab; split <;> omega
  obtain ⟨x0, x1⟩ := small_prod a1 a3 p0 p1
  obtain ⟨y0, y1⟩ := small_prod b1 b3 q0 q1
  obtain ⟨hx0, hx1⟩ := hi_bd x0 (by omega)
  obtain ⟨hy0, hy1⟩ := hi_bd y0 (by omega)
  obtain ⟨lx0, lx1⟩ := lo_bd (ab n * p)
  obtain ⟨ly0, ly1⟩ := lo_bd (ab m * q)
  by_cases hs : (decide (n < 0) == decide (m < 0)) = true
  · have B : Hid (belw n m (ab n * p) (ab m * q) = decide (n < 0)) := if_pos hs
    have M : Hid (mg n m (ab n * p) (ab m * q) = ab n * p + ab m * q) := if_pos hs
    have E1 : Hid _ := add_lo (ab n * p) (ab m * q)
    have E2 : Hid _ := add_hi (ab n * p) (ab m * q) x0 y0 (by omega)
    have c0 : 0 ≤ hi (lo (ab n * p) + lo (ab m * q)) := by unfold hi; omega
    have c1 : hi (lo (ab n * p) + lo (ab m * q)) ≤ 1 := by unfold hi; omega
    go_enter Tryd.func19, Tryd.ntmps19
    go_wp2_with (first
      | (go_at_call 18; refine (magnitude_any _ _ (by omega) (by omega)).mono ?_; rintro _ _ ⟨rfl, rfl⟩)
      | (go_at_call 22; refine (mul64_any _ _ _ (by omega) (by omega) (by omega) (by omega)).mono ?_; rintro _ _ ⟨rfl, rfl⟩)
      | simp only [add64_0 _ _ lx0 ly0] | simp only [add64 _ _ _ hx0 hy0 c0 c1])
    go_ret3
    exact ⟨fin3 B.out.symm (by rw [M.out]; exact E2.out) (by rw [M.out]; exact E1.out), ((Up.refl _).alloc _ _).alloc _ _⟩
  · have hs' : (decide (n < 0) == decide (m < 0)) = false := by simpa using hs
    by_cases hlt : ab n * p < ab m * q
    · have B : Hid (belw n m (ab n * p) (ab m * q) = !decide (n < 0)) := by simp [Hid, belw, hs', hlt]
      have M : Hid (mg n m (ab n * p) (ab m * q) = ab m * q - ab n * p) := by simp [Hid, mg, hs', hlt]
      have E1 : Hid _ := sub_lo (ab m * q) (ab n * p)
      have E2 : Hid _ := sub_hi (ab m * q) (ab n * p) x0 (by omega) (by omega)
      obtain ⟨k1, k2⟩ := bor_bd (lo (ab m * q)) (lo (ab n * p))
      have C : Hid _ := cm_lt hlt
      clear hlt hs
      go_enter Tryd.func19, Tryd.ntmps19
      go_wp2_with (first
        | (go_at_call 18; refine (magnitude_any _ _ (by omega) (by omega)).mono ?_; rintro _ _ ⟨rfl, rfl⟩)
        | (go_at_call 22; refine (mul64_any _ _ _ (by omega) (by omega) (by omega) (by omega)).mono ?_; rintro _ _ ⟨rfl, rfl⟩)
        | (go_at_call 25; refine (compareWide_hl _ _ _).mono ?_; rintro _ _ ⟨rfl, rfl⟩; simp only [C.out])
        | simp only [sub64_0 _ _ ly0 lx0 lx1] | simp only [sub64 _ _ _ hy0 hx0 hx1 k1 k2])
      go_ret3
      exact ⟨fin3 B.out.symm (by rw [M.out]; exact E2.out) (by rw [M.out]; exact E1.out), ((Up.refl _).alloc _ _).alloc _ _⟩
    · have B : Hid (belw n m (ab n * p) (ab m * q) = decide (n < 0)) := by simp [Hid, belw, hs', hlt]
      have M : Hid (mg n m (ab n * p) (ab m * q) = ab n * p - ab m * q) := by simp [Hid, mg, hs', hlt]
      have E1 : Hid _ := sub_lo (ab n * p) (ab m * q)
      have E2 : Hid _ := sub_hi (ab n * p) (ab m * q) y0 (by omega) (by omega)
      obtain ⟨k1, k2⟩ := bor_bd (lo (ab n * p)) (lo (ab m * q))
      have C : ¬ cm (ab n * p) (ab m * q) < 0 := by unfold cm; rw [if_neg hlt]; split <;> omega
      clear hlt hs
      go_enter Tryd.func19, Tryd.ntmps19
      go_wp2_with (first
        | (go_at_call 18; refine (magnitude_any _ _ (by omega) (by omega)).mono ?_; rintro _ _ ⟨rfl, rfl⟩)
        | (go_at_call 22; refine (mul64_any _ _ _ (by omega) (by omega) (by omega) (by omega)).mono ?_; rintro _ _ ⟨rfl, rfl⟩)
        | (go_at_call 25; refine (compareWide_hl _ _ _).mono ?_; rintro _ _ ⟨rfl, rfl⟩)
        | simp only [sub64_0 _ _ lx0 ly0 ly1] | simp only [sub64 _ _ _ hx0 hy0 hy1 k1 k2])
      go_ret3
      exact ⟨fin3 B.out.symm (by rw [M.out]; exact E2.out) (by rw [M.out]; exact E1.out), ((Up.refl _).alloc _ _).alloc _ _⟩
end Go.Proofs.YthnkaimhmldjoaaDoor
