/-
  Truths: the least and the greatest of some, turned: by the program and by the reference.
-/
import Derived.Test.YtpcdhdllclenaaaDoorUtfD
set_option linter.unusedVariables false
set_option linter.unusedSimpArgs false
namespace Go.Proofs.YtpcdhdllclenaaaDoor.cd
open Go.RowKit

/-- A number as a truth. -/
def tr (x : Int) : Int := if 0 ≤ x ∧ x ≤ 2 then x else 1
theorem tr_in {x : Int} (h : 0 ≤ x) (k : x ≤ 2) : tr x = x := if_pos ⟨h, k⟩
theorem tr_lo {x : Int} (h : x < 0) : tr x = 1 := if_neg (by omega)
theorem tr_hi {x : Int} (h : 2 < x) : tr x = 1 := if_neg (by omega)
theorem tr_bd (x : Int) : 0 ≤ tr x ∧ tr x ≤ 2 := by unfold tr; split <;> omega
def i2 (a b : Int) : Int := if b < a then b else a
def a2 (a b : Int) : Int := if a < b then b else a
/-- The least of m and of the truths l. -/
def anN : Int → List Int → Int
  | m, [] => m
  | m, x :: r => anN (i2 m (tr x)) r
/-- The greatest. -/
def orN : Int → List Int → Int
  | m, [] => m
  | m, x :: r => orN (a2 m (tr x)) r
/-- A slice of numbers in memory, however long. -/
def NuW (w : World) (v : Value) (l : List Int) : Prop :=
  (∃ a c, v = .slice a 0 c ∧ l = []) ∨
  ∃ b o n c, v = .slice (some ⟨b, o, none⟩) n c ∧ n = l.length ∧ 0 < n ∧ b < w.heap.size ∧ n ≤ c ∧ c ≤ 9223372036854775807 ∧ ∀ i, i < n → w.cell? ⟨b, o + i, none⟩ = some (.int .i64 (gt l i))
theorem NuW.below {w w' : World} {v : Value} {l : List Int} (h : NuW w v l) (hw : Below w.heap.size w w') : NuW w' v l := by
  rcases h with h | ⟨b, o, n, c, h1, h2, h3, h4, h5, h6, h7⟩
  · exact .inl h
  · exact .inr ⟨b, o, n, c, h1, h2, h3, Nat.lt_of_lt_of_le h4 hw.size, h5, h6, fun i hi => (hw.cell (p := ⟨b, o + i, none⟩) h4).trans (h7 i hi)⟩
theorem truth_any (x : Int) (w : World) : Calls Tryd.prog 28 #[.int .i64 x] w fun e w' => e = .returned (.int .i64 (tr x)) ∧ w' = w := by
  by_cases h0 : 0 ≤ x
  case neg =>
    have h0' : x < 0 := by omega
    have C : Hid (∀ w, Calls Tryd.prog 42 #[.int .i64 x] w fun e w' => e = .returned (.bool false) ∧ w' = w) := fun w => by
      go_enter Tryd.func42, Tryd.ntmps42
      go_wp2
      go_ret
      exact ⟨rfl, rfl⟩
    rw [tr_lo h0']
    go_enter Tryd.func28, Tryd.ntmps28
    go_wp2_with (go_at_call 42; refine (C.out _).mono ?_; rintro e w1 ⟨rfl, rfl⟩)
    go_ret
    exact ⟨rfl, rfl⟩
  by_cases h2 : x ≤ 2
  case neg =>
    have h2' : 2 < x := by omega
    have C : Hid (∀ w, Calls Tryd.prog 42 #[.int .i64 x] w fun e w' => e = .returned (.bool false) ∧ w' = w) := fun w => by
      go_enter Tryd.func42, Tryd.ntmps42
      go_wp2
      go_ret
      exact ⟨rfl, rfl⟩
    rw [tr_hi h2']
    go_enter Tryd.func28, Tryd.ntmps28
    go_wp2_with (go_at_call 42; refine (C.out _).mono ?_; rintro e w1 ⟨rfl, rfl⟩)
    go_ret
    exact ⟨rfl, rfl⟩
  have C : Hid (∀ w, Calls Tryd.prog 42 #[.int .i64 x] w fun e w' => e = .returned (.bool true) ∧ w' = w) := fun w => by
    go_enter Tryd.func42, Tryd.ntmps42
    go_wp2
    go_ret
    exact ⟨rfl, rfl⟩
  rw [tr_in h0 h2]
  go_enter Tryd.func28, Tryd.ntmps28
  go_wp2_with (go_at_call 42; refine (C.out _).mono ?_; rintro e w1 ⟨rfl, rfl⟩)
  go_ret
  exact ⟨rfl, rfl⟩
theorem truthR_any (x : Int) (w : World) : Calls Tryd.prog 29 #[.int .i64 x] w fun e w' => e = .returned (.int .i64 (tr x)) ∧ w' = w := by
  by_cases h0 : x = 0
  · subst h0
    go_enter Tryd.func29, Tryd.ntmps29
    go_wp2
    go_ret
    exact ⟨rfl, rfl⟩
  by_cases h2 : x = 2
  · subst h2
    go_enter Tryd.func29, Tryd.ntmps29
    go_wp2
    go_ret
    exact ⟨rfl, rfl⟩
  have k0 : (x == 0) = false := by simpa using h0
  have k2 : (x == 2) = false := by simpa using h2
  rw [show tr x = 1 by unfold tr; split <;> omega]
  go_enter Tryd.func29, Tryd.ntmps29
  go_wp2
  go_ret
  exact ⟨rfl, rfl⟩
theorem notP_any (x : Int) (w : World) : Calls Tryd.prog 13 #[.int .i64 x] w fun e w' => e = .returned (.int .i64 (2 - tr x)) ∧ w' = w := by
  obtain ⟨b1, b2⟩ := tr_bd x
  have C := hide (fun (w : World) => truth_any x w)
  generalize tr x = t at *
  go_enter Tryd.func13, Tryd.ntmps13
  go_wp2_with (go_at_call 28; refine (C.out _).mono ?_; rintro e w1 ⟨rfl, rfl⟩)
  go_ret
  exact ⟨rfl, rfl⟩
theorem notR_any (x : Int) (w : World) : Calls Tryd.prog 14 #[.int .i64 x] w fun e w' => e = .returned (.int .i64 (2 - tr x)) ∧ w' = w := by
  obtain ⟨b1, b2⟩ := tr_bd x
  have C := hide (fun (w : World) => truthR_any x w)
  generalize tr x = t at *
  go_enter Tryd.func14, Tryd.ntmps14
  go_wp2_with (go_at_call 29; refine (C.out _).mono ?_; rintro e w1 ⟨rfl, rfl⟩)
  go_ret
  exact ⟨rfl, rfl⟩
end Go.Proofs.YtpcdhdllclenaaaDoor.cd
