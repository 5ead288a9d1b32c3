/-
  Which selectors may be: the small functions, by the program.
-/
import Derived.Test.YtmkbjcoagfnegaaGreatDoorZ15
import Derived.Deep.DeepCutAuto
set_option linter.unusedVariables false
set_option linter.unusedSimpArgs false
namespace Go.Proofs.YtmkbjcoagfnegaaGreatDoor
open Go.RowKit

theorem mayT_name (s : ByteArray) : mayT 1 (bl s) 0 0 false false = nmS9 s := by
  unfold mayT fdB txB nuB1 nmS9 tx nm nu
  cases h : bl s with
  | nil => rfl
  | cons x r => simp
theorem mayT_text (s : ByteArray) : mayT 5 (bl s) 0 0 false false = chB (bl s) := by
  unfold mayT fdB txB nuB1 tx nm nu
  simp
theorem isName9_any (s : ByteArray) (w : World) (hs : s.size ≤ 140737488355328) (hK : KT w) (hT : Tabs w) : Calls Tryz.prog 128 #[.string s] w fun e w' => e = .returned (.bool (nmS9 s)) ∧ Below w.heap.size w w' := by
  have C := hide (mayS_any 1 s 0 0 false false w (by decide) (by decide) hs (by decide) (by decide) (by decide) (by decide) hK hT)
  rw [mayT_name] at C
  unfold tokV at C
  clear hK hT
  go_enter Tryz.func128, Tryz.ntmps128
  go_wp2_with (go_at_call 157; refine C.out.mono ?_; rintro e w1 ⟨rfl, B⟩; replace B := hide B)
  go_ret
  exact ⟨rfl, B.out⟩
theorem isText9_any (s : ByteArray) (w : World) (hs : s.size ≤ 140737488355328) (hK : KT w) (hT : Tabs w) : Calls Tryz.prog 168 #[.string s] w fun e w' => e = .returned (.bool (chB (bl s))) ∧ Below w.heap.size w w' := by
  have C := hide (mayS_any 5 s 0 0 false false w (by decide) (by decide) hs (by decide) (by decide) (by decide) (by decide) hK hT)
  rw [mayT_text] at C
  unfold tokV at C
  clear hK hT
  go_enter Tryz.func168, Tryz.ntmps168
  go_wp2_with (go_at_call 157; refine C.out.mono ?_; rintro e w1 ⟨rfl, B⟩; replace B := hide B)
  go_ret
  exact ⟨rfl, B.out⟩
theorem isStep9_any (x : Int) (w : World) : Calls Tryz.prog 144 #[.int .i64 x] w fun e w' => e = .returned (.bool (stS9 x)) ∧ w' = w := by
  by_cases h1 : -1073741824 ≤ x <;> by_cases h2 : x ≤ 1073741824
  all_goals
    go_enter Tryz.func144, Tryz.ntmps144
    go_wp2
    go_ret
    exact ⟨ret_bool (by simp [stS9, h1, h2]), rfl⟩
theorem holdsBlock9_any (d : Int) (w : World) : Calls Tryz.prog 142 #[.int .i64 d] w fun e w' => e = .returned (.bool (decide (d ≤ 64))) ∧ w' = w := by
  by_cases h1 : d ≤ 64
  all_goals
    go_enter Tryz.func142, Tryz.ntmps142
    go_wp2
    go_ret
    exact ⟨ret_bool (by simp [h1]), rfl⟩
theorem combMay9_any (c : Int) (i : Nat) (w : World) : Calls Tryz.prog 84 #[.int .i64 c, .bool (i == 0)] w fun e w' => e = .returned (.bool (coB i c)) ∧ w' = w := by
  cases hi : (i == 0)
  · have h0 : ¬ i = 0 := by simpa using hi
    have E := hide (show coB i c = (decide (1 ≤ c) && decide (c ≤ 4)) by unfold coB; rw [if_neg h0])
    by_cases h1 : 1 ≤ c <;> by_cases h2 : c ≤ 4
    all_goals
      go_enter Tryz.func84, Tryz.ntmps84
      go_wp2
      go_ret
      exact ⟨ret_bool (by rw [E.out]; simp [h1, h2]), rfl⟩
  · have h0 : i = 0 := by simpa using hi
    have E := hide (show coB i c = (c == 0) by unfold coB; rw [if_pos h0])
    go_enter Tryz.func84, Tryz.ntmps84
    go_wp2
    go_ret
    exact ⟨ret_bool (by rw [E.out]), rfl⟩
/-- A simple selector's cells as a value. -/
def slV (k op a b : Int) (nm vl : ByteArray) (fo : Bool) (u : Value) : Value := .agg #[.int .i64 k, .string nm, .int .i64 op, .string vl, .bool fo, u, .int .i64 a, .int .i64 b]
def oifB (k op a b : Int) (nm vl : ByteArray) (fo : Bool) (ln : Nat) : Bool :=
  ((decide (2 ≤ k) && decide (k ≤ 5)) || (bl nm).isEmpty) && (((k == 5) || noF9 op vl fo) && (((decide (6 ≤ k) && decide (k ≤ 8)) || (ln == 0)) && (((k == 14) || (k == 15)) || ((a == 0) && (b == 0)))))
end Go.Proofs.YtmkbjcoagfnegaaGreatDoor

