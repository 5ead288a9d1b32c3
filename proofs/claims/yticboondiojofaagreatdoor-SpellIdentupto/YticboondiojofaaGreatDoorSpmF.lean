/-
  Tokens that must stand apart: by the program and by the reference.
-/
import Derived.Test.YticboondiojofaaGreatDoorSpmE
set_option linter.unusedVariables false
set_option linter.unusedSimpArgs false
namespace Go.Proofs.YticboondiojofaaGreatDoor
open Go.RowKit

theorem ap_ways (a b : Int) : ((a == 13) = true ∧ (b == 13) = true ∧ apB a b = true) ∨ ((a == 13) = true ∧ (b == 13) = false ∧ ro a = false ∧ apB a b = false) ∨ ((a == 13) = false ∧ ro a = false ∧ apB a b = false) ∨ ((a == 13) = false ∧ ro a = true ∧ apB a b = jo b) := by
  unfold apB
  by_cases h : a = 13
  · subst h
    cases (b == 13)
    · right; left; exact ⟨rfl, rfl, rfl, rfl⟩
    · left; exact ⟨rfl, rfl, rfl⟩
  · have h' : (a == 13) = false := by simpa using h
    rw [h']
    cases ro a
    · right; right; left; exact ⟨rfl, rfl, rfl⟩
    · right; right; right; exact ⟨rfl, rfl, by simp⟩
set_option maxRecDepth 100000 in
set_option maxHeartbeats 2000000 in
theorem apartS_any (k : Int) (s : ByteArray) (n d : Int) (i h : Bool) (k' : Int) (s' : ByteArray) (n' d' : Int) (i' h' : Bool) (w : World) (k1 : -9223372036854775808 ≤ k) (k2 : k ≤ 9223372036854775807) (k3 : -9223372036854775808 ≤ k') (k4 : k' ≤ 9223372036854775807) (hK : KT w) :
    Calls Tryz.prog 26 #[tokV k s n d i h, tokV k' s' n' d' i' h'] w fun e w' => e = .returned (.bool (apB k k')) ∧ Below w.heap.size w w' := by
  have W2 := hide (fun (W : World) (h : Below w.heap.size w W) => hK.below h)
  have C1 := hide (fun (W : World) (hb : Below w.heap.size w W) => traits_any k W k1 k2 (W2.out W hb))
  have C2 := hide (fun (W : World) (hb : Below w.heap.size w W) => traits_any k' W k3 k4 (W2.out W hb))
  have TB := hide ((Tok6.box w k s n d i h 25).below (bplus (Below.refl _ _) (.cells #[.int .i64 k', .string s', .int .i64 n', .int .i64 d', .bool i', .bool h'] 25)))
  have TC := hide (Tok6.box (w.alloc (.cells #[.int .i64 k, .string s, .int .i64 n, .int .i64 d, .bool i, .bool h] 25)) k' s' n' d' i' h' 25)
  have e1 : (w.alloc (.cells #[.int .i64 k, .string s, .int .i64 n, .int .i64 d, .bool i, .bool h] 25)).heap.size = w.heap.size + 1 := by simp
  rw [e1] at TC
  clear e1
  have B0 := hide (bplus (bplus (Below.refl w.heap.size w) (.cells #[.int .i64 k, .string s, .int .i64 n, .int .i64 d, .bool i, .bool h] 25)) (.cells #[.int .i64 k', .string s', .int .i64 n', .int .i64 d', .bool i', .bool h'] 25))
  have f3 := fld3
  have f4 := fld4
  unfold tokV
  rcases ap_ways k k' with ⟨x1, x2, x3⟩ | ⟨x1, x2, x4, x3⟩ | ⟨x1, x4, x3⟩ | ⟨x1, x4, x3⟩
  · have F := hide x3
    clear x3 f3 f4
    go_enter Tryz.func26, Tryz.ntmps26
    go_wp2
    go_ret
    exact ⟨ret_bool F.out.symm, B0.out⟩
  all_goals
    have F := hide x3
    have X4 := hide x4
    clear x3 x4
    go_enter Tryz.func26, Tryz.ntmps26
    go_wp2_with (first
      | (go_at_call_of 48 (Value.int IntKind.i64 k); refine (C1.out _ B0.out).mono ?_; rintro e w1 ⟨rfl, B1⟩; obtain ⟨z1, q0, q1, q2, q3, q4, q5⟩ := TC.out.below B1; unfold trV; rw [X4.out]; replace B1 := hide (bto B0.out B1))
      | (go_at_call 48; refine (C2.out _ B1.out).mono ?_; rintro e w2 ⟨rfl, B2⟩; unfold trV; replace B1 := hide (bto B1.out B2)))
    go_ret
    exact ⟨ret_bool F.out.symm, B1.out⟩
theorem ro_ways (a : Int) : (ro a = false ∧ (a == 1) = false ∧ (a == 3) = false ∧ (a == 4) = false ∧ (a == 10) = false ∧ (a == 12) = false ∧ (a == 9) = false) ∨ (ro a = true ∧ (a = 1 ∨ a = 3 ∨ a = 4 ∨ a = 10 ∨ a = 12 ∨ a = 9)) := by
  by_cases h : a = 1 ∨ a = 3 ∨ a = 4 ∨ a = 10 ∨ a = 12 ∨ a = 9
  · right; refine ⟨?_, h⟩; rcases h with rfl | rfl | rfl | rfl | rfl | rfl <;> rfl
  · left; simp [ro]; omega
theorem jo_ways (a : Int) : (jo a = false ∧ (a == 1) = false ∧ (a == 2) = false ∧ (a == 7) = false ∧ (a == 8) = false ∧ (a == 10) = false ∧ (a == 11) = false ∧ (a == 12) = false ∧ (a == 15) = false ∧ (a == 21) = false ∧ (a == 9) = false) ∨ (jo a = true ∧ (a = 1 ∨ a = 2 ∨ a = 7 ∨ a = 8 ∨ a = 10 ∨ a = 11 ∨ a = 12 ∨ a = 15 ∨ a = 21 ∨ a = 9)) := by
  by_cases h : a = 1 ∨ a = 2 ∨ a = 7 ∨ a = 8 ∨ a = 10 ∨ a = 11 ∨ a = 12 ∨ a = 15 ∨ a = 21 ∨ a = 9
  · right; refine ⟨?_, h⟩; rcases h with rfl | rfl | rfl | rfl | rfl | rfl | rfl | rfl | rfl | rfl <;> rfl
  · left; simp [jo]; omega
set_option maxRecDepth 100000 in
set_option maxHeartbeats 8000000 in
theorem apartR_any (k : Int) (s : ByteArray) (n d : Int) (i h : Bool) (k' : Int) (s' : ByteArray) (n' d' : Int) (i' h' : Bool) (w : World) :
    Calls Tryz.prog 30 #[tokV k s n d i h, tokV k' s' n' d' i' h'] w fun e w' => e = .returned (.bool (apB k k')) ∧ Below w.heap.size w w' := by
  have B0 := hide (bplus (bplus (Below.refl w.heap.size w) (.cells #[.int .i64 k, .string s, .int .i64 n, .int .i64 d, .bool i, .bool h] 25)) (.cells #[.int .i64 k', .string s', .int .i64 n', .int .i64 d', .bool i', .bool h'] 25))
  unfold tokV
  have key : ∀ b, ro b = true → (b == 13) = false := fun b hb => by
    rcases ro_ways b with ⟨h1, _⟩ | ⟨_, h2⟩
    · rw [h1] at hb; cases hb
    · simp; omega
  rcases ap_ways k k' with ⟨x1, x2, x3⟩ | ⟨x1, x2, x4, x3⟩ | ⟨x1, x4, x3⟩ | ⟨x1, x4, x3⟩
  · have F := hide x3
    clear x3 key
    go_enter Tryz.func30, Tryz.ntmps30
    go_wp2
    go_ret
    exact ⟨ret_bool F.out.symm, B0.out⟩
  · have F := hide x3
    rcases ro_ways k with ⟨_, y1, y2, y3, y4, y5, y6⟩ | ⟨g, _⟩
    · clear x3 x4 key
      go_enter Tryz.func30, Tryz.ntmps30
      go_wp2
      go_ret
      exact ⟨ret_bool F.out.symm, B0.out⟩
    · rw [g] at x4; cases x4
  · have F := hide x3
    rcases ro_ways k with ⟨_, y1, y2, y3, y4, y5, y6⟩ | ⟨g, _⟩
    · clear x3 x4 key
      go_enter Tryz.func30, Tryz.ntmps30
      go_wp2
      go_ret
      exact ⟨ret_bool F.out.symm, B0.out⟩
    · rw [g] at x4; cases x4
  · rcases ro_ways k with ⟨g, _⟩ | ⟨_, y⟩
    · rw [g] at x4; cases x4
    · clear key x1
      rcases jo_ways k' with ⟨g, z1, z2, z3, z4, z5, z6, z7, z8, z9, z10⟩ | ⟨g, z⟩
      · rw [g] at x3
        have F := hide x3
        clear x3 x4 g
        rcases y with rfl | rfl | rfl | rfl | rfl | rfl
        all_goals
          go_enter Tryz.func30, Tryz.ntmps30
          go_wp2
          go_ret
          exact ⟨ret_bool F.out.symm, B0.out⟩
      · rw [g] at x3
        have F := hide x3
        clear x3 x4 g
        rcases z with rfl | rfl | rfl | rfl | rfl | rfl | rfl | rfl | rfl | rfl
        all_goals
          rcases y with rfl | rfl | rfl | rfl | rfl | rfl
          all_goals
            go_enter Tryz.func30, Tryz.ntmps30
            go_wp2
            go_ret
            exact ⟨ret_bool F.out.symm, B0.out⟩
end Go.Proofs.YticboondiojofaaGreatDoor
