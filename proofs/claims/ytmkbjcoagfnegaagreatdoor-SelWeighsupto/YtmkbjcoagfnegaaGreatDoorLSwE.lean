/-
  Two weights held against each other.
-/
import Derived.Test.YtmkbjcoagfnegaaGreatDoorX03
set_option linter.unusedVariables false
set_option linter.unusedSimpArgs false
namespace Go.Proofs.YtmkbjcoagfnegaaGreatDoor
open Go.RowKit

theorem run_equalIn_int3 (d : Nat) (a b : Int) (W : World) : (Op.equalIn (d + 1) 3 (.int .i64 a) (.int .i64 b)).run Tryz.prog W = .ok (a == b) W := run_equalIn_int W d 3 .i64 .i64 a b Tryz.underlying3
theorem part3 (v0 v1 v2 : Value) (W : World) : (part 3 #[v0, v1, v2] 0).run Tryz.prog W = .ok v0 W ∧ (part 3 #[v0, v1, v2] 1).run Tryz.prog W = .ok v1 W ∧ (part 3 #[v0, v1, v2] 2).run Tryz.prog W = .ok v2 W := by
  refine ⟨?_, ?_, ?_⟩ <;> simp [part, go_sem]
theorem size3 (W : World) : (sizeOf 3).run Tryz.prog W = .ok 1 W := by simp [sizeOf, go_sem]; rfl
theorem run_eq3 (d : Nat) (a0 a1 a2 b0 b1 b2 : Int) (W : World) : (Op.equalIn (d + 2) 42 (.agg #[.int .i64 a0, .int .i64 a1, .int .i64 a2]) (.agg #[.int .i64 b0, .int .i64 b1, .int .i64 b2])).run Tryz.prog W = .ok ((a0 == b0) && ((a1 == b1) && (a2 == b2))) W := by
  have hu : Tryz.prog.underlying 42 = some (.array 3 3) := by kernel_rfl
  unfold Op.equalIn
  simp only [Sem.run_bind, run_underlying hu, Result.andThen_ok, size3]
  rw [Std.Legacy.Range.forIn_eq_forIn_range']
  simp only [Std.Legacy.Range.size, Nat.sub_zero, Nat.add_sub_cancel, Nat.div_one, List.range'_succ, List.range'_zero, List.forIn_cons, List.forIn_nil, Sem.run_bind]
  have pa := fun w => part3 (.int .i64 a0) (.int .i64 a1) (.int .i64 a2) w
  have pb := fun w => part3 (.int .i64 b0) (.int .i64 b1) (.int .i64 b2) w
  simp only [show 0 * 1 = 0 from rfl, show (0 + 1) * 1 = 1 from rfl, show (0 + 1 + 1) * 1 = 2 from rfl, (pa _).1, (pb _).1, Result.andThen_ok, run_equalIn_int3]
  generalize (a0 == b0) = e0
  generalize he1 : (a1 == b1) = e1
  generalize he2 : (a2 == b2) = e2
  cases e0
  · simp
  · simp only [Bool.not_true, Bool.false_eq_true, if_false, Sem.run_pure, Result.andThen_ok, Sem.run_bind, (pa _).2.1, (pb _).2.1, run_equalIn_int3, he1]
    cases e1
    · simp
    · simp only [Bool.not_true, Bool.false_eq_true, if_false, Sem.run_pure, Result.andThen_ok, Sem.run_bind, (pa _).2.2, (pb _).2.2, run_equalIn_int3, he2]
      cases e2 <;> simp
@[go_sem] theorem eq3_sem (a0 a1 a2 b0 b1 b2 : Int) (W : World) : (Op.equalIn 10000 42 (.agg #[.int .i64 a0, .int .i64 a1, .int .i64 a2]) (.agg #[.int .i64 b0, .int .i64 b1, .int .i64 b2])).run Tryz.prog W = .ok ((a0 == b0) && ((a1 == b1) && (a2 == b2))) W := run_eq3 9998 a0 a1 a2 b0 b1 b2 W
@[go_sem] theorem build3_sem (a b c : Int) (W : World) : (Instr.build 42 #[(0, .int .i64 a), (1, .int .i64 b), (2, .int .i64 c)]).run Tryz.prog W = .ok (.agg #[.int .i64 a, .int .i64 b, .int .i64 c]) W := run_build W 42 _ _ (by kernel_rfl)
@[go_sem] theorem build0_sem (W : World) : (Instr.build 42 #[]).run Tryz.prog W = .ok (.agg #[.int .i64 0, .int .i64 0, .int .i64 0]) W := run_build W 42 _ _ (by kernel_rfl)
end Go.Proofs.YtmkbjcoagfnegaaGreatDoor
