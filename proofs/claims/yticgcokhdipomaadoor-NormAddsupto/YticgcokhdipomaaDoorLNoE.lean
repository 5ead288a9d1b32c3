/-
  Seven fractions held against seven.
-/
import Derived.Test.YticgcokhdipomaaDoorLNoA
import Derived.ChangeKeysEq
set_option linter.unusedVariables false
set_option linter.unusedSimpArgs false
namespace Go.Proofs.YticgcokhdipomaaDoor.nm
open Go.RowKit

def eq7 (a b : List (Int × Int)) : Bool := decide (a = b)
theorem eqI (d : Nat) (a b : Int) (W : World) : (Op.equalIn (d + 1) 2 (.int .i64 a) (.int .i64 b)).run Tryd.prog W = .ok (a == b) W := run_equalIn_int W d 2 .i64 .i64 a b Tryd.underlying2
theorem ptR (x y : Value) (W : World) : (part 2 #[x, y] 0).run Tryd.prog W = .ok x W ∧ (part 2 #[x, y] 1).run Tryd.prog W = .ok y W := by
  refine ⟨?_, ?_⟩ <;> simp [part, go_sem]
theorem eqR (d : Nat) (a b c e : Int) (W : World) : (Op.equalIn (d + 2) 24 (.agg #[.int .i64 a, .int .i64 b]) (.agg #[.int .i64 c, .int .i64 e])).run Tryd.prog W = .ok ((a == c) && (b == e)) W := by
  have hf : (Tryd.prog.fieldsOf 24).toList = [{ name := "Num", type := 2, offset := 0, embedded := false, tag := "", pkgPath := "", byteOffset := 0 }, { name := "Den", type := 2, offset := 1, embedded := false, tag := "", pkgPath := "", byteOffset := 8 }] := by kernel_rfl
  have p0 := fun (x y : Value) W => (ptR x y W).1
  have p1 := fun (x y : Value) W => (ptR x y W).2
  rw [run_equalIn_struct W (d + 1) 24 _ _ (by kernel_rfl) (by kernel_rfl), hf]
  have s0 : ¬ ("Num" = "_") := by decide
  have s1 : ¬ ("Den" = "_") := by decide
  simp only [Op.eqFields, ne_eq, s0, s1, not_false_eq_true, if_true, Sem.run_bind, p0, p1, Result.andThen_ok, eqI]
  generalize (a == c) = x
  cases x
  · simp
  · simp only [Bool.not_true, Bool.false_eq_true, if_false, Op.eqFields, ne_eq, s0, s1, not_false_eq_true, if_true, Sem.run_bind, p0, p1, Result.andThen_ok, eqI]
    generalize (b == e) = y
    cases y <;> simp
theorem prt (n0 d0 n1 d1 n2 d2 n3 d3 n4 d4 n5 d5 n6 d6 : Int) (W : World) : (part 24 #[.int .i64 n0, .int .i64 d0, .int .i64 n1, .int .i64 d1, .int .i64 n2, .int .i64 d2, .int .i64 n3, .int .i64 d3, .int .i64 n4, .int .i64 d4, .int .i64 n5, .int .i64 d5, .int .i64 n6, .int .i64 d6] (0 * 2)).run Tryd.prog W = .ok (.agg #[.int .i64 n0, .int .i64 d0]) W ∧ (part 24 #[.int .i64 n0, .int .i64 d0, .int .i64 n1, .int .i64 d1, .int .i64 n2, .int .i64 d2, .int .i64 n3, .int .i64 d3, .int .i64 n4, .int .i64 d4, .int .i64 n5, .int .i64 d5, .int .i64 n6, .int .i64 d6] (1 * 2)).run Tryd.prog W = .ok (.agg #[.int .i64 n1, .int .i64 d1]) W ∧ (part 24 #[.int .i64 n0, .int .i64 d0, .int .i64 n1, .int .i64 d1, .int .i64 n2, .int .i64 d2, .int .i64 n3, .int .i64 d3, .int .i64 n4, .int .i64 d4, .int .i64 n5, .int .i64 d5, .int .i64 n6, .int .i64 d6] (2 * 2)).run Tryd.prog W = .ok (.agg #[.int .i64 n2, .int .i64 d2]) W ∧ (part 24 #[.int .i64 n0, .int .i64 d0, .int .i64 n1, .int .i64 d1, .int .i64 n2, .int .i64 d2, .int .i64 n3, .int .i64 d3, .int .i64 n4, .int .i64 d4, .int .i64 n5, .int .i64 d5, .int .i64 n6, .int .i64 d6] (3 * 2)).run Tryd.prog W = .ok (.agg #[.int .i64 n3, .int .i64 d3]) W ∧ (part 24 #[.int .i64 n0, .int .i64 d0, .int .i64 n1, .int .i64 d1, .int .i64 n2, .int .i64 d2, .int .i64 n3, .int .i64 d3, .int .i64 n4, .int .i64 d4, .int .i64 n5, .int .i64 d5, .int .i64 n6, .int .i64 d6] (4 * 2)).run Tryd.prog W = .ok (.agg #[.int .i64 n4, .int .i64 d4]) W ∧ (part 24 #[.int .i64 n0, .int .i64 d0, .int .i64 n1, .int .i64 d1, .int .i64 n2, .int .i64 d2, .int .i64 n3, .int .i64 d3, .int .i64 n4, .int .i64 d4, .int .i64 n5, .int .i64 d5, .int .i64 n6, .int .i64 d6] (5 * 2)).run Tryd.prog W = .ok (.agg #[.int .i64 n5, .int .i64 d5]) W ∧ (part 24 #[.int .i64 n0, .int .i64 d0, .int .i64 n1, .int .i64 d1, .int .i64 n2, .int .i64 d2, .int .i64 n3, .int .i64 d3, .int .i64 n4, .int .i64 d4, .int .i64 n5, .int .i64 d5, .int .i64 n6, .int .i64 d6] (6 * 2)).run Tryd.prog W = .ok (.agg #[.int .i64 n6, .int .i64 d6]) W := by
  refine ⟨?_, ?_, ?_, ?_, ?_, ?_, ?_⟩ <;> kernel_rfl
theorem run_eq7 (d : Nat) (n0 d0 n1 d1 n2 d2 n3 d3 n4 d4 n5 d5 n6 d6 m0 e0 m1 e1 m2 e2 m3 e3 m4 e4 m5 e5 m6 e6 : Int) (W : World) : (Op.equalIn (d + 3) 26 (.agg #[.int .i64 n0, .int .i64 d0, .int .i64 n1, .int .i64 d1, .int .i64 n2, .int .i64 d2, .int .i64 n3, .int .i64 d3, .int .i64 n4, .int .i64 d4, .int .i64 n5, .int .i64 d5, .int .i64 n6, .int .i64 d6]) (.agg #[.int .i64 m0, .int .i64 e0, .int .i64 m1, .int .i64 e1, .int .i64 m2, .int .i64 e2, .int .i64 m3, .int .i64 e3, .int .i64 m4, .int .i64 e4, .int .i64 m5, .int .i64 e5, .int .i64 m6, .int .i64 e6])).run Tryd.prog W = .ok (eq7 [(n0, d0), (n1, d1), (n2, d2), (n3, d3), (n4, d4), (n5, d5), (n6, d6)] [(m0, e0), (m1, e1), (m2, e2), (m3, e3), (m4, e4), (m5, e5), (m6, e6)]) W := by
  have hu : Tryd.prog.underlying 26 = some (.array 7 24) := by kernel_rfl
  have hc : Tryd.prog.cellsOf 24 = 2 := by kernel_rfl
  have hI : (Tryd.prog.info? 24).isSome = true := by kernel_rfl
  obtain ⟨i, hi⟩ := Option.isSome_iff_exists.1 hI
  rw [run_equalIn_array W (d + 2) _ _ hu hi, hc, show List.range 7 = [0, 1, 2, 3, 4, 5, 6] from rfl]
  have pa0 := fun W => (prt n0 d0 n1 d1 n2 d2 n3 d3 n4 d4 n5 d5 n6 d6 W).1
  have pa1 := fun W => (prt n0 d0 n1 d1 n2 d2 n3 d3 n4 d4 n5 d5 n6 d6 W).2.1
  have pa2 := fun W => (prt n0 d0 n1 d1 n2 d2 n3 d3 n4 d4 n5 d5 n6 d6 W).2.2.1
  have pa3 := fun W => (prt n0 d0 n1 d1 n2 d2 n3 d3 n4 d4 n5 d5 n6 d6 W).2.2.2.1
  have pa4 := fun W => (prt n0 d0 n1 d1 n2 d2 n3 d3 n4 d4 n5 d5 n6 d6 W).2.2.2.2.1
  have pa5 := fun W => (prt n0 d0 n1 d1 n2 d2 n3 d3 n4 d4 n5 d5 n6 d6 W).2.2.2.2.2.1
  have pa6 := fun W => (prt n0 d0 n1 d1 n2 d2 n3 d3 n4 d4 n5 d5 n6 d6 W).2.2.2.2.2.2
  have pb0 := fun W => (prt m0 e0 m1 e1 m2 e2 m3 e3 m4 e4 m5 e5 m6 e6 W).1
  have pb1 := fun W => (prt m0 e0 m1 e1 m2 e2 m3 e3 m4 e4 m5 e5 m6 e6 W).2.1
  have pb2 := fun W => (prt m0 e0 m1 e1 m2 e2 m3 e3 m4 e4 m5 e5 m6 e6 W).2.2.1
  have pb3 := fun W => (prt m0 e0 m1 e1 m2 e2 m3 e3 m4 e4 m5 e5 m6 e6 W).2.2.2.1
  have pb4 := fun W => (prt m0 e0 m1 e1 m2 e2 m3 e3 m4 e4 m5 e5 m6 e6 W).2.2.2.2.1
  have pb5 := fun W => (prt m0 e0 m1 e1 m2 e2 m3 e3 m4 e4 m5 e5 m6 e6 W).2.2.2.2.2.1
  have pb6 := fun W => (prt m0 e0 m1 e1 m2 e2 m3 e3 m4 e4 m5 e5 m6 e6 W).2.2.2.2.2.2
  have E : eq7 [(n0, d0), (n1, d1), (n2, d2), (n3, d3), (n4, d4), (n5, d5), (n6, d6)] [(m0, e0), (m1, e1), (m2, e2), (m3, e3), (m4, e4), (m5, e5), (m6, e6)] = (((n0 == m0) && (d0 == e0)) && (((n1 == m1) && (d1 == e1)) && (((n2 == m2) && (d2 == e2)) && (((n3 == m3) && (d3 == e3)) && (((n4 == m4) && (d4 == e4)) && (((n5 == m5) && (d5 == e5)) && ((n6 == m6) && (d6 == e6)))))))) := by
    rw [Bool.eq_iff_iff]; simp [eq7]
  rw [E]
  simp only [Op.eqItems, Sem.run_bind, pa0, pa1, pa2, pa3, pa4, pa5, pa6, pb0, pb1, pb2, pb3, pb4, pb5, pb6, Result.andThen_ok, eqR]
  generalize ((n0 == m0) && (d0 == e0)) = x0
  cases x0
  · simp
  simp only [Bool.not_true, Bool.false_eq_true, if_false, Op.eqItems, Sem.run_bind, pa0, pa1, pa2, pa3, pa4, pa5, pa6, pb0, pb1, pb2, pb3, pb4, pb5, pb6, Result.andThen_ok, eqR]
  generalize ((n1 == m1) && (d1 == e1)) = x1
  cases x1
  · simp
  simp only [Bool.not_true, Bool.false_eq_true, if_false, Op.eqItems, Sem.run_bind, pa0, pa1, pa2, pa3, pa4, pa5, pa6, pb0, pb1, pb2, pb3, pb4, pb5, pb6, Result.andThen_ok, eqR]
  generalize ((n2 == m2) && (d2 == e2)) = x2
  cases x2
  · simp
  simp only [Bool.not_true, Bool.false_eq_true, if_false, Op.eqItems, Sem.run_bind, pa0, pa1, pa2, pa3, pa4, pa5, pa6, pb0, pb1, pb2, pb3, pb4, pb5, pb6, Result.andThen_ok, eqR]
  generalize ((n3 == m3) && (d3 == e3)) = x3
  cases x3
  · simp
  simp only [Bool.not_true, Bool.false_eq_true, if_false, Op.eqItems, Sem.run_bind, pa0, pa1, pa2, pa3, pa4, pa5, pa6, pb0, pb1, pb2, pb3, pb4, pb5, pb6, Result.andThen_ok, eqR]
  generalize ((n4 == m4) && (d4 == e4)) = x4
  cases x4
  · simp
  simp only [Bool.not_true, Bool.false_eq_true, if_false, Op.eqItems, Sem.run_bind, pa0, pa1, pa2, pa3, pa4, pa5, pa6, pb0, pb1, pb2, pb3, pb4, pb5, pb6, Result.andThen_ok, eqR]
  generalize ((n5 == m5) && (d5 == e5)) = x5
  cases x5
  · simp
  simp only [Bool.not_true, Bool.false_eq_true, if_false, Op.eqItems, Sem.run_bind, pa0, pa1, pa2, pa3, pa4, pa5, pa6, pb0, pb1, pb2, pb3, pb4, pb5, pb6, Result.andThen_ok, eqR]
  generalize ((n6 == m6) && (d6 == e6)) = x6
  cases x6
  · simp
  · simp [Op.eqItems]
@[go_sem] theorem eq7_sem (n0 d0 n1 d1 n2 d2 n3 d3 n4 d4 n5 d5 n6 d6 m0 e0 m1 e1 m2 e2 m3 e3 m4 e4 m5 e5 m6 e6 : Int) (W : World) : (Op.equalIn 10000 26 (.agg #[.int .i64 n0, .int .i64 d0, .int .i64 n1, .int .i64 d1, .int .i64 n2, .int .i64 d2, .int .i64 n3, .int .i64 d3, .int .i64 n4, .int .i64 d4, .int .i64 n5, .int .i64 d5, .int .i64 n6, .int .i64 d6]) (.agg #[.int .i64 m0, .int .i64 e0, .int .i64 m1, .int .i64 e1, .int .i64 m2, .int .i64 e2, .int .i64 m3, .int .i64 e3, .int .i64 m4, .int .i64 e4, .int .i64 m5, .int .i64 e5, .int .i64 m6, .int .i64 e6])).run Tryd.prog W = .ok (eq7 [(n0, d0), (n1, d1), (n2, d2), (n3, d3), (n4, d4), (n5, d5), (n6, d6)] [(m0, e0), (m1, e1), (m2, e2), (m3, e3), (m4, e4), (m5, e5), (m6, e6)]) W := run_eq7 9997 n0 d0 n1 d1 n2 d2 n3 d3 n4 d4 n5 d5 n6 d6 m0 e0 m1 e1 m2 e2 m3 e3 m4 e4 m5 e5 m6 e6 W
end Go.Proofs.YticgcokhdipomaaDoor.nm
