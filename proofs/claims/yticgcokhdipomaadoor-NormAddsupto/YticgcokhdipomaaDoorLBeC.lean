/-
  Operations of a region, run once: structs that are loaded, calls, comparisons.
-/
import Derived.Test.YticgcokhdipomaaDoorLBeB
import Derived.Deep.MidRow
set_option linter.unusedVariables false
set_option linter.unusedSimpArgs false
namespace Go.Proofs.YticgcokhdipomaaDoor.be
open Go.RowKit

theorem run_ldF {ρ : Operand → Value} {w : World} {o : Oper} {T : TypeId} {x : Operand} {b : Nat} {cs : List Value} {d : TypeDesc} (ho : o.op = .load T x) (hx : ρ x = .pointer (some ⟨b, 0, none⟩)) (hc : w.rangeAt b 0 cs)
    (hu : Tryd.prog.underlying T = some d) (hd : d.isRow = true) (hi : (Tryd.prog.info? T).map (·.size) = some cs.length) : (execOp ρ o).run Tryd.prog w = .ok (.value (.agg cs.toArray)) w := by
  have h := run_loadAt_mid (P := Tryd.prog) w b 0 T cs d hc hu hd hi
  unfold execOp
  rw [ho]
  simp only [hx]
  simp [Sem.run_bind, Result.andThen, h]
theorem run_mv {ρ : Operand → Value} {w : World} {o : Oper} {x : Operand} {v : Value} (ho : o.op = .move x) (hx : ρ x = v) : (execOp ρ o).run Tryd.prog w = .ok (.value v) w := by
  unfold execOp
  rw [ho]
  simp [go_sem, hx]
theorem run_cl0 {ρ : Operand → Value} {w : World} {o : Oper} {f : FuncId} {ty : Array TypeId} (ho : o.op = .call { callee := .value (.func f), args := #[], argTypes := ty }) (h0 : ρ (.func f) = .func (.func f) #[] #[]) (hf : (callFunc f #[]).run Tryd.prog w = .ok (.enter f #[]) w) :
    (execOp ρ o).run Tryd.prog w = .ok (.enter f #[]) w := by
  unfold execOp
  rw [ho]
  simp [go_sem, h0, hf]
theorem run_cl2 {ρ : Operand → Value} {w : World} {o : Oper} {f : FuncId} {x y : Operand} {ty : Array TypeId} (ho : o.op = .call { callee := .value (.func f), args := #[x, y], argTypes := ty }) (h0 : ρ (.func f) = .func (.func f) #[] #[]) (hf : ∀ v u, (callFunc f #[v, u]).run Tryd.prog w = .ok (.enter f #[v, u]) w) :
    (execOp ρ o).run Tryd.prog w = .ok (.enter f #[ρ x, ρ y]) w := by
  have h1 := hf (ρ x) (ρ y)
  unfold execOp
  rw [ho]
  simp [go_sem, h0, h1]
theorem run_eqB {ρ : Operand → Value} {w : World} {o : Oper} {x y : Operand} {b : Bool} (ho : o.op = .binOp .eql 4 x y 4) (hx : ρ x = .bool b) (hy : ρ y = .bool b) : (execOp ρ o).run Tryd.prog w = .ok (.value (.bool true)) w := by
  unfold execOp
  rw [ho]
  simp [go_sem, hx, hy]
theorem run_eqI {ρ : Operand → Value} {w : World} {o : Oper} {x y : Operand} {n : Int} (ho : o.op = .binOp .eql 3 x y 3) (hx : ρ x = .int .i64 n) (hy : ρ y = .int .i64 n) : (execOp ρ o).run Tryd.prog w = .ok (.value (.bool true)) w := by
  unfold execOp
  rw [ho]
  simp [go_sem, hx, hy]
theorem run_bd2 {ρ : Operand → Value} {w : World} {o : Oper} {x y : Operand} {n m : Int} (ho : o.op = .build 24 #[(0, x), (1, y)]) (hx : ρ x = .int .i64 n) (hy : ρ y = .int .i64 m) : (execOp ρ o).run Tryd.prog w = .ok (.value (.agg #[.int .i64 n, .int .i64 m])) w := by
  unfold execOp
  rw [ho]
  simp [go_sem, hx, hy]
end Go.Proofs.YticgcokhdipomaaDoor.be
