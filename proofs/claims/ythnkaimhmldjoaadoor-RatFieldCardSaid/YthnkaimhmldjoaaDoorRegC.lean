/-
  Operations on fractions, run once.
-/
import Derived.Test.YthnkaimhmldjoaaDoorRegB
set_option linter.unusedVariables false
set_option linter.unusedSimpArgs false
namespace Go.Proofs.YthnkaimhmldjoaaDoor
open Go.RowKit

theorem run_ld {ρ : Operand → Value} {w : World} {o : Oper} {x : Operand} {b : Nat} {p q : Int} (ho : o.op = .load 23 x) (hx : ρ x = .pointer (some ⟨b, 0, none⟩)) (c0 : w.cell? ⟨b, 0, none⟩ = some (.int .i64 p)) (c1 : w.cell? ⟨b, 1, none⟩ = some (.int .i64 q)) :
    (execOp ρ o).run Tryd.prog w = .ok (.value (.agg #[.int .i64 p, .int .i64 q])) w := by
  unfold execOp
  rw [ho]
  simp [go_sem, hx, c0, c1]
theorem run_alc {ρ : Operand → Value} {w : World} {o : Oper} (ho : o.op = .alloc 23) :
    (execOp ρ o).run Tryd.prog w = .ok (.value (.pointer (some ⟨w.heap.size, 0, none⟩))) (w.alloc (.cells #[.int .i64 0, .int .i64 0] 23)) := by
  unfold execOp
  rw [ho]
  simp [go_sem]
theorem run_bs2 {ρ : Operand → Value} {w : World} {o : Oper} {x y : Operand} {p q r s : Int} (ho : o.op = .buildSlice 30 2 #[(0, x), (1, y)]) (hx : ρ x = .agg #[.int .i64 p, .int .i64 q]) (hy : ρ y = .agg #[.int .i64 r, .int .i64 s]) :
    (execOp ρ o).run Tryd.prog w = .ok (.value (.slice (some ⟨w.heap.size, 0, none⟩) 2 2)) (w.alloc (.cells #[.int .i64 p, .int .i64 q, .int .i64 r, .int .i64 s] 23)) := by
  unfold execOp
  rw [ho]
  simp [go_sem, hx, hy]
theorem run_bs3 {ρ : Operand → Value} {w : World} {o : Oper} {x y z : Operand} {p q r s t u : Int} (ho : o.op = .buildSlice 30 3 #[(0, x), (1, y), (2, z)]) (hx : ρ x = .agg #[.int .i64 p, .int .i64 q]) (hy : ρ y = .agg #[.int .i64 r, .int .i64 s]) (hz : ρ z = .agg #[.int .i64 t, .int .i64 u]) :
    (execOp ρ o).run Tryd.prog w = .ok (.value (.slice (some ⟨w.heap.size, 0, none⟩) 3 3)) (w.alloc (.cells #[.int .i64 p, .int .i64 q, .int .i64 r, .int .i64 s, .int .i64 t, .int .i64 u] 23)) := by
  unfold execOp
  rw [ho]
  simp [go_sem, hx, hy, hz]
theorem run_cl1 {ρ : Operand → Value} {w : World} {o : Oper} {f : FuncId} {x : Operand} {ty : Array TypeId} (ho : o.op = .call { callee := .value (.func f), args := #[x], argTypes := ty }) (h0 : ρ (.func f) = .func (.func f) #[] #[]) (hf : ∀ v, (callFunc f #[v]).run Tryd.prog w = .ok (.enter f #[v]) w) :
    (execOp ρ o).run Tryd.prog w = .ok (.enter f #[ρ x]) w := by
  have h1 := hf (ρ x)
  unfold execOp
  rw [ho]
  simp [go_sem, h0, h1]
theorem run_st {ρ : Operand → Value} {w : World} {o : Oper} {x y : Operand} {b : Nat} {p q : Int} {c0 c1 : Value} (ho : o.op = .store 23 x y) (hx : ρ x = .pointer (some ⟨b, 0, none⟩)) (hy : ρ y = .agg #[.int .i64 p, .int .i64 q]) (hb : w.heap[b]? = some (.cells #[c0, c1] 23)) :
    ∃ v, (execOp ρ o).run Tryd.prog w = .ok v ((w.setCell ⟨b, 0, none⟩ (.int .i64 p)).setCell ⟨b, 1, none⟩ (.int .i64 q)) ∧ (v = .skip ∨ ∃ u, v = .value u) := by
  have e0 : w.cell? ⟨b, 0, none⟩ = some c0 := by simp [World.cell?, hb]
  have e1 : w.cell? ⟨b, 1, none⟩ = some c1 := by simp [World.cell?, hb]
  have f0 : w.frozen? ⟨b, 0, none⟩ = false := by simp [World.frozen?, hb]
  have f1 : w.frozen? ⟨b, 1, none⟩ = false := by simp [World.frozen?, hb]
  unfold execOp
  rw [ho]
  simp [go_sem, hx, hy, e0, e1, f0, f1]
theorem wpOp_st {ops : Array Oper} {Q : Exit → Act → World → Prop} {i : Nat} {o : Oper} {a : Act} {w : World} {K : Act → World → Prop} {x y : Operand} {b : Nat} {p q : Int} {c0 c1 : Value} (ho : ops[i]? = some o) (hg : o.guard = none) (hop : o.op = .store 23 x y)
    (hx : a.eval x = .pointer (some ⟨b, 0, none⟩)) (hy : a.eval y = .agg #[.int .i64 p, .int .i64 q]) (hb : w.heap[b]? = some (.cells #[c0, c1] 23))
    (hK : ∀ v, K (a.put o.dst v) ((w.setCell ⟨b, 0, none⟩ (.int .i64 p)).setCell ⟨b, 1, none⟩ (.int .i64 q))) : wpOp Tryd.prog ops Q i K a w := by
  obtain ⟨v, hr, hv⟩ := run_st hop hx hy hb
  rcases hv with rfl | ⟨u, rfl⟩
  · exact wpOp_skip ho hg hr (hK _)
  · exact wpOp_val ho hg hr (hK _)
end Go.Proofs.YthnkaimhmldjoaaDoor
