/-
  A region in its text's order, by what its operations do; guards.
-/
import Derived.Test.YthnkaimhmldjoaaDoorRegD
set_option linter.unusedVariables false
set_option linter.unusedSimpArgs false
namespace Go.Proofs.YthnkaimhmldjoaaDoor
open Go.RowKit

section
variable {P : Program} {ops : Array Oper} {Q : Exit → Act → World → Prop}
theorem Ls.self {listed : Array Bool} {k : Nat} (h : k < listed.size) : Ls (listed.setIfInBounds k true) k := by
  unfold Ls
  simp [Array.getD_eq_getD_getElem?, Array.getElem?_setIfInBounds, h]
theorem wp_region_sq {id : Nat} {a0 : Act} {w0 : World} (kd : Nat → Kd) (S : Stat ops.size kd (slotOf ops) a0)
    (step : ∀ i o, ops[i]? = some o → ∀ blk listed a w, Inv ops.size kd (slotOf ops) a0 w0 blk listed a w → (∀ j, j < i → Ls listed j) → wpOp P ops Q i (fun a' w' => NextK kd blk listed i o.dst a w a' w') a w)
    (hend : ∀ blk listed a w, Inv ops.size kd (slotOf ops) a0 w0 blk listed a w → (∀ i, i < ops.size → Ls listed i) → Q .normal a w) : (Code.region id ops false).wp P Q a0 w0 := by
  refine wp_region ?_
  have key : ∀ (m k : Nat), k + m = ops.size → ∀ blk listed a w, listed.size = ops.size → (∀ j, j < k → Ls listed j) → (∀ j, k ≤ j → ¬ Ls listed j) → Inv ops.size kd (slotOf ops) a0 w0 blk listed a w → wpOps P ops Q (List.range' k m) a w := by
    intro m
    induction m with
    | zero =>
      intro k hk blk listed a w hsz h1 h2 I
      exact hend blk listed a w I (fun i hi => h1 i (by omega))
    | succ m ih =>
      intro k hk blk listed a w hsz h1 h2 I
      have hk' : k < ops.size := by omega
      have ho : ops[k]? = some ops[k] := Array.getElem?_eq_getElem hk'
      have hs : slotOf ops k = ops[k].dst := by unfold slotOf; rw [ho]; rfl
      rw [List.range'_succ, wpOps_cons]
      refine wpOp_mono (fun a' w' hN => ?_) (step k _ ho blk listed a w I h1)
      rw [← hs] at hN
      obtain ⟨blk', I'⟩ := hN.inv S I hk' (h2 k (Nat.le_refl _))
      refine ih (k + 1) (by omega) blk' _ a' w' (by simpa using hsz) (fun j hj => ?_) (fun j hj hl => ?_) I'
      · by_cases e : j = k
        · subst e; exact Ls.self (by omega)
        · exact (h1 j (by omega)).mono
      · rcases hl.set with e | hl'
        · omega
        · exact h2 j (by omega) hl'
  rw [List.range_eq_range']
  have no : ∀ i, ¬ Ls (Array.replicate ops.size false) i := fun i h => by
    unfold Ls at h
    simp only [Array.getD_eq_getD_getElem?, Array.getElem?_replicate] at h
    split at h <;> cases h
  exact key ops.size 0 (by omega) (fun _ => 0) _ a0 w0 (by simp) (fun j hj => absurd hj (by omega)) (fun j _ => no j)
    ⟨Up.refl w0, rfl, rfl, fun _ _ => rfl, fun i _ h => absurd h (no i), fun i j _ _ h => absurd h (no i), fun i _ h => absurd h (no i)⟩
theorem wp_region_sqQ {id : Nat} {a0 : Act} {w0 : World} (kd : Nat → Kd) (S : Stat ops.size kd (slotOf ops) a0)
    (step : ∀ (Q' : Exit → Act → World → Prop) i o, ops[i]? = some o → ∀ blk listed a w, Inv ops.size kd (slotOf ops) a0 w0 blk listed a w → (∀ j, j < i → Ls listed j) → wpOp P ops Q' i (fun a' w' => NextK kd blk listed i o.dst a w a' w') a w)
    (hend : ∀ blk listed a w, Inv ops.size kd (slotOf ops) a0 w0 blk listed a w → (∀ i, i < ops.size → Ls listed i) → Q .normal a w) : (Code.region id ops false).wp P Q a0 w0 := wp_region_sq kd S (step Q) hend
theorem wp_region_kdQ {id : Nat} {a0 : Act} {w0 : World} (hm : P.follows .mixedOrders = true) (kd : Nat → Kd) (S : Stat ops.size kd (slotOf ops) a0)
    (hacy : ∀ (i : Nat) (o : Oper), ops[i]? = some o → ∀ e ∈ o.after, e.on < i)
    (step : ∀ (Q' : Exit → Act → World → Prop) i o, ops[i]? = some o → ∀ blk listed a w, Inv ops.size kd (slotOf ops) a0 w0 blk listed a w → (∀ e ∈ o.after, Region.binds .any e = true → Ls listed e.on) → wpOp P ops Q' i (fun a' w' => NextK kd blk listed i o.dst a w a' w') a w)
    (hend : ∀ blk listed a w, Inv ops.size kd (slotOf ops) a0 w0 blk listed a w → (∀ i, i < ops.size → Ls listed i) → Q .normal a w) : (Code.region id ops true).wp P Q a0 w0 := wp_region_kd hm kd S hacy (step Q) hend
theorem wpOp_valW {i : Nat} {o : Oper} {a : Act} {w w' : World} {v : Value} {K : Act → World → Prop} (ho : ops[i]? = some o) (hg : Region.wanted o (yielded ops a.tmps) = true) (hr : (execOp a.eval o).run P w = .ok (.value v) w') (hK : K (a.put o.dst v) w') : wpOp P ops Q i K a w := by
  unfold wpOp
  rw [ho]
  simp only [hg, if_true]
  left
  unfold Oper.wp
  rw [hr]
  exact hK
theorem wpOp_notW {i : Nat} {o : Oper} {a : Act} {w : World} {K : Act → World → Prop} (ho : ops[i]? = some o) (hg : Region.wanted o (yielded ops a.tmps) = false) (hK : K (a.put o.dst undef) w) : wpOp P ops Q i K a w := by
  unfold wpOp
  rw [ho]
  simp only [hg]
  exact hK
theorem wpOp_callW {i : Nat} {o : Oper} {a : Act} {w : World} {f : FuncId} {args : Array Value} {K : Act → World → Prop} (ho : ops[i]? = some o) (hg : Region.wanted o (yielded ops a.tmps) = true) (hr : (execOp a.eval o).run P w = .ok (.enter f args) w) (hc : Calls P f args w fun e w' => ∃ v, e = .returned v ∧ K (a.put o.dst v) w') : wpOp P ops Q i K a w := by
  unfold wpOp
  rw [ho]
  simp only [hg, if_true]
  left
  unfold Oper.wp
  rw [hr]
  refine hc.mono ?_
  rintro e w' ⟨v, rfl, hK⟩
  exact hK
theorem wn {o : Oper} {a : Act} (hg : o.guard = none) : Region.wanted o (yielded ops a.tmps) = true := by
  unfold Region.wanted; rw [hg]
theorem wg {o : Oper} {a : Act} {j s : Nat} {b c : Bool} (hg : o.guard = some (j, b)) (hs : slotOf ops j = some s) (hv : a.tmps.getD s undef = .bool c) : Region.wanted o (yielded ops a.tmps) = (c == b) := by
  unfold Region.wanted yielded
  rw [hg]
  unfold slotOf at hs
  have : a.tmps[s]? = some (.bool c) := by
    rw [Array.getD_eq_getD_getElem?] at hv
    cases h : a.tmps[s]? with
    | none => rw [h] at hv; cases hv
    | some v => rw [h] at hv; exact congrArg some hv
  simp only [hs, Option.bind_some, this]
  cases c <;> cases b <;> rfl
theorem wgT {o : Oper} {a : Act} {j s : Nat} {b c : Bool} (hg : o.guard = some (j, b)) (hs : slotOf ops j = some s) (hv : a.tmps.getD s undef = .bool c) (he : (c == b) = true) : Region.wanted o (yielded ops a.tmps) = true := (wg hg hs hv).trans he
theorem wgF {o : Oper} {a : Act} {j s : Nat} {b c : Bool} (hg : o.guard = some (j, b)) (hs : slotOf ops j = some s) (hv : a.tmps.getD s undef = .bool c) (he : (c == b) = false) : Region.wanted o (yielded ops a.tmps) = false := (wg hg hs hv).trans he
end
def setsL : List Value → List (Nat × Value) → List Value
  | L, [] => L
  | L, p :: r => setsL (L.set p.1 p.2) r
theorem puts_sets (l : List (Nat × Value)) : ∀ a0 : Act, putsOf a0 l = ⟨(setsL a0.tmps.toList l).toArray, a0.defers⟩ := by
  induction l with
  | nil => intro a0; rfl
  | cons p r ih =>
    intro a0
    show putsOf (a0.put (some p.1) p.2) r = _
    rw [ih]
    have : (a0.put (some p.1) p.2).tmps.toList = a0.tmps.toList.set p.1 p.2 := Array.toList_setIfInBounds ..
    rw [this]
    rfl
theorem Inv.frameL {ops : Array Oper} {kd : Nat → Kd} {t0 : List Value} {d0 : List _} {w0 : World} {blk : Nat → Nat} {listed : Array Bool} {a : Act} {w : World} (I : Inv ops.size kd (slotOf ops) ⟨t0.toArray, d0⟩ w0 blk listed a w) (l : List (Nat × Value))
    (h : ∀ p ∈ l, p.1 < t0.toArray.size ∧ a.tmps.getD p.1 undef = p.2) (hc : (List.range ops.size).all (fun i => match slotOf ops i with | none => true | some s => l.any (fun p => p.1 == s)) = true) : a = ⟨(setsL t0 l).toArray, d0⟩ :=
  (I.frame l h hc).trans (puts_sets l _)
def rtq (p : Int × Int) : Value := .agg #[.int .i64 p.1, .int .i64 p.2]
theorem run_as {ρ : Operand → Value} {w : World} {o : Oper} {x : Operand} {v : Value} (ho : o.op = .assign x) (hx : ρ x = v) : (execOp ρ o).run Tryd.prog w = .ok (.value v) w := by
  unfold execOp
  rw [ho]
  simp [go_sem, hx]
theorem run_not {ρ : Operand → Value} {w : World} {o : Oper} {x : Operand} {b : Bool} (ho : o.op = .unOp .not 4 x) (hx : ρ x = .bool b) : (execOp ρ o).run Tryd.prog w = .ok (.value (.bool (!b))) w := by
  unfold execOp
  rw [ho]
  simp [go_sem, hx]
theorem run_pickT {ρ : Operand → Value} {w : World} {o : Oper} {c x y : Operand} {v : Value} (ho : o.op = .pick c x y) (hc : ρ c = .bool true) (hx : ρ x = v) : (execOp ρ o).run Tryd.prog w = .ok (.value v) w := by
  unfold execOp
  rw [ho]
  simp [go_sem, hc, hx]
theorem run_pickF {ρ : Operand → Value} {w : World} {o : Oper} {c x y : Operand} {v : Value} (ho : o.op = .pick c x y) (hc : ρ c = .bool false) (hy : ρ y = v) : (execOp ρ o).run Tryd.prog w = .ok (.value v) w := by
  unfold execOp
  rw [ho]
  simp [go_sem, hc, hy]
theorem run_ne {ρ : Operand → Value} {w : World} {o : Oper} {x y : Operand} {p : Int × Int} (ho : o.op = .binOp .neq 23 x y 23) (hx : ρ x = rtq p) (hy : ρ y = rtq p) : (execOp ρ o).run Tryd.prog w = .ok (.value (.bool false)) w := by
  unfold rtq at *
  unfold execOp
  rw [ho]
  simp [go_sem, hx, hy]
theorem run_eq {ρ : Operand → Value} {w : World} {o : Oper} {x y : Operand} {p q : Int × Int} (ho : o.op = .binOp .eql 23 x y 23) (hx : ρ x = rtq p) (hy : ρ y = rtq q) : (execOp ρ o).run Tryd.prog w = .ok (.value (.bool (decide (p = q)))) w := by
  unfold rtq at *
  unfold execOp
  rw [ho]
  obtain ⟨p1, p2⟩ := p
  obtain ⟨q1, q2⟩ := q
  by_cases h1 : p1 = q1
  · subst h1
    by_cases h2 : p2 = q2
    · subst h2; simp [go_sem, hx, hy]
    · simp [go_sem, hx, hy, h2]
  · simp [go_sem, hx, hy, h1]
theorem run_ne0 {ρ : Operand → Value} {w : World} {o : Oper} {x : Operand} {n : Int} (ho : o.op = .binOp .neq 2 x (.const (.int .i64 0)) 2) (h0 : ρ (.const (.int .i64 0)) = .int .i64 0) (hx : ρ x = .int .i64 n) : (execOp ρ o).run Tryd.prog w = .ok (.value (.bool (n != 0))) w := by
  unfold execOp
  rw [ho]
  simp [go_sem, hx, h0]
theorem run_eqz {ρ : Operand → Value} {w : World} {o : Oper} {x y : Operand} {p q : Int × Int} {z : Bool} (ho : o.op = .binOp .eql 23 x y 23) (hx : ρ x = rtq p) (hy : ρ y = rtq q) (hz : decide (p = q) = z) : (execOp ρ o).run Tryd.prog w = .ok (.value (.bool z)) w := hz ▸ run_eq ho hx hy
theorem run_ne0z {ρ : Operand → Value} {w : World} {o : Oper} {x : Operand} {n : Int} {z : Bool} (ho : o.op = .binOp .neq 2 x (.const (.int .i64 0)) 2) (h0 : ρ (.const (.int .i64 0)) = .int .i64 0) (hx : ρ x = .int .i64 n) (hz : (n != 0) = z) : (execOp ρ o).run Tryd.prog w = .ok (.value (.bool z)) w := hz ▸ run_ne0 ho h0 hx
theorem run_fa {ρ : Operand → Value} {w : World} {o : Oper} {x : Operand} {b : Nat} (ho : o.op = .fieldAddr 23 x 0) (hx : ρ x = .pointer (some ⟨b, 0, none⟩)) : (execOp ρ o).run Tryd.prog w = .ok (.value (.pointer (some ⟨b, 0, none⟩))) w := by
  unfold execOp
  rw [ho]
  simp [go_sem, hx]
theorem run_ldI {ρ : Operand → Value} {w : World} {o : Oper} {x : Operand} {b : Nat} {n : Int} (ho : o.op = .load 2 x) (hx : ρ x = .pointer (some ⟨b, 0, none⟩)) (c0 : w.cell? ⟨b, 0, none⟩ = some (.int .i64 n)) : (execOp ρ o).run Tryd.prog w = .ok (.value (.int .i64 n)) w := by
  unfold execOp
  rw [ho]
  simp [go_sem, hx, c0]
end Go.Proofs.YthnkaimhmldjoaaDoor
