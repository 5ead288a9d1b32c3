/-
  A region that draws its order: its operations, its frame, guards.
-/
import Derived.Test.YticgcokhdipomaaDoorLBeA
set_option linter.unusedVariables false
set_option linter.unusedSimpArgs false
namespace Go.Proofs.YticgcokhdipomaaDoor.be
open Go.RowKit


theorem run_ld {ρ : Operand → Value} {w : World} {o : Oper} {x : Operand} {b : Nat} {p q : Int} (ho : o.op = .load 24 x) (hx : ρ x = .pointer (some ⟨b, 0, none⟩)) (c0 : w.cell? ⟨b, 0, none⟩ = some (.int .i64 p)) (c1 : w.cell? ⟨b, 1, none⟩ = some (.int .i64 q)) :
    (execOp ρ o).run Tryd.prog w = .ok (.value (.agg #[.int .i64 p, .int .i64 q])) w := by
  unfold execOp
  rw [ho]
  simp [go_sem, hx, c0, c1]
theorem run_alc {ρ : Operand → Value} {w : World} {o : Oper} (ho : o.op = .alloc 24) :
    (execOp ρ o).run Tryd.prog w = .ok (.value (.pointer (some ⟨w.heap.size, 0, none⟩))) (w.alloc (.cells #[.int .i64 0, .int .i64 0] 24)) := by
  unfold execOp
  rw [ho]
  simp [go_sem]
theorem run_bs2 {ρ : Operand → Value} {w : World} {o : Oper} {x y : Operand} {p q r s : Int} (ho : o.op = .buildSlice 53 2 #[(0, x), (1, y)]) (hx : ρ x = .agg #[.int .i64 p, .int .i64 q]) (hy : ρ y = .agg #[.int .i64 r, .int .i64 s]) :
    (execOp ρ o).run Tryd.prog w = .ok (.value (.slice (some ⟨w.heap.size, 0, none⟩) 2 2)) (w.alloc (.cells #[.int .i64 p, .int .i64 q, .int .i64 r, .int .i64 s] 24)) := by
  unfold execOp
  rw [ho]
  simp [go_sem, hx, hy]
theorem run_bs3 {ρ : Operand → Value} {w : World} {o : Oper} {x y z : Operand} {p q r s t u : Int} (ho : o.op = .buildSlice 53 3 #[(0, x), (1, y), (2, z)]) (hx : ρ x = .agg #[.int .i64 p, .int .i64 q]) (hy : ρ y = .agg #[.int .i64 r, .int .i64 s]) (hz : ρ z = .agg #[.int .i64 t, .int .i64 u]) :
    (execOp ρ o).run Tryd.prog w = .ok (.value (.slice (some ⟨w.heap.size, 0, none⟩) 3 3)) (w.alloc (.cells #[.int .i64 p, .int .i64 q, .int .i64 r, .int .i64 s, .int .i64 t, .int .i64 u] 24)) := by
  unfold execOp
  rw [ho]
  simp [go_sem, hx, hy, hz]
theorem run_cl1 {ρ : Operand → Value} {w : World} {o : Oper} {f : FuncId} {x : Operand} {ty : Array TypeId} (ho : o.op = .call { callee := .value (.func f), args := #[x], argTypes := ty }) (h0 : ρ (.func f) = .func (.func f) #[] #[]) (hf : ∀ v, (callFunc f #[v]).run Tryd.prog w = .ok (.enter f #[v]) w) :
    (execOp ρ o).run Tryd.prog w = .ok (.enter f #[ρ x]) w := by
  have h1 := hf (ρ x)
  unfold execOp
  rw [ho]
  simp [go_sem, h0, h1]
theorem run_st {ρ : Operand → Value} {w : World} {o : Oper} {x y : Operand} {b : Nat} {p q : Int} {c0 c1 : Value} (ho : o.op = .store 24 x y) (hx : ρ x = .pointer (some ⟨b, 0, none⟩)) (hy : ρ y = .agg #[.int .i64 p, .int .i64 q]) (hb : w.heap[b]? = some (.cells #[c0, c1] 24)) :
    ∃ v, (execOp ρ o).run Tryd.prog w = .ok v ((w.setCell ⟨b, 0, none⟩ (.int .i64 p)).setCell ⟨b, 1, none⟩ (.int .i64 q)) ∧ (v = .skip ∨ ∃ u, v = .value u) := by
  have e0 : w.cell? ⟨b, 0, none⟩ = some c0 := by simp [World.cell?, hb]
  have e1 : w.cell? ⟨b, 1, none⟩ = some c1 := by simp [World.cell?, hb]
  have f0 : w.frozen? ⟨b, 0, none⟩ = false := by simp [World.frozen?, hb]
  have f1 : w.frozen? ⟨b, 1, none⟩ = false := by simp [World.frozen?, hb]
  unfold execOp
  rw [ho]
  simp [go_sem, hx, hy, e0, e1, f0, f1]
theorem wpOp_st {ops : Array Oper} {Q : Exit → Act → World → Prop} {i : Nat} {o : Oper} {a : Act} {w : World} {K : Act → World → Prop} {x y : Operand} {b : Nat} {p q : Int} {c0 c1 : Value} (ho : ops[i]? = some o) (hg : o.guard = none) (hop : o.op = .store 24 x y)
    (hx : a.eval x = .pointer (some ⟨b, 0, none⟩)) (hy : a.eval y = .agg #[.int .i64 p, .int .i64 q]) (hb : w.heap[b]? = some (.cells #[c0, c1] 24))
    (hK : ∀ v, K (a.put o.dst v) ((w.setCell ⟨b, 0, none⟩ (.int .i64 p)).setCell ⟨b, 1, none⟩ (.int .i64 q))) : wpOp Tryd.prog ops Q i K a w := by
  obtain ⟨v, hr, hv⟩ := run_st hop hx hy hb
  rcases hv with rfl | ⟨u, rfl⟩
  · exact wpOp_skip ho hg hr (hK _)
  · exact wpOp_val ho hg hr (hK _)


def Kd.into : Kd → Option Nat
  | .put b _ _ => some b
  | _ => none
def Kd.isBox : Kd → Bool
  | .box _ => true
  | _ => false
def statOk (ops : Array Oper) (kd : Nat → Kd) (N : Nat) : Bool :=
  (List.range ops.size).all fun i =>
    ((List.range ops.size).all fun j => (i == j) || (((slotOf ops i).isNone || (slotOf ops i != slotOf ops j)) && ((kd i).into.isNone || ((kd i).into != (kd j).into)))) &&
    (match slotOf ops i with | none => true | some s => decide (s < N)) &&
    (match (kd i).into with | none => true | some b => decide (b < ops.size) && (kd b).isBox && (slotOf ops i).isNone)
theorem Stat.of {ops : Array Oper} {kd : Nat → Kd} {a0 : Act} (h : statOk ops kd a0.tmps.size = true) : Stat ops.size kd (slotOf ops) a0 := by
  unfold statOk at h
  rw [List.all_eq_true] at h
  have key : ∀ i, i < ops.size → _ := fun i hi => h i (List.mem_range.2 hi)
  simp only [Bool.and_eq_true, List.all_eq_true, List.mem_range, Bool.or_eq_true, beq_iff_eq, bne_iff_ne, ne_eq] at key
  refine ⟨fun i j s hi hj h1 h2 => ?_, fun i s hi h1 => ?_, fun i b x y hi hk => ?_, fun i j b x y x' y' hi hj h1 h2 => ?_⟩
  · rcases (key i hi).1.1 j hj with e | ⟨e, _⟩
    · exact e
    · rcases e with e | e
      · rw [h1] at e; cases e
      · exact absurd (h1.trans h2.symm) e
  · have := (key i hi).1.2
    rw [h1] at this
    simpa using this
  · have := (key i hi).2
    rw [hk] at this
    simp only [Kd.into, Bool.and_eq_true, decide_eq_true_eq, Option.isNone_iff_eq_none] at this
    refine ⟨this.1.1, ?_, this.2⟩
    cases hb : kd b with
    | box T => exact ⟨T, rfl⟩
    | _ => rw [hb] at this; simp [Kd.isBox] at this
  · rcases (key i hi).1.1 j hj with e | ⟨_, e⟩
    · exact e
    · rw [h1, h2] at e
      simp [Kd.into] at e
def acyOk (ops : Array Oper) : Bool := (List.range ops.size).all fun i => match ops[i]? with
  | none => true
  | some o => o.after.all fun e => decide (e.on < i)
theorem acy_of {ops : Array Oper} (h : acyOk ops = true) : ∀ (i : Nat) (o : Oper), ops[i]? = some o → ∀ e ∈ o.after, e.on < i := by
  intro i o ho e he
  unfold acyOk at h
  rw [List.all_eq_true] at h
  have := h i (List.mem_range.2 (Array.getElem?_eq_some_iff.1 ho).1)
  rw [ho] at this
  simp only [Array.all_eq_true', decide_eq_true_eq] at this
  exact this e he
def noSlot (ops : Array Oper) (j : Nat) : Bool := (List.range ops.size).all fun i => slotOf ops i != some j
section
variable {ops : Array Oper} {kd : Nat → Kd} {a0 : Act} {w0 : World} {blk : Nat → Nat} {listed : Array Bool} {a : Act} {w : World} {i s : Nat}
theorem Inv.oth_at (I : Inv ops.size kd (slotOf ops) a0 w0 blk listed a w) {j : Nat} (h : noSlot ops j = true) : a.tmps.getD j undef = a0.tmps.getD j undef := by
  refine I.oth j fun i hi => ?_
  unfold noSlot at h
  rw [List.all_eq_true] at h
  simpa using h i (List.mem_range.2 hi)
theorem Inv.val_at (I : Inv ops.size kd (slotOf ops) a0 w0 blk listed a w) (hi : i < ops.size) (hl : Ls listed i) {v : Value} (hk : kd i = .val v ∨ kd i = .call v) (hs : slotOf ops i = some s) : a.tmps.getD s undef = v := by
  have := I.fct i hi hl
  unfold Fact at this
  rcases hk with hk | hk <;> rw [hk] at this <;> exact this s hs
theorem Inv.row_at (I : Inv ops.size kd (slotOf ops) a0 w0 blk listed a w) (hi : i < ops.size) (hl : Ls listed i) {cs : Array Value} {T : TypeId} {k : Nat} (hk : kd i = .row cs T k) (hs : slotOf ops i = some s) : a.tmps.getD s undef = .slice (some ⟨blk i, 0, none⟩) k k ∧ w.heap[blk i]? = some (.cells cs T) := by
  have := I.fct i hi hl
  unfold Fact at this
  rw [hk] at this
  exact ⟨this.1 s hs, this.2⟩
theorem Inv.box_at (I : Inv ops.size kd (slotOf ops) a0 w0 blk listed a w) (hi : i < ops.size) (hl : Ls listed i) {T : TypeId} (hk : kd i = .box T) (hs : slotOf ops i = some s) : a.tmps.getD s undef = .pointer (some ⟨blk i, 0, none⟩) ∧ ∃ c0 c1, w.heap[blk i]? = some (.cells #[c0, c1] T) := by
  have := I.fct i hi hl
  unfold Fact at this
  rw [hk] at this
  exact ⟨this.1 s hs, this.2⟩
theorem Inv.put_at (I : Inv ops.size kd (slotOf ops) a0 w0 blk listed a w) (hi : i < ops.size) (hl : Ls listed i) {b : Nat} {x y : Value} (hk : kd i = .put b x y) : ∃ T, w.heap[blk b]? = some (.cells #[x, y] T) := by
  have := I.fct i hi hl
  unfold Fact at this
  rw [hk] at this
  exact this.2
end
/-- The frame behind some values. -/
def putsOf (a0 : Act) : List (Nat × Value) → Act
  | [] => a0
  | p :: r => putsOf (a0.put (some p.1) p.2) r
theorem puts_sz (l : List (Nat × Value)) : ∀ a0 : Act, (putsOf a0 l).tmps.size = a0.tmps.size := by
  induction l with
  | nil => intro _; rfl
  | cons p r ih => intro a0; exact (ih _).trans (put_sz _ _)
theorem puts_df (l : List (Nat × Value)) : ∀ a0 : Act, (putsOf a0 l).defers = a0.defers := by
  induction l with
  | nil => intro _; rfl
  | cons p r ih => intro a0; exact (ih _).trans (put_df _ _)
theorem puts_at {a : Act} (l : List (Nat × Value)) : ∀ a0 : Act, (∀ p ∈ l, p.1 < a0.tmps.size ∧ a.tmps.getD p.1 undef = p.2) → ∀ j, (putsOf a0 l).tmps.getD j undef = if l.any (fun p => p.1 == j) then a.tmps.getD j undef else a0.tmps.getD j undef := by
  induction l with
  | nil => intro a0 _ j; simp [putsOf]
  | cons p r ih =>
    intro a0 h j
    obtain ⟨h1, h2⟩ := h p (by simp)
    have e := ih (a0.put (some p.1) p.2) (fun q hq => by rw [put_sz]; exact h q (by simp [hq])) j
    show (putsOf (a0.put (some p.1) p.2) r).tmps.getD j undef = _
    rw [e, getD_put h1, List.any_cons]
    by_cases ej : j = p.1
    · subst ej; rw [if_pos rfl, h2]; simp
    · rw [if_neg ej]
      have : (p.1 == j) = false := by simpa using Ne.symm ej
      rw [this, Bool.false_or]
theorem getD_get {x : Array Value} {j : Nat} (h : j < x.size) : x.getD j undef = x[j] := by simp [Array.getD, h]
theorem Inv.frame {ops : Array Oper} {kd : Nat → Kd} {a0 : Act} {w0 : World} {blk : Nat → Nat} {listed : Array Bool} {a : Act} {w : World} (I : Inv ops.size kd (slotOf ops) a0 w0 blk listed a w) (l : List (Nat × Value))
    (h : ∀ p ∈ l, p.1 < a0.tmps.size ∧ a.tmps.getD p.1 undef = p.2) (hc : (List.range ops.size).all (fun i => match slotOf ops i with | none => true | some s => l.any (fun p => p.1 == s)) = true) : a = putsOf a0 l := by
  have hsz : a.tmps.size = (putsOf a0 l).tmps.size := I.sz.trans (puts_sz l a0).symm
  have ht : a.tmps = (putsOf a0 l).tmps := by
    refine Array.ext hsz fun j h1 h2 => ?_
    rw [← getD_get h1, ← getD_get h2, puts_at l a0 h j]
    by_cases hj : l.any (fun p => p.1 == j) = true
    · rw [if_pos hj]
    · rw [if_neg hj]
      refine I.oth j fun i hi hs => hj ?_
      rw [List.all_eq_true] at hc
      have := hc i (List.mem_range.2 hi)
      rw [hs] at this
      exact this
  cases a
  cases hp : putsOf a0 l with
  | mk t d =>
    have hd := puts_df l a0
    rw [hp] at hd ht
    have := I.df
    simp only at ht hd this
    subst ht
    rw [this, ← hd]


section
variable {P : Program} {ops : Array Oper} {Q : Exit → Act → World → Prop}
theorem Ls.self {listed : Array Bool} {k : Nat} (h : k < listed.size) : Ls (listed.setIfInBounds k true) k := by
  unfold Ls
  simp [Array.getD_eq_getD_getElem?, Array.getElem?_setIfInBounds, h]
theorem wp_region_sq {id : Nat} {a0 : Act} {w0 : World} (kd : Nat → Kd) (S : Stat ops.size kd (slotOf ops) a0)
    (step : ∀ i o, ops[i]? = some o → ∀ blk listed a w, Inv ops.size kd (slotOf ops) a0 w0 blk listed a w → (∀ j, j < i → Ls listed j) → wpOp P ops Q i (fun a' w' => NextK kd blk listed i o.dst a w a' w') a w)
    (hend : ∀ blk listed a w, Inv ops.size kd (slotOf ops) a0 w0 blk listed a w → (∀ i, i < ops.size → Ls listed i) → Q .normal a w) : (Code.region id ops false).wp P Q a0 w0 := by
  refine wp_region ?_
  have key : ∀ (m k : Nat), k + m = ops.size → ∀ blk listed a w, listed.size = ops.size → (∀ j, j < k → Ls listed j) → (∀ j, k ≤ j → ¬ Ls listed j) → Inv ops.size kd (slotOf ops) a0 w0 blk listed a w → wpOps P ops Q (List.range' k m) a w := by
    intro m
    induction m with
    | zero =>
      intro k hk blk listed a w hsz h1 h2 I
      exact hend blk listed a w I (fun i hi => h1 i (by omega))
    | succ m ih =>
      intro k hk blk listed a w hsz h1 h2 I
      have hk' : k < ops.size := by omega
      have ho : ops[k]? = some ops[k] := Array.getElem?_eq_getElem hk'
      have hs : slotOf ops k = ops[k].dst := by unfold slotOf; rw [ho]; rfl
      rw [List.range'_succ, wpOps_cons]
      refine wpOp_mono (fun a' w' hN => ?_) (step k _ ho blk listed a w I h1)
      rw [← hs] at hN
      obtain ⟨blk', I'⟩ := hN.inv S I hk' (h2 k (Nat.le_refl _))
      refine ih (k + 1) (by omega) blk' _ a' w' (by simpa using hsz) (fun j hj => ?_) (fun j hj hl => ?_) I'
      · by_cases e : j = k
        · subst e; exact Ls.self (by omega)
        · exact (h1 j (by omega)).mono
      · rcases hl.set with e | hl'
        · omega
        · exact h2 j (by omega) hl'
  rw [List.range_eq_range']
  have no : ∀ i, ¬ Ls (Array.replicate ops.size false) i := fun i h => by
    unfold Ls at h
    simp only [Array.getD_eq_getD_getElem?, Array.getElem?_replicate] at h
    split at h <;> cases h
  exact key ops.size 0 (by omega) (fun _ => 0) _ a0 w0 (by simp) (fun j hj => absurd hj (by omega)) (fun j _ => no j)
    ⟨Up.refl w0, rfl, rfl, fun _ _ => rfl, fun i _ h => absurd h (no i), fun i j _ _ h => absurd h (no i), fun i _ h => absurd h (no i)⟩
theorem wp_region_sqQ {id : Nat} {a0 : Act} {w0 : World} (kd : Nat → Kd) (S : Stat ops.size kd (slotOf ops) a0)
    (step : ∀ (Q' : Exit → Act → World → Prop) i o, ops[i]? = some o → ∀ blk listed a w, Inv ops.size kd (slotOf ops) a0 w0 blk listed a w → (∀ j, j < i → Ls listed j) → wpOp P ops Q' i (fun a' w' => NextK kd blk listed i o.dst a w a' w') a w)
    (hend : ∀ blk listed a w, Inv ops.size kd (slotOf ops) a0 w0 blk listed a w → (∀ i, i < ops.size → Ls listed i) → Q .normal a w) : (Code.region id ops false).wp P Q a0 w0 := wp_region_sq kd S (step Q) hend
theorem wp_region_kdQ {id : Nat} {a0 : Act} {w0 : World} (hm : P.follows .mixedOrders = true) (kd : Nat → Kd) (S : Stat ops.size kd (slotOf ops) a0)
    (hacy : ∀ (i : Nat) (o : Oper), ops[i]? = some o → ∀ e ∈ o.after, e.on < i)
    (step : ∀ (Q' : Exit → Act → World → Prop) i o, ops[i]? = some o → ∀ blk listed a w, Inv ops.size kd (slotOf ops) a0 w0 blk listed a w → (∀ e ∈ o.after, Region.binds .any e = true → Ls listed e.on) → wpOp P ops Q' i (fun a' w' => NextK kd blk listed i o.dst a w a' w') a w)
    (hend : ∀ blk listed a w, Inv ops.size kd (slotOf ops) a0 w0 blk listed a w → (∀ i, i < ops.size → Ls listed i) → Q .normal a w) : (Code.region id ops true).wp P Q a0 w0 := wp_region_kd hm kd S hacy (step Q) hend
theorem wpOp_valW {i : Nat} {o : Oper} {a : Act} {w w' : World} {v : Value} {K : Act → World → Prop} (ho : ops[i]? = some o) (hg : Region.wanted o (yielded ops a.tmps) = true) (hr : (execOp a.eval o).run P w = .ok (.value v) w') (hK : K (a.put o.dst v) w') : wpOp P ops Q i K a w := by
  unfold wpOp
  rw [ho]
  simp only [hg, if_true]
  left
  unfold Oper.wp
  rw [hr]
  exact hK
theorem wpOp_notW {i : Nat} {o : Oper} {a : Act} {w : World} {K : Act → World → Prop} (ho : ops[i]? = some o) (hg : Region.wanted o (yielded ops a.tmps) = false) (hK : K (a.put o.dst undef) w) : wpOp P ops Q i K a w := by
  unfold wpOp
  rw [ho]
  simp only [hg]
  exact hK
theorem wpOp_callW {i : Nat} {o : Oper} {a : Act} {w : World} {f : FuncId} {args : Array Value} {K : Act → World → Prop} (ho : ops[i]? = some o) (hg : Region.wanted o (yielded ops a.tmps) = true) (hr : (execOp a.eval o).run P w = .ok (.enter f args) w) (hc : Calls P f args w fun e w' => ∃ v, e = .returned v ∧ K (a.put o.dst v) w') : wpOp P ops Q i K a w := by
  unfold wpOp
  rw [ho]
  simp only [hg, if_true]
  left
  unfold Oper.wp
  rw [hr]
  refine hc.mono ?_
  rintro e w' ⟨v, rfl, hK⟩
  exact hK
theorem wn {o : Oper} {a : Act} (hg : o.guard = none) : Region.wanted o (yielded ops a.tmps) = true := by
  unfold Region.wanted; rw [hg]
theorem wg {o : Oper} {a : Act} {j s : Nat} {b c : Bool} (hg : o.guard = some (j, b)) (hs : slotOf ops j = some s) (hv : a.tmps.getD s undef = .bool c) : Region.wanted o (yielded ops a.tmps) = (c == b) := by
  unfold Region.wanted yielded
  rw [hg]
  unfold slotOf at hs
  have : a.tmps[s]? = some (.bool c) := by
    rw [Array.getD_eq_getD_getElem?] at hv
    cases h : a.tmps[s]? with
    | none => rw [h] at hv; cases hv
    | some v => rw [h] at hv; exact congrArg some hv
  simp only [hs, Option.bind_some, this]
  cases c <;> cases b <;> rfl
theorem wgT {o : Oper} {a : Act} {j s : Nat} {b c : Bool} (hg : o.guard = some (j, b)) (hs : slotOf ops j = some s) (hv : a.tmps.getD s undef = .bool c) (he : (c == b) = true) : Region.wanted o (yielded ops a.tmps) = true := (wg hg hs hv).trans he
theorem wgF {o : Oper} {a : Act} {j s : Nat} {b c : Bool} (hg : o.guard = some (j, b)) (hs : slotOf ops j = some s) (hv : a.tmps.getD s undef = .bool c) (he : (c == b) = false) : Region.wanted o (yielded ops a.tmps) = false := (wg hg hs hv).trans he
end
def setsL : List Value → List (Nat × Value) → List Value
  | L, [] => L
  | L, p :: r => setsL (L.set p.1 p.2) r
theorem puts_sets (l : List (Nat × Value)) : ∀ a0 : Act, putsOf a0 l = ⟨(setsL a0.tmps.toList l).toArray, a0.defers⟩ := by
  induction l with
  | nil => intro a0; rfl
  | cons p r ih =>
    intro a0
    show putsOf (a0.put (some p.1) p.2) r = _
    rw [ih]
    have : (a0.put (some p.1) p.2).tmps.toList = a0.tmps.toList.set p.1 p.2 := Array.toList_setIfInBounds ..
    rw [this]
    rfl
theorem Inv.frameL {ops : Array Oper} {kd : Nat → Kd} {t0 : List Value} {d0 : List _} {w0 : World} {blk : Nat → Nat} {listed : Array Bool} {a : Act} {w : World} (I : Inv ops.size kd (slotOf ops) ⟨t0.toArray, d0⟩ w0 blk listed a w) (l : List (Nat × Value))
    (h : ∀ p ∈ l, p.1 < t0.toArray.size ∧ a.tmps.getD p.1 undef = p.2) (hc : (List.range ops.size).all (fun i => match slotOf ops i with | none => true | some s => l.any (fun p => p.1 == s)) = true) : a = ⟨(setsL t0 l).toArray, d0⟩ :=
  (I.frame l h hc).trans (puts_sets l _)
def rtq (p : Int × Int) : Value := .agg #[.int .i64 p.1, .int .i64 p.2]
theorem run_as {ρ : Operand → Value} {w : World} {o : Oper} {x : Operand} {v : Value} (ho : o.op = .assign x) (hx : ρ x = v) : (execOp ρ o).run Tryd.prog w = .ok (.value v) w := by
  unfold execOp
  rw [ho]
  simp [go_sem, hx]
theorem run_not {ρ : Operand → Value} {w : World} {o : Oper} {x : Operand} {b : Bool} (ho : o.op = .unOp .not 4 x) (hx : ρ x = .bool b) : (execOp ρ o).run Tryd.prog w = .ok (.value (.bool (!b))) w := by
  unfold execOp
  rw [ho]
  simp [go_sem, hx]
theorem run_pickT {ρ : Operand → Value} {w : World} {o : Oper} {c x y : Operand} {v : Value} (ho : o.op = .pick c x y) (hc : ρ c = .bool true) (hx : ρ x = v) : (execOp ρ o).run Tryd.prog w = .ok (.value v) w := by
  unfold execOp
  rw [ho]
  simp [go_sem, hc, hx]
theorem run_pickF {ρ : Operand → Value} {w : World} {o : Oper} {c x y : Operand} {v : Value} (ho : o.op = .pick c x y) (hc : ρ c = .bool false) (hy : ρ y = v) : (execOp ρ o).run Tryd.prog w = .ok (.value v) w := by
  unfold execOp
  rw [ho]
  simp [go_sem, hc, hy]
theorem run_ne {ρ : Operand → Value} {w : World} {o : Oper} {x y : Operand} {p : Int × Int} (ho : o.op = .binOp .neq 24 x y 24) (hx : ρ x = rtq p) (hy : ρ y = rtq p) : (execOp ρ o).run Tryd.prog w = .ok (.value (.bool false)) w := by
  unfold rtq at *
  unfold execOp
  rw [ho]
  simp [go_sem, hx, hy]
theorem run_eq {ρ : Operand → Value} {w : World} {o : Oper} {x y : Operand} {p q : Int × Int} (ho : o.op = .binOp .eql 24 x y 24) (hx : ρ x = rtq p) (hy : ρ y = rtq q) : (execOp ρ o).run Tryd.prog w = .ok (.value (.bool (decide (p = q)))) w := by
  unfold rtq at *
  unfold execOp
  rw [ho]
  obtain ⟨p1, p2⟩ := p
  obtain ⟨q1, q2⟩ := q
  by_cases h1 : p1 = q1
  · subst h1
    by_cases h2 : p2 = q2
    · subst h2; simp [go_sem, hx, hy]
    · simp [go_sem, hx, hy, h2]
  · simp [go_sem, hx, hy, h1]
theorem run_ne0 {ρ : Operand → Value} {w : World} {o : Oper} {x : Operand} {n : Int} (ho : o.op = .binOp .neq 2 x (.const (.int .i64 0)) 2) (h0 : ρ (.const (.int .i64 0)) = .int .i64 0) (hx : ρ x = .int .i64 n) : (execOp ρ o).run Tryd.prog w = .ok (.value (.bool (n != 0))) w := by
  unfold execOp
  rw [ho]
  simp [go_sem, hx, h0]
theorem run_eqz {ρ : Operand → Value} {w : World} {o : Oper} {x y : Operand} {p q : Int × Int} {z : Bool} (ho : o.op = .binOp .eql 24 x y 24) (hx : ρ x = rtq p) (hy : ρ y = rtq q) (hz : decide (p = q) = z) : (execOp ρ o).run Tryd.prog w = .ok (.value (.bool z)) w := hz ▸ run_eq ho hx hy
theorem run_ne0z {ρ : Operand → Value} {w : World} {o : Oper} {x : Operand} {n : Int} {z : Bool} (ho : o.op = .binOp .neq 2 x (.const (.int .i64 0)) 2) (h0 : ρ (.const (.int .i64 0)) = .int .i64 0) (hx : ρ x = .int .i64 n) (hz : (n != 0) = z) : (execOp ρ o).run Tryd.prog w = .ok (.value (.bool z)) w := hz ▸ run_ne0 ho h0 hx
theorem run_fa {ρ : Operand → Value} {w : World} {o : Oper} {x : Operand} {b : Nat} (ho : o.op = .fieldAddr 24 x 0) (hx : ρ x = .pointer (some ⟨b, 0, none⟩)) : (execOp ρ o).run Tryd.prog w = .ok (.value (.pointer (some ⟨b, 0, none⟩))) w := by
  unfold execOp
  rw [ho]
  simp [go_sem, hx]
theorem run_ldI {ρ : Operand → Value} {w : World} {o : Oper} {x : Operand} {b : Nat} {n : Int} (ho : o.op = .load 2 x) (hx : ρ x = .pointer (some ⟨b, 0, none⟩)) (c0 : w.cell? ⟨b, 0, none⟩ = some (.int .i64 n)) : (execOp ρ o).run Tryd.prog w = .ok (.value (.int .i64 n)) w := by
  unfold execOp
  rw [ho]
  simp [go_sem, hx, c0]
end Go.Proofs.YticgcokhdipomaaDoor.be
