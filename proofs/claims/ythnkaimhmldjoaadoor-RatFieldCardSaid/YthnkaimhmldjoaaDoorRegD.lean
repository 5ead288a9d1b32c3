/-
  What must be asked of a region's operations, by programs; the frame behind it.
-/
import Derived.Test.YthnkaimhmldjoaaDoorRegC
set_option linter.unusedVariables false
set_option linter.unusedSimpArgs false
namespace Go.Proofs.YthnkaimhmldjoaaDoor
open Go.RowKit

def Kd.into : Kd → Option Nat
  | .put b _ _ => some b
  | _ => none
def Kd.isBox : Kd → Bool
  | .box _ => true
  | _ => false
def statOk (ops : Array Oper) (kd : Nat → Kd) (N : Nat) : Bool :=
  (List.range ops.size).all fun i =>
    ((List.range ops.size).all fun j => (i == j) || (((slotOf ops i).isNone || (slotOf ops i != slotOf ops j)) && ((kd i).into.isNone || ((kd i).into != (kd j).into)))) &&
    (match slotOf ops i with | none => true | some s => decide (s < N)) &&
    (match (kd i).into with | none => true | some b => decide (b < ops.size) && (kd b).isBox && (slotOf ops i).isNone)
theorem Stat.of {ops : Array Oper} {kd : Nat → Kd} {a0 : Act} (h : statOk ops kd a0.tmps.size = true) : Stat ops.size kd (slotOf ops) a0 := by
  unfold statOk at h
  rw [List.all_eq_true] at h
  have key : ∀ i, i < ops.size → _ := fun i hi => h i (List.mem_range.2 hi)
  simp only [Bool.and_eq_true, List.all_eq_true, List.mem_range, Bool.or_eq_true, beq_iff_eq, bne_iff_ne, ne_eq] at key
  refine ⟨fun i j s hi hj h1 h2 => ?_, fun i s hi h1 => ?_, fun i b x y hi hk => ?_, fun i j b x y x' y' hi hj h1 h2 => ?_⟩
  · rcases (key i hi).1.1 j hj with e | ⟨e, _⟩
    · exact e
    · rcases e with e | e
      · rw [h1] at e; cases e
      · exact absurd (h1.trans h2.symm) e
  · have := (key i hi).1.2
    rw [h1] at this
    simpa using this
  · have := (key i hi).2
    rw [hk] at this
    simp only [Kd.into, Bool.and_eq_true, decide_eq_true_eq, Option.isNone_iff_eq_none] at this
    refine ⟨this.1.1, ?_, this.2⟩
    cases hb : kd b with
    | box T => exact ⟨T, rfl⟩
    | _ => rw [hb] at this; simp [Kd.isBox] at this
  · rcases (key i hi).1.1 j hj with e | ⟨_, e⟩
    · exact e
    · rw [h1, h2] at e
      simp [Kd.into] at e
def acyOk (ops : Array Oper) : Bool := (List.range ops.size).all fun i => match ops[i]? with
  | none => true
  | some o => o.after.all fun e => decide (e.on < i)
theorem acy_of {ops : Array Oper} (h : acyOk ops = true) : ∀ (i : Nat) (o : Oper), ops[i]? = some o → ∀ e ∈ o.after, e.on < i := by
  intro i o ho e he
  unfold acyOk at h
  rw [List.all_eq_true] at h
  have := h i (List.mem_range.2 (Array.getElem?_eq_some_iff.1 ho).1)
  rw [ho] at this
  simp only [Array.all_eq_true', decide_eq_true_eq] at this
  exact this e he
def noSlot (ops : Array Oper) (j : Nat) : Bool := (List.range ops.size).all fun i => slotOf ops i != some j
section
variable {ops : Array Oper} {kd : Nat → Kd} {a0 : Act} {w0 : World} {blk : Nat → Nat} {listed : Array Bool} {a : Act} {w : World} {i s : Nat}
theorem Inv.oth_at (I : Inv ops.size kd (slotOf ops) a0 w0 blk listed a w) {j : Nat} (h : noSlot ops j = true) : a.tmps.getD j undef = a0.tmps.getD j undef := by
  refine I.oth j fun i hi => ?_
  unfold noSlot at h
  rw [List.all_eq_true] at h
  simpa using h i (List.mem_range.2 hi)
theorem Inv.val_at (I : Inv ops.size kd (slotOf ops) a0 w0 blk listed a w) (hi : i < ops.size) (hl : Ls listed i) {v : Value} (hk : kd i = .val v ∨ kd i = .call v) (hs : slotOf ops i = some s) : a.tmps.getD s undef = v := by
  have := I.fct i hi hl
  unfold Fact at this
  rcases hk with hk | hk <;> rw [hk] at this <;> exact this s hs
theorem Inv.row_at (I : Inv ops.size kd (slotOf ops) a0 w0 blk listed a w) (hi : i < ops.size) (hl : Ls listed i) {cs : Array Value} {T : TypeId} {k : Nat} (hk : kd i = .row cs T k) (hs : slotOf ops i = some s) : a.tmps.getD s undef = .slice (some ⟨blk i, 0, none⟩) k k ∧ w.heap[blk i]? = some (.cells cs T) := by
  have := I.fct i hi hl
  unfold Fact at this
  rw [hk] at this
  exact ⟨this.1 s hs, this.2⟩
theorem Inv.box_at (I : Inv ops.size kd (slotOf ops) a0 w0 blk listed a w) (hi : i < ops.size) (hl : Ls listed i) {T : TypeId} (hk : kd i = .box T) (hs : slotOf ops i = some s) : a.tmps.getD s undef = .pointer (some ⟨blk i, 0, none⟩) ∧ ∃ c0 c1, w.heap[blk i]? = some (.cells #[c0, c1] T) := by
  have := I.fct i hi hl
  unfold Fact at this
  rw [hk] at this
  exact ⟨this.1 s hs, this.2⟩
theorem Inv.put_at (I : Inv ops.size kd (slotOf ops) a0 w0 blk listed a w) (hi : i < ops.size) (hl : Ls listed i) {b : Nat} {x y : Value} (hk : kd i = .put b x y) : ∃ T, w.heap[blk b]? = some (.cells #[x, y] T) := by
  have := I.fct i hi hl
  unfold Fact at this
  rw [hk] at this
  exact this.2
end
/-- The frame behind some values. -/
def putsOf (a0 : Act) : List (Nat × Value) → Act
  | [] => a0
  | p :: r => putsOf (a0.put (some p.1) p.2) r
theorem puts_sz (l : List (Nat × Value)) : ∀ a0 : Act, (putsOf a0 l).tmps.size = a0.tmps.size := by
  induction l with
  | nil => intro _; rfl
  | cons p r ih => intro a0; exact (ih _).trans (put_sz _ _)
theorem puts_df (l : List (Nat × Value)) : ∀ a0 : Act, (putsOf a0 l).defers = a0.defers := by
  induction l with
  | nil => intro _; rfl
  | cons p r ih => intro a0; exact (ih _).trans (put_df _ _)
theorem puts_at {a : Act} (l : List (Nat × Value)) : ∀ a0 : Act, (∀ p ∈ l, p.1 < a0.tmps.size ∧ a.tmps.getD p.1 undef = p.2) → ∀ j, (putsOf a0 l).tmps.getD j undef = if l.any (fun p => p.1 == j) then a.tmps.getD j undef else a0.tmps.getD j undef := by
  induction l with
  | nil => intro a0 _ j; simp [putsOf]
  | cons p r ih =>
    intro a0 h j
    obtain ⟨h1, h2⟩ := h p (by simp)
    have e := ih (a0.put (some p.1) p.2) (fun q hq => by rw [put_sz]; exact h q (by simp [hq])) j
    show (putsOf (a0.put (some p.1) p.2) r).tmps.getD j undef = _
    rw [e, getD_put h1, List.any_cons]
    by_cases ej : j = p.1
    · subst ej; rw [if_pos rfl, h2]; simp
    · rw [if_neg ej]
      have : (p.1 == j) = false := by simpa using Ne.symm ej
      rw [this, Bool.false_or]
theorem getD_get {x : Array Value} {j : Nat} (h : j < x.size) : x.getD j undef = x[j] := by simp [Array.getD, h]
theorem Inv.frame {ops : Array Oper} {kd : Nat → Kd} {a0 : Act} {w0 : World} {blk : Nat → Nat} {listed : Array Bool} {a : Act} {w : World} (I : Inv ops.size kd (slotOf ops) a0 w0 blk listed a w) (l : List (Nat × Value))
    (h : ∀ p ∈ l, p.1 < a0.tmps.size ∧ a.tmps.getD p.1 undef = p.2) (hc : (List.range ops.size).all (fun i => match slotOf ops i with | none => true | some s => l.any (fun p => p.1 == s)) = true) : a = putsOf a0 l := by
  have hsz : a.tmps.size = (putsOf a0 l).tmps.size := I.sz.trans (puts_sz l a0).symm
  have ht : a.tmps = (putsOf a0 l).tmps := by
    refine Array.ext hsz fun j h1 h2 => ?_
    rw [← getD_get h1, ← getD_get h2, puts_at l a0 h j]
    by_cases hj : l.any (fun p => p.1 == j) = true
    · rw [if_pos hj]
    · rw [if_neg hj]
      refine I.oth j fun i hi hs => hj ?_
      rw [List.all_eq_true] at hc
      have := hc i (List.mem_range.2 hi)
      rw [hs] at this
      exact this
  cases a
  cases hp : putsOf a0 l with
  | mk t d =>
    have hd := puts_df l a0
    rw [hp] at hd ht
    have := I.df
    simp only at ht hd this
    subst ht
    rw [this, ← hd]
end Go.Proofs.YthnkaimhmldjoaaDoor
