/-
  The region, by what its operations do.
-/
import Derived.Test.YthnkaimhmldjoaaDoorRegA
set_option linter.unusedVariables false
namespace Go.Proofs.YthnkaimhmldjoaaDoor
open Go.RowKit

section
variable {P : Program} {ops : Array Oper} {Q : Exit → Act → World → Prop}
/-- What an operation leaves. -/
def NextK (kd : Nat → Kd) (blk : Nat → Nat) (listed : Array Bool) (i : Nat) (d : Option Nat) (a : Act) (w : World) (a' : Act) (w' : World) : Prop :=
  match kd i with
  | .val v => a' = a.put d v ∧ Up w w'
  | .call v => a' = a.put d v ∧ Up w w'
  | .row cs T k => a' = a.put d (.slice (some ⟨w.heap.size, 0, none⟩) k k) ∧ w' = w.alloc (.cells cs T)
  | .box T => ∃ c0 c1, a' = a.put d (.pointer (some ⟨w.heap.size, 0, none⟩)) ∧ w' = w.alloc (.cells #[c0, c1] T)
  | .put b x y => Ls listed b ∧ (∃ v, a' = a.put d v) ∧ w' = (w.setCell ⟨blk b, 0, none⟩ x).setCell ⟨blk b, 1, none⟩ y
def slotOf (ops : Array Oper) (i : Nat) : Option Nat := (ops[i]?).bind (·.dst)
theorem NextK.inv {n : Nat} {kd : Nat → Kd} {a0 : Act} {w0 : World} {blk : Nat → Nat} {listed : Array Bool} {a a' : Act} {w w' : World} {i : Nat} {slot : Nat → Option Nat}
    (S : Stat n kd slot a0) (I : Inv n kd slot a0 w0 blk listed a w) (hi : i < n) (hl : ¬ Ls listed i) (h : NextK kd blk listed i (slot i) a w a' w') : ∃ blk', Inv n kd slot a0 w0 blk' (listed.setIfInBounds i true) a' w' := by
  unfold NextK at h
  cases hk : kd i with
  | val v => rw [hk] at h; obtain ⟨rfl, hu⟩ := h; exact ⟨_, I.value S hi hl (.inl hk) hu⟩
  | call v => rw [hk] at h; obtain ⟨rfl, hu⟩ := h; exact ⟨_, I.value S hi hl (.inr hk) hu⟩
  | row cs T k => rw [hk] at h; obtain ⟨rfl, rfl⟩ := h; exact ⟨_, I.made S hi hl (.inl ⟨k, hk, rfl⟩)⟩
  | box T => rw [hk] at h; obtain ⟨c0, c1, rfl, rfl⟩ := h; exact ⟨_, I.made S hi hl (.inr ⟨c0, c1, hk, rfl, rfl⟩)⟩
  | put b x y => rw [hk] at h; obtain ⟨hb, ⟨v, rfl⟩, rfl⟩ := h; exact ⟨_, I.puts S hi hl hk hb v⟩
theorem ls_not {listed : Array Bool} {i : Nat} (h : listed.getD i true = false) : ¬ Ls listed i := by
  unfold Ls
  simp only [Array.getD_eq_getD_getElem?] at h ⊢
  cases hx : listed[i]? with
  | none => rw [hx] at h; cases h
  | some b => rw [hx] at h; simp at h; simp [h]
theorem all_listed (hacy : ∀ (i : Nat) (o : Oper), ops[i]? = some o → ∀ e ∈ o.after, e.on < i) {listed : Array Bool} (hsz : listed.size = ops.size) (hr : Region.ready .any ops listed = []) : ∀ i, i < ops.size → Ls listed i := by
  intro i
  induction i using Nat.strongRecOn with
  | _ i ih =>
    intro hi
    cases hx : listed[i]? with
    | none => have := Array.getElem?_eq_none_iff.1 hx; omega
    | some b =>
      cases b with
      | true => unfold Ls; simp [Array.getD_eq_getD_getElem?, hx]
      | false =>
        exfalso
        have hm : i ∈ Region.ready .any ops listed := by
          unfold Region.ready
          rw [List.mem_filter]
          refine ⟨List.mem_range.2 hi, ?_⟩
          have ho : ops[i]? = some ops[i] := Array.getElem?_eq_getElem hi
          simp only [Array.getD_eq_getD_getElem?, hx, ho]
          simp only [Option.getD_some, Option.map_some, Bool.not_false, Bool.true_and]
          rw [Array.all_eq_true']
          intro e he
          have := ih e.on (hacy i _ ho e he) (by have := hacy i _ ho e he; omega)
          unfold Ls at this
          simp only [Array.getD_eq_getD_getElem?] at this
          rw [this]; simp
        rw [hr] at hm; cases hm
theorem ready_dep {listed : Array Bool} {i : Nat} {o : Oper} (h : i ∈ Region.ready .any ops listed) (ho : ops[i]? = some o) : ∀ e ∈ o.after, Region.binds .any e = true → Ls listed e.on := by
  unfold Region.ready at h
  rw [List.mem_filter] at h
  have h2 := h.2
  simp only [ho, Option.map_some, Option.getD_some, Bool.and_eq_true, Array.all_eq_true'] at h2
  intro e he hb
  have := h2.2 e he
  rw [hb] at this
  simpa [Ls] using this
/-- The region, by what its operations do. -/
theorem wp_region_kd {id : Nat} {a0 : Act} {w0 : World} (hm : P.follows .mixedOrders = true) (kd : Nat → Kd) (S : Stat ops.size kd (slotOf ops) a0)
    (hacy : ∀ (i : Nat) (o : Oper), ops[i]? = some o → ∀ e ∈ o.after, e.on < i)
    (step : ∀ i o, ops[i]? = some o → ∀ blk listed a w, Inv ops.size kd (slotOf ops) a0 w0 blk listed a w → (∀ e ∈ o.after, Region.binds .any e = true → Ls listed e.on) → wpOp P ops Q i (fun a' w' => NextK kd blk listed i o.dst a w a' w') a w)
    (hend : ∀ blk listed a w, Inv ops.size kd (slotOf ops) a0 w0 blk listed a w → (∀ i, i < ops.size → Ls listed i) → Q .normal a w) : (Code.region id ops true).wp P Q a0 w0 := by
  refine wp_region_inv hm (fun listed a w => listed.size = ops.size ∧ ∃ blk, Inv ops.size kd (slotOf ops) a0 w0 blk listed a w) ?_ ?_ ?_
  · refine ⟨by simp, fun _ => 0, ?_⟩
    have no : ∀ i, ¬ Ls (Array.replicate ops.size false) i := fun i h => by
      unfold Ls at h
      simp only [Array.getD_eq_getD_getElem?, Array.getElem?_replicate] at h
      split at h <;> cases h
    exact ⟨(Up.refl w0).drew, rfl, rfl, fun _ _ => rfl, fun i _ h => absurd h (no i), fun i j _ _ h => absurd h (no i), fun i _ h => absurd h (no i)⟩
  · intro listed a w i hI hi
    obtain ⟨hsz, blk, I⟩ := hI
    obtain ⟨hi', hl⟩ := ready_false hi
    have ho : ops[i]? = some ops[i] := Array.getElem?_eq_getElem hi'
    have hs : slotOf ops i = ops[i].dst := by unfold slotOf; rw [ho]; rfl
    refine wpOp_mono (fun a' w' hN => ⟨by simpa using hsz, ?_⟩) (step i _ ho blk listed a w I (ready_dep hi ho))
    rw [← hs] at hN
    exact hN.inv S I hi' (ls_not hl)
  · intro listed a w hI hr
    obtain ⟨hsz, blk, I⟩ := hI
    exact hend blk listed a w I (all_listed hacy hsz hr)
theorem wpOp_val {i : Nat} {o : Oper} {a : Act} {w w' : World} {v : Value} {K : Act → World → Prop} (ho : ops[i]? = some o) (hg : o.guard = none) (hr : (execOp a.eval o).run P w = .ok (.value v) w') (hK : K (a.put o.dst v) w') : wpOp P ops Q i K a w := by
  unfold wpOp
  rw [ho]
  simp only [Region.wanted, hg, if_true]
  left
  unfold Oper.wp
  rw [hr]
  exact hK
theorem wpOp_skip {i : Nat} {o : Oper} {a : Act} {w w' : World} {K : Act → World → Prop} (ho : ops[i]? = some o) (hg : o.guard = none) (hr : (execOp a.eval o).run P w = .ok .skip w') (hK : K (a.put o.dst undef) w') : wpOp P ops Q i K a w := by
  unfold wpOp
  rw [ho]
  simp only [Region.wanted, hg, if_true]
  left
  unfold Oper.wp
  rw [hr]
  exact hK
theorem wpOp_call {i : Nat} {o : Oper} {a : Act} {w : World} {f : FuncId} {args : Array Value} {K : Act → World → Prop} (ho : ops[i]? = some o) (hg : o.guard = none) (hr : (execOp a.eval o).run P w = .ok (.enter f args) w) (hc : Calls P f args w fun e w' => ∃ v, e = .returned v ∧ K (a.put o.dst v) w') : wpOp P ops Q i K a w := by
  unfold wpOp
  rw [ho]
  simp only [Region.wanted, hg, if_true]
  left
  unfold Oper.wp
  rw [hr]
  refine hc.mono ?_
  rintro e w' ⟨v, rfl, hK⟩
  exact hK
end
end Go.Proofs.YthnkaimhmldjoaaDoor
