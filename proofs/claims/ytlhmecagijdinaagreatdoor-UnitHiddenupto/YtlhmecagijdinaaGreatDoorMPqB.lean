/-
  The pick of some forms: by the reference.
-/
import Derived.Test.YtlhmecagijdinaaGreatDoorK10
import Derived.Test.YtlhmecagijdinaaGreatDoorH09
import Derived.Test.YtlhmecagijdinaaGreatDoorMBeE
set_option linter.unusedVariables false
set_option linter.unusedSimpArgs false
namespace Go.Proofs.YtlhmecagijdinaaGreatDoor.nm
open Go.RowKit cc be

theorem run_eqR {ρ : Operand → Value} {w : World} {o : Oper} {x y : Operand} {p q : Int × Int} {z : Bool} (ho : o.op = .binOp .eql 23 x y 23) (hx : ρ x = .agg #[.int .i64 p.1, .int .i64 p.2]) (hy : ρ y = .agg #[.int .i64 q.1, .int .i64 q.2]) (hz : decide (p = q) = z) : (execOp ρ o).run Tryz.prog w = .ok (.value (.bool z)) w := by
  unfold execOp
  rw [ho]
  obtain ⟨p1, p2⟩ := p
  obtain ⟨q1, q2⟩ := q
  by_cases h1 : p1 = q1
  · subst h1
    by_cases h2 : p2 = q2
    · subst h2
      have : z = true := by simpa using hz.symm
      subst this
      simp [go_sem, hx, hy]
    · have : z = false := by simpa [h2] using hz.symm
      subst this
      simp [go_sem, hx, hy, h2]
  · have : z = false := by simpa [h1] using hz.symm
    subst this
    simp [go_sem, hx, hy, h1]
theorem ix7Q {us : List (Int × Int)} (h : Us us) {k : Nat} (hk : k < 7) {r : Int × Int} (hr : us[k]? = some r) (W : World) : (Instr.index 27 (.agg (usL us).toArray) (.int .i64 k)).run Tryz.prog W = .ok (.agg #[.int .i64 r.1, .int .i64 r.2]) W := by
  obtain ⟨n0, d0, n1, d1, n2, d2, n3, d3, n4, d4, n5, d5, n6, d6, rfl⟩ := us7 h
  exact ix7 hk 27 (.inl rfl) (n := r.1) (d := r.2) hr W
theorem grownBy_setCQ (w : World) (g j : Nat) (u : Value) : w.grownBy (w.setCell ⟨g, j, none⟩ u) (some g) := by
  refine ⟨rfl, rfl, rfl, by simp [World.setCell], fun k hk hne => ?_⟩
  have : g ≠ k := fun h => hne (by rw [h])
  simp [World.setCell, Array.getElem?_modify, this]
theorem own_farQ {w : World} {base : Nat} {e : TypeId} {size : Nat} {v : Value} {n : Nat} {xs : List Value} (h : w.ownsRow base e size v n xs) {tb : Nat} (ht : tb < base) (i : Nat) (u : Value) : (w.setCell ⟨tb, i, none⟩ u).ownsRow base e size v n xs := h.kept (grownBy_setCQ w tb i u) (by
  cases hv : v.ownBlock with
  | none => exact .inl rfl
  | some k => right; intro e; have := (h.lt k hv).1; cases e; omega)
def kdS13 (r : Int × Int) (z : Bool) : Nat → Kd
  | 0 => .val (.agg #[.int .i64 r.1, .int .i64 r.2])
  | 1 => .val (.agg #[.int .i64 0, .int .i64 1])
  | 2 => .val (.bool z)
  | _ => .val undef
def RelSo (w : World) (s : Int × Bool) (l : List Fo) (u p i : Value) (wr : World) : Prop := ∃ (k : Nat) (x : Int) (q : Bool), u = .int .i64 x ∧ p = .bool q ∧ i = .int .i64 k ∧ k ≤ l.length ∧ -1 ≤ x ∧ x ≤ 6 ∧ Hid (scL x q (l.drop k) = s ∧ Below w.heap.size w wr)
theorem RelSo.mk {w : World} {s : Int × Bool} {l : List Fo} {u p i : Value} {wr : World} (k : Nat) (x : Int) (q : Bool) (h1 : u = .int .i64 x) (h2 : p = .bool q) (h3 : i = .int .i64 k) (h4 : k ≤ l.length) (h5 : -1 ≤ x) (h6 : x ≤ 6) (h7 : scL x q (l.drop k) = s) (h8 : Below w.heap.size w wr) : RelSo w s l u p i wr := ⟨k, x, q, h1, h2, h3, h4, h5, h6, h7, h8⟩
def RelSi (w : World) (s : Int × Bool) (us : List (Int × Int)) (u p i : Value) (wr : World) : Prop := ∃ (k : Nat) (x : Int) (q : Bool), u = .int .i64 x ∧ p = .bool q ∧ i = .int .i64 k ∧ k ≤ 7 ∧ -1 ≤ x ∧ x ≤ 6 ∧ Hid (scU x q (us.drop k) k = s ∧ Below w.heap.size w wr)
theorem RelSi.mk {w : World} {s : Int × Bool} {us : List (Int × Int)} {u p i : Value} {wr : World} (k : Nat) (x : Int) (q : Bool) (h1 : u = .int .i64 x) (h2 : p = .bool q) (h3 : i = .int .i64 k) (h4 : k ≤ 7) (h5 : -1 ≤ x) (h6 : x ≤ 6) (h7 : scU x q (us.drop k) k = s) (h8 : Below w.heap.size w wr) : RelSi w s us u p i wr := ⟨k, x, q, h1, h2, h3, h4, h5, h6, h7, h8⟩
def RelSr (w5 : World) (rs : Nat → List (Int × Int)) (n : Nat) (lv i : Value) (wr : World) : Prop := ∃ (k : Nat) (l : Value), l = lv ∧ i = .int .i64 k ∧ k ≤ n ∧ Hid (wr.ownsRow w5.heap.size 23 2 lv (rs k).length (usL (rs k)) ∧ Below w5.heap.size w5 wr)
theorem RelSr.mk {w5 : World} {rs : Nat → List (Int × Int)} {n : Nat} {lv i : Value} {wr : World} (k : Nat) (h1 : i = .int .i64 k) (h2 : k ≤ n) (h3 : wr.ownsRow w5.heap.size 23 2 lv (rs k).length (usL (rs k))) (h7 : Below w5.heap.size w5 wr) : RelSr w5 rs n lv i wr := ⟨k, lv, rfl, h1, h2, h3, h7⟩
def PkRost (n : Nat) (f : Fo) (w0 w : World) (e : Ending) (w' : World) : Prop := ∃ fu, e = .returned (foV f.us fu) ∧ (∀ W : World, Below w0.heap.size w0 W → (∀ b, w.heap.size ≤ b → b < w'.heap.size → W.heap[b]? = w'.heap[b]?) → PM W n fu f.ps) ∧ Below w.heap.size w w'
theorem PkRost.mk {n : Nat} {f : Fo} {w0 w w' : World} {e : Ending} (fu : Value) (h1 : e = .returned (foV f.us fu)) (h2 : ∀ W : World, Below w0.heap.size w0 W → (∀ b, w.heap.size ≤ b → b < w'.heap.size → W.heap[b]? = w'.heap[b]?) → PM W n fu f.ps) (h3 : Below w.heap.size w w') : PkRost n f w0 w e w' := ⟨fu, h1, h2, h3⟩
theorem scU_step {us : List (Int × Int)} {k : Nat} {r : Int × Int} (hr : us[k]? = some r) {x : Int} {q : Bool} {s : Int × Bool} (h : scU x q (us.drop k) k = s) : (if r = (0, 1) then scU x q (us.drop (k + 1)) (k + 1) else scU k (if 0 ≤ x ∧ x ≠ k then false else q) (us.drop (k + 1)) (k + 1)) = s := by
  obtain ⟨h1, h2⟩ := List.getElem?_eq_some_iff.1 hr
  rw [List.drop_eq_getElem_cons h1, h2, scU] at h
  exact h
theorem scL_step {l : List Fo} {k : Nat} {f : Fo} (hf : l[k]? = some f) {x : Int} {q : Bool} {s : Int × Bool} (h : scL x q (l.drop k) = s) : scL (scU x (q && f.ps.isEmpty) f.us 0).1 (scU x (q && f.ps.isEmpty) f.us 0).2 (l.drop (k + 1)) = s := by
  obtain ⟨h1, h2⟩ := List.getElem?_eq_some_iff.1 hf
  rw [List.drop_eq_getElem_cons h1, h2, scL] at h
  exact h
end Go.Proofs.YtlhmecagijdinaaGreatDoor.nm

