/-
  The characters of some bytes, by the program and by the reference.
-/
import Derived.Test.YtpcdhdllclenaaaDoorUtfF
import Derived.OwnWalk
set_option linter.unusedVariables false
set_option linter.unusedSimpArgs false
namespace Go.Proofs.YtpcdhdllclenaaaDoor
open Go.RowKit

theorem info32 : (Tryd.prog.info? 21).map (fun i => (i.zero, i.size, i.bytes)) = some (some (.int .i32 0), 1, 4) := by kernel_rfl
/-- What the call owns, as numbers. -/
def Own (W : World) (k : IntKind) (e : TypeId) (wr : World) (v : Value) (xs : List Int) : Prop := wr.ownsRow W.heap.size e 1 v xs.length (xs.map (Value.int k)) ∧ Below W.heap.size W wr
theorem Own.nums {W wr : World} {k : IntKind} {e : TypeId} {v : Value} {xs : List Int} (h : Own W k e wr v xs) (hl : xs.length ≤ 4611686018427387904) : Nums k wr v xs := by
  rcases h.1.2 with ⟨rfl, h0⟩ | ⟨g, cap, cur, rfl, hb, hg, hn, hm, hs, ht⟩
  · exact .inl ⟨_, _, rfl, List.eq_nil_of_length_eq_zero h0⟩
  · by_cases h0 : xs.length = 0
    · obtain rfl : xs = [] := List.eq_nil_of_length_eq_zero h0
      exact .inl ⟨_, _, rfl, rfl⟩
    · refine .inr ⟨g, 0, xs.length, cap, rfl, rfl, by omega, (Array.getElem?_eq_some_iff.1 hg).1, hn, hl, by unfold maxLen at hm; exact hm, fun i hi => ?_⟩
      rw [Nat.zero_add, h.1.cellAt i (by omega)]
      simp [gt, List.getD_eq_getElem?_getD, List.getElem?_eq_getElem hi]
theorem Own.nil (W : World) (k : IntKind) (e : TypeId) : Own W k e W (.slice none 0 0) [] := ⟨World.ownsRow_nil _ _ _ _, Below.refl _ _⟩
theorem Own.made {W w1 : World} {k : IntKind} {e : TypeId} {v : Value} (h : w1.ownsRow W.heap.size e 1 v 0 []) (hg : W.grownBy w1 none) : Own W k e w1 v [] :=
  ⟨h, (Below.refl _ _).grown hg (Nat.le_refl _) (fun _ h => by cases h)⟩
theorem Own.grow {W wr w1 : World} {k : IntKind} {e : TypeId} {v v' : Value} {xs ys : List Int} {o : Obj} (h : Own W k e wr v xs)
    (h1 : w1.ownsRow W.heap.size e 1 v' (xs.length + ys.length) (xs.map (Value.int k) ++ ys.map (Value.int k))) (hg : (wr.alloc o).grownBy w1 v.ownBlock) : Own W k e w1 v' (xs ++ ys) := by
  refine ⟨by rw [List.length_append, List.map_append]; exact h1, ?_⟩
  exact (h.2.alloc h.2.size o).grown hg (by have := h.2.size; simp; omega) (fun k hk => (h.1.lt k hk).1)
/-- The state of a loop that reads characters. -/
def RelRaw (W : World) (n : Nat) (bs : List Int) (l a : Value) (wr : World) : Prop :=
  ∃ (i : Nat) (xs : List Int), i ≤ n ∧ a = .int .i64 i ∧ xs.length ≤ i ∧ Own W .i32 21 wr l xs ∧ Hid (raw bs = xs ++ raw (bs.drop i))
theorem RelRaw.mk {W : World} {n : Nat} {bs : List Int} {l a : Value} {wr : World} (i : Nat) (xs : List Int) (h1 : i ≤ n) (h2 : a = .int .i64 i) (h3 : xs.length ≤ i) (h4 : Own W .i32 21 wr l xs) (h5 : raw bs = xs ++ raw (bs.drop i)) : RelRaw W n bs l a wr :=
  ⟨i, xs, h1, h2, h3, h4, h5⟩
theorem raw_go {bs : List Int} {i : Nat} {xs : List Int} (h : raw bs = xs ++ raw (bs.drop i)) (hi : i < bs.length) : raw bs = (xs ++ [(stp (bs.drop i)).1]) ++ raw (bs.drop (i + (stp (bs.drop i)).2.1)) := by
  have hne : bs.drop i ≠ [] := by intro e; have := congrArg List.length e; simp at this; omega
  rw [h, raw_cut hne, List.drop_drop]; simp
theorem raw_end {bs : List Int} {i : Nat} {xs : List Int} (h : raw bs = xs ++ raw (bs.drop i)) (hi : bs.length ≤ i) : raw bs = xs := by
  rw [h, List.drop_of_length_le hi, raw_nil, List.append_nil]
theorem news1 (w : World) (u : Value) (t : TypeId) : ∀ j x, [u][j]? = some x → (w.alloc (.cells #[u] t)).cell? ((⟨w.heap.size, 0, none⟩ : Addr).add j) = some x := fun j x hx => by
  match j, hx with
  | 0, hx => simp at hx; subst hx; simp [Addr.add]
theorem ret_val {u u' : Value} (h : u = u') : Ending.returned u = .returned u' := by rw [h]
end Go.Proofs.YtpcdhdllclenaaaDoor
