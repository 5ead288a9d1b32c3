/-
  Two forms held against each other: what is asked.
-/
import Derived.Test.YticgcokhdipomaaDoorLNoB
import Derived.Test.YticgcokhdipomaaDoorLNoE
import Derived.Deep.RegionHeld3
import Derived.Deep.RegionWith
set_option linter.unusedVariables false
set_option linter.unusedSimpArgs false
namespace Go.Proofs.YticgcokhdipomaaDoor.nm
open Go.RowKit
def RelA2 {α : Type} (W : World) (f : α → α → Bool) (x y : List α) (i : Value) (wr : World) : Prop := ∃ k : Nat, i = .int .i64 k ∧ k ≤ x.length ∧ Below W.heap.size W wr ∧ Hid (al2 f x y = al2 f (x.drop k) (y.drop k))
theorem RelA2.mk {α : Type} {W : World} {f : α → α → Bool} {x y : List α} {i : Value} {wr : World} (k : Nat) (h1 : i = .int .i64 k) (h2 : k ≤ x.length) (h3 : Below W.heap.size W wr) (h4 : al2 f x y = al2 f (x.drop k) (y.drop k)) : RelA2 W f x y i wr := ⟨k, h1, h2, h3, h4⟩
theorem al2_end {α : Type} {f : α → α → Bool} {x y : List α} {k : Nat} (h : al2 f x y = al2 f (x.drop k) (y.drop k)) (h1 : x.length ≤ k) (h2 : y.length ≤ k) : al2 f x y = true := by rw [h, List.drop_of_length_le h1, List.drop_of_length_le h2]; rfl
theorem bxk_2n {w : World} {b : Nat} {u0 u1 : Value} {T : TypeId} (h : w.heap[b]? = some (.cells #[u0, u1] T)) : w.cell? ⟨b, 0, none⟩ = some u0 ∧ w.cell? ⟨b, 1, none⟩ = some u1 :=
  ⟨by rw [row_blk h]; rfl, by rw [row_blk h]; rfl⟩
theorem two_newC (w : World) (A B : Obj) : ((w.alloc A).alloc B).heap[w.heap.size]? = some A ∧ ((w.alloc A).alloc B).heap[w.heap.size + 1]? = some B := by
  refine ⟨((bplus (Below.refl (w.alloc A).heap.size (w.alloc A)) B).block _ (by simp)).trans (heap_alloc_new w A), ?_⟩
  have := heap_alloc_new (w.alloc A) B
  rwa [show (w.alloc A).heap.size = w.heap.size + 1 by simp] at this
/-- Parts, held against each other. -/
def SaP (n : Nat) : Prop := ∀ (p q : Pa) (j : Nat) (u v : Value) (w : World), n + j ≤ 65537 → FM w n u p.2 → (∃ m, FM w m v q.2) →
    Calls Tryd.prog 50 #[.agg #[.bool p.1, u], .agg #[.bool q.1, v], .int .i64 j] w fun e w' => e = .returned (.bool (saP n p q)) ∧ Below w.heap.size w w'
def SaF (n : Nat) : Prop := ∀ (us vs : List (Int × Int)) (ps qs : List Pa) (j : Nat) (u v : Value) (w : World), n + j ≤ 65536 → Us us → Us vs → PM w n u ps → (∃ m, PM w m v qs) →
    Calls Tryd.prog 36 #[foV us u, foV vs v, .int .i64 j] w fun e w' => e = .returned (.bool (saF n (.mk us ps) (.mk vs qs))) ∧ Below w.heap.size w w'
end Go.Proofs.YticgcokhdipomaaDoor.nm
