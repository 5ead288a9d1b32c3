/-
  Two forms held against each other: what is asked.
  Two forms held against each other, by the program.
  Two parts held against each other, by the program.
  Are two forms the same: by the program.
-/
import Derived.Test.YtlhmecagijdinaaGreatDoorMNoB
import Derived.Test.YtlhmecagijdinaaGreatDoorH01
import Derived.Deep.RegionHeld3
import Derived.Deep.RegionWith
set_option linter.unusedVariables false
set_option linter.unusedSimpArgs false
namespace Go.Proofs.YtlhmecagijdinaaGreatDoor.nm
open Go.RowKit
def RelA2 {α : Type} (W : World) (f : α → α → Bool) (x y : List α) (i : Value) (wr : World) : Prop := ∃ k : Nat, i = .int .i64 k ∧ k ≤ x.length ∧ Below W.heap.size W wr ∧ Hid (al2 f x y = al2 f (x.drop k) (y.drop k))
theorem RelA2.mk {α : Type} {W : World} {f : α → α → Bool} {x y : List α} {i : Value} {wr : World} (k : Nat) (h1 : i = .int .i64 k) (h2 : k ≤ x.length) (h3 : Below W.heap.size W wr) (h4 : al2 f x y = al2 f (x.drop k) (y.drop k)) : RelA2 W f x y i wr := ⟨k, h1, h2, h3, h4⟩
theorem al2_end {α : Type} {f : α → α → Bool} {x y : List α} {k : Nat} (h : al2 f x y = al2 f (x.drop k) (y.drop k)) (h1 : x.length ≤ k) (h2 : y.length ≤ k) : al2 f x y = true := by rw [h, List.drop_of_length_le h1, List.drop_of_length_le h2]; rfl
theorem bxk_2n {w : World} {b : Nat} {u0 u1 : Value} {T : TypeId} (h : w.heap[b]? = some (.cells #[u0, u1] T)) : w.cell? ⟨b, 0, none⟩ = some u0 ∧ w.cell? ⟨b, 1, none⟩ = some u1 :=
  ⟨by rw [row_blk h]; rfl, by rw [row_blk h]; rfl⟩
theorem two_newC (w : World) (A B : Obj) : ((w.alloc A).alloc B).heap[w.heap.size]? = some A ∧ ((w.alloc A).alloc B).heap[w.heap.size + 1]? = some B := by
  refine ⟨((bplus (Below.refl (w.alloc A).heap.size (w.alloc A)) B).block _ (by simp)).trans (heap_alloc_new w A), ?_⟩
  have := heap_alloc_new (w.alloc A) B
  rwa [show (w.alloc A).heap.size = w.heap.size + 1 by simp] at this
end Go.Proofs.YtlhmecagijdinaaGreatDoor.nm
set_option linter.unusedVariables false
set_option linter.unusedSimpArgs false
namespace Go.Proofs.YtlhmecagijdinaaGreatDoor.nm
open Go.RowKit
theorem saF_eq (n : Nat) (us vs : List (Int × Int)) (ps qs : List Pa) : saF n (.mk us ps) (.mk vs qs) = (eq7 us vs && al2 (saP n) ps qs) := rfl
end Go.Proofs.YtlhmecagijdinaaGreatDoor.nm
set_option linter.unusedVariables false
set_option linter.unusedSimpArgs false
namespace Go.Proofs.YtlhmecagijdinaaGreatDoor.nm
open Go.RowKit
theorem saP_eq (n : Nat) (a b : Bool) (x y : List Fo) : saP n (a, x) (b, y) = ((a == b) && saX n x y) := rfl
end Go.Proofs.YtlhmecagijdinaaGreatDoor.nm
set_option linter.unusedVariables false
set_option linter.unusedSimpArgs false
namespace Go.Proofs.YtlhmecagijdinaaGreatDoor.nm
open Go.RowKit
end Go.Proofs.YtlhmecagijdinaaGreatDoor.nm
