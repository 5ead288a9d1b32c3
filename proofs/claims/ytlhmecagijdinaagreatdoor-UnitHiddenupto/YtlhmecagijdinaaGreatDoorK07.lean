/-
  Two forms held against each other: what is asked.
  Two forms held against each other, by the program.
  Two parts held against each other, by the program.
  Are two forms the same: by the program.
  Are two forms the same: by the reference.
-/
import Derived.Test.YtlhmecagijdinaaGreatDoorMNoB
import Derived.Test.YtlhmecagijdinaaGreatDoorH01
import Derived.Deep.RegionHeld3
import Derived.Deep.RegionWith
import Derived.Deep.DeepCutAuto
set_option linter.unusedVariables false
set_option linter.unusedSimpArgs false
namespace Go.Proofs.YtlhmecagijdinaaGreatDoor.nm
open Go.RowKit
def RelA2 {α : Type} (W : World) (f : α → α → Bool) (x y : List α) (i : Value) (wr : World) : Prop := ∃ k : Nat, i = .int .i64 k ∧ k ≤ x.length ∧ Below W.heap.size W wr ∧ Hid (al2 f x y = al2 f (x.drop k) (y.drop k))
theorem RelA2.mk {α : Type} {W : World} {f : α → α → Bool} {x y : List α} {i : Value} {wr : World} (k : Nat) (h1 : i = .int .i64 k) (h2 : k ≤ x.length) (h3 : Below W.heap.size W wr) (h4 : al2 f x y = al2 f (x.drop k) (y.drop k)) : RelA2 W f x y i wr := ⟨k, h1, h2, h3, h4⟩
end Go.Proofs.YtlhmecagijdinaaGreatDoor.nm
set_option linter.unusedVariables false
set_option linter.unusedSimpArgs false
namespace Go.Proofs.YtlhmecagijdinaaGreatDoor.nm
open Go.RowKit
end Go.Proofs.YtlhmecagijdinaaGreatDoor.nm
set_option linter.unusedVariables false
set_option linter.unusedSimpArgs false
namespace Go.Proofs.YtlhmecagijdinaaGreatDoor.nm
open Go.RowKit
end Go.Proofs.YtlhmecagijdinaaGreatDoor.nm
set_option linter.unusedVariables false
set_option linter.unusedSimpArgs false
namespace Go.Proofs.YtlhmecagijdinaaGreatDoor.nm
open Go.RowKit
end Go.Proofs.YtlhmecagijdinaaGreatDoor.nm
set_option linter.unusedVariables false
set_option linter.unusedSimpArgs false
namespace Go.Proofs.YtlhmecagijdinaaGreatDoor.nm
open Go.RowKit

/-- Two parts in blocks of their own. -/
def RelPQ (W1 : World) (A B : Obj) (x y : Value) (wx : World) : Prop := ∃ bp bq : Nat, x = .pointer (some ⟨bp, 0, none⟩) ∧ y = .pointer (some ⟨bq, 0, none⟩) ∧ Hid (wx.heap[bp]? = some A ∧ wx.heap[bq]? = some B ∧ Below W1.heap.size W1 wx)
theorem RelPQ.mk {W1 : World} {A B : Obj} {x y : Value} {wx : World} (bp bq : Nat) (h1 : x = .pointer (some ⟨bp, 0, none⟩)) (h2 : y = .pointer (some ⟨bq, 0, none⟩)) (h3 : wx.heap[bp]? = some A) (h4 : wx.heap[bq]? = some B) (h5 : Below W1.heap.size W1 wx) : RelPQ W1 A B x y wx := ⟨bp, bq, h1, h2, h3, h4, h5⟩
end Go.Proofs.YtlhmecagijdinaaGreatDoor.nm

