/-
  Whole bytes, by the program and by the reference.
-/
import Derived.Test.YtpcdhdllclenaaaDoorUtfC
set_option linter.unusedVariables false
set_option linter.unusedSimpArgs false
namespace Go.Proofs.YtpcdhdllclenaaaDoor
open Go.RowKit

theorem hide {p : Prop} (h : p) : Hid p := h
theorem row_blk {w : World} {b : Nat} {cs : Array Value} {t : TypeId} {q : Nat × Nat} (h : w.heap[b]? = some (.cells cs t q)) (i : Nat) : w.cell? ⟨b, i, none⟩ = cs[i]? := by
  simp [World.cell?, h]
theorem bto {w w1 w2 : World} (h : Below w.heap.size w w1) (k : Below w1.heap.size w1 w2) : Below w.heap.size w w2 := h.trans (k.mono h.size)
theorem bplus {w w1 : World} (h : Below w.heap.size w w1) (o : Obj) : Below w.heap.size w (w1.alloc o) := h.alloc h.size o
/-- A slice of numbers in memory. -/
def Nums (k : IntKind) (w : World) (v : Value) (bs : List Int) : Prop :=
  (∃ a c, v = .slice a 0 c ∧ bs = []) ∨
  ∃ b o n c, v = .slice (some ⟨b, o, none⟩) n c ∧ n = bs.length ∧ 0 < n ∧ b < w.heap.size ∧ n ≤ c ∧ n ≤ 4611686018427387904 ∧ c ≤ 9223372036854775807 ∧ ∀ i, i < n → w.cell? ⟨b, o + i, none⟩ = some (.int k (gt bs i))
theorem Nums.below {k : IntKind} {w w' : World} {v : Value} {bs : List Int} (h : Nums k w v bs) (hw : Below w.heap.size w w') : Nums k w' v bs := by
  rcases h with h | ⟨b, o, n, c, h1, h2, h3, h4, h5, h6, h6', h7⟩
  · exact .inl h
  · exact .inr ⟨b, o, n, c, h1, h2, h3, Nat.lt_of_lt_of_le h4 hw.size, h5, h6, h6', fun i hi => (hw.cell (p := ⟨b, o + i, none⟩) h4).trans (h7 i hi)⟩
/-- The state of a loop over bytes. -/
def RelWh (n : Nat) (bs : List Int) (a : Value) : Prop := ∃ i : Nat, i ≤ n ∧ a = .int .i64 i ∧ Hid (whole bs = whole (bs.drop i))
theorem RelWh.mk {n : Nat} {bs : List Int} (i : Nat) {a : Value} (h1 : i ≤ n) (h2 : a = .int .i64 i) (h3 : whole bs = whole (bs.drop i)) : RelWh n bs a := ⟨i, h1, h2, h3⟩
theorem wh_stop {bs : List Int} {i : Nat} (h : whole bs = whole (bs.drop i)) (hi : i < bs.length) (hs : (stp (bs.drop i)).2.2 = false) : whole bs = false := by
  have hne : bs.drop i ≠ [] := by intro e; have := congrArg List.length e; simp at this; omega
  rw [h, whole_cut hne, hs]; rfl
theorem wh_go {bs : List Int} {i : Nat} (h : whole bs = whole (bs.drop i)) (hi : i < bs.length) (hs : (stp (bs.drop i)).2.2 = true) : whole bs = whole (bs.drop (i + (stp (bs.drop i)).2.1)) := by
  have hne : bs.drop i ≠ [] := by intro e; have := congrArg List.length e; simp at this; omega
  rw [h, whole_cut hne, hs, List.drop_drop]; simp
theorem stp_drop {bs : List Int} {i : Nat} (hi : i < bs.length) : 1 ≤ (stp (bs.drop i)).2.1 ∧ (stp (bs.drop i)).2.1 ≤ 4 ∧ i + (stp (bs.drop i)).2.1 ≤ bs.length := by
  have hne : bs.drop i ≠ [] := by intro e; have := congrArg List.length e; simp at this; omega
  have := stp_len _ hne
  rw [List.length_drop] at this
  omega
theorem ret_bool {a b : Bool} (h : a = b) : Ending.returned (.bool a) = .returned (.bool b) := by rw [h]
end Go.Proofs.YtpcdhdllclenaaaDoor
