/-
  Which tokens may be: by the reference.
  Which tokens may be: by the reference: hashes, signs, numbers.
  Which tokens may be: by the reference: signs, numbers; the whole.
  Which tokens may be: by the reference: dimensions; the whole.
-/
import Derived.Test.YtmkbjcoagfnegabGreatDoorV13
set_option linter.unusedVariables false
set_option linter.unusedSimpArgs false
namespace Go.Proofs.YtmkbjcoagfnegabGreatDoor
open Go.RowKit

theorem z_ways (n d : Int) (i h : Bool) : ((n == 0) = false ∧ zB n d i = false) ∨ ((n == 0) = true ∧ (d == 0) = false ∧ zB n d i = false) ∨ ((n == 0) = true ∧ (d == 0) = true ∧ i = true ∧ zB n d i = false) ∨ ((n == 0) = true ∧ (d == 0) = true ∧ i = false ∧ zB n d i = true) := by
  unfold zB
  cases (n == 0) <;> cases (d == 0) <;> cases i <;> simp
/-- Where the reference's May stands behind its characters. -/
structure MR (w w1 : World) (k : Int) (s : ByteArray) (n d : Int) (i h : Bool) : Prop where
  bel : Below w.heap.size w w1
  t0 : Tok6 w1 w.heap.size k s n d i h
  t1 : Tok6 w1 (w.heap.size + 1) k ⟨#[]⟩ 0 0 false false
  fr : ∀ j, w1.frozen? ⟨w.heap.size + 1, j, none⟩ = false
  ap : ∀ j x, w1.cell? ⟨w.heap.size + 1, j, none⟩ ≠ some (.int .i32 x)
theorem MR.mk' {w w1 : World} {k : Int} {s : ByteArray} {n d : Int} {i h : Bool} (hb : Below ((w.alloc (.cells #[.int .i64 k, .string s, .int .i64 n, .int .i64 d, .bool i, .bool h] 62)).alloc (.cells #[.int .i64 k, .string ⟨#[]⟩, .int .i64 0, .int .i64 0, .bool false, .bool false] 62)).heap.size ((w.alloc (.cells #[.int .i64 k, .string s, .int .i64 n, .int .i64 d, .bool i, .bool h] 62)).alloc (.cells #[.int .i64 k, .string ⟨#[]⟩, .int .i64 0, .int .i64 0, .bool false, .bool false] 62)) w1) : MR w w1 k s n d i h := by
  have e1 : (w.alloc (.cells #[.int .i64 k, .string s, .int .i64 n, .int .i64 d, .bool i, .bool h] 62)).heap.size = w.heap.size + 1 := by simp
  have T0 := ((Tok6.box w k s n d i h 62).below (bplus (Below.refl _ _) (.cells #[.int .i64 k, .string ⟨#[]⟩, .int .i64 0, .int .i64 0, .bool false, .bool false] 62))).below hb
  have T1 := (Tok6.box (w.alloc (.cells #[.int .i64 k, .string s, .int .i64 n, .int .i64 d, .bool i, .bool h] 62)) k ⟨#[]⟩ 0 0 false false 62).below hb
  rw [e1] at T1
  refine ⟨bto (bplus (bplus (Below.refl _ _) _) _) hb, T0, T1, fun j => ?_, fun j x hx => ?_⟩
  rotate_left
  · rw [hb.cell (p := ⟨w.heap.size + 1, j, none⟩) (by simp)] at hx
    have hblk := heap_alloc_new (w.alloc (.cells #[.int .i64 k, .string s, .int .i64 n, .int .i64 d, .bool i, .bool h] 62)) (.cells #[.int .i64 k, .string ⟨#[]⟩, .int .i64 0, .int .i64 0, .bool false, .bool false] 62)
    rw [e1] at hblk
    rw [row_blk hblk] at hx
    match j with
    | 0 => simp at hx
    | 1 => simp at hx
    | 2 => simp at hx
    | 3 => simp at hx
    | 4 => simp at hx
    | 5 => simp at hx
    | j + 6 => simp at hx
  rw [hb.frozen (p := ⟨w.heap.size + 1, j, none⟩) (by simp)]
  have := World.frozen?_alloc_new (w.alloc (.cells #[.int .i64 k, .string s, .int .i64 n, .int .i64 d, .bool i, .bool h] 62)) #[.int .i64 k, .string ⟨#[]⟩, .int .i64 0, .int .i64 0, .bool false, .bool false] 62 j
  rw [e1] at this
  exact this
theorem nums_len {k : IntKind} {w : World} {a : Option Addr} {n c : Nat} {l : List Int} (h : Nums k w (.slice a n c) l) : n = l.length := by
  rcases h with ⟨a', c', h1, h2⟩ | ⟨b, o, m, c', h1, h2, _⟩
  · simp at h1; rw [h2, h1.2.1]; rfl
  · simp at h1; omega
end Go.Proofs.YtmkbjcoagfnegabGreatDoor
set_option linter.unusedVariables false
set_option linter.unusedSimpArgs false
namespace Go.Proofs.YtmkbjcoagfnegabGreatDoor
open Go.RowKit

end Go.Proofs.YtmkbjcoagfnegabGreatDoor
set_option linter.unusedVariables false
set_option linter.unusedSimpArgs false
namespace Go.Proofs.YtmkbjcoagfnegabGreatDoor
open Go.RowKit

end Go.Proofs.YtmkbjcoagfnegabGreatDoor
set_option linter.unusedVariables false
set_option linter.unusedSimpArgs false
namespace Go.Proofs.YtmkbjcoagfnegabGreatDoor
open Go.RowKit

end Go.Proofs.YtmkbjcoagfnegabGreatDoor
