/-
  What an expression of numbers comes to: by the program.
-/
import Derived.Test.YticgcokhdipomabDoorLNuA
import Derived.Deep.OwnRows
set_option linter.unusedVariables false
set_option linter.unusedSimpArgs false
namespace Go.Proofs.YticgcokhdipomabDoor.nm
open Go.RowKit cc

def ratV (r : Int × Int) : Value := .agg #[.int .i64 r.1, .int .i64 r.2]
theorem madeR (m : Nat) (hm : m ≤ 1000000000) (W : World) : (Instr.makeSlice 60 (.int .i64 m) (.int .i64 m)).run Tryd.prog W = .ok (.slice (some ⟨W.heap.size, 0, none⟩) m m) (W.alloc (.cells (madeCells #[.int .i64 0, .int .i64 0] (m * 2)) 23)) := by
  have h := run_make (P := Tryd.prog) W 60 23 Tryd.t23 (.agg #[.int .i64 0, .int .i64 0]) Tryd.underlying60 (by kernel_rfl) (by kernel_rfl) .i64 .i64 m m (by omega) (Int.le_refl _) (by show ((16 : Nat) : Int) * m ≤ _; omega) (by omega)
  have e : ((m : Int).toNat * Tryd.t23.size) = m * 2 := by show (m : Int).toNat * 2 = m * 2; simp
  rw [e, Int.toNat_natCast] at h
  exact h
/-- An own row of fractions, the first k of them written. -/
def Rw2 (w : World) (g n k : Nat) (rs : List (Int × Int)) : Prop := ∃ cs : Array Value, w.heap[g]? = some (.cells cs 23) ∧ cs.size = n * 2 ∧ ∀ j x, j < k → rs[j]? = some x → cs[j * 2]? = some (.int .i64 x.1) ∧ cs[j * 2 + 1]? = some (.int .i64 x.2)
theorem Rw2.new (W : World) (n : Nat) (rs : List (Int × Int)) : Rw2 (W.alloc (.cells (madeCells #[.int .i64 0, .int .i64 0] (n * 2)) 23)) W.heap.size n 0 rs := ⟨_, heap_alloc_new W _, size_madeCells _ _, fun j x hj => by omega⟩
theorem Rw2.lt {w : World} {g n k : Nat} {rs : List (Int × Int)} (h : Rw2 w g n k rs) : g < w.heap.size := by obtain ⟨cs, h1, _⟩ := h; exact (Array.getElem?_eq_some_iff.1 h1).1
theorem Rw2.up {w w' : World} {g n k : Nat} {rs : List (Int × Int)} (h : Rw2 w g n k rs) (hw : Below w.heap.size w w') : Rw2 w' g n k rs := by
  have hl := h.lt
  obtain ⟨cs, h1, h2⟩ := h
  exact ⟨cs, (hw.block _ hl).trans h1, h2⟩
theorem Rw2.more {w : World} {g n k : Nat} {rs : List (Int × Int)} (h : Rw2 w g n k rs) (o : Obj) : Rw2 (w.alloc o) g n k rs := by
  have hl := h.lt
  obtain ⟨cs, h1, h2⟩ := h
  exact ⟨cs, (Below.heap_alloc w o g hl).trans h1, h2⟩
theorem Rw2.there {w : World} {g n k : Nat} {rs : List (Int × Int)} (h : Rw2 w g n k rs) {j : Nat} (hj : j < n * 2) : (∃ v, w.cell? ⟨g, j, none⟩ = some v) ∧ w.frozen? ⟨g, j, none⟩ = false := by
  obtain ⟨cs, h1, h2, _⟩ := h
  exact ⟨⟨_, by rw [row_blk h1]; exact Array.getElem?_eq_getElem (by omega)⟩, by simp [World.frozen?, h1]⟩
theorem Rw2.put {w : World} {g n k : Nat} {rs : List (Int × Int)} (h : Rw2 w g n k rs) (hk : k < n) {y : Int × Int} (hy : rs[k]? = some y) : Rw2 ((w.setCell ⟨g, k * 2, none⟩ (.int .i64 y.1)).setCell ⟨g, k * 2 + 1, none⟩ (.int .i64 y.2)) g n (k + 1) rs := by
  obtain ⟨cs, h1, h2, h3⟩ := h
  refine ⟨_, setCell_blk (setCell_blk h1 _) _, by simp [h2], fun j x hj hx => ?_⟩
  by_cases e : j = k
  · subst e
    obtain rfl : y = x := Option.some.inj (hy.symm.trans hx)
    refine ⟨?_, ?_⟩
    · simp only [Array.set!_eq_setIfInBounds, Array.getElem?_setIfInBounds, Array.size_setIfInBounds]
      rw [if_neg (by omega), if_pos trivial, if_pos (by omega)]
    · simp only [Array.set!_eq_setIfInBounds, Array.getElem?_setIfInBounds, Array.size_setIfInBounds]
      rw [if_pos trivial, if_pos (by omega)]
  · obtain ⟨i1, i2⟩ := h3 j x (by omega) hx
    refine ⟨?_, ?_⟩
    · simp only [Array.set!_eq_setIfInBounds, Array.getElem?_setIfInBounds, Array.size_setIfInBounds]
      rw [if_neg (by omega), if_neg (by omega)]
      exact i1
    · simp only [Array.set!_eq_setIfInBounds, Array.getElem?_setIfInBounds, Array.size_setIfInBounds]
      rw [if_neg (by omega), if_neg (by omega)]
      exact i2
theorem Rw2.at {w : World} {g n k : Nat} {rs : List (Int × Int)} (h : Rw2 w g n k rs) {i : Nat} {x : Int × Int} (hi : i < k) (hx : rs[i]? = some x) : w.cell? ⟨g, i * 2, none⟩ = some (.int .i64 x.1) ∧ w.cell? ⟨g, i * 2 + 1, none⟩ = some (.int .i64 x.2) := by
  obtain ⟨cs, h1, h2, h3⟩ := h
  obtain ⟨i1, i2⟩ := h3 i x hi hx
  exact ⟨by rw [row_blk h1]; exact i1, by rw [row_blk h1]; exact i2⟩
theorem Rw2.row {w : World} {g n : Nat} {rs : List (Int × Int)} (h : Rw2 w g n n rs) (hn : rs.length = n) (h9 : n ≤ 1000000000) : wk.Row w (.slice (some ⟨g, 0, none⟩) n n) rs := by
  refine .inr ⟨g, 0, n, by rw [hn], h.lt, by omega, fun i hi => ?_⟩
  obtain ⟨i1, i2⟩ := h.at (i := i) (x := rs[i]) (by omega) (List.getElem?_eq_getElem hi)
  rw [Nat.zero_add]
  exact ⟨i1, i2⟩
def RelNu (w : World) (rs : List (Int × Int)) (n : Nat) (e5 : List Value) (i : Value) (wr : World) : Prop := ∃ k : Nat, i = .int .i64 k ∧ k ≤ n ∧ Hid (Rw2 wr (w.heap.size + 2) n k rs ∧ Bk wr (w.heap.size + 1) 23 [.int .i64 0, .int .i64 0] ∧ Bk wr w.heap.size 26 e5 ∧ Below w.heap.size w wr)
theorem RelNu.mk {w : World} {rs : List (Int × Int)} {n : Nat} {e5 : List Value} {i : Value} {wr : World} (k : Nat) (h1 : i = .int .i64 k) (h2 : k ≤ n) (h3 : Rw2 wr (w.heap.size + 2) n k rs) (h4 : Bk wr (w.heap.size + 1) 23 [.int .i64 0, .int .i64 0]) (h5 : Bk wr w.heap.size 26 e5) (h6 : Below w.heap.size w wr) : RelNu w rs n e5 i wr := ⟨k, h1, h2, h3, h4, h5, h6⟩
def NuC (sz : Int → Int × Int) (N : Nat) : Prop := ∀ (x : Ex) (j : Nat) (u : Value) (w : World), szE x ≤ N → OkX x → exM x j = true → kdE x = 1 → EM w u x.ks → Calls Tryd.prog 35 #[exV x u] w fun e w' => e = .returned (ratV (rkE sz x)) ∧ Below w.heap.size w w'
/-- What the operations tell of a row, in a world that is grown. -/
def OpC (f : FuncId) (W0 : World) (v : Value) (r : Int × Int) : Prop := ∀ W, Below W0.heap.size W0 W → Calls Tryd.prog f #[v] W fun e w' => e = .returned (ratV r) ∧ Below W0.heap.size W0 w'
theorem row_low {w w' : World} {v : Value} {rs : List (Int × Int)} (h : wk.Row w v rs) (hw : Below w.heap.size w w') : wk.Row w' v rs := by
  rcases h with ⟨a, c, rfl, rfl⟩ | ⟨b, off, c, rfl, hb, hl, hrow⟩
  · exact .inl ⟨a, c, rfl, rfl⟩
  · exact .inr ⟨b, off, c, rfl, Nat.lt_of_lt_of_le hb hw.size, hl, fun i h => ⟨(hw.cell (p := ⟨b, off + i * 2, none⟩) hb).trans (hrow i h).1, (hw.cell (p := ⟨b, off + i * 2 + 1, none⟩) hb).trans (hrow i h).2⟩⟩
theorem addP_op {W0 : World} {v : Value} {rs : List (Int × Int)} (h : wk.Row W0 v rs) (hi : ∀ r ∈ rs, R64 r) : OpC 57 W0 v (wk.addAll rs) := fun W hW => (wk.addP_any v rs W (row_low h hW) hi).mono (by rintro e w1 ⟨rfl, U⟩; exact ⟨rfl, bto hW U.1⟩)
theorem mulP_op {W0 : World} {v : Value} {rs : List (Int × Int)} (h : wk.Row W0 v rs) (hi : ∀ r ∈ rs, R64 r) : OpC 59 W0 v (wk.mulAll rs) := fun W hW => (wk.mulP_any v rs W (row_low h hW) hi).mono (by rintro e w1 ⟨rfl, U⟩; exact ⟨rfl, bto hW U.1⟩)
theorem leastP_op {W0 : World} {v : Value} {rs : List (Int × Int)} (h : wk.Row W0 v rs) (hi : ∀ r ∈ rs, R64 r) : OpC 61 W0 v (wk.utAll (-1) rs) := fun W hW => (wk.leastP_any v rs W (row_low h hW) hi).mono (by rintro e w1 ⟨rfl, U⟩; exact ⟨rfl, bto hW U.1⟩)
theorem mostP_op {W0 : World} {v : Value} {rs : List (Int × Int)} (h : wk.Row W0 v rs) (hi : ∀ r ∈ rs, R64 r) : OpC 62 W0 v (wk.utAll 1 rs) := fun W hW => (wk.mostP_any v rs W (row_low h hW) hi).mono (by rintro e w1 ⟨rfl, U⟩; exact ⟨rfl, bto hW U.1⟩)
theorem negP_op {W0 : World} {r : Int × Int} (h : R64 r) : OpC 58 W0 (ratV r) (ngR r) := fun W hW => (wk.negP_any r.1 r.2 W h.1 h.2).mono (by rintro e w1 ⟨rfl, U⟩; exact ⟨rfl, bto hW U.1⟩)
theorem two_row {W : World} {r s : Int × Int} {T : TypeId} : wk.Row (W.alloc (.cells #[.int .i64 r.1, .int .i64 r.2, .int .i64 s.1, .int .i64 s.2] T)) (.slice (some ⟨W.heap.size, 0, none⟩) 2 2) [r, s] := wk.row_two W r.1 r.2 s.1 s.2 T
theorem two_drew {W : World} {r s : Int × Int} {T : TypeId} : wk.Row (W.alloc (.cells #[.int .i64 r.1, .int .i64 r.2, .int .i64 s.1, .int .i64 s.2] T)).drew (.slice (some ⟨W.heap.size, 0, none⟩) 2 2) [r, s] := (wk.row_two W r.1 r.2 s.1 s.2 T).up ((wk.Up.refl _).drew)
theorem in_two {r s : Int × Int} (hr : R64 r) (hs : R64 s) : ∀ x ∈ [r, s], R64 x := fun x hx => by
  simp at hx
  rcases hx with rfl | rfl
  · exact hr
  · exact hs
end Go.Proofs.YticgcokhdipomabDoor.nm
