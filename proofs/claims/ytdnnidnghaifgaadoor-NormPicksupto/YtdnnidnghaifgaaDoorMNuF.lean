/-
  What an expression comes to: the walk of the reference.
-/
import Derived.Test.YtdnnidnghaifgaaDoorG28
import Derived.Deep.MidRow
import Derived.Deep.DeepCutAuto
set_option linter.unusedVariables false
set_option linter.unusedSimpArgs false
namespace Go.Proofs.YtdnnidnghaifgaaDoor.nm
open Go.RowKit cc

theorem leastR_op {W0 : World} {v : Value} {rs : List (Int × Int)} (h : wk.Row W0 v rs) (hi : ∀ r ∈ rs, R64 r) : OpC 22 W0 v (wk.utAll (-1) rs) := fun W hW => (wk.leastR_any v rs W (row_low h hW) hi).mono (by rintro e w1 ⟨rfl, U⟩; exact ⟨rfl, bto hW U.1⟩)
theorem mostR_op {W0 : World} {v : Value} {rs : List (Int × Int)} (h : wk.Row W0 v rs) (hi : ∀ r ∈ rs, R64 r) : OpC 23 W0 v (wk.utAll 1 rs) := fun W hW => (wk.mostR_any v rs W (row_low h hW) hi).mono (by rintro e w1 ⟨rfl, U⟩; exact ⟨rfl, bto hW U.1⟩)
theorem infoRat : (Tryd.prog.info? 23).map (fun i => (i.zero, i.size, i.bytes)) = some (some (.agg #[.int .i64 0, .int .i64 0]), 2, 16) := by kernel_rfl
theorem own_up {w w' : World} {base : Nat} {e : TypeId} {size : Nat} {v : Value} {n : Nat} {xs : List Value} (h : w.ownsRow base e size v n xs) (hw : Below w.heap.size w w') : w'.ownsRow base e size v n xs := by
  obtain ⟨h1, h2 | ⟨g, cap, cur, rfl, hb, hg, hr⟩⟩ := h
  · exact ⟨h1, .inl h2⟩
  · exact ⟨h1, .inr ⟨g, cap, cur, rfl, hb, (hw.block _ (Array.getElem?_eq_some_iff.1 hg).1).trans hg, hr⟩⟩
theorem own_cell {w : World} {base : Nat} {e : TypeId} {g n cap : Nat} {xs : List Value} (h : w.ownsRow base e 2 (.slice (some ⟨g, 0, none⟩) n cap) n xs) {j : Nat} {u : Value} (hj : xs[j]? = some u) : w.cell? ⟨g, j, none⟩ = some u := by
  obtain ⟨h1, ⟨h2, _⟩ | ⟨g', cap', cur, hv, hb, hg, hn, hm, hs, ht⟩⟩ := h
  · cases h2
  · obtain ⟨rfl, rfl⟩ : g = g' ∧ cap = cap' := by cases hv; exact ⟨rfl, rfl⟩
    rw [row_blk hg]
    have hjn : j < n * 2 := by have := (List.getElem?_eq_some_iff.1 hj).1; omega
    rw [← ht, List.getElem?_take_of_lt hjn] at hj
    simpa using hj
theorem own_row {w : World} {base g n cap : Nat} {e : TypeId} {rs : List (Int × Int)} (h : w.ownsRow base e 2 (.slice (some ⟨g, 0, none⟩) n cap) n (usL rs)) (hn : rs.length = n) (h9 : n ≤ 1000000000) : wk.Row w (.slice (some ⟨g, 0, none⟩) n cap) rs := by
  refine .inr ⟨g, 0, cap, by rw [hn], ?_, by omega, fun i hi => ?_⟩
  · obtain ⟨h1, ⟨h2, _⟩ | ⟨g', cap', cur, hv, hb, hg, hr⟩⟩ := h
    · cases h2
    · obtain ⟨rfl, rfl⟩ : g = g' ∧ cap = cap' := by cases hv; exact ⟨rfl, rfl⟩
      exact (Array.getElem?_eq_some_iff.1 hg).1
  · obtain ⟨e1, e2⟩ := usL_at (us := rs) (k := i) (n := rs[i].1) (d := rs[i].2) (List.getElem?_eq_getElem hi)
    rw [Nat.zero_add]
    exact ⟨own_cell h e1, own_cell h e2⟩
theorem news2 (w : World) (u v : Value) (t : TypeId) : ∀ j x, [u, v][j]? = some x → (w.alloc (.cells #[u, v] t)).cell? ((⟨w.heap.size, 0, none⟩ : Addr).add j) = some x := fun j x hx => by
  match j, hx with
  | 0, hx => simp at hx; subst hx; simp [Addr.add]
  | 1, hx => simp at hx; subst hx; simp [Addr.add]
theorem usL_snoc (rs : List (Int × Int)) (r : Int × Int) : usL (rs ++ [r]) = usL rs ++ [.int .i64 r.1, .int .i64 r.2] := by simp [usL]
/-- A context in memory. -/
def cxV (cs : List (Int × Int)) : Value := .agg (usL cs).toArray
def RelRk (w : World) (rs : List (Int × Int)) (n : Nat) (e5 : List Value) (cs : List (Int × Int)) (l i : Value) (wr : World) : Prop := ∃ (k : Nat) (lv : Value), lv = l ∧ i = .int .i64 k ∧ k ≤ n ∧ Hid (wr.ownsRow (w.heap.size + 3) 23 2 l k (usL (rs.take k)) ∧ Bk wr (w.heap.size + 2) 23 [.int .i64 0, .int .i64 0] ∧ Bk wr (w.heap.size + 1) 28 (usL cs) ∧ Bk wr w.heap.size 26 e5 ∧ Below w.heap.size w wr)
theorem RelRk.mk {w : World} {rs : List (Int × Int)} {n : Nat} {e5 : List Value} {cs : List (Int × Int)} {l i : Value} {wr : World} (k : Nat) (h1 : i = .int .i64 k) (h2 : k ≤ n) (h3 : wr.ownsRow (w.heap.size + 3) 23 2 l k (usL (rs.take k))) (h4 : Bk wr (w.heap.size + 2) 23 [.int .i64 0, .int .i64 0]) (h5 : Bk wr (w.heap.size + 1) 28 (usL cs)) (h6 : Bk wr w.heap.size 26 e5) (h7 : Below w.heap.size w wr) : RelRk w rs n e5 cs l i wr := ⟨k, l, rfl, h1, h2, h3, h4, h5, h6, h7⟩
theorem three_blk (w : World) (A B C : Obj) : (((w.alloc A).alloc B).alloc C).heap[w.heap.size]? = some A ∧ (((w.alloc A).alloc B).alloc C).heap[w.heap.size + 1]? = some B ∧ (((w.alloc A).alloc B).alloc C).heap[w.heap.size + 2]? = some C := by
  obtain ⟨h1, h2⟩ := two_new w A B
  refine ⟨(Below.heap_alloc _ C _ (by simp; omega)).trans h1, (Below.heap_alloc _ C _ (by simp)).trans h2, ?_⟩
  have := heap_alloc_new ((w.alloc A).alloc B) C
  rwa [show ((w.alloc A).alloc B).heap.size = w.heap.size + 2 by simp] at this
theorem six {cs : List (Int × Int)} (h : cs.length = 6) : ∃ a0 b0 a1 b1 a2 b2 a3 b3 a4 b4 a5 b5 : Int, cs = [(a0, b0), (a1, b1), (a2, b2), (a3, b3), (a4, b4), (a5, b5)] := by
  match cs, h with
  | [(a0, b0), (a1, b1), (a2, b2), (a3, b3), (a4, b4), (a5, b5)], _ => exact ⟨a0, b0, a1, b1, a2, b2, a3, b3, a4, b4, a5, b5, rfl⟩
theorem unit_may {n d q : Int} {ks : List Ex} {j : Nat} (h : exM (.mk 1 n d q ks) j = true) : 0 ≤ q ∧ q ≤ 7 := by
  rw [exM_eq] at h
  simp only [Ex.k, Ex.u, Ex.n, Ex.d, Ex.ks, if_true, Bool.and_eq_true, decide_eq_true_eq] at h
  exact ⟨of_decide_eq_true h.2.1.2.1, of_decide_eq_true h.2.1.2.2⟩
end Go.Proofs.YtdnnidnghaifgaaDoor.nm
