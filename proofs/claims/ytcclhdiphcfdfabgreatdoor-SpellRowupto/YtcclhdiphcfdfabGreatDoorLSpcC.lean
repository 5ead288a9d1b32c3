/-
  A row of texts, numbers and names, written, is read as it was: the law.
-/
import Derived.Test.YtcclhdiphcfdfabGreatDoorKya
import Derived.Test.YtcclhdiphcfdfabGreatDoorKl
import Derived.Test.YtcclhdiphcfdfabGreatDoorKw
import Derived.Outline
set_option linter.unusedVariables false
set_option linter.unusedSimpArgs false
namespace Go.Proofs.YtcclhdiphcfdfabGreatDoor
open Go.RowKit Go.Shelf

def szS (ts : List TS) : Nat := (ts.map fun t => t.s.size).sum
def inKB (k : Int) : Bool := (k == 1) || (k == 10) || (k == 12) || (k == 11) || (k == 5) || (k == 18) || (k == 4) || (k == 3) || (k == 15) || (k == 7)
theorem inKB_iff (k : Int) : inKB k = true ↔ inK k := by unfold inKB inK; simp [or_assoc]
def filt (ts : List TS) : List TS := ts.filter fun t => inKB t.k
theorem filt_snoc (ts : List TS) (t : TS) : filt (ts ++ [t]) = filt ts ++ (if inKB t.k = true then [t] else []) := by
  unfold filt
  rw [List.filter_append]
  cases h : inKB t.k <;> simp [h]
theorem filt_sz (ts : List TS) : szS (filt ts) ≤ szS ts ∧ (filt ts).length ≤ ts.length := by
  induction ts with
  | nil => exact ⟨Nat.le_refl _, Nat.le_refl _⟩
  | cons t r ih =>
    unfold filt szS at *
    rw [List.filter_cons]
    split
    · simp only [List.map_cons, List.sum_cons, List.length_cons]; omega
    · simp only [List.map_cons, List.sum_cons, List.length_cons]; omega
theorem take_snoc {ts : List TS} {k : Nat} {t : TS} (h : ts[k]? = some t) : ts.take (k + 1) = ts.take k ++ [t] := by rw [List.take_add_one, h]; rfl
theorem szS_app (a b : List TS) : szS (a ++ b) = szS a + szS b := by unfold szS; simp
theorem spK_step_len (ts : List TS) (k : Nat) (t : TS) (ht : ts[k]? = some t) : (spK wtA ts (k + 1)).length ≤ (spK wtA ts k).length + (4 + (wtA t).length) := by
  cases k with
  | zero => simp [spK, ht]
  | succ j =>
    rw [spK, ht]
    simp only [List.length_append]
    cases ts[j]? with
    | none => simp
    | some p => simp only; split <;> simp
/-- How long a row's text is. -/
theorem spS_len (ts : List TS) (ho : ∀ t ∈ ts, t.Ok) : ∀ k, k ≤ ts.length → (spK wtA ts k).length ≤ 6 * szS (ts.take k) + 204 * k := by
  intro k
  induction k with
  | zero => intro _; simp [spK]
  | succ k ih =>
    intro hk
    have ih := ih (by omega)
    obtain ⟨t, ht⟩ : ∃ t, ts[k]? = some t := ⟨_, List.getElem?_eq_getElem (by omega)⟩
    have hm : t ∈ ts := List.mem_of_getElem? ht
    have hl := wtA_len t (ho t hm)
    rw [take_snoc ht, szS_app]
    have e1 : szS [t] = t.s.size := by simp [szS]
    rw [e1]
    have hst := spK_step_len ts k t ht
    omega
theorem spS_all (ts : List TS) (ho : ∀ t ∈ ts, t.Ok) : (spK wtA ts ts.length).length ≤ 6 * szS ts + 204 * ts.length := by
  have := spS_len ts ho ts.length (Nat.le_refl _)
  rwa [List.take_length] at this
/-- An own slice of tokens. -/
def OwnR (w wr : World) (v : Value) (ts : List Tk) : Prop := wr.ownsRow w.heap.size 26 6 v ts.length (cellsT ts) ∧ Below w.heap.size w wr
theorem OwnR.nil (w : World) : OwnR w w (.slice none 0 0) [] := ⟨World.ownsRow_nil _ _ _ _, Below.refl _ _⟩
theorem OwnR.on {w wr w1 : World} {v : Value} {ts : List Tk} (h : OwnR w wr v ts) (hg : Below wr.heap.size wr w1) : OwnR w w1 v ts := by
  refine ⟨⟨h.1.1, ?_⟩, bto h.2 hg⟩
  rcases h.1.2 with h1 | ⟨g, cap, cur, hv, hbg, hh, rest⟩
  · exact .inl h1
  · exact .inr ⟨g, cap, cur, hv, hbg, (hg.block g (Array.getElem?_eq_some_iff.1 hh).1).trans hh, rest⟩
theorem OwnR.grow {w wr w1 : World} {v v' : Value} {ts : List Tk} {τ : Tk} {o : Obj} (h : OwnR w wr v ts)
    (h1 : w1.ownsRow w.heap.size 26 6 v' (ts.length + 1) (cellsT ts ++ tkC τ)) (hg : (wr.alloc o).grownBy w1 v.ownBlock) : OwnR w w1 v' (ts ++ [τ]) := by
  refine ⟨by rw [List.length_append, cellsT_snoc]; exact h1, ?_⟩
  exact (bplus h.2 o).grown hg (Nat.le_trans h.2.size (by simp)) (fun k hk => (h.1.lt k hk).1)
theorem OwnR.toks {w wr : World} {v : Value} {ts : List Tk} (h : OwnR w wr v ts) (hl : ts.length ≤ 1000000000) : Toks wr v ts := by
  rcases h.1.2 with ⟨rfl, h0⟩ | ⟨g, cap, cur, rfl, hb, hg, hn, hm, hs, ht⟩
  · exact .inl ⟨_, _, rfl, List.eq_nil_of_length_eq_zero h0⟩
  · by_cases h0 : ts.length = 0
    · obtain rfl : ts = [] := List.eq_nil_of_length_eq_zero h0
      exact .inl ⟨_, _, rfl, rfl⟩
    · refine .inr ⟨g, 0, ts.length, cap, rfl, rfl, by omega, (Array.getElem?_eq_some_iff.1 hg).1, hn, hl, by unfold maxLen at hm; exact hm, fun i τ hi j hj => ?_⟩
      have e := cellsT_at ts i j τ hi hj
      have hi' := (List.getElem?_eq_some_iff.1 hi).1
      rw [← e, ← ht, List.getElem?_take_of_lt (by omega), cell_blk hg, Nat.zero_add, Array.getElem?_toList]
theorem toks4_of {w : World} {v : Value} {ts : List TS} (h : Toks w v (ts.map tkOf)) : Toks4 w v ts := by
  rcases h with ⟨a, c, rfl, h⟩ | ⟨b, o, n, c, rfl, hn, h0, hb, hc, h9, hc9, hcell⟩
  · exact .inl ⟨a, c, rfl, by simpa using h⟩
  · refine .inr ⟨b, o, n, c, rfl, by simpa using hn, h0, hb, hc, by omega, hc9, fun i t hi => ?_⟩
    have k := hcell i (tkOf t) (by rw [List.getElem?_map, hi]; rfl)
    have k0 := k 0 (by omega); have k1 := k 1 (by omega); have k2 := k 2 (by omega); have k3 := k 3 (by omega); have k4 := k 4 (by omega); have k5 := k 5 (by omega)
    have e : tb (tkOf t).text = t.s := tb_bl t.s
    simp only [tkC, e] at k0 k1 k2 k3 k4 k5
    exact ⟨k0, k1, k2, k3, k4, k5⟩
/-- What the making of the row is about. -/
def RelRw (w : World) (ts : List TS) (row i : Value) (wr : World) : Prop := ∃ k : Nat, k ≤ ts.length ∧ i = .int .i64 k ∧ Hid (OwnR w wr row ((filt (ts.take k)).map tkOf))
theorem RelRw.mk {w : World} {ts : List TS} {row i : Value} {wr : World} (k : Nat) (h1 : k ≤ ts.length) (h2 : i = .int .i64 k) (h3 : Hid (OwnR w wr row ((filt (ts.take k)).map tkOf))) : RelRw w ts row i wr := ⟨k, h1, h2, h3⟩
theorem cells_of (t : TS) : tkC (tkOf t) = [.int .i64 t.k, .string t.s, .int .i64 t.n, .int .i64 t.d, .bool t.i, .bool t.h] := by
  have e : tb (tkOf t).text = t.s := tb_bl t.s
  simp only [tkC, e]; rfl
end Go.Proofs.YtcclhdiphcfdfabGreatDoor
