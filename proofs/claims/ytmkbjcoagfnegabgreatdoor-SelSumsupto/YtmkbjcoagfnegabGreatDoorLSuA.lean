/-
  Sums of weights: plain; selectors that a law makes, in memory.
-/
import Derived.Test.YtmkbjcoagfnegabGreatDoorV37
set_option linter.unusedVariables false
set_option linter.unusedSimpArgs false
namespace Go.Proofs.YtmkbjcoagfnegabGreatDoor
open Go.RowKit

theorem adW_zero (x : Wt) : adW z3 x = x := by obtain ⟨a, b, c⟩ := x; simp [adW, z3]
theorem wtP_add (r : List Cx → Wt) (l : List Sl) : ∀ a, wtP r l a = adW a (wtP r l z3) := by
  induction l with
  | nil => intro a; obtain ⟨x, y, z⟩ := a; simp [wtP, adW, z3]
  | cons s l ih =>
    intro a
    have h1 : wtP r (s :: l) a = wtP r l (adW a (wtS r s)) := rfl
    have h2 : wtP r (s :: l) z3 = wtP r l (adW z3 (wtS r s)) := rfl
    rw [h1, h2, ih (adW a (wtS r s)), ih (adW z3 (wtS r s))]
    obtain ⟨x, y, z⟩ := a
    simp only [adW, z3]
    refine Prod.ext ?_ (Prod.ext ?_ ?_) <;> simp only <;> omega
theorem wtC_one (r : List Cx → Wt) (k : Int) (ss : List Sl) : wtC r [(k, ss)] = wtP r ss z3 := rfl
theorem wtC_snoc (r : List Cx → Wt) (c : Cx) (k : Nat) {p : Cp} (hp : c[k]? = some p) : wtC r (c.take (k + 1)) = adW (wtC r (c.take k)) (wtC r [(0, p.2)]) := by
  obtain ⟨hk, rfl⟩ := List.getElem?_eq_some_iff.1 hp
  rw [wtC_one]
  unfold wtC
  rw [List.take_succ_eq_append_getElem hk, List.foldl_append]
  exact wtP_add _ _ _
theorem allI_one {α : Type} (f : Nat → α → Bool) (x : α) : allI f [x] = f 0 x := by simp [allI, List.range_succ]
theorem lsM_one (c : Cx) : lsM 65 [c] = cxM 65 (lsM 64) c := by
  show (true && allI (fun _ c => cxM 65 (lsM 64) c) [c]) = _
  rw [allI_one, Bool.true_and]
theorem lsM_part {c : Cx} {k : Nat} {p : Cp} (h : lsM 65 [c] = true) (hp : c[k]? = some p) : lsM 65 [[(0, p.2)]] = true := by
  rw [lsM_one] at h ⊢
  unfold cxM at h ⊢
  rw [Bool.and_eq_true] at h
  have h2 := allI_iff.1 h.2 k p hp
  unfold cxF at h2
  rw [Bool.and_eq_true] at h2
  rw [Bool.and_eq_true]
  refine ⟨rfl, allI_iff.2 fun j q hq => ?_⟩
  cases j with
  | zero =>
    obtain rfl : (0, p.2) = q := by simpa using hq
    unfold cxF
    rw [Bool.and_eq_true]
    exact ⟨rfl, h2.2⟩
  | succ j => simp at hq
/-- The selector that the law makes of a kind and of a selector, twice. -/
def mkS (k : Int) (c : Cx) : Sl := .mk k 0 0 0 ⟨#[]⟩ ⟨#[]⟩ false [c, c]
theorem wt_two (n : Nat) (c : Cx) : wtM (n + 1) [c, c] = wtC (wtM n) c := by
  show upW (wtC (wtM n) c) (wtC (wtM n) c) = _
  unfold upW
  split <;> rfl
theorem wt_mk (n : Nat) (c : Cx) {k : Int} (h : k = 6 ∨ k = 7) : wtC (wtM (n + 1)) [(0, [mkS k c])] = wtC (wtM n) c := by
  rw [wtC_one]
  show adW z3 (wtS (wtM (n + 1)) (mkS k c)) = _
  rw [adW_zero, wtS_6 (s := mkS k c) h]
  exact wt_two n c
theorem wt_mk8 (n : Nat) (c : Cx) : wtC (wtM (n + 1)) [(0, [mkS 8 c])] = z3 := by
  rw [wtC_one]
  show adW z3 (wtS (wtM (n + 1)) (mkS 8 c)) = _
  rw [adW_zero, wtS_0 (s := mkS 8 c) (.inr rfl)]
theorem sz_mk (n : Nat) (c : Cx) (k : Int) : szC (szM (n + 1)) [(0, [mkS k c])] = 1 + 2 * szC (szM n) c := by
  have h : szM (n + 1) [c, c] = 2 * szC (szM n) c := by simp [szM]; omega
  simp [szC, szP, szS, mkS, Sl.ls]
  exact h
theorem sz_part {z : List Cx → Nat} {c : Cx} {k : Nat} {p : Cp} (hp : c[k]? = some p) : szC z [(0, p.2)] ≤ szC z c := by
  have := sum_mem (f := fun p : Cp => szP z p.2) (List.mem_of_getElem? hp)
  simpa [szC] using this
/-! ### In memory -/
/-- A compound alone. -/
theorem PsM.one {w w' : World} {n : Nat} {u : Value} {ss : List Sl} (hu : SsM w n u ss) (hw : Below w.heap.size w w') {b : Nat} (hb : w'.heap[b]? = some (.cells #[.int .i64 0, u] 33)) : PsM w' n (.slice (some ⟨b, 0, none⟩) 1 1) [(0, ss)] := by
  refine .inr ⟨b, 0, 1, rfl, by simp, (Array.getElem?_eq_some_iff.1 hb).1, by simp, by simp, by omega, fun i x hi => ?_⟩
  cases i with
  | zero =>
    obtain rfl : (0, ss) = x := by simpa using hi
    exact ⟨u, by rw [row_blk hb]; rfl, by rw [row_blk hb]; rfl, hu.low hw, by show (-9223372036854775808 : Int) ≤ 0; omega, by show (0 : Int) ≤ 9223372036854775807; omega⟩
  | succ i => simp at hi
/-- A selector twice. -/
theorem CM.two {w w' : World} {n : Nat} {v : Value} {c : Cx} (hv : PsM w n v c) (hw : Below w.heap.size w w') {b : Nat} (hb : w'.heap[b]? = some (.cells #[v, v] 24)) : CM w' (n + 1) (.slice (some ⟨b, 0, none⟩) 2 2) [c, c] := by
  refine .inr ⟨b, 0, 2, rfl, by simp, (Array.getElem?_eq_some_iff.1 hb).1, by simp, by simp, by omega, fun i x hi => ?_⟩
  match i with
  | 0 =>
    obtain rfl : c = x := by simpa using hi
    exact ⟨v, by rw [row_blk hb]; rfl, hv.low hw⟩
  | 1 =>
    obtain rfl : c = x := by simpa using hi
    exact ⟨v, by rw [row_blk hb]; rfl, hv.low hw⟩
  | i + 2 => simp at hi
/-- A simple selector alone. -/
theorem SsM.one {w : World} {n : Nat} {u : Value} {c : Cx} {k : Int} (hk : 0 ≤ k) (hk9 : k ≤ 100) (hu : CM w n u [c, c]) {b : Nat} (hb : w.heap[b]? = some (.cells #[.int .i64 k, .string ⟨#[]⟩, .int .i64 0, .string ⟨#[]⟩, .bool false, u, .int .i64 0, .int .i64 0] 37)) : SsM w n (.slice (some ⟨b, 0, none⟩) 1 1) [mkS k c] := by
  refine .inr ⟨b, 0, 1, rfl, by simp, (Array.getElem?_eq_some_iff.1 hb).1, by simp, by simp, by omega, fun i x hi => ?_⟩
  cases i with
  | zero =>
    obtain rfl : mkS k c = x := by simpa using hi
    obtain ⟨h0, h1, h2, h3, h4, h5, h6, h7⟩ := bxk_8 hb
    refine ⟨u, ⟨h0, h1, h2, h3, h4, h5, h6, h7⟩, hu, ?_⟩
    constructor <;> simp only [mkS, Sl.k, Sl.op, Sl.a, Sl.b, Sl.nm, Sl.vl] <;> first | omega | decide
  | succ i => simp at hi
/-- What stays: the selector's box, its weight, and what lies below. -/
def Fs9 (w : World) (g : Nat) (x : Wt) (v : Value) (wr : World) : Prop := Bk3 wr g x ∧ wr.heap[w.heap.size]? = some (.cells #[v] 24) ∧ Below w.heap.size w wr
theorem Fs9.up {w : World} {g : Nat} {x : Wt} {v : Value} {wr wr' : World} (h : Fs9 w g x v wr) (hw : Below wr.heap.size wr wr') : Fs9 w g x v wr' := ⟨h.1.up hw, (hw.block _ (Array.getElem?_eq_some_iff.1 h.2.1).1).trans h.2.1, bto h.2.2 hw⟩
theorem Fs9.more {w : World} {g : Nat} {x : Wt} {v : Value} {wr : World} (h : Fs9 w g x v wr) (o : Obj) : Fs9 w g x v (wr.alloc o) := ⟨h.1.more o, (Below.heap_alloc wr o _ (Array.getElem?_eq_some_iff.1 h.2.1).1).trans h.2.1, bplus h.2.2 o⟩
theorem Fs9.put {w : World} {g : Nat} {x : Wt} {v : Value} {wr : World} (h : Fs9 w g x v wr) {r : Nat} (hg : g ≠ r) (hr : w.heap.size < r) (i : Nat) (u : Value) : Fs9 w g x v (wr.setCell ⟨r, i, none⟩ u) := ⟨h.1.far hg i u, (Below.heap_setCell wr ⟨r, i, none⟩ u _ (by show w.heap.size ≠ r; omega)).trans h.2.1, h.2.2.setCell (p := ⟨r, i, none⟩) (by show w.heap.size ≤ r; omega) u⟩
theorem Fs9.drew {w : World} {g : Nat} {x : Wt} {v : Value} {wr : World} (h : Fs9 w g x v wr) : Fs9 w g x v wr.drew := ⟨h.1, h.2.1, h.2.2.drew⟩
theorem Fs9.box {w : World} {g : Nat} {x : Wt} {v : Value} {wr : World} (h : Fs9 w g x v wr) : wr.cell? ⟨w.heap.size, 0, none⟩ = some v := bxk_1 h.2.1
theorem Fs9.lt {w : World} {g : Nat} {x : Wt} {v : Value} {wr : World} (h : Fs9 w g x v wr) : w.heap.size < wr.heap.size := (Array.getElem?_eq_some_iff.1 h.2.1).1
end Go.Proofs.YtmkbjcoagfnegabGreatDoor
