/-
  Each once: cells that ask the cells ahead of them: the law.
-/
import Derived.Test.YtbigejdabeibeaaMemQ
import Derived.Deep.RegionHeld3
set_option linter.unusedVariables false
set_option linter.unusedSimpArgs false
namespace Go.Proofs.Ytbigejdabeibeaa
open Go.RowKit

def stH (hi : Nat) (j : Nat) : Nat := if j < hi then 2 else 0
theorem stH0 : stH 0 = fun _ => 0 := funext fun j => by simp [stH]
theorem cntH0 : cnt (fun _ => 0) = fun _ => 0 := funext fun j => by simp [cnt]
theorem upTo_stH (k hi : Nat) : upTo k (stH hi) = stH (max hi (k + 1)) := funext fun j => by
  unfold upTo stH
  by_cases h : j ≤ k
  · rw [if_pos h, if_pos (by omega)]
  · rw [if_neg h]
    by_cases g : j < hi
    · rw [if_pos g, if_pos (by omega)]
    · rw [if_neg g, if_neg (by omega)]
/-- The cells are being made: p of them. -/
def RelC1 (w : World) (m p : Nat) (wr : World) : Prop := ∃ L : Lay, L.m = m ∧ L.r = w.heap.size + 1 ∧ L.c = w.heap.size + 1 + 1 + 1 ∧ L.rb = w.heap.size ∧ L.cb = w.heap.size + 1 + 1 ∧ Chain L p wr (fun _ => 0) (fun _ => 0) ∧ Apart L p ∧ Ch (fun _ => False) w wr ∧ ∀ j, j < p → w.heap.size ≤ L.bs j
def Rel1 (w : World) (m : Nat) (i : Value) (wr : World) : Prop := ∃ p : Nat, p ≤ m ∧ i = .int .i64 p ∧ Hid (RelC1 w m p wr)
theorem Rel1.mk {w : World} {m : Nat} (p : Nat) {i : Value} {wr : World} (h1 : p ≤ m) (h2 : i = .int .i64 p) (h3 : Hid (RelC1 w m p wr)) : Rel1 w m i wr := ⟨p, h1, h2, h3⟩
theorem relC1_start (w : World) (m : Nat) : RelC1 w m 0 ((((w.alloc (.cells (madeCells #[.int .i64 0] m) 3)).alloc (.cells #[.slice (some ⟨w.heap.size, 0, none⟩) m m] 22)).alloc (.cells (madeCells #[.pointer none] m) 23)).alloc (.cells #[.slice (some ⟨w.heap.size + 1 + 1, 0, none⟩) m m] 73)) :=
  ⟨lay0 m w.heap.size, rfl, rfl, rfl, rfl, rfl, (chain0 m w).1, apart0 _ _, (chain0 m w).2, fun j h => by omega⟩
theorem relC1_next {w wr W0 wl : World} {m p : Nat} (h : RelC1 w m p wr) (hp : p < m) (c1 : Ch (fun _ => False) (wr.alloc (.cells #[.int .i64 p] 3)) W0) (c2 : Ch (fun _ => False) W0 wl)
    (n : CellAt wl W0.heap.size 0 0 (.func (.func 32) #[] #[.pointer (some ⟨w.heap.size + 1, 0, none⟩), .pointer (some ⟨wr.heap.size, 0, none⟩), .pointer (some ⟨w.heap.size + 1 + 1 + 1, 0, none⟩)]) (.int .i64 0) 0 0) :
    RelC1 w m (p + 1) (wl.setCell ⟨w.heap.size + 1 + 1, p, none⟩ (.pointer (some ⟨W0.heap.size, 0, none⟩))) := by
  obtain ⟨L, e1, e2, e3, e4, e5, C, A, K, B⟩ := h
  rw [← e3, ← e2] at n
  obtain ⟨C', A'⟩ := C.grow A (by omega) c1 c2 n
  rw [e5] at C'
  have s0 : wr.heap.size + 1 ≤ W0.heap.size := by have := c1.size; simpa using this
  have s1 := K.size
  refine ⟨more L p W0.heap.size wr.heap.size, e1, e2, e3, e4, e5, C', A', ?_, fun j hj => ?_⟩
  · exact ((((K.alloc _).trans c1).trans c2)).set (p := ⟨w.heap.size + 1 + 1, p, none⟩) (fun g => by simp at g; omega) _
  · simp only [more]
    by_cases e : j = p
    · rw [if_pos e]; omega
    · rw [if_neg e]; exact B j (by omega)
/-- The cells are asked: hi of them have run. -/
def RelC2 (w : World) (L : Lay) (hi : Nat) (wr : World) : Prop := Chain L L.m wr (stH hi) (cnt (stH hi)) ∧ Ch (fun _ => False) w wr ∧ ∀ j, j < L.m → w.heap.size ≤ L.bs j
def Rel2 (w : World) (L : Lay) (n : Nat) (high i : Value) (wr : World) : Prop := ∃ p hi : Nat, p ≤ n ∧ p ≤ 40 ∧ hi ≤ L.m ∧ i = .int .i64 p ∧ high = .int .i64 ((hi : Int) - 1) ∧ Hid (RelC2 w L hi wr)
theorem Rel2.mk {w : World} {L : Lay} {n : Nat} (p hi : Nat) {high i : Value} {wr : World} (h1 : p ≤ n) (h2 : p ≤ 40) (h3 : hi ≤ L.m) (h4 : i = .int .i64 p) (h5 : high = .int .i64 ((hi : Int) - 1)) (h6 : Hid (RelC2 w L hi wr)) : Rel2 w L n high i wr := ⟨p, hi, h1, h2, h3, h4, h5, h6⟩
theorem relC2_get {w wr : World} {L : Lay} {hi k : Nat} (h : RelC2 w L hi wr) (h9 : L.m ≤ 20) (A : Apart L L.m) (hrb : w.heap.size ≤ L.rb) (hk : k < L.m) :
    Calls Try.prog 11 #[.pointer (some ⟨L.bs k, 0, none⟩)] wr fun e w' => e = .returned (.int .i64 (k + 1)) ∧ RelC2 w L (max hi (k + 1)) w' := by
  obtain ⟨C, K, B⟩ := h
  refine (get_chain L h9 A k hk wr (stH hi) C (fun j hj => by unfold stH; split <;> omega) (fun i j hij hj e => ?_)).mono ?_
  · unfold stH at *
    by_cases g : j < hi
    · rw [if_pos (by omega)]
    · rw [if_neg g] at e; omega
  · rintro e w' ⟨rfl, C', K'⟩
    rw [upTo_stH] at C'
    refine ⟨rfl, C', K.transN K' (fun i hi' o => ?_), B⟩
    rcases o with rfl | ⟨j, hj, rfl⟩
    · omega
    · have := B j hj; omega
/-- Some numbers in memory. -/
def Ints (w : World) (v : Value) (n : Nat) : Prop := ∃ a c, v = .slice a n c ∧ n ≤ 9223372036854775807 ∧ ∀ i, i < n → ∃ b off d, a = some ⟨b, off, none⟩ ∧ b < w.heap.size ∧ w.cell? ⟨b, off + i, none⟩ = some (.int .i64 d)
theorem place_of (d : Int) (m : Nat) (h : 1 ≤ m) (h2 : m ≤ 20) : ∃ k : Nat, wrap64 (d.tmod m + m) = d.tmod m + m ∧ (d.tmod m + m).tmod m = (k : Int) ∧ k < m := by
  have a1 := Int.tmod_lt_of_pos d (show (0 : Int) < m by omega)
  have a2 := Int.lt_tmod_of_pos d (show (0 : Int) < m by omega)
  have b1 := Int.tmod_lt_of_pos (d.tmod m + m) (show (0 : Int) < m by omega)
  have b2 := Int.tmod_nonneg (a := d.tmod m + m) m (by omega)
  refine ⟨((d.tmod m + m).tmod m).toNat, by unfold wrap64; omega, by omega, by omega⟩
end Go.Proofs.Ytbigejdabeibeaa
