/-
  A struct in a block of its own: written whole, told whole.
-/
import Derived.Test.YtpcdhdllclenaaaDoorTsA
import Derived.Deep.MidRow
set_option linter.unusedVariables false
set_option linter.unusedSimpArgs false
namespace Go.Proofs.YtpcdhdllclenaaaDoor
open Go.RowKit

theorem setCells_grown (b : Nat) : ∀ (vs : List Value) (o : Nat) (w : World), w.grownBy (w.setCells b o vs) (some b) := by
  intro vs
  induction vs with
  | nil => intro o w; exact ⟨rfl, rfl, rfl, Nat.le_refl _, fun _ _ _ => rfl⟩
  | cons x r ih =>
    intro o w
    have h := ih (o + 1) (w.setCell ⟨b, o, none⟩ x)
    refine ⟨h.os, h.tape, h.output, ?_, fun k hk hne => ?_⟩
    · exact Nat.le_trans (by simp [World.setCell]) h.size
    · exact (h.block k (by simpa [World.setCell] using hk) hne).trans (Below.heap_setCell _ _ _ _ (fun e => hne (by rw [e])))
theorem setCells_size (b : Nat) (vs : List Value) (o : Nat) (w : World) : w.heap.size ≤ (w.setCells b o vs).heap.size := (setCells_grown b vs o w).size
theorem range_blk {w : World} {b : Nat} {cs : List Value} {T : TypeId} {q : Nat × Nat} (h : w.heap[b]? = some (.cells cs.toArray T q)) : w.rangeAt b 0 cs := fun j v hv => by
  rw [Nat.zero_add, row_blk h]; simpa using hv
theorem there_blk {w : World} {b : Nat} {cs : Array Value} {T : TypeId} {n : Nat} (h : w.heap[b]? = some (.cells cs T)) (hn : cs.size = n) : w.there b 0 n := fun j hj => by
  rw [Nat.zero_add]
  refine ⟨?_, by simp [World.frozen?, h]⟩
  rw [row_blk h, Array.getElem?_eq_getElem (by omega)]; rfl
/-- Behind a call that tells a struct, which lies in a block of its own. -/
theorem ret_cell {P : Program} {fn : Func} {R : Ending → World → Prop} {a : Act} {w : World} {t : Tmp} {ty : TypeId} {b : Nat} {cs : List Value} {d : TypeDesc} (hf : fn.results = #[.cell t ty]) (ht : a.tmps.getD t undef = .pointer (some ⟨b, 0, none⟩)) (hc : w.rangeAt b 0 cs)
    (hu : P.underlying ty = some d) (hr : d.isRow = true) (hi : (P.info? ty).map (·.size) = some cs.length) (hd : a.defers = []) (h : R (.returned (.agg cs.toArray)) w) : bodyPost P fn R .ret a w := by
  refine bodyPost_ret (v := .agg cs.toArray) ?_ hd h
  have hl := run_loadVar_mid (P := P) w b 0 ty cs d hc hu hr hi
  rw [Array.getD_eq_getD_getElem?] at ht
  simp [results, hf, ht, asAddr, hl]
theorem ret_cell2 {P : Program} {fn : Func} {R : Ending → World → Prop} {a : Act} {w : World} {t u : Tmp} {ty : TypeId} {b : Nat} {cs : List Value} {d : TypeDesc} {v : Value} (hf : fn.results = #[.cell t ty, .tmp u]) (ht : a.tmps.getD t undef = .pointer (some ⟨b, 0, none⟩)) (hv : a.tmps.getD u undef = v) (hc : w.rangeAt b 0 cs)
    (hu : P.underlying ty = some d) (hr : d.isRow = true) (hi : (P.info? ty).map (·.size) = some cs.length) (hd : a.defers = []) (h : R (.returned (.tuple #[.agg cs.toArray, v])) w) : bodyPost P fn R .ret a w := by
  refine bodyPost_ret (v := .tuple #[.agg cs.toArray, v]) ?_ hd h
  have hl := run_loadVar_mid (P := P) w b 0 ty cs d hc hu hr hi
  rw [Array.getD_eq_getD_getElem?] at ht hv
  simp [results, hf, ht, hv, asAddr, hl]
end Go.Proofs.YtpcdhdllclenaaaDoor
