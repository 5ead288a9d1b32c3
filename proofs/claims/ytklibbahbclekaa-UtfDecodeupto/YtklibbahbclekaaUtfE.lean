/-
  The law of whole bytes.
-/
import Derived.Test.YtklibbahbclekaaUtfD
import Derived.Deep.RegionHeld3
set_option linter.unusedVariables false
set_option linter.unusedSimpArgs false
namespace Go.Proofs.Ytklibbahbclekaa
open Go.RowKit

/-- A slice laid by the call itself. -/
theorem Nums.lit {k : IntKind} (w : World) (t : TypeId) (bs : List Int) (n : Nat) (hn : n = bs.length) (h0 : 0 < n) (hl : n ≤ 1000) :
    Nums k (w.alloc (.cells (bs.map (Value.int k)).toArray t)) (.slice (some ⟨w.heap.size, 0, none⟩) n n) bs :=
  .inr ⟨w.heap.size, 0, n, n, rfl, hn, h0, by simp, Nat.le_refl _, by omega, by omega, fun i hi => by
    rw [cell_of_row _ w.heap.size (0 + i) _ t (0, 0) (heap_alloc_new w _)]
    simp [gt, List.getD_eq_getElem?_getD, List.getElem?_eq_getElem (show i < bs.length by omega)]⟩
theorem whole_two : whole [195, 164] = true := by
  rw [whole_cut (by simp)]
  show (true && whole []) = true
  rw [whole_nil]; rfl
theorem By.two : By [195, 164] := by intro x hx; simp at hx; omega
set_option maxHeartbeats 1000000 in
theorem law_whole (bs : List Int) (v : Value) (w : World) (hb : By bs) (hv : Nums .u8 w v bs) (hl : bs.length ≤ 140737488355328) :
    Calls Try.prog 6 #[v] w fun e w' => e = .returned (.bool true) ∧ Below w.heap.size w w' := by
  have HV : Hid (Nums .u8 w v bs) := hv
  have h2 : Nums .u8 (w.alloc (.cells #[.int .u8 195, .int .u8 164] 5)) (.slice (some ⟨w.heap.size, 0, none⟩) 2 2) [195, 164] := Nums.lit w 5 [195, 164] 2 rfl (by omega) (by omega)
  have H2 := hide h2
  clear h2 hv
  go_enter Try.func6, Try.ntmps6
  go_wp2_with (first
    | (go_at_call_of 18 v; refine (wholeP_any bs v _ hb HV.out).mono ?_; rintro e w' ⟨rfl, rfl⟩)
    | (go_at_call 19; refine (wholeR_any bs v _ hb HV.out).mono ?_; rintro e w' ⟨rfl, rfl⟩)
    | (go_at_call 18; refine (wholeP_any [195, 164] _ _ By.two H2.out).mono ?_; rintro e w' ⟨rfl, rfl⟩; rw [whole_two]))
  go_ret
  exact ⟨rfl, (Below.refl _ _).alloc (Nat.le_refl _) _⟩
end Go.Proofs.Ytklibbahbclekaa
