/-
  A slice of numbers as a row reads it; the table of a leaf's fields out of what a row lays.
-/
import Derived.Test.YtpcdhdllclenaaaDoorRowG
import Derived.Test.YtpcdhdllclenaaaDoorCdE
set_option linter.unusedVariables false
set_option linter.unusedSimpArgs false
namespace Go.Proofs.YtpcdhdllclenaaaDoor.rowg
open Go.ChangeShapes Go.WideShapes Go.ChangeAt Go.RowKit Go.Joins
open Go.ChangeMaps (open_string shut_string)
open Go.Proofs.YtpcdhdllclenaaaDoor.cd

/-- A slice of numbers that comes in, however long. -/
theorem ints_open {H : Type} {enc : TypeId × Value → H} {W : World} {base : Nat} {held : Bool} {v : Value} {x : DataW H} {p : List MemPlace} (hv : Value.okWide Tryd.prog W .any base 22 v) (h : DataW.Trod enc Tryd.prog W 0 (fun _ => true) held 22 v x p) : ∃ l : List Int, NuW W v l := by
  obtain ⟨fuel, hf⟩ := h
  obtain ⟨sa, sn, sc, rfl⟩ := okWide_slice Tryd.underlying22 hv
  have hf' : DataW.trod enc Tryd.prog W 0 (fun _ => true) held fuel 22 [.slice sa sn sc] = some (x, p) := by simpa [Value.cells] using hf
  rcases Go.Deep.open_slice1 Tryd.underlying22 cI hf' with ⟨hcs, hx⟩ | ⟨a, len, cap, m, n, V, D, Pl, hcs, _, hl, hm, hmm, hx, each⟩
  · simp at hcs
    obtain ⟨rfl, rfl, rfl⟩ := hcs
    exact ⟨[], .inl ⟨_, _, rfl, rfl⟩⟩
  · simp at hcs
    obtain ⟨rfl, rfl, rfl⟩ := hcs
    simp only [if_true] at hmm
    subst hmm
    by_cases hl0 : sn = 0
    · subst hl0; exact ⟨[], .inl ⟨_, _, rfl, rfl⟩⟩
    obtain ⟨b, off, spot⟩ := a
    have hspot : spot = none := by
      have c00 := (each 0 (by omega)).1
      simpa [Addr.add] using World.cell?_spot c00
    subst hspot
    have each2 : ∀ i, i < sn → ∃ y : Int, W.cell? ⟨b, off + i, none⟩ = some (.int .i64 y) := by
      intro i hi
      obtain ⟨h1, h2⟩ := each i (by omega)
      obtain ⟨y, ey, _, _⟩ := DataW.trod_int Tryd.underlying3 h2
      simp at ey
      rw [Addr.add_lit, ey] at h1
      exact ⟨y, h1⟩
    obtain ⟨q, hq⟩ := Go.Deep.choose_lt each2
    refine ⟨(List.range sn).map q, .inr ⟨b, off, sn, m, rfl, by simp, by omega, World.block_lt_of_cell? _ _ (hq 0 (by omega)), hl, by unfold maxLen at hm; omega, fun i hi => ?_⟩⟩
    rw [hq i hi]
    have : gt ((List.range sn).map q) i = q i := by
      rw [gt_eq (by simpa using hi)]
      simp
    rw [this]
set_option maxRecDepth 100000 in
theorem fo_first {W : World} {r : List (String × DataW Unit)}
    (h : laidMet Tryd.prog (("jalousie/cond.fieldsOf", Rows.laid_jalousie_cond_fieldsOf) :: r) W) : FO W := by
  obtain ⟨ps, hL, _⟩ := h
  obtain ⟨g', t', cs, fuel, p, q, hg', ht', hvar, hd, _, _⟩ := hL
  have hg : Tryd.prog.globalNamed "jalousie/cond.fieldsOf" = some 0 := by kernel_rfl
  have hty : (Tryd.prog.globals[0]?).map (·.type) = some 80 := by kernel_rfl
  have hu : Tryd.prog.underlying 80 = some (.array 7 3) := by kernel_rfl
  have he : Tryd.prog.underlying 3 = some (.int .i64) := by kernel_rfl
  have hc1 : Tryd.prog.cellsOf 3 = 1 := by kernel_rfl
  have hc9 : Tryd.prog.cellsOf 80 = 7 := by kernel_rfl
  obtain rfl := Option.some.inj (hg.symm.trans hg')
  obtain rfl := Option.some.inj (hty.symm.trans ht')
  have hd' : DataW.trod (fun _ => ()) Tryd.prog W 0 (fun _ => true) false fuel 80 cs.toList = some (Lib.tabData .i64 [0, 1, 2, 2, 14, 18, 98], p) := hd
  have tab : Lib.TabIs Tryd.prog W "jalousie/cond.fieldsOf" .i64 [0, 1, 2, 2, 14, 18, 98] := by
    unfold Lib.TabIs
    rw [hvar, ← Lib.cells_of_tab hu he hc1 hc9 hd']
  have c := fun i (hi : i < 7) => tab.cell hg i hi
  exact ⟨World.block_lt_of_cell? _ _ (c 0 (by decide)), c 0 (by decide), c 1 (by decide), c 2 (by decide), c 3 (by decide), c 4 (by decide), c 5 (by decide), c 6 (by decide)⟩
end Go.Proofs.YtpcdhdllclenaaaDoor.rowg
