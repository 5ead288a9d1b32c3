/-
  From what the row lays to the reference's table of kinds.
-/
import Derived.Test.YtckefmhleklciaaGreatDoorLRefK
import Derived.Lib.LaidTab
set_option linter.unusedVariables false
namespace Go.Proofs.YtckefmhleklciaaGreatDoor
open Go.RowKit

theorem kinds_of {W : World} {a1 a2 a3 a4 a5 a6 : String × DataW Unit} {r : List (String × DataW Unit)}
    (h : laidMet Tryz.prog (a1 :: a2 :: a3 :: a4 :: a5 :: a6 :: ("jalousie/jalousieref3.kinds", Rows.laid_jalousie_jalousieref3_kinds) :: r) W) : Kinds W := by
  obtain ⟨ps, hL, _⟩ := h
  obtain ⟨_, _, _, _, _, q1, _, _, _, _, hL, _⟩ := hL
  obtain ⟨_, _, _, _, _, q2, _, _, _, _, hL, _⟩ := hL
  obtain ⟨_, _, _, _, _, q3, _, _, _, _, hL, _⟩ := hL
  obtain ⟨_, _, _, _, _, q4, _, _, _, _, hL, _⟩ := hL
  obtain ⟨_, _, _, _, _, q5, _, _, _, _, hL, _⟩ := hL
  obtain ⟨_, _, _, _, _, q6, _, _, _, _, hL, _⟩ := hL
  obtain ⟨g', t', cs, fuel, p, q, hg', ht', hvar, hd, _, _⟩ := hL
  have hg : Tryz.prog.globalNamed "jalousie/jalousieref3.kinds" = some 0 := by kernel_rfl
  have hty : (Tryz.prog.globals[0]?).map (·.type) = some 56 := by kernel_rfl
  have hu : Tryz.prog.underlying 56 = some (.array 9 3) := by kernel_rfl
  have he : Tryz.prog.underlying 3 = some (.int .i64) := by kernel_rfl
  have hc1 : Tryz.prog.cellsOf 3 = 1 := by kernel_rfl
  have hc9 : Tryz.prog.cellsOf 56 = 9 := by kernel_rfl
  obtain rfl := Option.some.inj (hg.symm.trans hg')
  obtain rfl := Option.some.inj (hty.symm.trans ht')
  have hd' : DataW.trod (fun _ => ()) Tryz.prog W 0 (fun _ => true) false fuel 56 cs.toList = some (Lib.tabData .i64 [21, 22, 19, 20, 23, 24, 18, 16, 17], p) := hd
  have tab : Lib.TabIs Tryz.prog W "jalousie/jalousieref3.kinds" .i64 [21, 22, 19, 20, 23, 24, 18, 16, 17] := by
    unfold Lib.TabIs
    rw [hvar, ← Lib.cells_of_tab hu he hc1 hc9 hd']
  have c := fun i (hi : i < 9) => tab.cell hg i hi
  exact ⟨World.block_lt_of_cell? _ _ (c 0 (by decide)), c 0 (by decide), c 1 (by decide), c 2 (by decide), c 3 (by decide), c 4 (by decide), c 5 (by decide), c 6 (by decide), c 7 (by decide), c 8 (by decide)⟩
end Go.Proofs.YtckefmhleklciaaGreatDoor
