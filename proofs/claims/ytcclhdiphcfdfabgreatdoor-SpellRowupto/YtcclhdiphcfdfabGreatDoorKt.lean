/-
  Which tokens may be: by the reference: signs, numbers; the whole.
  Which tokens may be: by the reference: dimensions; the whole.
  Which tokens may be, which must stand apart: the law.
-/
import Derived.Test.YtcclhdiphcfdfabGreatDoorKs
import Derived.Deep.RegionHeld3
set_option linter.unusedVariables false
set_option linter.unusedSimpArgs false
namespace Go.Proofs.YtcclhdiphcfdfabGreatDoor
open Go.RowKit

end Go.Proofs.YtcclhdiphcfdfabGreatDoor
set_option linter.unusedVariables false
set_option linter.unusedSimpArgs false
namespace Go.Proofs.YtcclhdiphcfdfabGreatDoor
open Go.RowKit

end Go.Proofs.YtcclhdiphcfdfabGreatDoor
set_option linter.unusedVariables false
set_option linter.unusedSimpArgs false
namespace Go.Proofs.YtcclhdiphcfdfabGreatDoor
open Go.RowKit

theorem keep12 {w0 W : World} {b c : Nat} {k : Int} {s : ByteArray} {n d : Int} {i h : Bool} {k' : Int} {s' : ByteArray} {n' d' : Int} {i' h' : Bool} (hb : Below w0.heap.size w0 W) (t : Tok6 w0 b k s n d i h) (u : Tok6 w0 c k' s' n' d' i' h') :
    W.cell? ⟨b, 0, none⟩ = some (.int .i64 k) ∧ W.cell? ⟨b, 1, none⟩ = some (.string s) ∧ W.cell? ⟨b, 2, none⟩ = some (.int .i64 n) ∧ W.cell? ⟨b, 3, none⟩ = some (.int .i64 d) ∧ W.cell? ⟨b, 4, none⟩ = some (.bool i) ∧ W.cell? ⟨b, 5, none⟩ = some (.bool h) ∧
    W.cell? ⟨c, 0, none⟩ = some (.int .i64 k') ∧ W.cell? ⟨c, 1, none⟩ = some (.string s') ∧ W.cell? ⟨c, 2, none⟩ = some (.int .i64 n') ∧ W.cell? ⟨c, 3, none⟩ = some (.int .i64 d') ∧ W.cell? ⟨c, 4, none⟩ = some (.bool i') ∧ W.cell? ⟨c, 5, none⟩ = some (.bool h') := by
  obtain ⟨_, a0, a1, a2, a3, a4, a5⟩ := t.below hb
  obtain ⟨_, c0, c1, c2, c3, c4, c5⟩ := u.below hb
  exact ⟨a0, a1, a2, a3, a4, a5, c0, c1, c2, c3, c4, c5⟩
theorem may_13 : mayT 13 (bl ⟨#[]⟩) 0 0 false false = true := by
  rw [may_rest (by omega)]
  rfl
theorem ap_13 : apB 13 13 = true := rfl
end Go.Proofs.YtcclhdiphcfdfabGreatDoor
