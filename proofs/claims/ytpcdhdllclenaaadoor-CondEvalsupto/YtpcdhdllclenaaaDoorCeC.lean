/-
  May a leaf be: by the reference.
-/
import Derived.Test.YtpcdhdllclenaaaDoorCeB
import Derived.Test.YtpcdhdllclenaaaDoorCaC
import Derived.Test.YtpcdhdllclenaaaDoorCdF
import Derived.Lib.Strings
set_option linter.unusedVariables false
set_option linter.unusedSimpArgs false
namespace Go.Proofs.YtpcdhdllclenaaaDoor.cd
open Go.RowKit

theorem em_str (s : ByteArray) : (s.toList == (⟨#[]⟩ : ByteArray).toList) = no s := by
  unfold no
  rw [Lib.toList_data ⟨#[]⟩]
  cases s.toList <;> rfl
theorem mayL_0 (lt : Int) (nm : ByteArray) (op ek en ed eu : Int) (eks : List Ex) (wd vl : ByteArray) (an : Bool) : lfM ⟨0, lt, nm, op, .mk ek en ed eu eks, wd, vl, an⟩ = (eqL ⟨0, lt, nm, op, .mk ek en ed eu eks, wd, vl, an⟩ ⟨0, 0, ⟨#[]⟩, 0, (.mk 0 0 0 0 []), ⟨#[]⟩, ⟨#[]⟩, false⟩ && true) := by
  unfold eqL lfM
  simp only [em_str, eqX_no, eqX_refl (szE (.mk ek en ed eu eks)) (.mk ek en ed eu eks) (Nat.le_refl _), beq_self_eq_true]
  generalize (lt == 0) = b1
  generalize no nm = b2
  generalize (op == 0) = b3
  generalize noE (.mk ek en ed eu eks) = b4
  generalize no wd = b5
  generalize no vl = b6
  generalize exM (.mk ek en ed eu eks) 340 = b7
  generalize decide (0 ≤ lt) = c1
  generalize decide (lt ≤ 2) = c2
  generalize decide (1 ≤ op) = c3
  generalize decide (op ≤ 5) = c4
  clear lt nm op ek en ed eu eks wd vl
  revert an b1 b2 b3 b4 b5 b6 b7 c1 c2 c3 c4
  decide +kernel
theorem mayL_1 (lt : Int) (nm : ByteArray) (op ek en ed eu : Int) (eks : List Ex) (wd vl : ByteArray) (an : Bool) : lfM ⟨1, lt, nm, op, .mk ek en ed eu eks, wd, vl, an⟩ = (eqL ⟨1, lt, nm, op, .mk ek en ed eu eks, wd, vl, an⟩ ⟨1, lt, ⟨#[]⟩, 0, (.mk 0 0 0 0 []), ⟨#[]⟩, ⟨#[]⟩, false⟩ && (decide (0 ≤ lt) && decide (lt ≤ 2))) := by
  unfold eqL lfM
  simp only [em_str, eqX_no, eqX_refl (szE (.mk ek en ed eu eks)) (.mk ek en ed eu eks) (Nat.le_refl _), beq_self_eq_true]
  generalize (lt == 0) = b1
  generalize no nm = b2
  generalize (op == 0) = b3
  generalize noE (.mk ek en ed eu eks) = b4
  generalize no wd = b5
  generalize no vl = b6
  generalize exM (.mk ek en ed eu eks) 340 = b7
  generalize decide (0 ≤ lt) = c1
  generalize decide (lt ≤ 2) = c2
  generalize decide (1 ≤ op) = c3
  generalize decide (op ≤ 5) = c4
  clear lt nm op ek en ed eu eks wd vl
  revert an b1 b2 b3 b4 b5 b6 b7 c1 c2 c3 c4
  decide +kernel
theorem mayL_2 (lt : Int) (nm : ByteArray) (op ek en ed eu : Int) (eks : List Ex) (wd vl : ByteArray) (an : Bool) : lfM ⟨2, lt, nm, op, .mk ek en ed eu eks, wd, vl, an⟩ = (eqL ⟨2, lt, nm, op, .mk ek en ed eu eks, wd, vl, an⟩ ⟨2, 0, nm, 0, (.mk 0 0 0 0 []), ⟨#[]⟩, ⟨#[]⟩, false⟩ && (!no nm)) := by
  unfold eqL lfM
  simp only [em_str, eqX_no, eqX_refl (szE (.mk ek en ed eu eks)) (.mk ek en ed eu eks) (Nat.le_refl _), beq_self_eq_true]
  generalize (lt == 0) = b1
  generalize no nm = b2
  generalize (op == 0) = b3
  generalize noE (.mk ek en ed eu eks) = b4
  generalize no wd = b5
  generalize no vl = b6
  generalize exM (.mk ek en ed eu eks) 340 = b7
  generalize decide (0 ≤ lt) = c1
  generalize decide (lt ≤ 2) = c2
  generalize decide (1 ≤ op) = c3
  generalize decide (op ≤ 5) = c4
  clear lt nm op ek en ed eu eks wd vl
  revert an b1 b2 b3 b4 b5 b6 b7 c1 c2 c3 c4
  decide +kernel
theorem mayL_3 (lt : Int) (nm : ByteArray) (op ek en ed eu : Int) (eks : List Ex) (wd vl : ByteArray) (an : Bool) : lfM ⟨3, lt, nm, op, .mk ek en ed eu eks, wd, vl, an⟩ = (eqL ⟨3, lt, nm, op, .mk ek en ed eu eks, wd, vl, an⟩ ⟨3, 0, nm, 0, (.mk 0 0 0 0 []), ⟨#[]⟩, ⟨#[]⟩, false⟩ && (!no nm)) := by
  unfold eqL lfM
  simp only [em_str, eqX_no, eqX_refl (szE (.mk ek en ed eu eks)) (.mk ek en ed eu eks) (Nat.le_refl _), beq_self_eq_true]
  generalize (lt == 0) = b1
  generalize no nm = b2
  generalize (op == 0) = b3
  generalize noE (.mk ek en ed eu eks) = b4
  generalize no wd = b5
  generalize no vl = b6
  generalize exM (.mk ek en ed eu eks) 340 = b7
  generalize decide (0 ≤ lt) = c1
  generalize decide (lt ≤ 2) = c2
  generalize decide (1 ≤ op) = c3
  generalize decide (op ≤ 5) = c4
  clear lt nm op ek en ed eu eks wd vl
  revert an b1 b2 b3 b4 b5 b6 b7 c1 c2 c3 c4
  decide +kernel
theorem mayL_4 (lt : Int) (nm : ByteArray) (op ek en ed eu : Int) (eks : List Ex) (wd vl : ByteArray) (an : Bool) : lfM ⟨4, lt, nm, op, .mk ek en ed eu eks, wd, vl, an⟩ = (eqL ⟨4, lt, nm, op, .mk ek en ed eu eks, wd, vl, an⟩ ⟨4, 0, nm, op, (.mk ek en ed eu eks), ⟨#[]⟩, ⟨#[]⟩, false⟩ && ((!no nm) && ((decide (1 ≤ op) && decide (op ≤ 5)) && exM (.mk ek en ed eu eks) 340))) := by
  unfold eqL lfM
  simp only [em_str, eqX_no, eqX_refl (szE (.mk ek en ed eu eks)) (.mk ek en ed eu eks) (Nat.le_refl _), beq_self_eq_true]
  generalize (lt == 0) = b1
  generalize no nm = b2
  generalize (op == 0) = b3
  generalize noE (.mk ek en ed eu eks) = b4
  generalize no wd = b5
  generalize no vl = b6
  generalize exM (.mk ek en ed eu eks) 340 = b7
  generalize decide (0 ≤ lt) = c1
  generalize decide (lt ≤ 2) = c2
  generalize decide (1 ≤ op) = c3
  generalize decide (op ≤ 5) = c4
  clear lt nm op ek en ed eu eks wd vl
  revert an b1 b2 b3 b4 b5 b6 b7 c1 c2 c3 c4
  decide +kernel
theorem mayL_5 (lt : Int) (nm : ByteArray) (op ek en ed eu : Int) (eks : List Ex) (wd vl : ByteArray) (an : Bool) : lfM ⟨5, lt, nm, op, .mk ek en ed eu eks, wd, vl, an⟩ = (eqL ⟨5, lt, nm, op, .mk ek en ed eu eks, wd, vl, an⟩ ⟨5, 0, nm, 0, (.mk 0 0 0 0 []), wd, ⟨#[]⟩, false⟩ && (!no nm)) := by
  unfold eqL lfM
  simp only [em_str, eqX_no, eqX_refl (szE (.mk ek en ed eu eks)) (.mk ek en ed eu eks) (Nat.le_refl _), beq_self_eq_true]
  generalize (lt == 0) = b1
  generalize no nm = b2
  generalize (op == 0) = b3
  generalize noE (.mk ek en ed eu eks) = b4
  generalize no wd = b5
  generalize no vl = b6
  generalize exM (.mk ek en ed eu eks) 340 = b7
  generalize decide (0 ≤ lt) = c1
  generalize decide (lt ≤ 2) = c2
  generalize decide (1 ≤ op) = c3
  generalize decide (op ≤ 5) = c4
  clear lt nm op ek en ed eu eks wd vl
  revert an b1 b2 b3 b4 b5 b6 b7 c1 c2 c3 c4
  decide +kernel
theorem mayL_6 (lt : Int) (nm : ByteArray) (op ek en ed eu : Int) (eks : List Ex) (wd vl : ByteArray) (an : Bool) : lfM ⟨6, lt, nm, op, .mk ek en ed eu eks, wd, vl, an⟩ = (eqL ⟨6, lt, nm, op, .mk ek en ed eu eks, wd, vl, an⟩ ⟨6, 0, nm, 0, (.mk 0 0 0 0 []), ⟨#[]⟩, vl, an⟩ && ((!no nm) && !(an && !no vl))) := by
  unfold eqL lfM
  simp only [em_str, eqX_no, eqX_refl (szE (.mk ek en ed eu eks)) (.mk ek en ed eu eks) (Nat.le_refl _), beq_self_eq_true]
  generalize (lt == 0) = b1
  generalize no nm = b2
  generalize (op == 0) = b3
  generalize noE (.mk ek en ed eu eks) = b4
  generalize no wd = b5
  generalize no vl = b6
  generalize exM (.mk ek en ed eu eks) 340 = b7
  generalize decide (0 ≤ lt) = c1
  generalize decide (lt ≤ 2) = c2
  generalize decide (1 ≤ op) = c3
  generalize decide (op ≤ 5) = c4
  clear lt nm op ek en ed eu eks wd vl
  revert an b1 b2 b3 b4 b5 b6 b7 c1 c2 c3 c4
  decide +kernel
end Go.Proofs.YtpcdhdllclenaaaDoor.cd
