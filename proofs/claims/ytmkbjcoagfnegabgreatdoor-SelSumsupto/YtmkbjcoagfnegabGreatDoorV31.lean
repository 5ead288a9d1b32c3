/-
  "a > .b", read as values: by the reference.
-/
import Derived.Test.YtmkbjcoagfnegabGreatDoorV15
import Derived.Test.YtmkbjcoagfnegabGreatDoorV30
set_option linter.unusedVariables false
set_option linter.unusedSimpArgs false
namespace Go.Proofs.YtmkbjcoagfnegabGreatDoor
open Go.RowKit

set_option maxRecDepth 100000
theorem toks_one {s r : List Int} {t : Tk} (h : (decide (nx (rmk s) 0 = -1)) = false) (ht : tokn (rmk s) = (t, r)) : toks s = t :: toks r := by
  rw [toks_go (by simpa using h), ht]
theorem toks_six : toks [97, 32, 62, 32, 46, 98] = [tkt 1 [97], tk 13, tkt 9 [62], tk 13, tkt 9 [46], tkt 1 [98]] := by
  rw [toks_one (s := [97, 32, 62, 32, 46, 98]) (t := tkt 1 [97]) (r := [32, 62, 32, 46, 98]) (by kernel_rfl) (by kernel_rfl),
    toks_one (s := [32, 62, 32, 46, 98]) (t := tk 13) (r := [62, 32, 46, 98]) (by kernel_rfl) (by kernel_rfl),
    toks_one (s := [62, 32, 46, 98]) (t := tkt 9 [62]) (r := [32, 46, 98]) (by kernel_rfl) (by kernel_rfl),
    toks_one (s := [32, 46, 98]) (t := tk 13) (r := [46, 98]) (by kernel_rfl) (by kernel_rfl),
    toks_one (s := [46, 98]) (t := tkt 9 [46]) (r := [98]) (by kernel_rfl) (by kernel_rfl),
    toks_one (s := [98]) (t := tkt 1 [98]) (r := []) (by kernel_rfl) (by kernel_rfl),
    toks_end (by decide +kernel)]
theorem chs_six : chs (dcd [97, 32, 62, 32, 46, 98]) = [97, 32, 62, 32, 46, 98] := by decide +kernel
theorem of_six : ofV [97, 32, 62, 32, 46, 98] = [tA, tS, tG, tS, tP, tB] := by
  unfold ofV
  rw [chs_six, toks_six]
  kernel_rfl
set_option maxHeartbeats 4000000 in
theorem awake9_any (w0 : World) (hI : Kinds w0) (hK : KT w0) (hT : Tabs w0) : Calls Tryz.prog 6 #[] w0 fun e w' => e = .returned (.bool true) ∧ Below w0.heap.size w0 w' := by
  have C1 := hide (of9_any ⟨#[97, 32, 62, 32, 46, 98]⟩ w0 hI (by decide))
  rw [show bl ⟨#[97, 32, 62, 32, 46, 98]⟩ = [97, 32, 62, 32, 46, 98] from rfl, of_six] at C1
  have C2 := hide (fun (w : World) (v : Value) (h : VM w v [tA, tS, tG, tS, tP, tB]) (hK : KT w) (hT : Tabs w) => parse9_two w v h hK hT)
  have HK := hide hK
  have HT := hide hT
  clear hK hT hI
  go_enter Tryz.func6, Tryz.ntmps6
  go_wp2_with (first
    | (go_at_call 13; refine C1.out.mono ?_; rintro e w1 ⟨u, rfl, V1, B1⟩; have HV := hide V1; have HB := hide B1; clear B1 C1 V1)
    | (go_at_call 8; refine (C2.out _ _ HV.out (HK.out.below HB.out) (HT.out.below HB.out)).mono ?_; rintro e w2 ⟨b, cp, gp, cpp, rfl, c1, c2, B2⟩; replace HB := hide (bto HB.out B2); clear B2 C2))
  go_ret
  exact ⟨rfl, HB.out⟩
end Go.Proofs.YtmkbjcoagfnegabGreatDoor
