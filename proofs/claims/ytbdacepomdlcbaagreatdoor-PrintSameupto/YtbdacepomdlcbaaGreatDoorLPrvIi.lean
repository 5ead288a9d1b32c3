/-
  Are two lists of rules the same: the law.
-/
import Derived.Test.YtbdacepomdlcbaaGreatDoorLPrvHh
import Derived.Deep.RegionHeld3
set_option linter.unusedVariables false
set_option linter.unusedSimpArgs false
namespace Go.Proofs.YtbdacepomdlcbaaGreatDoor
open Go.RowKit Go.Shelf

set_option maxRecDepth 100000 in
set_option maxHeartbeats 1500000 in
theorem law_same6 (l1 l2 : List RT) (v1 v2 : Value) (w : World) (hv1 : RM w v1 l1) (hv2 : RM w v2 l2) (hK : KT w) (hT : Tabs w) :
    Calls Tryz.prog 6 #[v1, v2] w fun e w' => e = .returned (.bool true) ∧ Below w.heap.size w w' := by
  have C1 := hide (fun (W : World) (h : Below w.heap.size w W) => sameP_any W l1 l2 v1 v2 (hv1.low h) (hv2.low h))
  have C2 := hide (fun (W : World) (h : Below w.heap.size w W) => sameRR_any W l1 l2 v1 v2 (hv1.low h) (hv2.low h))
  have C3 := hide (fun (W : World) (h : Below w.heap.size w W) => sameP_any W l1 l1 v1 v1 (hv1.low h) (hv1.low h))
  have C4 := hide (fun (W : World) (h : Below w.heap.size w W) => awake6_any W (hK.below h) (hT.below h))
  have Q := hide (eqP_t (show l1 = l1 from rfl))
  obtain ⟨a1, c1, rfl, _⟩ := hv1.shape
  obtain ⟨a2, c2, rfl, _⟩ := hv2.shape
  clear hK hT hv1 hv2
  obtain ⟨r, hr⟩ : ∃ r, eqP (l1 = l2) = r := ⟨_, rfl⟩
  rw [hr] at C1 C2
  clear hr
  have B := hide (Below.refl w.heap.size w)
  go_enter Tryz.func6, Tryz.ntmps6
  go_wp2_with (first
    | (go_at_call 15; refine (C1.out _ B.out).mono ?_; rintro _ wl ⟨rfl, hl⟩; replace B := hide (bto B.out hl); clear hl)
    | (go_at_call 15; refine (C3.out _ B.out).mono ?_; rintro _ wl ⟨rfl, hl⟩; rw [Q.out]; replace B := hide (bto B.out hl); clear hl)
    | (go_at_call 16; refine (C2.out _ B.out).mono ?_; rintro _ wl ⟨rfl, hl⟩; replace B := hide (bto B.out hl); clear hl)
    | (go_at_call 10; refine (C4.out _ B.out).mono ?_; rintro _ wl ⟨rfl, hl⟩; replace B := hide (bto B.out hl); clear hl))
  go_ret
  exact ⟨rfl, B.out⟩
end Go.Proofs.YtbdacepomdlcbaaGreatDoor
