/-
  Whether a name is url, by the program.
-/
import Derived.Test.YtckefmhleklciaaGreatDoorTokS
import Derived.Outline
set_option linter.unusedVariables false
set_option linter.unusedSimpArgs false
namespace Go.Proofs.YtckefmhleklciaaGreatDoor
open Go.RowKit

theorem let_cases (x a c : Int) : (x = a) ∨ ((x == a) = false ∧ x = c) ∨ ((x == a) = false ∧ (x == c) = false) := by
  simp only [beq_eq_false_iff_ne]; omega
set_option maxHeartbeats 1000000 in
theorem isUrl_any (t : ByteArray) (w : World) : Calls Tryz.prog 58 #[.string t] w fun e w' => e = .returned (.bool (isUrlB (bl t))) ∧ Below w.heap.size w w' := by
  by_cases h3 : t.size = 3
  · have l0 : 0 < t.size := by omega
    have l1 : 1 < t.size := by omega
    have l2 : 2 < t.size := by omega
    have x0 := bl_nx t 0 l0
    have x1 := bl_nx t 1 l1
    have x2 := bl_nx t 2 l2
    have e3 : (bl t).length = 3 := by rw [bl_len]; exact h3
    have E : isUrlB (bl t) = (((nx (bl t) 0 == 117) || (nx (bl t) 0 == 85)) && ((nx (bl t) 1 == 114) || (nx (bl t) 1 == 82)) && ((nx (bl t) 2 == 108) || (nx (bl t) 2 == 76))) := by
      unfold isUrlB; rw [e3]; rfl
    rw [x0, x1, x2] at E
    replace E := hide E
    clear x0 x1 x2 e3
    rcases let_cases (t[0].toNat : Int) 117 85 with a | ⟨a, a'⟩ | ⟨a, a'⟩
    all_goals
      rcases let_cases (t[1].toNat : Int) 114 82 with c | ⟨c, c'⟩ | ⟨c, c'⟩
      all_goals
        rcases let_cases (t[2].toNat : Int) 108 76 with d | ⟨d, d'⟩ | ⟨d, d'⟩
        all_goals
          have F := hide (show (((t[0].toNat : Int) == 117 || (t[0].toNat : Int) == 85) && ((t[1].toNat : Int) == 114 || (t[1].toNat : Int) == 82) && ((t[2].toNat : Int) == 108 || (t[2].toNat : Int) == 76)) = _ from by simp only [*]; rfl)
          go_enter Tryz.func58, Tryz.ntmps58
          go_wp2
          go_quiet (fail)
          go_wp2
          go_ret
          exact ⟨ret_bool (by have e1 := E.out; have e2 := F.out; exact (e1.trans (e2.trans (by first | rfl | simp))).symm), below_drewN (Below.refl _ _) _⟩
  · have h3' : ((t.size : Int) == 3) = false := by simp; omega
    have h3'' : ((t.size : Int) != 3) = true := by simp; omega
    have E := hide (show isUrlB (bl t) = false by unfold isUrlB; rw [bl_len]; simp [h3])
    go_enter Tryz.func58, Tryz.ntmps58
    go_wp2
    go_ret
    exact ⟨ret_bool E.out.symm, Below.refl _ _⟩
end Go.Proofs.YtckefmhleklciaaGreatDoor
