/-
  Only the fields of its kind: by the program.
-/
import Derived.Test.YtmkbjcoagfnegaaGreatDoorZ16
set_option linter.unusedVariables false
set_option linter.unusedSimpArgs false
namespace Go.Proofs.YtmkbjcoagfnegaaGreatDoor
open Go.RowKit

theorem emp_bl {s : ByteArray} (h : s.size = 0) : (bl s).isEmpty = true := by rw [emp_iff]; exact emp_t h
theorem nemp_bl {s : ByteArray} (h : ¬ s.size = 0) : (bl s).isEmpty = false := by rw [emp_iff]; exact emp_f (by omega)
theorem bxk_at9 {w : World} {b : Nat} {cs : Array Value} {T : TypeId} (h : w.heap[b]? = some (.cells cs T)) (j : Nat) (hj : j < cs.size) : w.cell? ⟨b, j, none⟩ = some cs[j] := by
  rw [row_blk h, Array.getElem?_eq_getElem hj]
theorem kd_ways (k : Int) : k = 2 ∨ k = 3 ∨ k = 4 ∨ k = 5 ∨ k = 6 ∨ k = 7 ∨ k = 8 ∨ k = 14 ∨ k = 15 ∨ (k ≠ 2 ∧ k ≠ 3 ∧ k ≠ 4 ∧ k ≠ 5 ∧ k ≠ 6 ∧ k ≠ 7 ∧ k ≠ 8 ∧ k ≠ 14 ∧ k ≠ 15) := by omega
set_option maxRecDepth 100000 in
set_option maxHeartbeats 2000000 in
theorem oif2_any (op a b : Int) (nm vl : ByteArray) (fo : Bool) (ua : Option Addr) (ln uc : Nat) (w : World) : Calls Tryz.prog 112 #[slV 2 op a b nm vl fo (.slice ua ln uc)] w fun e w' => e = .returned (.bool (oifB 2 op a b nm vl fo ln)) ∧ Below w.heap.size w w' := by
    unfold slV
    go_enter Tryz.func112, Tryz.ntmps112
    go_wp2
    all_goals
      go_ret
      exact ⟨ret_bool (by simp [oifB, noF9, emp_iff, *]), by repeat (first | exact Below.refl _ _ | (with_reducible refine Below.setCell ?_ (by simp) _) | (with_reducible refine bplus ?_ _))⟩
set_option maxRecDepth 100000 in
set_option maxHeartbeats 2000000 in
theorem oif3_any (op a b : Int) (nm vl : ByteArray) (fo : Bool) (ua : Option Addr) (ln uc : Nat) (w : World) : Calls Tryz.prog 112 #[slV 3 op a b nm vl fo (.slice ua ln uc)] w fun e w' => e = .returned (.bool (oifB 3 op a b nm vl fo ln)) ∧ Below w.heap.size w w' := by
    unfold slV
    go_enter Tryz.func112, Tryz.ntmps112
    go_wp2
    all_goals
      go_ret
      exact ⟨ret_bool (by simp [oifB, noF9, emp_iff, *]), by repeat (first | exact Below.refl _ _ | (with_reducible refine Below.setCell ?_ (by simp) _) | (with_reducible refine bplus ?_ _))⟩
set_option maxRecDepth 100000 in
set_option maxHeartbeats 2000000 in
theorem oif4_any (op a b : Int) (nm vl : ByteArray) (fo : Bool) (ua : Option Addr) (ln uc : Nat) (w : World) : Calls Tryz.prog 112 #[slV 4 op a b nm vl fo (.slice ua ln uc)] w fun e w' => e = .returned (.bool (oifB 4 op a b nm vl fo ln)) ∧ Below w.heap.size w w' := by
    unfold slV
    go_enter Tryz.func112, Tryz.ntmps112
    go_wp2
    all_goals
      go_ret
      exact ⟨ret_bool (by simp [oifB, noF9, emp_iff, *]), by repeat (first | exact Below.refl _ _ | (with_reducible refine Below.setCell ?_ (by simp) _) | (with_reducible refine bplus ?_ _))⟩
set_option maxRecDepth 100000 in
set_option maxHeartbeats 2000000 in
theorem oif5_any (op a b : Int) (nm vl : ByteArray) (fo : Bool) (ua : Option Addr) (ln uc : Nat) (w : World) : Calls Tryz.prog 112 #[slV 5 op a b nm vl fo (.slice ua ln uc)] w fun e w' => e = .returned (.bool (oifB 5 op a b nm vl fo ln)) ∧ Below w.heap.size w w' := by
    unfold slV
    go_enter Tryz.func112, Tryz.ntmps112
    go_wp2
    all_goals
      go_ret
      exact ⟨ret_bool (by simp [oifB, noF9, emp_iff, *]), by repeat (first | exact Below.refl _ _ | (with_reducible refine Below.setCell ?_ (by simp) _) | (with_reducible refine bplus ?_ _))⟩
set_option maxRecDepth 100000 in
set_option maxHeartbeats 2000000 in
theorem oif6_any (op a b : Int) (nm vl : ByteArray) (fo : Bool) (ua : Option Addr) (ln uc : Nat) (w : World) : Calls Tryz.prog 112 #[slV 6 op a b nm vl fo (.slice ua ln uc)] w fun e w' => e = .returned (.bool (oifB 6 op a b nm vl fo ln)) ∧ Below w.heap.size w w' := by
    unfold slV
    go_enter Tryz.func112, Tryz.ntmps112
    go_wp2
    all_goals
      go_ret
      exact ⟨ret_bool (by simp [oifB, noF9, emp_iff, *]), by repeat (first | exact Below.refl _ _ | (with_reducible refine Below.setCell ?_ (by simp) _) | (with_reducible refine bplus ?_ _))⟩
set_option maxRecDepth 100000 in
set_option maxHeartbeats 2000000 in
theorem oif7_any (op a b : Int) (nm vl : ByteArray) (fo : Bool) (ua : Option Addr) (ln uc : Nat) (w : World) : Calls Tryz.prog 112 #[slV 7 op a b nm vl fo (.slice ua ln uc)] w fun e w' => e = .returned (.bool (oifB 7 op a b nm vl fo ln)) ∧ Below w.heap.size w w' := by
    unfold slV
    go_enter Tryz.func112, Tryz.ntmps112
    go_wp2
    all_goals
      go_ret
      exact ⟨ret_bool (by simp [oifB, noF9, emp_iff, *]), by repeat (first | exact Below.refl _ _ | (with_reducible refine Below.setCell ?_ (by simp) _) | (with_reducible refine bplus ?_ _))⟩
set_option maxRecDepth 100000 in
set_option maxHeartbeats 2000000 in
theorem oif8_any (op a b : Int) (nm vl : ByteArray) (fo : Bool) (ua : Option Addr) (ln uc : Nat) (w : World) : Calls Tryz.prog 112 #[slV 8 op a b nm vl fo (.slice ua ln uc)] w fun e w' => e = .returned (.bool (oifB 8 op a b nm vl fo ln)) ∧ Below w.heap.size w w' := by
    unfold slV
    go_enter Tryz.func112, Tryz.ntmps112
    go_wp2
    all_goals
      go_ret
      exact ⟨ret_bool (by simp [oifB, noF9, emp_iff, *]), by repeat (first | exact Below.refl _ _ | (with_reducible refine Below.setCell ?_ (by simp) _) | (with_reducible refine bplus ?_ _))⟩
set_option maxRecDepth 100000 in
set_option maxHeartbeats 2000000 in
theorem oif14_any (op a b : Int) (nm vl : ByteArray) (fo : Bool) (ua : Option Addr) (ln uc : Nat) (w : World) : Calls Tryz.prog 112 #[slV 14 op a b nm vl fo (.slice ua ln uc)] w fun e w' => e = .returned (.bool (oifB 14 op a b nm vl fo ln)) ∧ Below w.heap.size w w' := by
    unfold slV
    go_enter Tryz.func112, Tryz.ntmps112
    go_wp2
    all_goals
      go_ret
      exact ⟨ret_bool (by simp [oifB, noF9, emp_iff, *]), by repeat (first | exact Below.refl _ _ | (with_reducible refine Below.setCell ?_ (by simp) _) | (with_reducible refine bplus ?_ _))⟩
set_option maxRecDepth 100000 in
set_option maxHeartbeats 2000000 in
theorem oif15_any (op a b : Int) (nm vl : ByteArray) (fo : Bool) (ua : Option Addr) (ln uc : Nat) (w : World) : Calls Tryz.prog 112 #[slV 15 op a b nm vl fo (.slice ua ln uc)] w fun e w' => e = .returned (.bool (oifB 15 op a b nm vl fo ln)) ∧ Below w.heap.size w w' := by
    unfold slV
    go_enter Tryz.func112, Tryz.ntmps112
    go_wp2
    all_goals
      go_ret
      exact ⟨ret_bool (by simp [oifB, noF9, emp_iff, *]), by repeat (first | exact Below.refl _ _ | (with_reducible refine Below.setCell ?_ (by simp) _) | (with_reducible refine bplus ?_ _))⟩
set_option maxRecDepth 100000 in
set_option maxHeartbeats 2000000 in
theorem oifo_any (k op a b : Int) (nm vl : ByteArray) (fo : Bool) (ua : Option Addr) (ln uc : Nat) (w : World) (h : k ≠ 2 ∧ k ≠ 3 ∧ k ≠ 4 ∧ k ≠ 5 ∧ k ≠ 6 ∧ k ≠ 7 ∧ k ≠ 8 ∧ k ≠ 14 ∧ k ≠ 15) : Calls Tryz.prog 112 #[slV k op a b nm vl fo (.slice ua ln uc)] w fun e w' => e = .returned (.bool (oifB k op a b nm vl fo ln)) ∧ Below w.heap.size w w' := by
    unfold slV
    have E := hide (show oifB k op a b nm vl fo ln = ((bl nm).isEmpty && (noF9 op vl fo && ((ln == 0) && ((a == 0) && (b == 0))))) by
      have e1 : (decide (2 ≤ k) && decide (k ≤ 5)) = false := by rw [Bool.eq_false_iff]; intro h'; simp at h'; omega
      have e2 : (decide (6 ≤ k) && decide (k ≤ 8)) = false := by rw [Bool.eq_false_iff]; intro h'; simp at h'; omega
      have e3 : (k == 5) = false := by simp; omega
      have e4 : (k == 14) = false := by simp; omega
      have e5 : (k == 15) = false := by simp; omega
      unfold oifB
      rw [e1, e2, e3, e4, e5]
      simp)
    obtain ⟨h2, h3, h4, h5, h6, h7, h8, h14, h15⟩ := h
    have g2 : (k == 2) = false := by simpa using h2
    have g3 : (k == 3) = false := by simpa using h3
    have g4 : (k == 4) = false := by simpa using h4
    have g5 : (k == 5) = false := by simpa using h5
    have g6 : (k == 6) = false := by simpa using h6
    have g7 : (k == 7) = false := by simpa using h7
    have g8 : (k == 8) = false := by simpa using h8
    have g14 : (k == 14) = false := by simpa using h14
    have g15 : (k == 15) = false := by simpa using h15
    go_enter Tryz.func112, Tryz.ntmps112
    go_wp2
    all_goals
      go_ret
      exact ⟨ret_bool (by rw [E.out]; clear E; simp [noF9, emp_iff, *]), by repeat (first | exact Below.refl _ _ | (with_reducible refine Below.setCell ?_ (by simp) _) | (with_reducible refine bplus ?_ _))⟩
theorem oif_any (k op a b : Int) (nm vl : ByteArray) (fo : Bool) (ua : Option Addr) (ln uc : Nat) (w : World) : Calls Tryz.prog 112 #[slV k op a b nm vl fo (.slice ua ln uc)] w fun e w' => e = .returned (.bool (oifB k op a b nm vl fo ln)) ∧ Below w.heap.size w w' := by
  rcases kd_ways k with rfl | rfl | rfl | rfl | rfl | rfl | rfl | rfl | rfl | h
  · exact oif2_any op a b nm vl fo ua ln uc w
  · exact oif3_any op a b nm vl fo ua ln uc w
  · exact oif4_any op a b nm vl fo ua ln uc w
  · exact oif5_any op a b nm vl fo ua ln uc w
  · exact oif6_any op a b nm vl fo ua ln uc w
  · exact oif7_any op a b nm vl fo ua ln uc w
  · exact oif8_any op a b nm vl fo ua ln uc w
  · exact oif14_any op a b nm vl fo ua ln uc w
  · exact oif15_any op a b nm vl fo ua ln uc w
  · exact oifo_any k op a b nm vl fo ua ln uc w h
end Go.Proofs.YtmkbjcoagfnegaaGreatDoor

