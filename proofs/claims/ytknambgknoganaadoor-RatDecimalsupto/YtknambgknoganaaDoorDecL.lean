/-
  The law: any text as a number of a stylesheet.
-/
import Derived.Test.YtknambgknoganaaDoorDecK
set_option linter.unusedVariables false
set_option linter.unusedSimpArgs false
namespace Go.Proofs.YtknambgknoganaaDoor
open Go.RowKit

theorem dec_half : decV (bl ⟨#[48, 46, 53, 48]⟩) = .tuple #[ratV 1 2, .bool false, .int .i64 0] :=
  decV_some (show dec (bl ⟨#[48, 46, 53, 48]⟩) = some ((1, 2), false) by decide)
set_option maxRecDepth 100000 in
set_option maxHeartbeats 1000000 in
theorem law_decimals (s : ByteArray) (w : World) (hs : s.size ≤ 1000000000) :
    Calls Tryd.prog 3 #[.string s] w fun e w' => e = .returned (.bool true) ∧ Below w.heap.size w w' := by
  have B := hide (Below.refl w.heap.size w)
  have CP := hide fun W => decP_any s W hs
  have CR := hide fun W => decR_any s W hs
  have CH := hide fun W => decP_any ⟨#[48, 46, 53, 48]⟩ W (by decide)
  rw [dec_half] at CH
  unfold decV at CP CR
  unfold ratV at CP CR CH
  generalize dN (bl s) = n at *
  generalize dD (bl s) = d at *
  generalize dW (bl s) = h at *
  generalize dE (bl s) = x at *
  clear hs
  go_enter Tryd.func3, Tryd.ntmps3
  go_wp2_with (first
    | (go_at_call_of 4 (Value.string s); refine (CP.out _).mono ?_; rintro e w1 ⟨rfl, B1⟩; replace B := hide (bto B.out B1); clear B1)
    | (go_at_call 5; refine (CR.out _).mono ?_; rintro e w2 ⟨rfl, B1⟩; have r0 : w2.cell? ⟨w1.heap.size, 0, none⟩ = some (.int .i64 n) := (B1.cell (p := ⟨w1.heap.size, 0, none⟩) (by simp)).trans (by simp [go_sem]); have r1 : w2.cell? ⟨w1.heap.size, 1, none⟩ = some (.int .i64 d) := (B1.cell (p := ⟨w1.heap.size, 1, none⟩) (by simp)).trans (by simp [go_sem]); have z1 : w1.heap.size < w2.heap.size := (World.block_lt_of_cell? _ _ r0); replace B := hide (bto (bplus B.out _) B1); clear B1))
  refine (CH.out _).mono ?_
  rintro e w3 ⟨rfl, B1⟩
  have q0 : w3.cell? ⟨w2.heap.size, 0, none⟩ = some (.int .i64 n) := by rw [B1.cell (p := ⟨w2.heap.size, 0, none⟩) (by simp)]; simp [go_sem]
  have q1 : w3.cell? ⟨w2.heap.size, 1, none⟩ = some (.int .i64 d) := by rw [B1.cell (p := ⟨w2.heap.size, 1, none⟩) (by simp)]; simp [go_sem]
  have y0 : w3.cell? ⟨w1.heap.size, 0, none⟩ = some (.int .i64 n) := by rw [B1.cell (p := ⟨w1.heap.size, 0, none⟩) (by simp; omega)]; simp [go_sem, z1, Nat.ne_of_lt z1, r0]
  have y1 : w3.cell? ⟨w1.heap.size, 1, none⟩ = some (.int .i64 d) := by rw [B1.cell (p := ⟨w1.heap.size, 1, none⟩) (by simp; omega)]; simp [go_sem, z1, Nat.ne_of_lt z1, r1]
  have z2 : w2.heap.size < w3.heap.size := World.block_lt_of_cell? _ _ q0
  have z3 : w1.heap.size < w3.heap.size := World.block_lt_of_cell? _ _ y0
  replace B := hide (bto (bplus B.out _) B1)
  clear B1
  go_wp2
  go_ret
  exact ⟨ret_bool (by simp), bplus B.out _⟩
end Go.Proofs.YtknambgknoganaaDoor
