/-
  The characters of some bytes, by the reference; the law of both.
-/
import Derived.Test.YtklibbahbclekabUtfG
set_option linter.unusedVariables false
set_option linter.unusedSimpArgs false
namespace Go.Proofs.Ytklibbahbclekab
open Go.RowKit

theorem raw_four : raw [65, 195, 164, 195] = [65, 228, 65533] := by
  rw [raw_cut (by simp)]
  show (65 : Int) :: raw [195, 164, 195] = _
  rw [raw_cut (by simp)]
  show (65 : Int) :: 228 :: raw [195] = _
  rw [raw_cut (by simp)]
  show (65 : Int) :: 228 :: 65533 :: raw [] = _
  rw [raw_nil]
theorem By.four : By [65, 195, 164, 195] := by intro x hx; simp at hx; omega
theorem eqB_refl (a : List Int) : eqB a a = true := by simp [eqB]
theorem bto {w w1 w2 : World} (h : Below w.heap.size w w1) (k : Below w1.heap.size w1 w2) : Below w.heap.size w w2 := h.trans (k.mono h.size)
theorem bplus {w w1 : World} (h : Below w.heap.size w w1) (o : Obj) : Below w.heap.size w (w1.alloc o) := h.alloc h.size o
set_option maxHeartbeats 1000000 in
theorem awake_any (w : World) : Calls Try.prog 5 #[] w fun e w' => e = .returned (.bool true) ∧ Below w.heap.size w w' := by
  have h2 : Nums .u8 (w.alloc (.cells #[.int .u8 65, .int .u8 195, .int .u8 164, .int .u8 195] 5)) (.slice (some ⟨w.heap.size, 0, none⟩) 4 4) [65, 195, 164, 195] := Nums.lit w 5 [65, 195, 164, 195] 4 rfl (by omega) (by omega)
  have h3 : ∀ u : World, Nums .i32 (u.alloc (.cells #[.int .i32 65, .int .i32 228, .int .i32 65533] 21)) (.slice (some ⟨u.heap.size, 0, none⟩) 3 3) [65, 228, 65533] := fun u => Nums.lit u 21 [65, 228, 65533] 3 rfl (by omega) (by omega)
  have H2 := hide h2
  have H3 := hide h3
  clear h2 h3
  go_enter Try.func5, Try.ntmps5
  go_wp2_with (first
    | (go_at_call 10; refine (rawP_any [65, 195, 164, 195] _ _ By.four H2.out (by decide)).mono ?_; rintro e w1 ⟨u, rfl, N, B⟩; rw [raw_four] at N; replace N := hide N; replace B := hide B)
    | (go_at_call 6; refine (same_any [65, 228, 65533] [65, 228, 65533] _ _ _ (N.out.below ((Below.refl _ _).alloc (Nat.le_refl _) _)) (H3.out _)).mono ?_; rintro e w2 ⟨rfl, B2⟩; rw [eqB_refl]))
  go_ret
  exact ⟨rfl, bto (bplus (bto (bplus (Below.refl _ _) _) B.out) _) B2⟩
end Go.Proofs.Ytklibbahbclekab
