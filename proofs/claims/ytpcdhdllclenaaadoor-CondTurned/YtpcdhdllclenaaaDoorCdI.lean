/-
  De Morgan's laws: the law.
-/
import Derived.Test.YtpcdhdllclenaaaDoorCdG
set_option linter.unusedVariables false
set_option linter.unusedSimpArgs false
namespace Go.Proofs.YtpcdhdllclenaaaDoor.cd
open Go.RowKit

theorem t3 (x : Int) : tr x = 0 ∨ tr x = 1 ∨ tr x = 2 := by have := tr_bd x; omega
theorem tr_tr {x : Int} (h : 0 ≤ x) (k : x ≤ 2) : tr x = x := tr_in h k
theorem an_2 (x y : Int) : anN 2 [x, y] = i2 (i2 2 (tr x)) (tr y) := rfl
theorem or_2 (x y : Int) : orN 0 [x, y] = a2 (a2 0 (tr x)) (tr y) := rfl
theorem an_3 (x y z : Int) : anN 2 [x, y, z] = i2 (i2 (i2 2 (tr x)) (tr y)) (tr z) := rfl
theorem or_3 (x y z : Int) : orN 0 [x, y, z] = a2 (a2 (a2 0 (tr x)) (tr y)) (tr z) := rfl
theorem an_1 (x : Int) : anN 2 [x] = i2 2 (tr x) := rfl
theorem mo1 (x y : Int) : 2 - tr (anN 2 [x, y]) = orN 0 [2 - tr x, 2 - tr y] := by
  rw [an_2, or_2]
  rcases t3 x with h | h | h <;> rcases t3 y with g | g | g <;> rw [h, g] <;> decide
theorem mo2 (x y : Int) : 2 - tr (orN 0 [x, y]) = anN 2 [2 - tr x, 2 - tr y] := by
  rw [an_2, or_2]
  rcases t3 x with h | h | h <;> rcases t3 y with g | g | g <;> rw [h, g] <;> decide
theorem mo3 (x : Int) : 2 - tr (2 - tr x) = anN 2 [x] := by
  rw [an_1]
  rcases t3 x with h | h | h <;> rw [h] <;> decide
theorem mo4 (x y : Int) : anN 2 [y, x] = anN 2 [x, y] := by
  rw [an_2, an_2]
  rcases t3 x with h | h | h <;> rcases t3 y with g | g | g <;> rw [h, g] <;> decide
theorem mo5 (x y : Int) : orN 0 [y, x] = orN 0 [x, y] := by
  rw [or_2, or_2]
  rcases t3 x with h | h | h <;> rcases t3 y with g | g | g <;> rw [h, g] <;> decide
theorem mo6 (x y z : Int) : anN 2 [x, anN 2 [y, z]] = anN 2 [x, y, z] := by
  rw [an_3, an_2, an_2]
  rcases t3 x with h | h | h <;> rcases t3 y with g | g | g <;> rcases t3 z with k | k | k <;> rw [h, g, k] <;> decide
theorem mo7 (x y z : Int) : orN 0 [x, orN 0 [y, z]] = orN 0 [x, y, z] := by
  rw [or_3, or_2, or_2]
  rcases t3 x with h | h | h <;> rcases t3 y with g | g | g <;> rcases t3 z with k | k | k <;> rw [h, g, k] <;> decide
theorem mo8 (x y z : Int) : orN 0 [anN 2 [x, y], anN 2 [x, z]] = anN 2 [x, orN 0 [y, z]] := by
  rw [or_2, an_2, an_2, an_2, or_2]
  rcases t3 x with h | h | h <;> rcases t3 y with g | g | g <;> rcases t3 z with k | k | k <;> rw [h, g, k] <;> decide
theorem mo9 (x y z : Int) : anN 2 [orN 0 [x, y], orN 0 [x, z]] = orN 0 [x, anN 2 [y, z]] := by
  rw [an_2, or_2, or_2, or_2, an_2]
  rcases t3 x with h | h | h <;> rcases t3 y with g | g | g <;> rcases t3 z with k | k | k <;> rw [h, g, k] <;> decide
theorem and2_low (W : World) (b : Nat) (x y : Int) (T : TypeId) (hb : b = W.heap.size) : Calls Tryd.prog 9 #[.slice (some ⟨b, 0, none⟩) 2 2] (W.alloc (.cells #[.int .i64 x, .int .i64 y] T)) fun e w' => e = .returned (.int .i64 (anN 2 [x, y])) ∧ Below W.heap.size W w' := (and2_any W b x y T hb).mono (by rintro e w1 ⟨rfl, rfl⟩; exact ⟨rfl, bplus (Below.refl _ _) _⟩)
theorem or2_low (W : World) (b : Nat) (x y : Int) (T : TypeId) (hb : b = W.heap.size) : Calls Tryd.prog 11 #[.slice (some ⟨b, 0, none⟩) 2 2] (W.alloc (.cells #[.int .i64 x, .int .i64 y] T)) fun e w' => e = .returned (.int .i64 (orN 0 [x, y])) ∧ Below W.heap.size W w' := (or2_any W b x y T hb).mono (by rintro e w1 ⟨rfl, rfl⟩; exact ⟨rfl, bplus (Below.refl _ _) _⟩)
theorem and3_low (W : World) (b : Nat) (x y z : Int) (T : TypeId) (hb : b = W.heap.size) : Calls Tryd.prog 9 #[.slice (some ⟨b, 0, none⟩) 3 3] (W.alloc (.cells #[.int .i64 x, .int .i64 y, .int .i64 z] T)) fun e w' => e = .returned (.int .i64 (anN 2 [x, y, z])) ∧ Below W.heap.size W w' := (and3_any W b x y z T hb).mono (by rintro e w1 ⟨rfl, rfl⟩; exact ⟨rfl, bplus (Below.refl _ _) _⟩)
theorem or3_low (W : World) (b : Nat) (x y z : Int) (T : TypeId) (hb : b = W.heap.size) : Calls Tryd.prog 11 #[.slice (some ⟨b, 0, none⟩) 3 3] (W.alloc (.cells #[.int .i64 x, .int .i64 y, .int .i64 z] T)) fun e w' => e = .returned (.int .i64 (orN 0 [x, y, z])) ∧ Below W.heap.size W w' := (or3_any W b x y z T hb).mono (by rintro e w1 ⟨rfl, rfl⟩; exact ⟨rfl, bplus (Below.refl _ _) _⟩)
theorem and1_low (W : World) (b : Nat) (x : Int) (T : TypeId) (hb : b = W.heap.size) : Calls Tryd.prog 9 #[.slice (some ⟨b, 0, none⟩) 1 1] (W.alloc (.cells #[.int .i64 x] T)) fun e w' => e = .returned (.int .i64 (anN 2 [x])) ∧ Below W.heap.size W w' := (and1_any W b x T hb).mono (by rintro e w1 ⟨rfl, rfl⟩; exact ⟨rfl, bplus (Below.refl _ _) _⟩)
set_option maxRecDepth 100000 in
set_option maxHeartbeats 8000000 in
theorem law_morgan (x y z : Int) (w : World) (hF : FO w) :
    Calls Tryd.prog 4 #[.int .i64 x, .int .i64 y, .int .i64 z] w fun e w' => e = .returned (.bool true) ∧ Below w.heap.size w w' := by
  have CW := hide (fun (W : World) (h : Below w.heap.size w W) => awake15_any W (hF.low h))
  have A1 := hide (fun (W : World) (b : Nat) (T : TypeId) (hb : b = W.heap.size) => and2_low W b (x) (y) T hb)
  have A2 := hide (fun (W : World) (b : Nat) (T : TypeId) (hb : b = W.heap.size) => or2_low W b (x) (y) T hb)
  have A3 := hide (fun (W : World) (b : Nat) (T : TypeId) (hb : b = W.heap.size) => and2_low W b (y) (x) T hb)
  rw [mo4 x y] at A3
  have A4 := hide (fun (W : World) (b : Nat) (T : TypeId) (hb : b = W.heap.size) => or2_low W b (y) (x) T hb)
  rw [mo5 x y] at A4
  have A5 := hide (fun (W : World) (b : Nat) (T : TypeId) (hb : b = W.heap.size) => and2_low W b (y) (z) T hb)
  have A6 := hide (fun (W : World) (b : Nat) (T : TypeId) (hb : b = W.heap.size) => or2_low W b (y) (z) T hb)
  have A7 := hide (fun (W : World) (b : Nat) (T : TypeId) (hb : b = W.heap.size) => and2_low W b (x) (z) T hb)
  have A8 := hide (fun (W : World) (b : Nat) (T : TypeId) (hb : b = W.heap.size) => or2_low W b (x) (z) T hb)
  have A9 := hide (fun (W : World) (b : Nat) (T : TypeId) (hb : b = W.heap.size) => or2_low W b (2 - tr x) (2 - tr y) T hb)
  rw [← mo1] at A9
  have A10 := hide (fun (W : World) (b : Nat) (T : TypeId) (hb : b = W.heap.size) => and2_low W b (2 - tr x) (2 - tr y) T hb)
  rw [← mo2] at A10
  have A11 := hide (fun (W : World) (b : Nat) (T : TypeId) (hb : b = W.heap.size) => and2_low W b (x) (anN 2 [y, z]) T hb)
  rw [mo6] at A11
  have A12 := hide (fun (W : World) (b : Nat) (T : TypeId) (hb : b = W.heap.size) => or2_low W b (x) (orN 0 [y, z]) T hb)
  rw [mo7] at A12
  have A13 := hide (fun (W : World) (b : Nat) (T : TypeId) (hb : b = W.heap.size) => and2_low W b (x) (orN 0 [y, z]) T hb)
  have A14 := hide (fun (W : World) (b : Nat) (T : TypeId) (hb : b = W.heap.size) => or2_low W b (x) (anN 2 [y, z]) T hb)
  have A15 := hide (fun (W : World) (b : Nat) (T : TypeId) (hb : b = W.heap.size) => or2_low W b (anN 2 [x, y]) (anN 2 [x, z]) T hb)
  rw [mo8] at A15
  have A16 := hide (fun (W : World) (b : Nat) (T : TypeId) (hb : b = W.heap.size) => and2_low W b (orN 0 [x, y]) (orN 0 [x, z]) T hb)
  rw [mo9] at A16
  have A17 := hide (fun (W : World) (b : Nat) (T : TypeId) (hb : b = W.heap.size) => and3_low W b x y z T hb)
  have A18 := hide (fun (W : World) (b : Nat) (T : TypeId) (hb : b = W.heap.size) => or3_low W b x y z T hb)
  have A19 := hide (fun (W : World) (b : Nat) (T : TypeId) (hb : b = W.heap.size) => and1_low W b x T hb)
  have N1 := hide (fun (W : World) => notP_any x W)
  have N2 := hide (fun (W : World) => notP_any y W)
  have N3 := hide (fun (W : World) => notP_any (anN 2 [x, y]) W)
  have N4 := hide (fun (W : World) => notP_any (orN 0 [x, y]) W)
  have N5 := hide (fun (W : World) => notP_any (2 - tr x) W)
  rw [mo3] at N5
  have B0 := hide (Below.refl w.heap.size w)
  generalize 2 - tr (anN 2 [x, y]) = r1 at *
  generalize 2 - tr (orN 0 [x, y]) = r2 at *
  generalize 2 - tr x = nx at *
  generalize 2 - tr y = ny at *
  generalize anN 2 [x, orN 0 [y, z]] = r6 at *
  generalize orN 0 [x, anN 2 [y, z]] = r7 at *
  generalize anN 2 [x, y, z] = r4 at *
  generalize orN 0 [x, y, z] = r5 at *
  generalize anN 2 [x] = r3 at *
  generalize anN 2 [x, y] = p at *
  generalize orN 0 [x, y] = q at *
  generalize anN 2 [y, z] = s at *
  generalize orN 0 [y, z] = t at *
  generalize anN 2 [x, z] = v at *
  generalize orN 0 [x, z] = u at *
  clear hF
  go_enter Tryd.func4, Tryd.ntmps4
  go_upto_region 3 with (first
    | (go_at_call 9; with_reducible refine (A1.out _ _ _ (by simp)).mono ?_; rintro _ wl ⟨rfl, h1⟩)
    | (go_at_call 11; with_reducible refine (A2.out _ _ _ (by simp)).mono ?_; rintro _ wl ⟨rfl, h2⟩)
    | (go_at_call 11; with_reducible refine (A9.out _ _ _ (by simp)).mono ?_; rintro _ wl ⟨rfl, h9⟩)
    | (go_at_call 9; with_reducible refine (A10.out _ _ _ (by simp)).mono ?_; rintro _ wl ⟨rfl, h10⟩)
    | (go_at_call 9; with_reducible refine (A19.out _ _ _ (by simp)).mono ?_; rintro _ wl ⟨rfl, h19⟩)
    | (go_at_call 13; with_reducible refine (N1.out _).mono ?_; rintro _ wl ⟨rfl, rfl⟩)
    | (go_at_call 13; with_reducible refine (N2.out _).mono ?_; rintro _ wl ⟨rfl, rfl⟩)
    | (go_at_call 13; with_reducible refine (N3.out _).mono ?_; rintro _ wl ⟨rfl, rfl⟩)
    | (go_at_call 13; with_reducible refine (N4.out _).mono ?_; rintro _ wl ⟨rfl, rfl⟩)
    | (go_at_call 13; with_reducible refine (N5.out _).mono ?_; rintro _ wl ⟨rfl, rfl⟩))
  go_upto_region 5 with (first
    | (go_at_call 9; with_reducible refine (A1.out _ _ _ (by simp)).mono ?_; rintro _ wl ⟨rfl, h1⟩)
    | (go_at_call 11; with_reducible refine (A2.out _ _ _ (by simp)).mono ?_; rintro _ wl ⟨rfl, h2⟩)
    | (go_at_call 9; with_reducible refine (A3.out _ _ _ (by simp)).mono ?_; rintro _ wl ⟨rfl, h3⟩)
    | (go_at_call 11; with_reducible refine (A4.out _ _ _ (by simp)).mono ?_; rintro _ wl ⟨rfl, h4⟩)
    | (go_at_call 9; with_reducible refine (A5.out _ _ _ (by simp)).mono ?_; rintro _ wl ⟨rfl, h5⟩)
    | (go_at_call 11; with_reducible refine (A6.out _ _ _ (by simp)).mono ?_; rintro _ wl ⟨rfl, h6⟩)
    | (go_at_call 9; with_reducible refine (A11.out _ _ _ (by simp)).mono ?_; rintro _ wl ⟨rfl, h11⟩)
    | (go_at_call 11; with_reducible refine (A12.out _ _ _ (by simp)).mono ?_; rintro _ wl ⟨rfl, h12⟩)
    | (go_at_call 9; with_reducible refine (A17.out _ _ _ (by simp)).mono ?_; rintro _ wl ⟨rfl, h17⟩)
    | (go_at_call 11; with_reducible refine (A18.out _ _ _ (by simp)).mono ?_; rintro _ wl ⟨rfl, h18⟩))
  go_wp2_with (first
    | (go_at_call 9; with_reducible refine (A1.out _ _ _ (by simp)).mono ?_; rintro _ wl ⟨rfl, h1⟩)
    | (go_at_call 11; with_reducible refine (A2.out _ _ _ (by simp)).mono ?_; rintro _ wl ⟨rfl, h2⟩)
    | (go_at_call 9; with_reducible refine (A5.out _ _ _ (by simp)).mono ?_; rintro _ wl ⟨rfl, h5⟩)
    | (go_at_call 11; with_reducible refine (A6.out _ _ _ (by simp)).mono ?_; rintro _ wl ⟨rfl, h6⟩)
    | (go_at_call 9; with_reducible refine (A7.out _ _ _ (by simp)).mono ?_; rintro _ wl ⟨rfl, h7⟩)
    | (go_at_call 11; with_reducible refine (A8.out _ _ _ (by simp)).mono ?_; rintro _ wl ⟨rfl, h8⟩)
    | (go_at_call 9; with_reducible refine (A13.out _ _ _ (by simp)).mono ?_; rintro _ wl ⟨rfl, h13⟩)
    | (go_at_call 11; with_reducible refine (A14.out _ _ _ (by simp)).mono ?_; rintro _ wl ⟨rfl, h14⟩)
    | (go_at_call 11; with_reducible refine (A15.out _ _ _ (by simp)).mono ?_; rintro _ wl ⟨rfl, h15⟩)
    | (go_at_call 9; with_reducible refine (A16.out _ _ _ (by simp)).mono ?_; rintro _ wl ⟨rfl, h16⟩)
    | (go_at_call 15; refine (CW.out _ (by repeat (first | exact Below.refl _ _ | (with_reducible refine Below.drew ?_) | (with_reducible refine below_drewN ?_ _) | (with_reducible refine bplus ?_ _) | (refine bto ?_ (by assumption))))).mono ?_; rintro _ wl ⟨rfl, hl⟩))
  go_ret
  refine ⟨rfl, bto ?_ hl⟩
  repeat (first | exact Below.refl _ _ | (with_reducible refine Below.drew ?_) | (with_reducible refine below_drewN ?_ _) | (with_reducible refine bplus ?_ _) | (refine bto ?_ (by assumption)))
end Go.Proofs.YtpcdhdllclenaaaDoor.cd
