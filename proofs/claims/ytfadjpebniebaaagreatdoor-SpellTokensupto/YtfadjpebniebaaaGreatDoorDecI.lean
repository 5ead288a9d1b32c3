/-
  A number of a stylesheet, by the program: the whole.
-/
import Derived.Test.YtfadjpebniebaaaGreatDoorDecH
import Derived.Deep.RegionHeld3
set_option linter.unusedVariables false
set_option linter.unusedSimpArgs false
namespace Go.Proofs.YtfadjpebniebaaaGreatDoor
open Go.RowKit

/-- What is told of a text as a number. -/
def dN (S : List Int) : Int := ((dec S).getD ((0, 0), false)).1.1
def dD (S : List Int) : Int := ((dec S).getD ((0, 0), false)).1.2
def dW (S : List Int) : Bool := ((dec S).getD ((0, 0), false)).2
def dE (S : List Int) : Int := if (dec S).isSome then 0 else 3
def decV (S : List Int) : Value := .tuple #[ratV (dN S) (dD S), .bool (dW S), .int .i64 (dE S)]
theorem decV_none {S : List Int} (h : dec S = none) : decV S = .tuple #[ratV 0 0, .bool false, .int .i64 3] := by unfold decV dN dD dW dE; rw [h]; rfl
theorem decV_some {S : List Int} {r : Int × Int} {b : Bool} (h : dec S = some (r, b)) : decV S = .tuple #[ratV r.1 r.2, .bool b, .int .i64 0] := by unfold decV dN dD dW dE; rw [h]; rfl
set_option maxRecDepth 100000 in
set_option maxHeartbeats 1000000 in
theorem decP_any (s : ByteArray) (w : World) (hs : s.size ≤ 1000000000) :
    Calls Tryz.prog 122 #[.string s] w fun e w' => e = .returned (decV (bl s)) ∧ Below w.heap.size w w' := by
  go_enter Tryz.func122, Tryz.ntmps122
  go_wp2_with fail
  refine (takeApart_any s _ (by omega)).mono ?_
  rintro e w1 ⟨b, x, y, i, h, ok, rfl, hta, B1⟩
  have z1 : w.heap.size < w1.heap.size := by have := B1.size; simp at this; omega
  have m0 : w1.cell? ⟨w.heap.size, 0, none⟩ = some (.int .i64 0) := by rw [B1.cell (p := ⟨w.heap.size, 0, none⟩) (by simp)]; simp [go_sem]
  have m1 : w1.cell? ⟨w.heap.size, 1, none⟩ = some (.int .i64 0) := by rw [B1.cell (p := ⟨w.heap.size, 1, none⟩) (by simp)]; simp [go_sem]
  have f0 : w1.frozen? ⟨w.heap.size, 0, none⟩ = false := by rw [B1.frozen (p := ⟨w.heap.size, 0, none⟩) (by simp)]; simp [go_sem]
  have f1 : w1.frozen? ⟨w.heap.size, 1, none⟩ = false := by rw [B1.frozen (p := ⟨w.heap.size, 1, none⟩) (by simp)]; simp [go_sem]
  replace B1 := hide (show Below w.heap.size w w1 from bto (bplus (Below.refl _ _) _) B1)
  rcases hta with ⟨rfl, hn⟩ | ⟨rfl, E, hE, e1, e2, hl, hd, hv⟩
  · have V := hide (decV_none hn)
    clear hn
    unfold numV
    go_wp2
    refine bodyPost_ret (v := .tuple #[.agg #[.int .i64 0, .int .i64 0], .bool false, .int .i64 3]) (by simp [results, Tryz.results122, go_sem, m0, m1, z1, Nat.ne_of_lt z1, Nat.ne_of_gt z1]) rfl ?_
    exact ⟨by rw [V.out]; rfl, by repeat (first | (with_reducible exact B1.out) | (with_reducible refine Below.setCell ?_ (by simp) _) | (with_reducible refine bplus ?_ _))⟩
  · rw [bl_len] at hl
    have hl2 : (bl x ++ bl y).length ≤ 1000000000 := by omega
    have hyl : (bl y).length ≤ 1000000000 := by rw [List.length_append] at hl2; omega
    rw [← val_near hd hl2 hyl hE] at hv
    have V := hide (decV_some hv)
    have C := hide fun W => value_any b h x y i W hl2 ⟨e1, e2⟩ hd
    clear hv hl hl2 hyl hd hE e1 e2
    unfold numV
    go_wp2
    have HB := hide (show Below w1.heap.size w1 (w1.alloc (.cells #[.bool b, .string x, .string y, .int .i64 i, .bool h] 141)) from bplus (Below.refl _ _) _)
    have k4 : (w1.alloc (.cells #[.bool b, .string x, .string y, .int .i64 i, .bool h] 141)).cell? ⟨w1.heap.size, 4, none⟩ = some (.bool h) := by simp [go_sem]
    have Z := hide z1
    have K4 := hide k4
    clear k4
    go_region_with
      (go_at_call 164; refine (C.out _).mono ?_; rintro e2 w2 ⟨rfl, B2⟩; unfold ratV; have B3 := hide (show Below w1.heap.size w1 w2 from (by first | (with_reducible exact bto HB.out B2) | (with_reducible exact bto HB.out.drew B2) | (with_reducible exact bto HB.out.drew.drew B2))); replace m0 := (B3.out.cell (p := ⟨w.heap.size, 0, none⟩) Z.out).trans m0; replace m1 := (B3.out.cell (p := ⟨w.heap.size, 1, none⟩) Z.out).trans m1; replace f0 := (B3.out.frozen (p := ⟨w.heap.size, 0, none⟩) Z.out).trans f0; replace f1 := (B3.out.frozen (p := ⟨w.heap.size, 1, none⟩) Z.out).trans f1; have k4 := (B2.cell (p := ⟨w1.heap.size, 4, none⟩) (by simp)).trans K4.out; have z2 : w.heap.size < w2.heap.size := Nat.lt_of_lt_of_le Z.out B3.out.size; clear B2)
    all_goals go_wp2
    all_goals
      refine bodyPost_ret (v := .tuple #[.agg #[.int .i64 (valOf b (bl x ++ bl y) (i - (bl y).length)).1, .int .i64 (valOf b (bl x ++ bl y) (i - (bl y).length)).2], .bool h, .int .i64 0]) (by simp [results, Tryz.results122, go_sem, m0, m1]) rfl ?_
      exact ⟨by rw [V.out]; rfl, by repeat (first | (with_reducible exact bto B1.out B3.out) | (with_reducible refine Below.setCell ?_ (by simp) _) | (with_reducible refine bplus ?_ _) | (with_reducible refine Below.drew ?_) | (with_reducible refine below_drewN ?_ _))⟩
end Go.Proofs.YtfadjpebniebaaaGreatDoor
