/-
  What every program must know of conditions.
-/
import Derived.Test.YtpcdhdllclenaaaDoorCdF
set_option linter.unusedVariables false
set_option linter.unusedSimpArgs false
namespace Go.Proofs.YtpcdhdllclenaaaDoor.cd
open Go.RowKit

def zE : Ex := .mk 0 0 0 0 []
def z0 : Lf := ⟨0, 0, ⟨#[]⟩, 0, zE, ⟨#[]⟩, ⟨#[]⟩, false⟩
def cT : Cn := .mk 4 ⟨1, 2, ⟨#[]⟩, 0, zE, ⟨#[]⟩, ⟨#[]⟩, false⟩ []
def cN : Cn := .mk 3 z0 [cT]
theorem cN_may : cnM cN 340 = true := by decide +kernel
theorem nums2 (w : World) (x y : Int) (T : TypeId) : NuW (w.alloc (.cells #[.int .i64 x, .int .i64 y] T)) (.slice (some ⟨w.heap.size, 0, none⟩) 2 2) [x, y] :=
  .inr ⟨_, 0, 2, 2, rfl, rfl, by omega, by simp, by omega, by omega, fun i hi => by
    have h := heap_alloc_new w (.cells #[.int .i64 x, .int .i64 y] T)
    rw [row_blk h]
    rcases (show i = 0 ∨ i = 1 by omega) with rfl | rfl <;> rfl⟩
theorem nums3 (w : World) (x y z : Int) (T : TypeId) : NuW (w.alloc (.cells #[.int .i64 x, .int .i64 y, .int .i64 z] T)) (.slice (some ⟨w.heap.size, 0, none⟩) 3 3) [x, y, z] :=
  .inr ⟨_, 0, 3, 3, rfl, rfl, by omega, by simp, by omega, by omega, fun i hi => by
    have h := heap_alloc_new w (.cells #[.int .i64 x, .int .i64 y, .int .i64 z] T)
    rw [row_blk h]
    rcases (show i = 0 ∨ i = 1 ∨ i = 2 by omega) with rfl | rfl | rfl <;> rfl⟩
theorem nums1 (w : World) (x : Int) (T : TypeId) : NuW (w.alloc (.cells #[.int .i64 x] T)) (.slice (some ⟨w.heap.size, 0, none⟩) 1 1) [x] :=
  .inr ⟨_, 0, 1, 1, rfl, rfl, by omega, by simp, by omega, by omega, fun i hi => by
    have h := heap_alloc_new w (.cells #[.int .i64 x] T)
    rw [row_blk h]
    rcases (show i = 0 by omega) with rfl; rfl⟩
/-- The least of two, of three, of one, that the call is told. -/
theorem and2_any (W : World) (b : Nat) (x y : Int) (T : TypeId) (hb : b = W.heap.size) : Calls Tryd.prog 9 #[.slice (some ⟨b, 0, none⟩) 2 2] (W.alloc (.cells #[.int .i64 x, .int .i64 y] T)) fun e w' => e = .returned (.int .i64 (anN 2 [x, y])) ∧ w' = W.alloc (.cells #[.int .i64 x, .int .i64 y] T) := by subst hb; exact andP_any _ _ _ (nums2 W x y T)
theorem or2_any (W : World) (b : Nat) (x y : Int) (T : TypeId) (hb : b = W.heap.size) : Calls Tryd.prog 11 #[.slice (some ⟨b, 0, none⟩) 2 2] (W.alloc (.cells #[.int .i64 x, .int .i64 y] T)) fun e w' => e = .returned (.int .i64 (orN 0 [x, y])) ∧ w' = W.alloc (.cells #[.int .i64 x, .int .i64 y] T) := by subst hb; exact orP_any _ _ _ (nums2 W x y T)
theorem and3_any (W : World) (b : Nat) (x y z : Int) (T : TypeId) (hb : b = W.heap.size) : Calls Tryd.prog 9 #[.slice (some ⟨b, 0, none⟩) 3 3] (W.alloc (.cells #[.int .i64 x, .int .i64 y, .int .i64 z] T)) fun e w' => e = .returned (.int .i64 (anN 2 [x, y, z])) ∧ w' = W.alloc (.cells #[.int .i64 x, .int .i64 y, .int .i64 z] T) := by subst hb; exact andP_any _ _ _ (nums3 W x y z T)
theorem or3_any (W : World) (b : Nat) (x y z : Int) (T : TypeId) (hb : b = W.heap.size) : Calls Tryd.prog 11 #[.slice (some ⟨b, 0, none⟩) 3 3] (W.alloc (.cells #[.int .i64 x, .int .i64 y, .int .i64 z] T)) fun e w' => e = .returned (.int .i64 (orN 0 [x, y, z])) ∧ w' = W.alloc (.cells #[.int .i64 x, .int .i64 y, .int .i64 z] T) := by subst hb; exact orP_any _ _ _ (nums3 W x y z T)
theorem and1_any (W : World) (b : Nat) (x : Int) (T : TypeId) (hb : b = W.heap.size) : Calls Tryd.prog 9 #[.slice (some ⟨b, 0, none⟩) 1 1] (W.alloc (.cells #[.int .i64 x] T)) fun e w' => e = .returned (.int .i64 (anN 2 [x])) ∧ w' = W.alloc (.cells #[.int .i64 x] T) := by subst hb; exact andP_any _ _ _ (nums1 W x T)
theorem cT_mem {w : World} {b : Nat} {T : TypeId} (h : w.heap[b]? = some (.cells #[.int .i64 4, .slice none 0 0, .int .i64 1, .int .i64 2, .string ⟨#[]⟩, .int .i64 0, .int .i64 0, .int .i64 0, .int .i64 0, .int .i64 0, .slice none 0 0, .string ⟨#[]⟩, .string ⟨#[]⟩, .bool false] T)) : CM w (.slice (some ⟨b, 0, none⟩) 1 1) [cT] := by
  have hb : b < w.heap.size := (Array.getElem?_eq_some_iff.1 h).1
  refine .row b 0 1 [cT] (fun _ => .slice none 0 0) (fun _ => .slice none 0 0) (by simp) hb (by simp) (by simp) (by omega) (fun i v hi => ?_) (fun i v hi => ?_) (fun i v hi => ?_) (fun i v hi => ?_)
  all_goals
    have hi0 : i = 0 := by have := (List.getElem?_eq_some_iff.1 hi).1; simp at this; omega
    subst hi0
    cases hi
  · exact ⟨⟨by decide, by decide⟩, ⟨by decide, by decide⟩, ⟨by decide, by decide⟩, ⟨by decide, by decide⟩, ⟨by decide, by decide⟩, ⟨by decide, by decide⟩, ⟨by decide, by decide⟩, ⟨by decide, by decide⟩⟩
  · exact ⟨by rw [row_blk h]; rfl, by rw [row_blk h]; rfl, by rw [row_blk h]; rfl, by rw [row_blk h]; rfl, by rw [row_blk h]; rfl, by rw [row_blk h]; rfl, by rw [row_blk h]; rfl, by rw [row_blk h]; rfl, by rw [row_blk h]; rfl, by rw [row_blk h]; rfl, by rw [row_blk h]; rfl, by rw [row_blk h]; rfl, by rw [row_blk h]; rfl, by rw [row_blk h]; rfl⟩
  · exact .nil _ _
  · exact .nil _ _
theorem cN_ok : cN.Ok := ⟨⟨by decide, by decide⟩, ⟨by decide, by decide⟩, ⟨by decide, by decide⟩, ⟨by decide, by decide⟩, ⟨by decide, by decide⟩, ⟨by decide, by decide⟩, ⟨by decide, by decide⟩, ⟨by decide, by decide⟩⟩
theorem cN_any {w0 : World} {b : Nat} {T : TypeId} (h : w0.heap[b]? = some (.cells #[.int .i64 4, .slice none 0 0, .int .i64 1, .int .i64 2, .string ⟨#[]⟩, .int .i64 0, .int .i64 0, .int .i64 0, .int .i64 0, .int .i64 0, .slice none 0 0, .string ⟨#[]⟩, .string ⟨#[]⟩, .bool false] T)) (hF : FO w0) (W : World) (hb : Below w0.heap.size w0 W) :
    Calls Tryd.prog 17 #[.agg #[.int .i64 3, .slice (some ⟨b, 0, none⟩) 1 1, .int .i64 0, .int .i64 0, .string ⟨#[]⟩, .int .i64 0, .int .i64 0, .int .i64 0, .int .i64 0, .int .i64 0, .slice none 0 0, .string ⟨#[]⟩, .string ⟨#[]⟩, .bool false]] W fun e w' => e = .returned (.bool true) ∧ Below W.heap.size W w' := by
  have C := condMay_any cN (.slice (some ⟨b, 0, none⟩) 1 1) (.slice none 0 0) W cN_ok ((cT_mem h).low hb) (EM.nil none 0) (hF.low hb)
  rw [cN_may] at C
  exact C
set_option maxRecDepth 100000 in
set_option maxHeartbeats 4000000 in
theorem awake15_any (w : World) (hF : FO w) : Calls Tryd.prog 15 #[] w fun e w' => e = .returned (.bool true) ∧ Below w.heap.size w w' := by
  obtain ⟨w0, hw0⟩ : ∃ w0, (w.alloc (.cells #[.int .i64 4, .slice none 0 0, .int .i64 1, .int .i64 2, .string ⟨#[]⟩, .int .i64 0, .int .i64 0, .int .i64 0, .int .i64 0, .int .i64 0, .slice none 0 0, .string ⟨#[]⟩, .string ⟨#[]⟩, .bool false] 39)).alloc (.cells #[.int .i64 3, .slice (some ⟨w.heap.size, 0, none⟩) 1 1, .int .i64 0, .int .i64 0, .string ⟨#[]⟩, .int .i64 0, .int .i64 0, .int .i64 0, .int .i64 0, .int .i64 0, .slice none 0 0, .string ⟨#[]⟩, .string ⟨#[]⟩, .bool false] 39) = w0 := ⟨_, rfl⟩
  have S0 : w0.heap.size = w.heap.size + 2 := by rw [← hw0]; simp
  have B0 : Below w.heap.size w w0 := by rw [← hw0]; exact bplus (bplus (Below.refl _ _) _) _
  have P0 : w0.heap[w.heap.size]? = some (.cells #[.int .i64 4, .slice none 0 0, .int .i64 1, .int .i64 2, .string ⟨#[]⟩, .int .i64 0, .int .i64 0, .int .i64 0, .int .i64 0, .int .i64 0, .slice none 0 0, .string ⟨#[]⟩, .string ⟨#[]⟩, .bool false] 39) := by
    rw [← hw0]
    have h := heap_alloc_new w (.cells #[.int .i64 4, .slice none 0 0, .int .i64 1, .int .i64 2, .string ⟨#[]⟩, .int .i64 0, .int .i64 0, .int .i64 0, .int .i64 0, .int .i64 0, .slice none 0 0, .string ⟨#[]⟩, .string ⟨#[]⟩, .bool false] 39)
    exact ((bplus (Below.refl _ _) _).block _ (by simp)).trans h
  have P1 : w0.heap[w.heap.size + 1]? = some (.cells #[.int .i64 3, .slice (some ⟨w.heap.size, 0, none⟩) 1 1, .int .i64 0, .int .i64 0, .string ⟨#[]⟩, .int .i64 0, .int .i64 0, .int .i64 0, .int .i64 0, .int .i64 0, .slice none 0 0, .string ⟨#[]⟩, .string ⟨#[]⟩, .bool false] 39) := by
    rw [← hw0]
    have h := heap_alloc_new (w.alloc (.cells #[.int .i64 4, .slice none 0 0, .int .i64 1, .int .i64 2, .string ⟨#[]⟩, .int .i64 0, .int .i64 0, .int .i64 0, .int .i64 0, .int .i64 0, .slice none 0 0, .string ⟨#[]⟩, .string ⟨#[]⟩, .bool false] 39)) (.cells #[.int .i64 3, .slice (some ⟨w.heap.size, 0, none⟩) 1 1, .int .i64 0, .int .i64 0, .string ⟨#[]⟩, .int .i64 0, .int .i64 0, .int .i64 0, .int .i64 0, .int .i64 0, .slice none 0 0, .string ⟨#[]⟩, .string ⟨#[]⟩, .bool false] 39)
    simpa using h
  have CX := hide (fun (W : World) (h : Below w0.heap.size w0 W) => cN_any P0 (hF.low B0) W h)
  have HB0 := hide B0
  have HW0 := hide hw0
  have C1 := hide (fun (W : World) (b : Nat) (T : TypeId) (hb : b = W.heap.size) => and2_any W b 2 1 T hb)
  have C2 := hide (fun (W : World) (b : Nat) (T : TypeId) (hb : b = W.heap.size) => or2_any W b 0 2 T hb)
  rw [show anN 2 [2, 1] = 1 by decide] at C1
  rw [show orN 0 [0, 2] = 2 by decide] at C2
  have KH := hide (fun (W : World) (h : Below w0.heap.size w0 W) => keep14 h P1)
  have hs0 := hide S0
  have nb1 : w.heap.size + 1 ≠ w0.heap.size := by omega
  have nb2 : w.heap.size + 1 ≠ w0.heap.size + 1 := by omega
  obtain ⟨y0, y1, y2, y3, y4, y5, y6, y7, y8, y9, ya, yb, yc, yd⟩ := keep14 (Below.refl _ _) P1
  clear B0 hw0 hF P0 P1 S0
  go_enter Tryd.func15, Tryd.ntmps15
  go_upto_region 2 with fail
  rw [HW0.out]
  go_wp2_with (first
    | (go_at_call 9; refine (C1.out _ _ _ (by simp)).mono ?_; rintro _ wl ⟨rfl, rfl⟩)
    | (go_at_call 11; refine (C2.out _ _ _ (by simp)).mono ?_; rintro _ wl ⟨rfl, rfl⟩; obtain ⟨v0, v1, v2, v3, v4, v5, v6, v7, v8, v9, va, vb, vc, vd⟩ := KH.out ((w0.alloc (.cells #[.int .i64 2, .int .i64 1] 3)).alloc (.cells #[.int .i64 0, .int .i64 2] 3)) (bplus (bplus (Below.refl _ _) _) _))
    | (go_at_call 17; refine (CX.out _ (by repeat (first | exact Below.refl _ _ | (with_reducible refine bplus ?_ _)))).mono ?_; rintro _ wl ⟨rfl, hl⟩))
  go_ret
  refine ⟨rfl, bto HB0.out (bto ?_ hl)⟩
  repeat (first | exact Below.refl _ _ | (with_reducible refine bplus ?_ _))
end Go.Proofs.YtpcdhdllclenaaaDoor.cd
