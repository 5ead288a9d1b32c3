/-
  The law of numbers.
-/
import Derived.Test.YticgcokhdipomaaGreatDoorLNuG
set_option linter.unusedVariables false
set_option linter.unusedSimpArgs false
namespace Go.Proofs.YticgcokhdipomaaGreatDoor.nm
open Go.RowKit cc

set_option maxRecDepth 100000 in
set_option maxHeartbeats 8000000 in
theorem law_numbers (x : Ex) (u : Value) (w : World) (hN : Nth w) (hx : x.Ok) (hu : EM w u x.ks) : Calls Tryz.prog 3 #[exV x u] w fun e w' => e = .returned (.bool true) ∧ Below w.heap.size w w' := by
  have OX : OkX x := by
    obtain ⟨k, n, d, q, ks⟩ := x
    exact .mk k n d q ks hx (em_okx hu)
  have C1 := hide (fun (W : World) (h : Below w.heap.size w W) => numberP_any x u W OX (hu.low h))
  have C2 := hide (fun (W : World) (h : Below w.heap.size w W) => figure_any x u W OX (hu.low h))
  have CA := hide (fun (W : World) (h : Below w.heap.size w W) => awakeN_any W (hN.low h))
  obtain ⟨a, c, rfl, hl9⟩ := hu.shape
  have KE := hide (fun (W : World) (h : Below (w.alloc (.cells #[.int .i64 x.k, .int .i64 x.n, .int .i64 x.d, .int .i64 x.u, .slice a x.ks.length c] 26)).heap.size (w.alloc (.cells #[.int .i64 x.k, .int .i64 x.n, .int .i64 x.d, .int .i64 x.u, .slice a x.ks.length c] 26)) W) => bxk_5m (far_blkm (heap_alloc_new w (.cells #[.int .i64 x.k, .int .i64 x.n, .int .i64 x.d, .int .i64 x.u, .slice a x.ks.length c] 26)) h))
  have KS := hide (fun (W : World) (h : Below (w.alloc (.cells #[.int .i64 x.k, .int .i64 x.n, .int .i64 x.d, .int .i64 x.u, .slice a x.ks.length c] 26)).heap.size (w.alloc (.cells #[.int .i64 x.k, .int .i64 x.n, .int .i64 x.d, .int .i64 x.u, .slice a x.ks.length c] 26)) W) => Nat.lt_of_lt_of_le (show w.heap.size < (w.alloc (.cells #[.int .i64 x.k, .int .i64 x.n, .int .i64 x.d, .int .i64 x.u, .slice a x.ks.length c] 26)).heap.size by simp) h.size)
  have B0 := hide (bplus (Below.refl w.heap.size w) (.cells #[.int .i64 x.k, .int .i64 x.n, .int .i64 x.d, .int .i64 x.u, .slice a x.ks.length c] 26))
  unfold exV nuV at *
  unfold ratV at *
  generalize x.k = xk at *
  generalize x.n = xn at *
  generalize x.d = xd at *
  generalize x.u = xu at *
  generalize x.ks.length = xl at *
  generalize nuT x = r at *
  generalize nuX x = q at *
  clear hu hx OX hN
  go_enter Tryz.func3, Tryz.ntmps3
  go_wp2_with (first
    | (go_at_call 6; refine (C1.out _ B0.out).mono ?_; rintro e w1 ⟨rfl, B1⟩; obtain ⟨e0, e1, e2, e3, e4⟩ := KE.out w1 B1; have s1 := KS.out w1 B1; have s2 : w.heap.size ≠ w1.heap.size := (by omega); replace B1 := hide (bto B0.out B1); clear C1)
    | (go_at_call 7; refine (C2.out _ (bplus B1.out _)).mono ?_; rintro e w2 ⟨rfl, B2⟩; have s3 : w1.heap.size < w2.heap.size := Nat.lt_of_lt_of_le (by simp) B2.size; have s4 : w1.heap.size ≠ w2.heap.size := (by omega); have q0 := (B2.cell (p := ⟨w1.heap.size, 0, none⟩) (by simp)); have q1 := (B2.cell (p := ⟨w1.heap.size, 1, none⟩) (by simp)); simp at q0 q1; replace B2 := hide (bto (bplus B1.out _) B2); clear C2)
    | (go_at_call 8; refine (CA.out _ (bplus B2.out _)).mono ?_; rintro e w3 ⟨rfl, B3⟩; replace B3 := hide (bto (bplus B2.out _) B3); clear CA))
  go_ret
  exact ⟨rfl, B3.out⟩
end Go.Proofs.YticgcokhdipomaaGreatDoor.nm
