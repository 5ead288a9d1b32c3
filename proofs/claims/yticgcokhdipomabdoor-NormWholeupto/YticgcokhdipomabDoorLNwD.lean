/-
  The law of whole small numbers.
-/
import Derived.Test.YticgcokhdipomabDoorLNwC
set_option linter.unusedVariables false
set_option linter.unusedSimpArgs false
namespace Go.Proofs.YticgcokhdipomabDoor.nm
open Go.RowKit cc

set_option maxRecDepth 100000 in
set_option maxHeartbeats 8000000 in
theorem law_wholeN (x : Ex) (u : Value) (w : World) (hN : Nth w) (hx : x.Ok) (hu : EM w u x.ks) (hz : szE x ≤ 1048576) : Calls Tryd.prog 6 #[exV x u] w fun e w' => e = .returned (.bool true) ∧ Below w.heap.size w w' := by
  have OX : OkX x := by
    obtain ⟨k, n, d, q, ks⟩ := x
    exact .mk k n d q ks hx (em_okx hu)
  have C1 := hide (fun (W : World) (h : Below w.heap.size w W) => few_all 1048576 (by decide) x 0 u W hz OX (by decide) (hu.low h))
  have C2 := hide (fun (W : World) (h : Below w.heap.size w W) => numberP_any x u W OX (hu.low h))
  have CA := hide (fun (W : World) (h : Below w.heap.size w W) => awakeN_any W (hN.low h))
  have NC := nu_cases x
  have FW := hide (fun (h1 : exM x 340 = true) (h2 : kdE x = 1) (h3 : (fwE x 0).2 = true) (h4 : (fwE x 0).1 ≤ 6) => (few_wh z0R (szE x) x 340 0 (Nat.le_refl _) h1 h2 h3).2 h4)
  have FL := fw_le (szE x) x 0 (Nat.le_refl _)
  have FB : (fwE x 0).1 ≤ 1048576 := Nat.le_trans FL hz
  clear FL
  obtain ⟨a, c, rfl, hl9⟩ := hu.shape
  have KE := hide (fun (W : World) (h : Below (w.alloc (.cells #[.int .i64 x.k, .int .i64 x.n, .int .i64 x.d, .int .i64 x.u, .slice a x.ks.length c] 26)).heap.size (w.alloc (.cells #[.int .i64 x.k, .int .i64 x.n, .int .i64 x.d, .int .i64 x.u, .slice a x.ks.length c] 26)) W) => bxk_5m (far_blkm (heap_alloc_new w (.cells #[.int .i64 x.k, .int .i64 x.n, .int .i64 x.d, .int .i64 x.u, .slice a x.ks.length c] 26)) h))
  have KS := hide (fun (W : World) (h : Below (w.alloc (.cells #[.int .i64 x.k, .int .i64 x.n, .int .i64 x.d, .int .i64 x.u, .slice a x.ks.length c] 26)).heap.size (w.alloc (.cells #[.int .i64 x.k, .int .i64 x.n, .int .i64 x.d, .int .i64 x.u, .slice a x.ks.length c] 26)) W) => Nat.lt_of_lt_of_le (show w.heap.size < (w.alloc (.cells #[.int .i64 x.k, .int .i64 x.n, .int .i64 x.d, .int .i64 x.u, .slice a x.ks.length c] 26)).heap.size by simp) h.size)
  have B0 := hide (bplus (Below.refl w.heap.size w) (.cells #[.int .i64 x.k, .int .i64 x.n, .int .i64 x.d, .int .i64 x.u, .slice a x.ks.length c] 26))
  obtain ⟨fc, hfc⟩ : ∃ q, (fwE x 0).1 = q := ⟨_, rfl⟩
  obtain ⟨fb, hfb⟩ : ∃ q, (fwE x 0).2 = q := ⟨_, rfl⟩
  rw [hfc] at C1 FW FB
  rw [hfb] at C1 FW
  rw [show ((0 : Nat) : Int) = 0 from rfl] at C1
  unfold exV nuV at *
  unfold ratV at *
  generalize nuT x = r at *
  generalize nuX x = q at *
  generalize rkE z0R x = rr at *
  generalize x.k = xk at *
  generalize x.n = xn at *
  generalize x.d = xd at *
  generalize x.u = xu at *
  generalize x.ks.length = xl at *
  clear hu hx OX hN hz hfc hfb
  cases fb
  · clear FW NC
    go_enter Tryd.func6, Tryd.ntmps6
    go_wp2_with (first
      | (go_at_call 16; refine (C1.out _ B0.out).mono ?_; rintro e w1 ⟨rfl, B1⟩; obtain ⟨e0, e1, e2, e3, e4⟩ := KE.out w1 B1; have s1 := KS.out w1 B1; have s2 : w.heap.size ≠ w1.heap.size := (by omega); replace B1 := hide (bto B0.out B1); clear C1)
      | (go_at_call 17; refine (C2.out _ B1.out).mono ?_; rintro e w2 ⟨rfl, B2⟩; replace B2 := hide (bto B1.out B2); clear C2)
      | (go_at_call 9; refine (CA.out _ (bplus B2.out _)).mono ?_; rintro e w3 ⟨rfl, B3⟩; replace B3 := hide (bto (bplus B2.out _) B3); clear CA))
    go_ret
    exact ⟨rfl, B3.out⟩
  by_cases h6 : fc ≤ 6
  case neg =>
    have g6 : (6 : Int) < fc := by omega
    clear FW NC h6
    go_enter Tryd.func6, Tryd.ntmps6
    go_wp2_with (first
      | (go_at_call 16; refine (C1.out _ B0.out).mono ?_; rintro e w1 ⟨rfl, B1⟩; obtain ⟨e0, e1, e2, e3, e4⟩ := KE.out w1 B1; have s1 := KS.out w1 B1; have s2 : w.heap.size ≠ w1.heap.size := (by omega); replace B1 := hide (bto B0.out B1); clear C1)
      | (go_at_call 17; refine (C2.out _ B1.out).mono ?_; rintro e w2 ⟨rfl, B2⟩; replace B2 := hide (bto B1.out B2); clear C2)
      | (go_at_call 9; refine (CA.out _ (bplus B2.out _)).mono ?_; rintro e w3 ⟨rfl, B3⟩; replace B3 := hide (bto (bplus B2.out _) B3); clear CA))
    go_ret
    exact ⟨rfl, B3.out⟩
  have g6 : ¬ (6 : Int) < fc := by omega
  rcases NC with ⟨h1, h2, h3, h4⟩ | ⟨h1, h2⟩
  · obtain ⟨z, hz, -⟩ := FW.out h3 h4 rfl h6
    subst h1 h2 hz
    clear FW h3 h4
    go_enter Tryd.func6, Tryd.ntmps6
    go_wp2_with (first
      | (go_at_call 16; refine (C1.out _ B0.out).mono ?_; rintro e w1 ⟨rfl, B1⟩; obtain ⟨e0, e1, e2, e3, e4⟩ := KE.out w1 B1; have s1 := KS.out w1 B1; have s2 : w.heap.size ≠ w1.heap.size := (by omega); replace B1 := hide (bto B0.out B1); clear C1)
      | (go_at_call 17; refine (C2.out _ B1.out).mono ?_; rintro e w2 ⟨rfl, B2⟩; replace B2 := hide (bto B1.out B2); clear C2)
      | (go_at_call 9; refine (CA.out _ (bplus B2.out _)).mono ?_; rintro e w3 ⟨rfl, B3⟩; replace B3 := hide (bto (bplus B2.out _) B3); clear CA))
    go_ret
    exact ⟨rfl, B3.out⟩
  · clear FW h2
    rcases h1 with rfl | rfl
    all_goals
      go_enter Tryd.func6, Tryd.ntmps6
      go_wp2_with (first
        | (go_at_call 16; refine (C1.out _ B0.out).mono ?_; rintro e w1 ⟨rfl, B1⟩; obtain ⟨e0, e1, e2, e3, e4⟩ := KE.out w1 B1; have s1 := KS.out w1 B1; have s2 : w.heap.size ≠ w1.heap.size := (by omega); replace B1 := hide (bto B0.out B1); clear C1)
        | (go_at_call 17; refine (C2.out _ B1.out).mono ?_; rintro e w2 ⟨rfl, B2⟩; replace B2 := hide (bto B1.out B2); clear C2)
        | (go_at_call 9; refine (CA.out _ (bplus B2.out _)).mono ?_; rintro e w3 ⟨rfl, B3⟩; replace B3 := hide (bto (bplus B2.out _) B3); clear CA))
      go_ret
      exact ⟨rfl, B3.out⟩
end Go.Proofs.YticgcokhdipomabDoor.nm
