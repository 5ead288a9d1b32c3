/-
  Numbers: by the program, by the reference; the law.
-/
import Derived.Test.YticgcokhdipomabDoorLNuD
import Derived.Test.YticgcokhdipomabDoorLNuF
import Derived.Test.YticgcokhdipomabDoorLNoM
import Derived.Test.YticgcokhdipomabDoorLCaPk
import Derived.Test.YticgcokhdipomabDoorN19
set_option linter.unusedVariables false
set_option linter.unusedSimpArgs false
namespace Go.Proofs.YticgcokhdipomabDoor.nm
open Go.RowKit cc

set_option maxRecDepth 100000 in
set_option maxHeartbeats 4000000 in
theorem kindR_any (x : Ex) (u : Value) (w : World) (hx : x.Ok) (hu : EM w u x.ks) :
    Calls Tryd.prog 20 #[exV x u] w fun e w' => e = .returned (.tuple #[.int .i64 (kdT x), .int .i64 (kdX x)]) ∧ Below w.heap.size w w' := by
  obtain ⟨a, c, rfl, hl9⟩ := hu.shape
  have PQ := hide (heap_alloc_new w (.cells #[.int .i64 x.k, .int .i64 x.n, .int .i64 x.d, .int .i64 x.u, .slice a x.ks.length c] 26))
  have HB := hide (bplus (Below.refl w.heap.size w) (.cells #[.int .i64 x.k, .int .i64 x.n, .int .i64 x.d, .int .i64 x.u, .slice a x.ks.length c] 26))
  have C1 := hide (fun (W : World) (B : Below w.heap.size w W) => calcMayR_any x (.slice a x.ks.length c) W hx (hu.low B))
  have C2 := hide (fun (hm : exM x 340 = true) (W : World) (B : Below w.heap.size w W) => kindR_all (szE x) x 340 (.slice a x.ks.length c) W (Nat.le_refl _) hm (hu.low B))
  have T1 := hide (show kdT x = (if exM x 340 = true then kdE x else 0) from rfl)
  have T2 := hide (show kdX x = (if exM x 340 = true then (if kdE x = 0 then 4 else 0) else 1) from rfl)
  unfold exV at C1 C2 ⊢
  clear hu hx
  cases hm : exM x 340
  · have HM := hide hm
    replace T1 := hide (show (kdT x : Int) = 0 by rw [T1.out, hm]; rfl)
    replace T2 := hide (show (kdX x : Int) = 1 by rw [T2.out, hm]; rfl)
    rw [T1.out, T2.out]
    clear hm C2 T1 T2
    generalize x.k = xk at *
    generalize x.n = xn at *
    generalize x.d = xd at *
    generalize x.u = xu at *
    generalize x.ks.length = xl at *
    go_enter Tryd.func20, Tryd.ntmps20
    go_wp2_with (go_at_call 34; refine (C1.out _ HB.out).mono ?_; rintro e w1 ⟨rfl, B1⟩; rw [HM.out]; replace HB := hide (bto HB.out B1); clear B1 C1)
    go_ret2
    exact ⟨rfl, HB.out⟩
  · have HM := hide hm
    replace C2 := hide (C2.out hm)
    replace T1 := hide (show (kdT x : Int) = kdE x by rw [T1.out, hm]; rfl)
    replace T2 := hide (show (kdX x : Int) = (if kdE x = 0 then 4 else 0 : Nat) by rw [T2.out, hm]; rfl)
    rw [T1.out, T2.out]
    clear hm T1 T2
    generalize x.k = xk at *
    generalize x.n = xn at *
    generalize x.d = xd at *
    generalize x.u = xu at *
    generalize x.ks.length = xl at *
    generalize kdE x = kx at *
    by_cases h0 : kx = 0
    · subst h0
      rw [if_pos rfl]
      go_enter Tryd.func20, Tryd.ntmps20
      go_wp2_with (first
        | (go_at_call 34; refine (C1.out _ HB.out).mono ?_; rintro e w1 ⟨rfl, B1⟩; rw [HM.out]; replace PQ := hide (far_blkm PQ.out B1); replace HB := hide (bto HB.out B1); obtain ⟨r0, r1, r2, r3, r4⟩ := bxk_5m PQ.out; clear B1 C1)
        | (go_at_call 40; refine (C2.out _ HB.out).mono ?_; rintro e w2 ⟨rfl, B1⟩; replace HB := hide (bto HB.out B1); clear B1 C2))
      go_ret2
      exact ⟨rfl, HB.out⟩
    · rw [if_neg h0]
      have h1 : ¬ (kx : Int) = 0 := by omega
      have h2 : ((kx : Int) == 0) = false := by simpa using h1
      go_enter Tryd.func20, Tryd.ntmps20
      go_wp2_with (first
        | (go_at_call 34; refine (C1.out _ HB.out).mono ?_; rintro e w1 ⟨rfl, B1⟩; rw [HM.out]; replace PQ := hide (far_blkm PQ.out B1); replace HB := hide (bto HB.out B1); obtain ⟨r0, r1, r2, r3, r4⟩ := bxk_5m PQ.out; clear B1 C1)
        | (go_at_call 40; refine (C2.out _ HB.out).mono ?_; rintro e w2 ⟨rfl, B1⟩; replace HB := hide (bto HB.out B1); clear B1 C2))
      go_ret2
      exact ⟨rfl, HB.out⟩
/-- What Number tells: the number and the error. -/
def z0R : Int → Int × Int := fun _ => (0, 0)
def nuT (x : Ex) : Int × Int := if kdX x = 0 ∧ kdT x = 1 then rkE z0R x else (0, 0)
def nuX (x : Ex) : Nat := if kdX x = 0 then (if kdT x = 1 then 0 else 4) else kdX x
theorem kd_cases (x : Ex) : (kdX x = 0 ∧ exM x 340 = true ∧ kdT x = kdE x ∧ (kdE x = 1 ∨ kdE x = 2)) ∨ (kdX x = 1 ∧ kdT x = 0) ∨ (kdX x = 4 ∧ kdT x = 0) := by
  have hle := kdE_le _ x (Nat.le_refl _)
  unfold kdX kdT
  by_cases h : exM x 340 = true
  · rw [if_pos h, if_pos h]
    by_cases h0 : kdE x = 0
    · rw [if_pos h0]; exact .inr (.inr ⟨rfl, h0⟩)
    · rw [if_neg h0]; exact .inl ⟨rfl, h, rfl, by omega⟩
  · rw [if_neg h, if_neg h]; exact .inr (.inl ⟨rfl, rfl⟩)
/-- The error of an expression that is no number. -/
theorem kindIs_num (x : Ex) (u : Value) (w : World) (hx : x.Ok) (hu : EM w u x.ks) : Calls Tryd.prog 18 #[exV x u, .int .i64 1] w fun e w' => e = .returned (.int .i64 (nuX x)) ∧ Below w.heap.size w w' := by
  have C := hide (fun (W : World) (h : Below w.heap.size w W) => kindP_any x u W hx (hu.low h))
  have KK := kd_cases x
  have EX := hide (show nuX x = if kdX x = 0 then (if kdT x = 1 then 0 else 4) else kdX x from rfl)
  obtain ⟨a, c, rfl, hl9⟩ := hu.shape
  have HB := hide (bplus (Below.refl w.heap.size w) (.cells #[.int .i64 x.k, .int .i64 x.n, .int .i64 x.d, .int .i64 x.u, .slice a x.ks.length c] 26))
  unfold exV at C ⊢
  generalize nuX x = nx at *
  generalize x.k = xk at *
  generalize x.n = xn at *
  generalize x.d = xd at *
  generalize x.u = xu at *
  generalize x.ks.length = xl at *
  clear hu hx
  rcases KK with ⟨h1, -, h2, h3⟩ | ⟨h1, h2⟩ | ⟨h1, h2⟩
  · rcases h3 with h3 | h3
    all_goals
      rw [h1, h2, h3] at C EX
      have EX2 := EX.out
      simp at EX2
      subst EX2
      clear h1 h2 h3 EX
      go_enter Tryd.func18, Tryd.ntmps18
      go_wp2_with (go_at_call 36; refine (C.out _ HB.out).mono ?_; rintro e w1 ⟨rfl, B1⟩; replace HB := hide (bto HB.out B1); clear B1 C)
      go_ret
      exact ⟨rfl, HB.out⟩
  all_goals
    rw [h1, h2] at C
    rw [h1] at EX
    have EX2 := EX.out
    simp at EX2
    subst EX2
    clear h1 h2 EX
    go_enter Tryd.func18, Tryd.ntmps18
    go_wp2_with (go_at_call 36; refine (C.out _ HB.out).mono ?_; rintro e w1 ⟨rfl, B1⟩; replace HB := hide (bto HB.out B1); clear B1 C)
    go_ret
    exact ⟨rfl, HB.out⟩
theorem nu_cases (x : Ex) : (nuX x = 0 ∧ nuT x = rkE z0R x ∧ exM x 340 = true ∧ kdE x = 1) ∨ ((nuX x = 1 ∨ nuX x = 4) ∧ nuT x = (0, 0)) := by
  have K := kd_cases x
  unfold nuX nuT
  rcases K with ⟨h1, h2, h3, h4⟩ | ⟨h1, h2⟩ | ⟨h1, h2⟩
  · rw [h1, h3]
    rcases h4 with h4 | h4
    · rw [h4]; exact .inl ⟨rfl, rfl, h2, rfl⟩
    · rw [h4]; exact .inr ⟨.inr rfl, rfl⟩
  · rw [h1, h2]; exact .inr ⟨.inl rfl, rfl⟩
  · rw [h1, h2]; exact .inr ⟨.inr rfl, rfl⟩
def nuV (x : Ex) : Value := .tuple #[ratV (nuT x), .int .i64 (nuX x)]
set_option maxRecDepth 100000 in
set_option maxHeartbeats 8000000 in
theorem numberP_any (x : Ex) (u : Value) (w : World) (hx : OkX x) (hu : EM w u x.ks) : Calls Tryd.prog 17 #[exV x u] w fun e w' => e = .returned (nuV x) ∧ Below w.heap.size w w' := by
  have C := hide (fun (W : World) (h : Below w.heap.size w W) => kindIs_num x u W hx.ok (hu.low h))
  have C2 := hide (fun (h1 : exM x 340 = true) (h2 : kdE x = 1) (W : World) (h : Below w.heap.size w W) => numP_all z0R (szE x) x 340 u W (Nat.le_refl _) hx h1 h2 (hu.low h))
  have KK := nu_cases x
  obtain ⟨a, c, rfl, hl9⟩ := hu.shape
  obtain ⟨W1, hW1⟩ : ∃ W1, (w.alloc (.cells #[.int .i64 x.k, .int .i64 x.n, .int .i64 x.d, .int .i64 x.u, .slice a x.ks.length c] 26)).alloc (.cells #[.int .i64 0, .int .i64 0] 23) = W1 := ⟨_, rfl⟩
  have B0 := hide (show Below w.heap.size w W1 by rw [← hW1]; exact bplus (bplus (Below.refl _ _) _) _)
  have KE := hide (fun (W : World) (h : Below W1.heap.size W1 W) => show Bk W w.heap.size 26 [.int .i64 x.k, .int .i64 x.n, .int .i64 x.d, .int .i64 x.u, .slice a x.ks.length c] from Bk.up (show Bk W1 w.heap.size 26 _ by rw [← hW1]; exact (two_new w _ _).1) h)
  have KR := hide (fun (W : World) (h : Below W1.heap.size W1 W) => show Bk W (w.heap.size + 1) 23 [.int .i64 0, .int .i64 0] from Bk.up (show Bk W1 (w.heap.size + 1) 23 _ by rw [← hW1]; exact (two_new w _ _).2) h)
  have HW1 := hide hW1
  have BX := hide (Below.refl W1.heap.size W1)
  clear hW1
  unfold exV nuV at *
  generalize x.k = xk at *
  generalize x.n = xn at *
  generalize x.d = xd at *
  generalize x.u = xu at *
  generalize x.ks.length = xl at *
  obtain ⟨a0, a1, a2, a3, a4⟩ := bxk_5m (KE.out W1 BX.out)
  clear hu hx
  rcases KK with ⟨h1, h2, h3, h4⟩ | ⟨h1, h2⟩
  · replace C2 := hide (C2.out h3 h4)
    rw [h1] at C ⊢
    rw [h2]
    generalize rkE z0R x = r at *
    unfold ratV at *
    clear h1 h2 h3 h4
    go_enter Tryd.func17, Tryd.ntmps17
    go_upto_region 1 with fail
    rw [HW1.out]
    clear HW1
    go_wp2_with (first
      | (go_at_call 18; refine (C.out _ B0.out).mono ?_; rintro e w1 ⟨rfl, B1⟩; obtain ⟨e0, e1, e2, e3, e4⟩ := bxk_5m (KE.out w1 B1); replace BX := hide B1)
      | (go_at_call 35; refine (C2.out _ (bto B0.out BX.out)).mono ?_; rintro e w5 ⟨rfl, B5⟩; replace BX := hide (bto BX.out B5); have QR := KR.out _ BX.out; have t0 := Bk.cell QR 0; have t1 := Bk.cell QR 1; simp at t0 t1; have v0 := Bk.fz QR 0; have v1 := Bk.fz QR 1; clear QR))
    exact bodyPost_ret (v := .tuple #[.agg #[.int .i64 r.1, .int .i64 r.2], .int .i64 0]) (by simp [results, Tryd.results17, go_sem, *]) rfl ⟨rfl, ((bto B0.out BX.out).setCell (by simp) _).setCell (by simp) _⟩
  · rw [h2]
    clear C2 h2
    unfold ratV at *
    rcases h1 with h1 | h1
    all_goals
      rw [h1] at C ⊢
      clear h1
      go_enter Tryd.func17, Tryd.ntmps17
      go_upto_region 1 with fail
      rw [HW1.out]
      clear HW1
      go_wp2_with (go_at_call 18; refine (C.out _ B0.out).mono ?_; rintro e w1 ⟨rfl, B1⟩; have QR := KR.out _ B1; have t0 := Bk.cell QR 0; have t1 := Bk.cell QR 1; simp at t0 t1; have v0 := Bk.fz QR 0; have v1 := Bk.fz QR 1; clear QR; replace BX := hide B1)
    · exact bodyPost_ret (v := .tuple #[.agg #[.int .i64 0, .int .i64 0], .int .i64 1]) (by simp [results, Tryd.results17, go_sem, *]) rfl ⟨rfl, ((bto B0.out BX.out).setCell (by simp) _).setCell (by simp) _⟩
    · exact bodyPost_ret (v := .tuple #[.agg #[.int .i64 0, .int .i64 0], .int .i64 4]) (by simp [results, Tryd.results17, go_sem, *]) rfl ⟨rfl, ((bto B0.out BX.out).setCell (by simp) _).setCell (by simp) _⟩
def c00 : List (Int × Int) := [(0, 0), (0, 0), (0, 0), (0, 0), (0, 0), (0, 0)]
end Go.Proofs.YticgcokhdipomabDoor.nm
