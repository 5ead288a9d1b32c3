/-
  Is the sum of three a length: by the law.
-/
import Derived.Test.YtlhmecagijdinaaDoorMNbB
set_option linter.unusedVariables false
set_option linter.unusedSimpArgs false
namespace Go.Proofs.YtlhmecagijdinaaDoor.nm
open Go.RowKit cc

set_option maxRecDepth 100000 in
set_option maxHeartbeats 8000000 in
theorem jok_any (x y z : Ex) (u v t : Value) (w : World) (hx : x.Ok) (hy : y.Ok) (hz : z.Ok) (hu : EM w u x.ks) (hv : EM w v y.ks) (ht : EM w t z.ks) : Calls Tryd.prog 7 #[exV x u, exV y v, exV z t] w fun e w' => e = .returned (.bool (lnX (smX [x, y, z]) == 0)) ∧ Below w.heap.size w w' := by
  have CK := hide (fun (W : World) (h : Below w.heap.size w W) => show Calls Tryd.prog 17 #[.agg #[.int .i64 2, .int .i64 0, .int .i64 0, .int .i64 0, .slice (some ⟨W.heap.size, 0, none⟩) 3 3]] (W.alloc (.cells #[.int .i64 x.k, .int .i64 x.n, .int .i64 x.d, .int .i64 x.u, u, .int .i64 y.k, .int .i64 y.n, .int .i64 y.d, .int .i64 y.u, v, .int .i64 z.k, .int .i64 z.n, .int .i64 z.d, .int .i64 z.u, t] 26)) (fun e w' => e = .returned (.tuple #[.int .i64 (kdT (smX [x, y, z])), .int .i64 (kdX (smX [x, y, z]))]) ∧ Below w.heap.size w w') from by
    have hb := bplus h (.cells #[.int .i64 x.k, .int .i64 x.n, .int .i64 x.d, .int .i64 x.u, u, .int .i64 y.k, .int .i64 y.n, .int .i64 y.d, .int .i64 y.u, v, .int .i64 z.k, .int .i64 z.n, .int .i64 z.d, .int .i64 z.u, t] 26)
    refine (kindR_any (smX [x, y, z]) (.slice (some ⟨W.heap.size, 0, none⟩) 3 3) _ (sm_ok _) (em3 (x := x) (y := y) (z := z) (u := u) (v := v) (t := t) (Bk.new W 26 _) hx hy hz (hu.low hb) (hv.low hb) (ht.low hb))).mono ?_
    rintro e w' ⟨rfl, h2⟩
    exact ⟨rfl, bto hb h2⟩)
  have KC := kd_cases (smX [x, y, z])
  have EX := hide (show lnX (smX [x, y, z]) = if kdX (smX [x, y, z]) = 0 then (if kdT (smX [x, y, z]) = 2 then 0 else 4) else kdX (smX [x, y, z]) from rfl)
  obtain ⟨W1, hW1⟩ : ∃ W1, ((w.alloc (.cells #[.int .i64 x.k, .int .i64 x.n, .int .i64 x.d, .int .i64 x.u, u] 26)).alloc (.cells #[.int .i64 y.k, .int .i64 y.n, .int .i64 y.d, .int .i64 y.u, v] 26)).alloc (.cells #[.int .i64 z.k, .int .i64 z.n, .int .i64 z.d, .int .i64 z.u, t] 26) = W1 := ⟨_, rfl⟩
  have B0 := hide (show Below w.heap.size w W1 by rw [← hW1]; exact bplus (bplus (bplus (Below.refl _ _) _) _) _)
  obtain ⟨P0, P1, P2⟩ := three_new w (.cells #[.int .i64 x.k, .int .i64 x.n, .int .i64 x.d, .int .i64 x.u, u] 26) (.cells #[.int .i64 y.k, .int .i64 y.n, .int .i64 y.d, .int .i64 y.u, v] 26) (.cells #[.int .i64 z.k, .int .i64 z.n, .int .i64 z.d, .int .i64 z.u, t] 26)
  rw [hW1] at P0 P1 P2
  obtain ⟨a0, a1, a2, a3, a4⟩ := bxk_5m P0
  obtain ⟨b0, b1, b2, b3, b4⟩ := bxk_5m P1
  obtain ⟨c0, c1, c2, c3, c4⟩ := bxk_5m P2
  have HW1 := hide hW1
  clear hW1 P0 P1 P2
  unfold exV
  have FU := hide (show ∃ p, ∃ q, u = .slice p x.ks.length q from by obtain ⟨p, q, h, -⟩ := hu.shape; exact ⟨p, q, h⟩)
  generalize lnX (smX [x, y, z]) = nx at *
  generalize kdT (smX [x, y, z]) = kt at *
  generalize kdX (smX [x, y, z]) = kx at *
  generalize kdE (smX [x, y, z]) = ke at *
  generalize exM (smX [x, y, z]) 340 = em at *
  obtain ⟨ua, uc, rfl, -⟩ := hu.shape
  obtain ⟨va, vc, rfl, -⟩ := hv.shape
  obtain ⟨ta, tc, rfl, -⟩ := ht.shape
  clear hu hv ht hx hy hz FU
  generalize x.k = xk at *
  generalize x.n = xn at *
  generalize x.d = xd at *
  generalize x.u = xu at *
  generalize x.ks.length = xl at *
  generalize y.k = yk at *
  generalize y.n = yn at *
  generalize y.d = yd at *
  generalize y.u = yu at *
  generalize y.ks.length = yl at *
  generalize z.k = zk at *
  generalize z.n = zn at *
  generalize z.d = zd at *
  generalize z.u = zu at *
  generalize z.ks.length = zl at *
  go_enter Tryd.func7, Tryd.ntmps7
  go_upto_region 1 with fail
  rw [HW1.out]
  clear HW1
  go_upto_region 2 with (go_at_call 17; refine (CK.out W1 B0.out).mono ?_; rintro e w1 ⟨rfl, B1⟩; replace B1 := hide B1)
  clear CK a0 a1 a2 a3 a4 b0 b1 b2 b3 b4 c0 c1 c2 c3 c4
  rcases KC with ⟨h1, -, h2, h3 | h3⟩ | ⟨h1, h2⟩ | ⟨h1, h2⟩
  · subst h1; rw [h3] at h2; subst h2
    obtain rfl : nx = 4 := EX.out
    clear EX
    go_wp2_with fail
    go_ret
    exact ⟨rfl, B1.out⟩
  · subst h1; rw [h3] at h2; subst h2
    obtain rfl : nx = 0 := EX.out
    clear EX
    go_wp2_with fail
    go_ret
    exact ⟨rfl, B1.out⟩
  · subst h1 h2
    obtain rfl : nx = 1 := EX.out
    clear EX
    go_wp2_with fail
    go_ret
    exact ⟨rfl, B1.out⟩
  · subst h1 h2
    obtain rfl : nx = 4 := EX.out
    clear EX
    go_wp2_with fail
    go_ret
    exact ⟨rfl, B1.out⟩
end Go.Proofs.YtlhmecagijdinaaDoor.nm
