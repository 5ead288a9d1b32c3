/-
  Are two forms the same: by the program.
-/
import Derived.Test.YticgcokhdipomaaDoorLNoCa
import Derived.Test.YticgcokhdipomaaDoorLNoCb
set_option linter.unusedVariables false
set_option linter.unusedSimpArgs false
namespace Go.Proofs.YticgcokhdipomaaDoor.nm
open Go.RowKit
theorem saP_all (n : Nat) : SaP n := by
  induction n with
  | zero => exact samePart_of 0 (fun m hm => by omega)
  | succ n ih => exact samePart_of (n + 1) (fun m hm => by have e : m = n := (by omega); subst e; exact sameAt_of m ih)
theorem saF_all (n : Nat) : SaF n := sameAt_of n (saP_all n)
theorem sameF_any (n m : Nat) (us vs : List (Int × Int)) (ps qs : List Pa) (u v : Value) (w : World) (hn : n ≤ 65536) (hus : Us us) (hvs : Us vs) (hu : PM w n u ps) (hv : PM w m v qs) :
    Calls Tryd.prog 20 #[foV us u, foV vs v] w fun e w' => e = .returned (.bool (saF n (.mk us ps) (.mk vs qs))) ∧ Below w.heap.size w w' := by
  have C := hide (fun (W : World) (h : Below w.heap.size w W) => saF_all n us vs ps qs 0 u v W (by omega) hus hvs (hu.low h) ⟨m, hv.low h⟩)
  obtain ⟨n0, d0, n1, d1, n2, d2, n3, d3, n4, d4, n5, d5, n6, d6, rfl⟩ := us7 hus
  obtain ⟨m0, e0, m1, e1, m2, e2, m3, e3, m4, e4, m5, e5, m6, e6, rfl⟩ := us7 hvs
  rw [foV_eq, foV_eq] at C ⊢
  clear hu hv hus hvs
  have B0 := hide (bplus (bplus (Below.refl w.heap.size w) (.cells #[.int .i64 n0, .int .i64 d0, .int .i64 n1, .int .i64 d1, .int .i64 n2, .int .i64 d2, .int .i64 n3, .int .i64 d3, .int .i64 n4, .int .i64 d4, .int .i64 n5, .int .i64 d5, .int .i64 n6, .int .i64 d6, u] 29)) (.cells #[.int .i64 m0, .int .i64 e0, .int .i64 m1, .int .i64 e1, .int .i64 m2, .int .i64 e2, .int .i64 m3, .int .i64 e3, .int .i64 m4, .int .i64 e4, .int .i64 m5, .int .i64 e5, .int .i64 m6, .int .i64 e6, v] 29))
  go_enter Tryd.func20, Tryd.ntmps20
  go_wp2_with (go_at_call 36; refine (C.out _ B0.out).mono ?_; rintro e w1 ⟨rfl, B1⟩)
  go_ret
  exact ⟨rfl, bto B0.out B1⟩
end Go.Proofs.YticgcokhdipomaaDoor.nm
