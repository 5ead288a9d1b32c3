/-
  The law of may and of units.
-/
import Derived.Test.YtlkocepoohhglaaDoorLCaK
import Derived.Test.YtlkocepoohhglaaDoorLCaC
import Derived.Deep.RegionHeld3
set_option linter.unusedVariables false
set_option linter.unusedSimpArgs false
namespace Go.Proofs.YtlkocepoohhglaaDoor.cc
open Go.RowKit

theorem unitP_low (s : ByteArray) (w : World) (hs : s.size ≤ 1000000000) (hU : Uni w) : Calls Tryd.prog 9 #[.string s] w fun e w' => e = .returned (.int .i64 (unB s)) ∧ Below w.heap.size w w' :=
  (unitP_any s w hs hU).mono fun e w' ⟨h1, q, h2⟩ => ⟨h1, below_of_drew h2⟩
theorem un_REM : (unB ⟨#[82, 69, 77]⟩ : Int) = 3 := by decide
theorem keep5 {w0 w' : World} {b : Nat} {u0 u1 u2 u3 u4 : Value} {T : TypeId} (h : Below w0.heap.size w0 w') (P : w0.heap[b]? = some (.cells #[u0, u1, u2, u3, u4] T)) : w'.cell? ⟨b, 0, none⟩ = some u0 ∧ w'.cell? ⟨b, 1, none⟩ = some u1 ∧ w'.cell? ⟨b, 2, none⟩ = some u2 ∧ w'.cell? ⟨b, 3, none⟩ = some u3 ∧ w'.cell? ⟨b, 4, none⟩ = some u4 := bxk_5c (far_blk P h)
set_option maxRecDepth 100000 in
set_option maxHeartbeats 4000000 in
theorem law_calcMay (x : Ex) (u : Value) (s : ByteArray) (w : World) (hx : x.Ok) (hu : EM w u x.ks) (hs : s.size ≤ 1000000000) (hI : Kinds w) (hU : Uni w) :
    Calls Tryd.prog 3 #[exV x u, .string s] w fun e w' => e = .returned (.bool true) ∧ Below w.heap.size w w' := by
  obtain ⟨a, c, rfl, hl9⟩ := hu.shape
  have PQ := heap_alloc_new w (.cells #[.int .i64 x.k, .int .i64 x.n, .int .i64 x.d, .int .i64 x.u, .slice a x.ks.length c] 26)
  have B0 := bplus (Below.refl w.heap.size w) (.cells #[.int .i64 x.k, .int .i64 x.n, .int .i64 x.d, .int .i64 x.u, .slice a x.ks.length c] 26)
  have C1 := hide (fun (w0 W : World) (h0 : Below w.heap.size w w0) (hb : Below w0.heap.size w0 W) => calcMay_any x (.slice a x.ks.length c) W hx (hu.low (bto h0 hb)))
  have C2 := hide (fun (w0 W : World) (h0 : Below w.heap.size w w0) (hb : Below w0.heap.size w0 W) => calcMayR_any x (.slice a x.ks.length c) W hx (hu.low (bto h0 hb)))
  have C3 := hide (fun (w0 W : World) (h0 : Below w.heap.size w w0) (hb : Below w0.heap.size w0 W) => unitP_low s W hs (hU.below (bto h0 hb)))
  have C4 := hide (fun (W : World) => unitR_any s W hs)
  have C5 := hide (fun (w0 W : World) (h0 : Below w.heap.size w w0) (hb : Below w0.heap.size w0 W) => unitP_low ⟨#[82, 69, 77]⟩ W (by decide) (hU.below (bto h0 hb)))
  rw [un_REM] at C5
  have C6 := hide (fun (w0 W : World) (h0 : Below w.heap.size w w0) (hb : Below w0.heap.size w0 W) => awake11_any W (hI.below (bto h0 hb)) (hU.below (bto h0 hb)))
  unfold exV at C1 C2 ⊢
  clear hu hU hI hx
  generalize exM x 340 = r at *
  generalize (unB s : Int) = ub at *
  generalize x.k = xk at *
  generalize x.n = xn at *
  generalize x.d = xd at *
  generalize x.u = xu at *
  generalize x.ks.length = xl at *
  go_enter Tryd.func3, Tryd.ntmps3
  go_wp2_with fail
  generalize w.alloc (.cells #[.int .i64 xk, .int .i64 xn, .int .i64 xd, .int .i64 xu, .slice a xl c] 26) = w0 at *
  have HB0 := hide B0
  have HP := hide PQ
  replace C1 := hide (fun W hb => C1.out w0 W B0 hb)
  replace C2 := hide (fun W hb => C2.out w0 W B0 hb)
  replace C3 := hide (fun W hb => C3.out w0 W B0 hb)
  replace C5 := hide (fun W hb => C5.out w0 W B0 hb)
  replace C6 := hide (fun W hb => C6.out w0 W B0 hb)
  clear B0 PQ
  go_region_held3 (fun w' => w'.cell? ⟨w.heap.size, 0, none⟩ = some (.int .i64 xk) ∧ w'.cell? ⟨w.heap.size, 1, none⟩ = some (.int .i64 xn) ∧ w'.cell? ⟨w.heap.size, 2, none⟩ = some (.int .i64 xd) ∧ w'.cell? ⟨w.heap.size, 3, none⟩ = some (.int .i64 xu) ∧ w'.cell? ⟨w.heap.size, 4, none⟩ = some (.slice a xl c))
    ((refine keep5 ?_ HP.out; (repeat (first | exact Below.refl _ _ | (with_reducible refine Below.drew ?_) | (with_reducible refine below_drewN ?_ _) | (refine bto ?_ (by assumption)))); done))
    (first
      | (go_at_call 7; refine (C1.out _ (by repeat (first | exact Below.refl _ _ | (with_reducible refine Below.drew ?_) | (with_reducible refine below_drewN ?_ _) | (refine bto ?_ (by assumption))))).mono ?_; rintro _ wl ⟨rfl, hl⟩)
      | (go_at_call 8; refine (C2.out _ (by repeat (first | exact Below.refl _ _ | (with_reducible refine Below.drew ?_) | (with_reducible refine below_drewN ?_ _) | (refine bto ?_ (by assumption))))).mono ?_; rintro _ wl ⟨rfl, hl⟩)
      | (go_at_call_of 9 (Value.string ⟨#[82, 69, 77]⟩); refine (C5.out _ (by repeat (first | exact Below.refl _ _ | (with_reducible refine Below.drew ?_) | (with_reducible refine below_drewN ?_ _) | (refine bto ?_ (by assumption))))).mono ?_; rintro _ wl ⟨rfl, hl⟩)
      | (go_at_call 9; refine (C3.out _ (by repeat (first | exact Below.refl _ _ | (with_reducible refine Below.drew ?_) | (with_reducible refine below_drewN ?_ _) | (refine bto ?_ (by assumption))))).mono ?_; rintro _ wl ⟨rfl, hl⟩)
      | (go_at_call 10; refine (C4.out _).mono ?_; rintro _ wl ⟨rfl, hl⟩)
      | (go_at_call 11; refine (C6.out _ (by repeat (first | exact Below.refl _ _ | (with_reducible refine Below.drew ?_) | (with_reducible refine below_drewN ?_ _) | (refine bto ?_ (by assumption))))).mono ?_; rintro _ wl ⟨rfl, hl⟩))
  all_goals
    go_wp2
    go_ret
    refine ⟨rfl, bto HB0.out ?_⟩
    repeat (first | exact Below.refl _ _ | (with_reducible refine Below.drew ?_) | (with_reducible refine below_drewN ?_ _) | (refine bto ?_ (by assumption)))
end Go.Proofs.YtlkocepoohhglaaDoor.cc
