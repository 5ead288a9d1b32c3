/-
  What a leaf comes to: by the program.
-/
import Derived.Test.YtpcdhdllclenaaaDoorCdN
import Derived.Test.YtpcdhdllclenaaaDoorCdB
import Derived.Defers
import Derived.Recover
set_option linter.unusedVariables false
set_option linter.unusedSimpArgs false
namespace Go.Proofs.YtpcdhdllclenaaaDoor.cd
open Go.RowKit

/-- The deferred closure that recovers, of a frame that returns: nothing. -/
theorem catch_idle (w : World) : CallsD Tryd.prog 75 #[] .returning w fun e u' w' => e = .returned (.tuple #[]) ∧ u' = .returning ∧ w' = w := by
  refine callsD_of_wpS Tryd.func75 rfl fun c₀ cs hu => ?_
  apply wpS_region
  simp [wpOpsS, go_sem, recoverD, hu, Tryd.ntmps75, Exit.thenS]
  cases c₀
  simp_all [bodyPostS, results, Tryd.results75]
theorem fn_nil (K : Nat) (cap : Array Value) (w : World) : (binOp .eql 46 (.func (.func K) #[] cap) .nilFunc).run Tryd.prog w = .ok (.bool false) w := by kernel_rfl
theorem nil_nil (w : World) : (binOp .eql 46 .nilFunc .nilFunc).run Tryd.prog w = .ok (.bool true) w := by kernel_rfl
/-- The closure that looks a name up. -/
def fnBy (b1 b2 : Nat) : Value := .func (.func 38) #[] #[.pointer (some ⟨b1, 0, none⟩), .pointer (some ⟨b2, 0, none⟩)]
set_option maxRecDepth 100000 in
set_option maxHeartbeats 4000000 in
theorem told_nil (x : Lf) (z : Value) (w : World) : Calls Tryd.prog 66 #[lfV x z, .nilFunc] w fun e w' => e = .returned (.int .i64 1) ∧ Below w.heap.size w w' := by
  have hfn := nil_nil
  have B0 := hide (bplus (Below.refl w.heap.size w) (.cells #[.int .i64 x.k, .int .i64 x.t, .string x.nm, .int .i64 x.op, .int .i64 x.e.k, .int .i64 x.e.n, .int .i64 x.e.d, .int .i64 x.e.u, z, .string x.wd, .string x.vl, .bool x.an] 37))
  unfold lfV
  go_enter_defers Tryd.func66, Tryd.ntmps66
  go_wp2
  exact ⟨_, results_tmp rfl _ _ _, rfl, B0.out⟩
set_option maxRecDepth 100000 in
set_option maxHeartbeats 4000000 in
theorem told_by (x : Lf) (z : Value) (b1 b2 : Nat) (vn vt : Value) (ns : List ByteArray) (ts : List Int) (w : World) (h1 : w.cell? ⟨b1, 0, none⟩ = some vn) (h2 : w.cell? ⟨b2, 0, none⟩ = some vt) (hn : Strs w vn ns) (ht : NuW w vt ts) (hz : ∃ a n c, z = .slice a n c) :
    Calls Tryd.prog 66 #[lfV x z, fnBy b1 b2] w fun e w' => e = .returned (.int .i64 (tr (byF ns ts x.nm))) ∧ Below w.heap.size w w' := by
  have hfn := fn_nil
  obtain ⟨za, zn, zc, rfl⟩ := hz
  have B0 := bplus (Below.refl w.heap.size w) (.cells #[.int .i64 x.k, .int .i64 x.t, .string x.nm, .int .i64 x.op, .int .i64 x.e.k, .int .i64 x.e.n, .int .i64 x.e.d, .int .i64 x.e.u, .slice za zn zc, .string x.wd, .string x.vl, .bool x.an] 37)
  have C1 := hide (fun (W : World) (h : Below w.heap.size w W) => by1_any x (.slice za zn zc) b1 b2 vn vt ns ts W ((h.cell (p := ⟨b1, 0, none⟩) (World.block_lt_of_cell? _ _ h1)).trans h1) ((h.cell (p := ⟨b2, 0, none⟩) (World.block_lt_of_cell? _ _ h2)).trans h2) (hn.below h) (ht.below h))
  have C2 := hide (fun (W : World) => truth_any (byF ns ts x.nm) W)
  unfold lfV at C1 ⊢
  unfold fnBy
  have HB0 := hide B0
  clear h1 h2 hn ht B0
  generalize tr (byF ns ts x.nm) = r2 at *
  generalize byF ns ts x.nm = r1 at *
  generalize x.k = xk at *
  generalize x.t = xt at *
  generalize x.nm = xnm at *
  generalize x.op = xop at *
  generalize x.e.k = xek at *
  generalize x.e.n = xen at *
  generalize x.e.d = xed at *
  generalize x.e.u = xeu at *
  generalize x.wd = xwd at *
  generalize x.vl = xvl at *
  generalize x.an = xan at *
  go_enter_defers Tryd.func66, Tryd.ntmps66
  go_wp2_with (first
    | (go_at_call 38; refine (C1.out _ HB0.out).mono ?_; rintro e w1 ⟨rfl, hl⟩)
    | (go_at_call 28; refine (C2.out _).mono ?_; rintro e w2 ⟨rfl, rfl⟩))
  refine leaves_cons (f := 75) (args := #[]) (by simp) (by simp [go_sem]) ?_
  refine (catch_idle _).mono ?_
  rintro e u' w'' ⟨rfl, rfl, rfl⟩
  simp [Leaves, settle, results, Tryd.results66]
  exact bto HB0.out hl
end Go.Proofs.YtpcdhdllclenaaaDoor.cd
