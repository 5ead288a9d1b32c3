/-
  Are two leaves the same: by the reference.
-/
import Derived.Test.YtpcdhdllclenaaaDoorCeA
import Derived.Test.YtpcdhdllclenaaaDoorCdD
set_option linter.unusedVariables false
set_option linter.unusedSimpArgs false
namespace Go.Proofs.YtpcdhdllclenaaaDoor.cd
open Go.RowKit

/-- Are two leaves the same? -/
def eqL (x y : Lf) : Bool := (x.k == y.k) && (x.t == y.t) && (x.nm.toList == y.nm.toList) && (x.op == y.op) && eqX x.e y.e && (x.wd.toList == y.wd.toList) && (x.vl.toList == y.vl.toList) && (x.an == y.an)
set_option maxRecDepth 100000 in
set_option maxHeartbeats 8000000 in
theorem sameL_any (x y : Lf) (z z' : Value) (w : World) (hz : EM w z x.e.ks) (hz' : EM w z' y.e.ks) :
    Calls Tryd.prog 23 #[lfV x z, lfV y z'] w fun e w' => e = .returned (.bool (eqL x y)) ∧ Below w.heap.size w w' := by
  obtain ⟨za, zc, hzs, -⟩ := hz.shape
  obtain ⟨za', zc', hzs', -⟩ := hz'.shape
  have E := hide (show eqL x y = ((x.k == y.k) && (x.t == y.t) && (x.nm.toList == y.nm.toList) && (x.op == y.op) && eqX x.e y.e && (x.wd.toList == y.wd.toList) && (x.vl.toList == y.vl.toList) && (x.an == y.an)) from rfl)
  obtain ⟨xk, xt, xnm, xop, ⟨xek, xen, xed, xeu, xes⟩, xwd, xvl, xan⟩ := x
  obtain ⟨yk, yt, ynm, yop, ⟨yek, yen, yed, yeu, yes⟩, ywd, yvl, yan⟩ := y
  obtain ⟨w0, hw0⟩ : ∃ w0, ((w.alloc (.cells #[.int .i64 xk, .int .i64 xt, .string xnm, .int .i64 xop, .int .i64 xek, .int .i64 xen, .int .i64 xed, .int .i64 xeu, z, .string xwd, .string xvl, .bool xan] 37)).alloc (.cells #[.int .i64 yk, .int .i64 yt, .string ynm, .int .i64 yop, .int .i64 yek, .int .i64 yen, .int .i64 yed, .int .i64 yeu, z', .string ywd, .string yvl, .bool yan] 37)) = w0 := ⟨_, rfl⟩
  have B0 := hide (show Below w.heap.size w w0 by rw [← hw0]; exact bplus (bplus (Below.refl _ _) _) _)
  have P0 : Bk w0 w.heap.size 37 [.int .i64 xk, .int .i64 xt, .string xnm, .int .i64 xop, .int .i64 xek, .int .i64 xen, .int .i64 xed, .int .i64 xeu, z, .string xwd, .string xvl, .bool xan] := by rw [← hw0]; exact (two_new w _ _).1
  have P1 : Bk w0 (w.heap.size + 1) 37 [.int .i64 yk, .int .i64 yt, .string ynm, .int .i64 yop, .int .i64 yek, .int .i64 yen, .int .i64 yed, .int .i64 yeu, z', .string ywd, .string yvl, .bool yan] := by rw [← hw0]; exact (two_new w _ _).2
  have HW0 := hide hw0
  have CX := hide (sameX_any (szE (.mk xek xen xed xeu xes)) (.mk xek xen xed xeu xes) (.mk yek yen yed yeu yes) z z' w0 (Nat.le_refl _) (hz.low B0.out) (hz'.low B0.out))
  have KH := hide (fun (W : World) (h : Below w0.heap.size w0 W) => And.intro (keep12 h P0) (keep12 h P1))
  obtain ⟨p0, p1, p2, p3, p4, p5, p6, p7, p8, p9, pa, pb⟩ := keep12 (Below.refl _ _) P0
  obtain ⟨q0, q1, q2, q3, q4, q5, q6, q7, q8, q9, qa, qb⟩ := keep12 (Below.refl _ _) P1
  simp only [lfV, exV, Ex.k, Ex.n, Ex.d, Ex.u] at CX E ⊢
  generalize hR : eqL _ _ = R at *
  generalize eqX (.mk xek xen xed xeu xes) (.mk yek yen yed yeu yes) = RX at *
  clear hz hz' hw0 P0 P1 hR
  subst hzs hzs'
  by_cases hk : xk = yk
  case neg =>
    have k0 : (xk == yk) = false := by simpa using hk
    have F := hide (show R = false by rw [E.out, k0]; simp)
    clear E
    go_enter Tryd.func23, Tryd.ntmps23
    go_upto_region 1 with fail
    rw [HW0.out]
    go_wp2_with (go_at_call 37; refine CX.out.mono ?_; rintro _ w4 ⟨rfl, h4⟩; obtain ⟨⟨v0, v1, v2, v3, v4, v5, v6, v7, v8, v9, va, vb⟩, ⟨x0, x1, x2, x3, x4, x5, x6, x7, x8, x9, xa, xb⟩⟩ := KH.out w4 h4)
    go_ret
    exact ⟨ret_bool F.out.symm, B0.out⟩
  subst hk
  by_cases hk : xt = yt
  case neg =>
    have k0 : (xt == yt) = false := by simpa using hk
    have F := hide (show R = false by rw [E.out, k0]; simp)
    clear E
    go_enter Tryd.func23, Tryd.ntmps23
    go_upto_region 1 with fail
    rw [HW0.out]
    go_wp2_with (go_at_call 37; refine CX.out.mono ?_; rintro _ w4 ⟨rfl, h4⟩; obtain ⟨⟨v0, v1, v2, v3, v4, v5, v6, v7, v8, v9, va, vb⟩, ⟨x0, x1, x2, x3, x4, x5, x6, x7, x8, x9, xa, xb⟩⟩ := KH.out w4 h4)
    go_ret
    exact ⟨ret_bool F.out.symm, B0.out⟩
  subst hk
  cases h2 : (xnm.toList == ynm.toList)
  · have F := hide (show R = false by rw [E.out, h2]; simp)
    clear E
    go_enter Tryd.func23, Tryd.ntmps23
    go_upto_region 1 with fail
    rw [HW0.out]
    go_wp2_with (go_at_call 37; refine CX.out.mono ?_; rintro _ w4 ⟨rfl, h4⟩; obtain ⟨⟨v0, v1, v2, v3, v4, v5, v6, v7, v8, v9, va, vb⟩, ⟨x0, x1, x2, x3, x4, x5, x6, x7, x8, x9, xa, xb⟩⟩ := KH.out w4 h4)
    go_ret
    exact ⟨ret_bool F.out.symm, B0.out⟩
  by_cases hk : xop = yop
  case neg =>
    have k0 : (xop == yop) = false := by simpa using hk
    have F := hide (show R = false by rw [E.out, k0]; simp)
    clear E
    go_enter Tryd.func23, Tryd.ntmps23
    go_upto_region 1 with fail
    rw [HW0.out]
    go_wp2_with (go_at_call 37; refine CX.out.mono ?_; rintro _ w4 ⟨rfl, h4⟩; obtain ⟨⟨v0, v1, v2, v3, v4, v5, v6, v7, v8, v9, va, vb⟩, ⟨x0, x1, x2, x3, x4, x5, x6, x7, x8, x9, xa, xb⟩⟩ := KH.out w4 h4)
    go_ret
    exact ⟨ret_bool F.out.symm, B0.out⟩
  subst hk
  cases RX
  · have F := hide (show R = false by rw [E.out]; simp)
    clear E
    go_enter Tryd.func23, Tryd.ntmps23
    go_upto_region 1 with fail
    rw [HW0.out]
    go_wp2_with (go_at_call 37; refine CX.out.mono ?_; rintro _ w4 ⟨rfl, h4⟩; obtain ⟨⟨v0, v1, v2, v3, v4, v5, v6, v7, v8, v9, va, vb⟩, ⟨x0, x1, x2, x3, x4, x5, x6, x7, x8, x9, xa, xb⟩⟩ := KH.out w4 h4)
    go_ret
    exact ⟨ret_bool F.out.symm, bto B0.out h4⟩
  cases h3 : (xwd.toList == ywd.toList)
  · have F := hide (show R = false by rw [E.out, h3]; simp)
    clear E
    go_enter Tryd.func23, Tryd.ntmps23
    go_upto_region 1 with fail
    rw [HW0.out]
    go_wp2_with (go_at_call 37; refine CX.out.mono ?_; rintro _ w4 ⟨rfl, h9⟩; obtain ⟨⟨v0, v1, v2, v3, v4, v5, v6, v7, v8, v9, va, vb⟩, ⟨x0, x1, x2, x3, x4, x5, x6, x7, x8, x9, xa, xb⟩⟩ := KH.out w4 h9)
    go_ret
    exact ⟨ret_bool F.out.symm, bto B0.out h9⟩
  cases h4 : (xvl.toList == yvl.toList)
  · have F := hide (show R = false by rw [E.out, h4]; simp)
    clear E
    go_enter Tryd.func23, Tryd.ntmps23
    go_upto_region 1 with fail
    rw [HW0.out]
    go_wp2_with (go_at_call 37; refine CX.out.mono ?_; rintro _ w4 ⟨rfl, h9⟩; obtain ⟨⟨v0, v1, v2, v3, v4, v5, v6, v7, v8, v9, va, vb⟩, ⟨x0, x1, x2, x3, x4, x5, x6, x7, x8, x9, xa, xb⟩⟩ := KH.out w4 h9)
    go_ret
    exact ⟨ret_bool F.out.symm, bto B0.out h9⟩
  have F := hide (show R = (xan == yan) by rw [E.out, h2, h3, h4]; simp)
  clear E
  go_enter Tryd.func23, Tryd.ntmps23
  go_upto_region 1 with fail
  rw [HW0.out]
  go_wp2_with (go_at_call 37; refine CX.out.mono ?_; rintro _ w4 ⟨rfl, h9⟩; obtain ⟨⟨v0, v1, v2, v3, v4, v5, v6, v7, v8, v9, va, vb⟩, ⟨x0, x1, x2, x3, x4, x5, x6, x7, x8, x9, xa, xb⟩⟩ := KH.out w4 h9)
  go_ret
  exact ⟨ret_bool F.out.symm, bto B0.out h9⟩
end Go.Proofs.YtpcdhdllclenaaaDoor.cd
