/-
  What each leaf comes to: the laws' list.
-/
import Derived.Test.YtpcdhdllclenaaaDoorCeD
import Derived.Test.YtpcdhdllclenaaaDoorCeE
import Derived.Test.YtpcdhdllclenaaaDoorCdW
set_option linter.unusedVariables false
set_option linter.unusedSimpArgs false
namespace Go.Proofs.YtpcdhdllclenaaaDoor.cd
open Go.RowKit

set_option maxRecDepth 100000 in
set_option maxHeartbeats 8000000 in
theorem leavesTop_any (x : Cn) (u z : Value) (w : World) (hx : x.Ok) (hu : CM w u x.ks) (hz : EM w z x.lf.e.ks) (hs : szC x ≤ 1000000000) :
    Calls Tryd.prog 22 #[cnV x u z] w fun e w' => ∃ v, e = .returned v ∧ ((cnM x 340 = true ∧ LR w w' v (lvs x)) ∨ (cnM x 340 = false ∧ v = .slice none 0 0)) ∧ Below w.heap.size w w' := by
  obtain ⟨a, c, rfl, hl9⟩ := hu.shape
  obtain ⟨za, zc, rfl, hz9⟩ := hz.shape
  have EV := fun (a : Value) (b : Value) => show cnV x a b = .agg #[.int .i64 x.k, a, .int .i64 x.lf.k, .int .i64 x.lf.t, .string x.lf.nm, .int .i64 x.lf.op, .int .i64 x.lf.e.k, .int .i64 x.lf.e.n, .int .i64 x.lf.e.d, .int .i64 x.lf.e.u, b, .string x.lf.wd, .string x.lf.vl, .bool x.lf.an] from rfl
  have CM1 := hide (fun (W : World) (h : Below w.heap.size w W) => condMayR_any x _ _ W hx (hu.low h) (hz.low h))
  have CL := hide (fun (W : World) (h : Below w.heap.size w W) (hm : cnM x 340 = true) => leavesR_any w (szC x) hs x _ _ W 340 (Nat.le_refl _) hu hz hm h)
  simp only [EV] at CM1 CL ⊢
  clear hx hu hz EV
  generalize x.lf.e.ks.length = xem at *
  generalize x.ks.length = xn at *
  generalize x.k = xk at *
  generalize x.lf.k = xlk at *
  generalize x.lf.t = xlt at *
  generalize x.lf.nm = xnm at *
  generalize x.lf.op = xop at *
  generalize x.lf.e.k = xek at *
  generalize x.lf.e.n = xen at *
  generalize x.lf.e.d = xed at *
  generalize x.lf.e.u = xeu at *
  generalize x.lf.wd = xwd at *
  generalize x.lf.vl = xvl at *
  generalize x.lf.an = xan at *
  obtain ⟨w0, hw0⟩ : ∃ w0, w.alloc (.cells #[.int .i64 xk, .slice a xn c, .int .i64 xlk, .int .i64 xlt, .string xnm, .int .i64 xop, .int .i64 xek, .int .i64 xen, .int .i64 xed, .int .i64 xeu, .slice za xem zc, .string xwd, .string xvl, .bool xan] 39) = w0 := ⟨_, rfl⟩
  have B0 : Below w.heap.size w w0 := by rw [← hw0]; exact bplus (Below.refl _ _) _
  have P0 : w0.heap[w.heap.size]? = some (.cells #[.int .i64 xk, .slice a xn c, .int .i64 xlk, .int .i64 xlt, .string xnm, .int .i64 xop, .int .i64 xek, .int .i64 xen, .int .i64 xed, .int .i64 xeu, .slice za xem zc, .string xwd, .string xvl, .bool xan] 39) := by rw [← hw0]; exact heap_alloc_new w _
  have KH := hide (fun (W : World) (h : Below w0.heap.size w0 W) => keep14 h P0)
  have HB0 := hide B0
  have HW0 := hide hw0
  obtain ⟨y0, y1, y2, y3, y4, y5, y6, y7, y8, y9, ya, yb, yc, yd⟩ := keep14 (Below.refl w0.heap.size w0) P0
  clear B0 P0 hw0
  cases hm : cnM x 340
  · have HM := hide hm
    rw [hm] at CM1
    go_enter Tryd.func22, Tryd.ntmps22
    go_upto_region 1 with fail
    rw [HW0.out]
    go_wp2_with (go_at_call 18; refine (CM1.out w0 HB0.out).mono ?_; rintro e w1 ⟨rfl, hl⟩)
    go_ret
    exact ⟨_, rfl, .inr ⟨by simp, rfl⟩, bto HB0.out hl⟩
  · have HM := hide hm
    rw [hm] at CM1
    go_enter Tryd.func22, Tryd.ntmps22
    go_upto_region 1 with fail
    rw [HW0.out]
    go_wp2_with (first
      | (go_at_call 18; refine (CM1.out w0 HB0.out).mono ?_; rintro e w1 ⟨rfl, hl⟩; obtain ⟨v0, v1, v2, v3, v4, v5, v6, v7, v8, v9, va, vb, vc, vd⟩ := KH.out w1 hl)
      | (go_at_call 36; refine (CL.out w1 (bto HB0.out hl) HM.out).mono ?_; rintro e w2 ⟨v, rfl, hLR, hl2⟩; have HLR := hide hLR; obtain ⟨lb, lc, lxs, rfl, -⟩ := hLR))
    go_ret
    exact ⟨_, rfl, .inl ⟨by simp, HLR.out⟩, bto HB0.out (bto hl hl2)⟩
/-- What the leaves come to. -/
def tlF (x : Cn) (ns : List ByteArray) (ts : List Int) : List Int := if cnM x 340 = true then (lvs x).map (fun l => byF ns ts l.nm) else []
def RelTd (W : World) (ls : List Lf) (g : Lf → Int) (l i : Value) (wr : World) : Prop := ∃ m : Nat, i = .int .i64 m ∧ m ≤ ls.length ∧ Hid (Own W .i64 3 wr l ((ls.take m).map g))
theorem RelTd.mk {W : World} {ls : List Lf} {g : Lf → Int} {l i : Value} {wr : World} (m : Nat) (h1 : i = .int .i64 m) (h2 : m ≤ ls.length) (h3 : Own W .i64 3 wr l ((ls.take m).map g)) : RelTd W ls g l i wr := ⟨m, h1, h2, h3⟩
set_option maxRecDepth 100000 in
set_option maxHeartbeats 8000000 in
theorem toldL_any (x : Cn) (u z : Value) (b1 b2 : Nat) (vn vt : Value) (ns : List ByteArray) (ts : List Int) (w : World) (hx : x.Ok) (hu : CM w u x.ks) (hz : EM w z x.lf.e.ks) (hs : szC x ≤ 1000000000)
    (h1 : w.cell? ⟨b1, 0, none⟩ = some vn) (h2 : w.cell? ⟨b2, 0, none⟩ = some vt) (hn : Strs w vn ns) (ht : NuW w vt ts) :
    Calls Tryd.prog 27 #[cnV x u z, fnBy b1 b2] w fun e w' => ∃ v, e = .returned v ∧ NuW w' v (tlF x ns ts) ∧ Below w.heap.size w w' := by
  obtain ⟨i0, hi, hz0, hz1, hz2⟩ := info_parts info64
  obtain ⟨a, c, rfl, hl9⟩ := hu.shape
  obtain ⟨za, zc, rfl, hz9⟩ := hz.shape
  have EV := fun (a : Value) (b : Value) => show cnV x a b = .agg #[.int .i64 x.k, a, .int .i64 x.lf.k, .int .i64 x.lf.t, .string x.lf.nm, .int .i64 x.lf.op, .int .i64 x.lf.e.k, .int .i64 x.lf.e.n, .int .i64 x.lf.e.d, .int .i64 x.lf.e.u, b, .string x.lf.wd, .string x.lf.vl, .bool x.lf.an] from rfl
  have FT := hide (show tlF x ns ts = if cnM x 340 = true then (lvs x).map (fun l => byF ns ts l.nm) else [] from rfl)
  have LN := hide (show (lvs x).length ≤ 1000000000 by have := lvs_len (szC x) x (Nat.le_refl _); omega)
  have C1 := hide (fun (y : Lf) (yz : Value) (W : World) (h : Below w.heap.size w W) => by1_any y yz b1 b2 vn vt ns ts W ((h.cell (p := ⟨b1, 0, none⟩) (World.block_lt_of_cell? _ _ h1)).trans h1) ((h.cell (p := ⟨b2, 0, none⟩) (World.block_lt_of_cell? _ _ h2)).trans h2) (hn.below h) (ht.below h))
  obtain ⟨w0, hw0⟩ : ∃ w0, w.alloc (.cells #[.int .i64 x.k, .slice a x.ks.length c, .int .i64 x.lf.k, .int .i64 x.lf.t, .string x.lf.nm, .int .i64 x.lf.op, .int .i64 x.lf.e.k, .int .i64 x.lf.e.n, .int .i64 x.lf.e.d, .int .i64 x.lf.e.u, .slice za x.lf.e.ks.length zc, .string x.lf.wd, .string x.lf.vl, .bool x.lf.an] 39) = w0 := ⟨_, rfl⟩
  have B0 : Below w.heap.size w w0 := by rw [← hw0]; exact bplus (Below.refl _ _) _
  have P0 : w0.heap[w.heap.size]? = some (.cells #[.int .i64 x.k, .slice a x.ks.length c, .int .i64 x.lf.k, .int .i64 x.lf.t, .string x.lf.nm, .int .i64 x.lf.op, .int .i64 x.lf.e.k, .int .i64 x.lf.e.n, .int .i64 x.lf.e.d, .int .i64 x.lf.e.u, .slice za x.lf.e.ks.length zc, .string x.lf.wd, .string x.lf.vl, .bool x.lf.an] 39) := by rw [← hw0]; exact heap_alloc_new w _
  have CL := hide (leavesTop_any x _ _ w0 hx (hu.low B0) (hz.low B0) hs)
  simp only [EV] at CL ⊢
  have HB0 := hide B0
  have HW0 := hide hw0
  obtain ⟨y0, y1, y2, y3, y4, y5, y6, y7, y8, y9, ya, yb, yc, yd⟩ := keep14 (Below.refl w0.heap.size w0) P0
  clear hx hu hz EV h1 h2 hn ht hs B0 P0 hw0
  unfold fnBy
  go_enter Tryd.func27, Tryd.ntmps27
  go_upto_region 1 with fail
  rw [HW0.out]
  clear HW0
  go_upto_region 3 with (go_at_call 22; refine CL.out.mono ?_; rintro e w1 ⟨v, rfl, hv, hl1⟩; rcases hv with ⟨hmy, lb, lc, lxs, rfl, hlb, hlc, hlc9, LX, hcell⟩ | ⟨hmy, rfl⟩)
  · have FT2 := hide (show tlF x ns ts = (lvs x).map (fun l => byF ns ts l.nm) by rw [FT.out, if_pos hmy])
    have HB1 := hide (bto HB0.out hl1)
    have LX := hide LX
    have hcell := hide hcell
    clear FT hmy CL y0 y1 y2 y3 y4 y5 y6 y7 y8 y9 ya yb yc yd
    generalize lvs x = ls at *
    go_loopw [5, 11] (fun l i wr => RelTd w1 ls (fun l => byF ns ts l.nm) l i wr) (fun _ i _ => ls.length - (intOf i).toNat)
    case atStart => exact .mk 0 rfl (by omega) (Own.nil _ _ _)
    case round =>
      obtain ⟨m, rfl, hm, OW⟩ := hrel
      by_cases hlt : m < ls.length
      · have hlt' : (m : Int) < ls.length := by omega
        obtain ⟨y, hy⟩ : ∃ y, ls[m]? = some y := ⟨_, List.getElem?_eq_getElem hlt⟩
        obtain ⟨yz, hyz, hc⟩ := LX.out.at hy
        obtain ⟨ya, yc, rfl, -⟩ := hyz.shape
        have lbw : lb < wr.heap.size := by have := OW.out.2.size; omega
        have nb : lb ≠ wr.heap.size := by omega
        have cc : ∀ j q, (lfL y (.slice ya y.e.ks.length yc))[j]? = some q → wr.cell? ⟨lb, m * 12 + j, none⟩ = some q := fun j q hq => by
          have hj : j < 12 := (List.getElem?_eq_some_iff.1 hq).1
          have := hcell.out (m * 12 + j) q (by rw [hc j hj]; exact hq)
          exact (OW.out.2.cell (p := ⟨lb, m * 12 + j, none⟩) hlb).trans this
        have c0 := cc 0 _ rfl
        have c1 := cc 1 _ rfl
        have c2 := cc 2 _ rfl
        have c3 := cc 3 _ rfl
        have c4 := cc 4 _ rfl
        have c5 := cc 5 _ rfl
        have c6 := cc 6 _ rfl
        have c7 := cc 7 _ rfl
        have c8 := cc 8 _ rfl
        have c9 := cc 9 _ rfl
        have ca := cc 10 _ rfl
        have cb := cc 11 _ rfl
        rw [Nat.add_zero] at c0
        have TK := hide (show (ls.take (m + 1)).map (fun l => byF ns ts l.nm) = (ls.take m).map (fun l => byF ns ts l.nm) ++ [byF ns ts y.nm] by rw [List.take_add_one, hy]; simp)
        have TL := hide (show ((ls.take m).map (fun l => byF ns ts l.nm)).length ≤ 1000000000 by rw [List.length_map, List.length_take]; have := LN.out; omega)
        have CY := hide (fun (W : World) (h : Below w.heap.size w W) => C1.out y (.slice ya y.e.ks.length yc) W h)
        have BW := hide (bto HB1.out OW.out.2)
        unfold lfV at CY
        clear hc cc hy hyz LN
        generalize (ls.take m).map (fun l => byF ns ts l.nm) = pre at *
        generalize byF ns ts y.nm = r at *
        generalize y.e.ks.length = yem at *
        generalize y.k = yk at *
        generalize y.t = yt at *
        generalize y.nm = ynm at *
        generalize y.op = yop at *
        generalize y.e.k = yek at *
        generalize y.e.n = yen at *
        generalize y.e.d = yed at *
        generalize y.e.u = yeu at *
        generalize y.wd = ywd at *
        generalize y.vl = yvl at *
        generalize y.an = yan at *
        have tl9 := TL.out
        go_wp2_with (first
          | (go_at_call 38; refine (CY.out _ (bto BW.out (bplus (Below.refl _ _) _))).mono ?_; rintro e w5 ⟨rfl, B5⟩; replace B5 := hide (bto (bplus (Below.refl wr.heap.size wr) _) B5); have O5 := hide (show Own w1 .i64 3 w5 _ pre from ⟨own_low OW.out.1 B5.out, bto OW.out.2 B5.out⟩))
          | (at_builtin; refine wpList_append_own _ rfl _ _ 22 rfl w1.heap.size 3 i0 (.int .i64 0) 1 8 Tryd.underlying22 hi hz0 hz1 hz2 rfl (by decide) _ _ _ rfl (O5.out.1.alloc _) ⟨_, 0, none⟩ 1 1 [.int .i64 r] rfl rfl (news1 _ _ _) (by intro u hu; simp at hu; subst hu; rfl) (by unfold maxLen; omega) (by omega) (by have := O5.out.2.size; simp; omega) ?_; intro v' w6 hown' hgrow _; have O6 := hide (O5.out.grow (ys := [r]) hown' hgrow); clear hown' hgrow))
        go_roundw
        case rel => exact .mk (m + 1) (by go_num) (by omega) (by rw [TK.out]; exact O6.out)
        case measure => simp [intOf]; omega
      · obtain rfl : m = ls.length := by omega
        have hlt' : ¬ ((ls.length : Nat) : Int) < ls.length := by omega
        have OW' := OW.out
        rw [List.take_length] at OW'
        have F := hide (show NuW wr _ (tlF x ns ts) by rw [FT2.out]; exact own_nu OW')
        have BW := hide (bto HB1.out OW.out.2)
        clear OW OW'
        go_wp2
        go_ret
        exact ⟨_, rfl, F.out, BW.out⟩
  · have FT2 := hide (show tlF x ns ts = [] by rw [FT.out, hmy]; rfl)
    clear FT hmy CL y0 y1 y2 y3 y4 y5 y6 y7 y8 y9 ya yb yc yd
    refine wp_loop_rounds 1 ?_
    rw [rounds_succ]
    go_wp2
    go_ret
    exact ⟨_, rfl, by rw [FT2.out]; exact .inl ⟨_, _, rfl, rfl⟩, bto HB0.out hl1⟩
end Go.Proofs.YtpcdhdllclenaaaDoor.cd
