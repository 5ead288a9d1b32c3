/-
  What each leaf comes to: the laws' list.
-/
import Derived.Test.YtpcdhdllclenaaaDoorCeD
import Derived.Test.YtpcdhdllclenaaaDoorCeE
import Derived.Test.YtpcdhdllclenaaaDoorCdW
set_option linter.unusedVariables false
set_option linter.unusedSimpArgs false
namespace Go.Proofs.YtpcdhdllclenaaaDoor.cd
open Go.RowKit

set_option maxRecDepth 100000 in
set_option maxHeartbeats 8000000 in
theorem leavesTop_any (x : Cn) (u z : Value) (w : World) (hx : x.Ok) (hu : CM w u x.ks) (hz : EM w z x.lf.e.ks) (hs : szC x ≤ 1000000000) :
    Calls Tryd.prog 22 #[cnV x u z] w fun e w' => ∃ v, e = .returned v ∧ ((cnM x 340 = true ∧ LR w w' v (lvs x)) ∨ (cnM x 340 = false ∧ v = .slice none 0 0)) ∧ Below w.heap.size w w' := by
  obtain ⟨a, c, rfl, hl9⟩ := hu.shape
  obtain ⟨za, zc, rfl, hz9⟩ := hz.shape
  have EV := fun (a : Value) (b : Value) => show cnV x a b = .agg #[.int .i64 x.k, a, .int .i64 x.lf.k, .int .i64 x.lf.t, .string x.lf.nm, .int .i64 x.lf.op, .int .i64 x.lf.e.k, .int .i64 x.lf.e.n, .int .i64 x.lf.e.d, .int .i64 x.lf.e.u, b, .string x.lf.wd, .string x.lf.vl, .bool x.lf.an] from rfl
  have CM1 := hide (fun (W : World) (h : Below w.heap.size w W) => condMayR_any x _ _ W hx (hu.low h) (hz.low h))
  have CL := hide (fun (W : World) (h : Below w.heap.size w W) (hm : cnM x 340 = true) => leavesR_any w (szC x) hs x _ _ W 340 (Nat.le_refl _) hu hz hm h)
  simp only [EV] at CM1 CL ⊢
  clear hx hu hz EV
  generalize x.lf.e.ks.length = xem at *
  generalize x.ks.length = xn at *
  generalize x.k = xk at *
  generalize x.lf.k = xlk at *
  generalize x.lf.t = xlt at *
  generalize x.lf.nm = xnm at *
  generalize x.lf.op = xop at *
  generalize x.lf.e.k = xek at *
  generalize x.lf.e.n = xen at *
  generalize x.lf.e.d = xed at *
  generalize x.lf.e.u = xeu at *
  generalize x.lf.wd = xwd at *
  generalize x.lf.vl = xvl at *
  generalize x.lf.an = xan at *
  obtain ⟨w0, hw0⟩ : ∃ w0, w.alloc (.cells #[.int .i64 xk, .slice a xn c, .int .i64 xlk, .int .i64 xlt, .string xnm, .int .i64 xop, .int .i64 xek, .int .i64 xen, .int .i64 xed, .int .i64 xeu, .slice za xem zc, .string xwd, .string xvl, .bool xan] 39) = w0 := ⟨_, rfl⟩
  have B0 : Below w.heap.size w w0 := by rw [← hw0]; exact bplus (Below.refl _ _) _
  have P0 : w0.heap[w.heap.size]? = some (.cells #[.int .i64 xk, .slice a xn c, .int .i64 xlk, .int .i64 xlt, .string xnm, .int .i64 xop, .int .i64 xek, .int .i64 xen, .int .i64 xed, .int .i64 xeu, .slice za xem zc, .string xwd, .string xvl, .bool xan] 39) := by rw [← hw0]; exact heap_alloc_new w _
  have KH := hide (fun (W : World) (h : Below w0.heap.size w0 W) => keep14 h P0)
  have HB0 := hide B0
  have HW0 := hide hw0
  obtain ⟨y0, y1, y2, y3, y4, y5, y6, y7, y8, y9, ya, yb, yc, yd⟩ := keep14 (Below.refl w0.heap.size w0) P0
  clear B0 P0 hw0
  cases hm : cnM x 340
  · have HM := hide hm
    rw [hm] at CM1
    go_enter Tryd.func22, Tryd.ntmps22
    go_upto_region 1 with fail
    rw [HW0.out]
    go_wp2_with (go_at_call 18; refine (CM1.out w0 HB0.out).mono ?_; rintro e w1 ⟨rfl, hl⟩)
    go_ret
    exact ⟨_, rfl, .inr ⟨by simp, rfl⟩, bto HB0.out hl⟩
  · have HM := hide hm
    rw [hm] at CM1
    go_enter Tryd.func22, Tryd.ntmps22
    go_upto_region 1 with fail
    rw [HW0.out]
    go_wp2_with (first
      | (go_at_call 18; refine (CM1.out w0 HB0.out).mono ?_; rintro e w1 ⟨rfl, hl⟩; obtain ⟨v0, v1, v2, v3, v4, v5, v6, v7, v8, v9, va, vb, vc, vd⟩ := KH.out w1 hl)
      | (go_at_call 36; refine (CL.out w1 (bto HB0.out hl) HM.out).mono ?_; rintro e w2 ⟨v, rfl, hLR, hl2⟩; have HLR := hide hLR; obtain ⟨lb, lc, lxs, rfl, -⟩ := hLR))
    go_ret
    exact ⟨_, rfl, .inl ⟨by simp, HLR.out⟩, bto HB0.out (bto hl hl2)⟩
/-- What the leaves come to. -/
def tlF (x : Cn) (ns : List ByteArray) (ts : List Int) : List Int := if cnM x 340 = true then (lvs x).map (fun l => byF ns ts l.nm) else []
def RelTd (W : World) (ls : List Lf) (g : Lf → Int) (l i : Value) (wr : World) : Prop := ∃ m : Nat, i = .int .i64 m ∧ m ≤ ls.length ∧ Hid (Own W .i64 3 wr l ((ls.take m).map g))
theorem RelTd.mk {W : World} {ls : List Lf} {g : Lf → Int} {l i : Value} {wr : World} (m : Nat) (h1 : i = .int .i64 m) (h2 : m ≤ ls.length) (h3 : Own W .i64 3 wr l ((ls.take m).map g)) : RelTd W ls g l i wr := ⟨m, h1, h2, h3⟩
set_option maxRecDepth 100000 in
set_option maxHeartbeats 8000000 in
theorem toldL_any (x : Cn) (u z : Value) (b1 b2 : Nat) (vn vt : Value) (ns : List ByteArray) (ts : List Int) (w : World) (hx : x.Ok) (hu : CM w u x.ks) (hz : EM w z x.lf.e.ks) (hs : szC x ≤ 1000000000)
    (h1 : w.cell? ⟨b1, 0, none⟩ = some vn) (h2 : w.cell? ⟨b2, 0, none⟩ = some vt) (hn : Strs w vn ns) (ht : NuW w vt ts) :
    Calls Tryd.prog 27 #[cnV x u z, fnBy b1 b2] w fun e w' => ∃ v, e = .returned v ∧ NuW w' v (tlF x ns ts) ∧ Below w.heap.size w w' := by
  obtain ⟨i0, hi, hz0, hz1, hz2⟩ := info_parts info64
  obtain ⟨a, c, rfl, hl9⟩ := hu.shape
  obtain ⟨za, zc, rfl, hz9⟩ := hz.shape
  have EV := fun (a : Value) (b : Value) => show cnV x a b = .agg #[.int .i64 x.k, a, .int .i64 x.lf.k, .int .i64 x.lf.t, .string x.lf.nm, .int .i64 x.lf.op, .int .i64 x.lf.e.k, .int .i64 x.lf.e.n, .int .i64 x.lf.e.d, .int .i64 x.lf.e.u, b, .string x.lf.wd, .string x.lf.vl, .bool x.lf.an] from rfl
  have FT := hide (show tlF x ns ts = if cnM x 340 = true then (lvs x).map (fun l => byF ns ts l.nm) else [] from rfl)
  have LN := hide (show (lvs x).length ≤ 1000000000 by have := lvs_len (szC x) x (Nat.le_refl _); omega)
  have C1 := hide (fun (y : Lf) (yz : Value) (W : World) (h : Below w.heap.size w W) => by1_any y yz b1 b2 vn vt ns ts W ((h.cell (p := ⟨b1, 0, none⟩) (World.block_lt_of_cell? _ _ h1)).trans h1) ((h.cell (p := ⟨b2, 0, none⟩) (World.block_lt_of_cell? _ _ h2)).trans h2) (hn.below h) (ht.below h))
  obtain ⟨w0, hw0⟩ : ∃ w0, w.alloc (.cells #[.int .i64 x.k, .slice a x.ks.length c, .int .i64 x.lf.k, .int .i64 x.lf.t, .string x.lf.nm, .int .i64 x.lf.op, .int .i64 x.lf.e.k, .int .i64 x.lf.e.n, .int .i64 x.lf.e.d, .int .i64 x.lf.e.u, .slice za x.lf.e.ks.length zc, .string x.lf.wd, .string x.lf.vl, .bool x.lf.an] 39) = w0 := ⟨_, rfl⟩
  have B0 : Below w.heap.size w w0 := by rw [← hw0]; exact bplus (Below.refl _ _) _
  have P0 : w0.heap[w.heap.size]? = some (.cells #[.int .i64 x.k, .slice a x.ks.length c, .int .i64 x.lf.k, .int .i64 x.lf.t, .string x.lf.nm, .int .i64 x.lf.op, .int .i64 x.lf.e.k, .int .i64 x.lf.e.n, .int .i64 x.lf.e.d, .int .i64 x.lf.e.u, .slice za x.lf.e.ks.length zc, .string x.lf.wd, .string x.lf.vl, .bool x.lf.an] 39) := by rw [← hw0]; exact heap_alloc_new w _
  have CL := hide (leavesTop_any x _ _ w0 hx (hu.low B0) (hz.low B0) hs)
  simp only [EV] at CL ⊢
  have HB0 := hide B0
  have HW0 := hide hw0
  obtain ⟨y0, y1, y2, y3, y4, y5, y6, y7, y8, y9, ya, yb, yc, yd⟩ := keep14 (Below.refl w0.heap.size w0) P0
  clear hx hu hz EV h1 h2 hn ht hs B0 P0 hw0
  unfold fnBy
  go_enter Tryd.func27, Tryd.ntmps27
  go_upto_region 1 with fail
  rw [HW0.out]
  clear HW0
  go_upto_region 3 with (go_at_call 22; refine CL.out.mono ?_; rintro e w1 ⟨v, rfl, hv, hl1⟩; rcases hv with ⟨hmy, lb, lc, lxs, rfl, hlb, hlc, hlc9, LX, hcell⟩ | ⟨hmy, rfl⟩)
  · have FT2 := hide (show tlF x ns ts = (lvs x).map (fun l => byF ns ts l.nm) by rw [FT.out, if_pos hmy])
    have HB1 := hide (bto HB0.out hl1)
    have LX := hide LX
    have hcell := hide hcell
    clear FT hmy CL y0 y1 y2 y3 y4 y5 y6 y7 y8 y9 ya yb yc yd
    generalize lvs x = ls at *
    go_loopw [5, 11] (fun l i wr => RelTd w1 ls (fun l => byF ns ts l.nm) l i wr) (fun _ i _ => ls.length - (intOf i).toNat)
    case atStart => exact .mk 0 rfl (by omega) (Own.nil _ _ _)
    case round =>
      obtain ⟨m, rfl, hm, OW⟩ := hrel
      by_cases hlt : m < ls.length
      · have hlt' : (m : Int) < ls.length := by omega
        obtain ⟨y, hy⟩ : ∃ y, ls[m]? = some y := ⟨_, List.getElem?_eq_getElem hlt⟩
        obtain ⟨yz, hyz, hc⟩ := LX.out.at hy
        obtain ⟨ya, yc, rfl, -⟩ := hyz.shape
        have lbw : lb < wr.heap.size := by have := OW.out.2.size; omega
        have nb : lb ≠ wr.heap.size := by omega
        have cc : ∀ j q, (lfL y (.slice ya y.e.ks.length yc))[j]? = some q → wr.cell? ⟨lb, m * 12 + j, none⟩ = some q := fun j q hq => by
          have hj : j < 12 := (List.getElem?_eq_some_iff.1 hq).1
          have := hcell.out (m * 12 + j) q (by rw [hc j hj]; exact hq)
          exact (OW.out.2.cell (p := ⟨lb, m * 12 + j, none⟩) hlb).trans this
        have c0 := cc 0 _ rfl
        have c1 := cc 1 _ rfl
        have c2 := cc 2 _ rfl
        have c3 := cc 3 _ rfl
        have c4 := cc 4 _ rfl
        have c5 := cc 5 _ rfl
        have c6 := cc 6 _ rfl
        have c7 := cc 7 _ rfl
        have c8 := cc 8 _ rfl
        have c9 := cc 9 _ rfl
        have ca := cc 10 _ rfl
        have cb := cc 11 _ rfl
        rw [Nat.add_zero] at c0
        have TK := hide (show (ls.take (m + 1)).map (fun l => byF ns ts l.nm) = (ls.take m).map (fun l => byF ns ts l.nm) ++ [byF ns ts y.nm] by rw [List.take_add_one, hy]; simp)
        have TL := hide (show ((ls.take m).map (fun l => byF ns ts l.nm)).length ≤ 1000000000 by rw [List.length_map, List.length_take]; have := LN.out; omega)
        have CY := hide (fun (W : World) (h : Below w.heap.size w W) => C1.out y (.slice ya y.e.ks.length yc) W h)
        have BW := hide (bto HB1.out OW.out.2)
        unfold lfV at CY
        clear hc cc hy hyz LN
        generalize (ls.take m).map (fun l => byF ns ts l.nm) = pre at *
        generalize byF ns ts y.nm = r at *
        generalize y.e.ks.length = yem at *
        generalize y.k = yk at *
        generalize y.t = yt at *
        generalize y.nm = ynm at *
        generalize y.op = yop at *
        generalize y.e.k = yek at *
        generalize y.e.n = yen at *
        generalize y.e.d = yed at *
        generalize y.e.u = yeu at *
        generalize y.wd = ywd at *
        generalize y.vl = yvl at *
        generalize y.an = yan at *
        have tl9 := TL.out
        go_wp2_with (first
          | (go_at_call 38; refine (CY.out _ (bto BW.out (bplus (Below.refl _ _) _))).mono ?_; rintro e w5 ⟨rfl, B5⟩; replace B5 := hide (bto (bplus (Below.refl wr.heap.size wr) _) B5); have O5 := hide (show Own w1 .i64 3 w5 _ pre from ⟨own_low OW.out.1 B5.out, bto OW.out.2 B5.out⟩))
          | (at_builtin; refine wpList_append_own _ rfl _ _ 22 rfl w1.heap.size 3 i0 (.int .i64 0) 1 8 Tryd.underlying22 hi hz0 hz1 hz2 rfl (by decide) _ _ _ rfl (O5.out.1.alloc _) ⟨_, 0, none⟩ 1 1 [.int .i64 r] rfl rfl (news1 _ _ _) (by intro u hu; simp at hu; subst hu; rfl) (by unfold maxLen; omega) (by omega) (by have := O5.out.2.size; simp; omega) ?_; intro v' w6 hown' hgrow _; have O6 := hide (O5.out.grow (ys := [r]) hown' hgrow); clear hown' hgrow))
        go_roundw
        case rel => exact .mk (m + 1) (by go_num) (by omega) (by rw [TK.out]; exact O6.out)
        case measure => simp [intOf]; omega
      · obtain rfl : m = ls.length := by omega
        have hlt' : ¬ ((ls.length : Nat) : Int) < ls.length := by omega
        have OW' := OW.out
        rw [List.take_length] at OW'
        have F := hide (show NuW wr _ (tlF x ns ts) by rw [FT2.out]; exact own_nu OW')
        have BW := hide (bto HB1.out OW.out.2)
        clear OW OW'
        go_wp2
        go_ret
        exact ⟨_, rfl, F.out, BW.out⟩
  · have FT2 := hide (show tlF x ns ts = [] by rw [FT.out, hmy]; rfl)
    clear FT hmy CL y0 y1 y2 y3 y4 y5 y6 y7 y8 y9 ya yb yc yd
    refine wp_loop_rounds 1 ?_
    rw [rounds_succ]
    go_wp2
    go_ret
    exact ⟨_, rfl, by rw [FT2.out]; exact .inl ⟨_, _, rfl, rfl⟩, bto HB0.out hl1⟩
end Go.Proofs.YtpcdhdllclenaaaDoor.cd
set_option linter.unusedVariables false
set_option linter.unusedSimpArgs false
namespace Go.Proofs.YtpcdhdllclenaaaDoor.cd
open Go.RowKit

/-- What a leaf takes of what is told. -/
def hdT : List Int → Int
  | [] => 1
  | t :: _ => tr t
def lfR (x : Lf) (ts : List Int) : Int := if x.k = 1 then x.t else if x.k = 0 then 1 else hdT ts
mutual
/-- The truth of a condition, and what is left of what is told. -/
def evR : Cn → List Int → Int × List Int
  | .mk k lf ks, ts => if k = 4 then (lfR lf ts, ts.tail) else ((if k = 1 then anN 2 (evRs ks ts).1 else if k = 2 then orN 0 (evRs ks ts).1 else 2 - tr ((evRs ks ts).1.headD 0)), (evRs ks ts).2)
def evRs : List Cn → List Int → List Int × List Int
  | [], ts => ([], ts)
  | e :: es, ts => ((evR e ts).1 :: (evRs es (evR e ts).2).1, (evRs es (evR e ts).2).2)
end
theorem evR_eq (x : Cn) (ts : List Int) : evR x ts = if x.k = 4 then (lfR x.lf ts, ts.tail) else ((if x.k = 1 then anN 2 (evRs x.ks ts).1 else if x.k = 2 then orN 0 (evRs x.ks ts).1 else 2 - tr ((evRs x.ks ts).1.headD 0)), (evRs x.ks ts).2) := by
  cases x with | mk k lf ks => rw [evR]; rfl
theorem evRs_nil (ts : List Int) : evRs [] ts = ([], ts) := by rw [evRs]
theorem evRs_cons (e : Cn) (es : List Cn) (ts : List Int) : evRs (e :: es) ts = ((evR e ts).1 :: (evRs es (evR e ts).2).1, (evRs es (evR e ts).2).2) := by rw [evRs]
theorem evR_feed {h : ByteArray → Int} {g : Lf → Int} (hg : ∀ l, tr (g l) = h l.nm) (N : Nat) : ∀ (x : Cn) (rest : List Int), szC x ≤ N → evR x ((lvs x).map g ++ rest) = (evC h x, rest) := by
  induction N with
  | zero => intro x rest hx; rw [szC_ks] at hx; omega
  | succ N ih =>
    intro x rest hx
    rw [szC_ks] at hx
    have key : ∀ (l : List Cn) (rest : List Int), szCs l ≤ N → evRs l ((lvss l).map g ++ rest) = (l.map (evC h), rest) := by
      intro l
      induction l with
      | nil => intro rest _; rw [lvss_nil, evRs_nil]; rfl
      | cons y r ihl =>
        intro rest hl
        rw [szCs_cons] at hl
        rw [lvss_cons, List.map_append, List.append_assoc, evRs_cons, ih y _ (by rw [szC_ks]; omega), ihl rest (by omega)]
        rfl
    rw [evR_eq, evC_eq, lvs_eq]
    split
    · refine Prod.ext ?_ rfl
      show lfR x.lf ([g x.lf] ++ rest) = lfT h x.lf
      unfold lfR lfT
      by_cases h0 : x.lf.k = 0
      · rw [h0]; simp
      by_cases h1 : x.lf.k = 1
      · rw [h1]; simp
      rw [if_neg h1, if_neg h0, if_neg h0, if_neg h1]
      exact hg x.lf
    · rw [key x.ks rest (by omega)]
theorem evR_none (N : Nat) : ∀ (x : Cn), szC x ≤ N → evR x [] = (evC (fun _ => 1) x, []) := by
  induction N with
  | zero => intro x hx; rw [szC_ks] at hx; omega
  | succ N ih =>
    intro x hx
    rw [szC_ks] at hx
    have key : ∀ (l : List Cn), szCs l ≤ N → evRs l [] = (l.map (evC (fun _ => 1)), []) := by
      intro l
      induction l with
      | nil => intro _; rw [evRs_nil]; rfl
      | cons y r ihl =>
        intro hl
        rw [szCs_cons] at hl
        rw [evRs_cons, ih y (by rw [szC_ks]; omega), ihl (by omega)]
        rfl
    rw [evR_eq, evC_eq]
    split
    · refine Prod.ext ?_ rfl
      show lfR x.lf [] = lfT (fun _ => 1) x.lf
      unfold lfR lfT hdT
      by_cases h0 : x.lf.k = 0
      · rw [h0]; simp
      by_cases h1 : x.lf.k = 1
      · rw [h1]; simp
      rw [if_neg h1, if_neg h0, if_neg h0, if_neg h1]
    · rw [key x.ks (by omega)]
theorem tup2 {a b : Int} {v : Value} (h : a = b) : Ending.returned (.tuple #[.int .i64 a, v]) = .returned (.tuple #[.int .i64 b, v]) := by rw [h]
theorem nu_tail {w : World} {b o n c : Nat} {l : List Int} (h : NuW w (.slice (some ⟨b, o, none⟩) (n + 1) c) l) (q : Value) (hq : q = .slice (some ⟨b, o + 1, none⟩) n (c - 1) ∨ (n = 0 ∧ ∃ a c', q = .slice a 0 c')) : NuW w q l.tail := by
  rcases h with ⟨a', c', h1, h2⟩ | ⟨b', o', n', c', h1, h2, h3, h4, h5, h6, h7⟩
  · injection h1 with e1 e2 e3; omega
  · injection h1 with e1 e2 e3
    injection e1 with e1
    injection e1 with e4 e5 e6
    subst e2 e3 e4 e5
    have hlen : l.tail.length = n := by rw [List.length_tail]; omega
    by_cases hn : n = 0
    · subst hn
      have : l.tail = [] := List.eq_nil_of_length_eq_zero hlen
      rw [this]
      rcases hq with rfl | ⟨-, a, c', rfl⟩
      · exact .inl ⟨_, _, rfl, rfl⟩
      · exact .inl ⟨_, _, rfl, rfl⟩
    · rcases hq with rfl | ⟨h0, -⟩
      · refine .inr ⟨b, o + 1, n, c - 1, rfl, hlen.symm, by omega, h4, by omega, by omega, fun i hi => ?_⟩
        have := h7 (i + 1) (by omega)
        rw [show o + 1 + i = o + (i + 1) by omega, this]
        congr 2
        unfold gt
        cases l with
        | nil => simp at h2
        | cons x r => simp [List.getD]
      · exact absurd h0 hn
theorem nu_tail' {w : World} {b o n c : Nat} {l : List Int} (h : NuW w (.slice (some ⟨b, o, none⟩) n c) l) (hn : 1 ≤ n) : NuW w (.slice (some ⟨b, o + 1, none⟩) (n - 1) (c - 1)) l.tail := by
  obtain ⟨m, rfl⟩ : ∃ m, n = m + 1 := ⟨n - 1, by omega⟩
  exact nu_tail h _ (.inl rfl)
set_option maxRecDepth 100000 in
set_option maxHeartbeats 8000000 in
theorem evalR_leaf (M : World) (lf : Lf) (ks : List Cn) (u z v : Value) (ts : List Int) (w : World) (hu : ∃ a n c, u = .slice a n c) (hz : ∃ a n c, z = .slice a n c) (hv : NuW M v ts) (hMw : Below M.heap.size M w) :
    Calls Tryd.prog 41 #[cnV (.mk 4 lf ks) u z, v] w fun e w' => ∃ v', e = .returned (.tuple #[.int .i64 (lfR lf ts), v']) ∧ NuW M v' ts.tail ∧ Below w.heap.size w w' := by
  obtain ⟨ua, un, uc, rfl⟩ := hu
  obtain ⟨za, zm, zc, rfl⟩ := hz
  obtain ⟨lk, lt, nm, op, ⟨ek, en, ed, eu, eks⟩, wd, vl, an⟩ := lf
  obtain ⟨va, vc, rfl, hv9⟩ := hv.shape
  show Calls Tryd.prog 41 #[.agg #[.int .i64 4, .slice ua un uc, .int .i64 lk, .int .i64 lt, .string nm, .int .i64 op, .int .i64 ek, .int .i64 en, .int .i64 ed, .int .i64 eu, .slice za zm zc, .string wd, .string vl, .bool an], .slice va ts.length vc] w _
  have E := hide (show lfR ⟨lk, lt, nm, op, .mk ek en ed eu eks, wd, vl, an⟩ ts = if lk = 1 then lt else if lk = 0 then 1 else hdT ts from rfl)
  generalize lfR ⟨lk, lt, nm, op, .mk ek en ed eu eks, wd, vl, an⟩ ts = R at *
  obtain ⟨w0, hw0⟩ : ∃ w0, w.alloc (.cells #[.int .i64 4, .slice ua un uc, .int .i64 lk, .int .i64 lt, .string nm, .int .i64 op, .int .i64 ek, .int .i64 en, .int .i64 ed, .int .i64 eu, .slice za zm zc, .string wd, .string vl, .bool an] 39) = w0 := ⟨_, rfl⟩
  have B0 : Below w.heap.size w w0 := by rw [← hw0]; exact bplus (Below.refl _ _) _
  have P0 : w0.heap[w.heap.size]? = some (.cells #[.int .i64 4, .slice ua un uc, .int .i64 lk, .int .i64 lt, .string nm, .int .i64 op, .int .i64 ek, .int .i64 en, .int .i64 ed, .int .i64 eu, .slice za zm zc, .string wd, .string vl, .bool an] 39) := by rw [← hw0]; exact heap_alloc_new w _
  have HB0 := hide B0
  have HW0 := hide hw0
  obtain ⟨y0, y1, y2, y3, y4, y5, y6, y7, y8, y9, ya, yb, yc, yd⟩ := keep14 (Below.refl w0.heap.size w0) P0
  have HV := hide hv
  clear hv B0 hw0
  cases ts with
  | nil =>
    clear P0
    have FV := hide (show NuW M (.slice va 0 vc) [] from .inl ⟨_, _, rfl, rfl⟩)
    have E2 := hide (show R = if lk = 1 then lt else 1 by rw [E.out]; simp [hdT])
    clear E
    by_cases h1 : lk = 1
    · subst h1
      have F := hide (show R = lt by rw [E2.out]; simp)
      clear E2
      go_enter Tryd.func41, Tryd.ntmps41
      go_upto_region 1 with fail
      rw [HW0.out]
      go_wp2
      go_ret2
      exact ⟨_, tup2 F.out.symm, FV.out, HB0.out⟩
    · have F := hide (show R = 1 by rw [E2.out]; simp [h1])
      have h1' : (lk == 1) = false := by simpa using h1
      clear E2
      by_cases h0 : lk = 0
      · subst h0
        go_enter Tryd.func41, Tryd.ntmps41
        go_upto_region 1 with fail
        rw [HW0.out]
        go_wp2
        go_ret2
        exact ⟨_, tup2 F.out.symm, FV.out, HB0.out⟩
      · have h0' : (lk == 0) = false := by simpa using h0
        go_enter Tryd.func41, Tryd.ntmps41
        go_upto_region 1 with fail
        rw [HW0.out]
        go_wp2
        go_ret2
        exact ⟨_, tup2 F.out.symm, FV.out, HB0.out⟩
  | cons t r =>
    obtain ⟨b, o, rfl, hb, hc⟩ := HV.out.at (k := 0) (by simp)
    rw [show gt (t :: r) 0 = t from rfl, Nat.add_zero] at hc
    have hcm := (bto hMw HB0.out).cell (p := ⟨b, o, none⟩) hb
    rw [hc] at hcm
    have hb0 : b < w0.heap.size := by have := hMw.size; have := HB0.out.size; omega
    have KH := hide (fun (W : World) (h : Below w0.heap.size w0 W) => show W.cell? ⟨b, o, none⟩ = some (.int .i64 t) ∧ W.cell? ⟨w.heap.size, 2, none⟩ = some (.int .i64 lk) ∧ W.cell? ⟨w.heap.size, 3, none⟩ = some (.int .i64 lt) from ⟨(h.cell (p := ⟨b, o, none⟩) hb0).trans hcm, (keep14 h P0).2.2.1, (keep14 h P0).2.2.2.1⟩)
    have CT := hide (fun (W : World) => truthR_any t W)
    have hcap : r.length + 1 ≤ vc ∧ vc ≤ 9223372036854775807 := by
      rcases HV.out with ⟨a', c', h1, h2⟩ | ⟨b', o', n', c', h1, h2, h3, h4, h5, h6, h7⟩
      · cases h2
      · injection h1 with e1 e2 e3
        simp at e2
        omega
    obtain ⟨hcap1, hcap2⟩ := hcap
    have NT := hide (fun q hq => nu_tail (n := r.length) HV.out q hq)
    have NT0 := hide (fun (n : Nat) (hn : r.length + 1 = n) => nu_tail' (n := n) (show NuW M (.slice (some ⟨b, o, none⟩) n vc) (t :: r) from by rw [← hn]; exact HV.out) (by omega))
    have E2 := hide (show R = if lk = 1 then lt else if lk = 0 then 1 else tr t from E.out)
    clear E HV hc P0
    generalize tr t = tt at *
    simp only [List.length_cons] at hv9 HW0 ⊢
    by_cases hvc : vc = 1
    · subst hvc
      obtain rfl : r = [] := List.eq_nil_of_length_eq_zero (by omega)
      by_cases h1 : lk = 1
      · subst h1
        have F := hide (show R = lt by rw [E2.out]; simp)
        clear E2
        go_enter Tryd.func41, Tryd.ntmps41
        go_upto_region 1 with fail
        rw [HW0.out]
        clear HW0
        go_upto_region 4 with fail
        go_region_held3 (fun w' => w'.cell? ⟨b, o, none⟩ = some (.int .i64 t) ∧ w'.cell? ⟨w.heap.size, 2, none⟩ = some (.int .i64 1) ∧ w'.cell? ⟨w.heap.size, 3, none⟩ = some (.int .i64 lt))
          ((refine KH.out _ ?_; (repeat (first | (with_reducible refine Below.drew ?_) | (with_reducible refine below_drewN ?_ _) | (with_reducible refine bplus ?_ _) | (with_reducible exact Below.refl _ _) | (with_reducible assumption) | (with_reducible refine bto ?_ (by with_reducible assumption)))); done))
          (first | (go_at_call 29; refine (CT.out _).mono ?_; rintro _ wl ⟨rfl, rfl⟩))
        all_goals
          go_wp2
          go_ret2
          refine ⟨_, tup2 F.out.symm, NT.out _ (.inr ⟨rfl, _, _, rfl⟩), bto HB0.out ?_⟩
          repeat (first | (with_reducible refine Below.drew ?_) | (with_reducible refine below_drewN ?_ _) | (with_reducible refine bplus ?_ _) | (with_reducible exact Below.refl _ _) | (with_reducible assumption) | (with_reducible refine bto ?_ (by with_reducible assumption)))
      have h1' : (lk == 1) = false := by simpa using h1
      by_cases h0 : lk = 0
      · subst h0
        have F := hide (show R = 1 by rw [E2.out]; simp)
        clear E2
        go_enter Tryd.func41, Tryd.ntmps41
        go_upto_region 1 with fail
        rw [HW0.out]
        clear HW0
        go_upto_region 4 with fail
        go_region_held3 (fun w' => w'.cell? ⟨b, o, none⟩ = some (.int .i64 t) ∧ w'.cell? ⟨w.heap.size, 2, none⟩ = some (.int .i64 0) ∧ w'.cell? ⟨w.heap.size, 3, none⟩ = some (.int .i64 lt))
          ((refine KH.out _ ?_; (repeat (first | (with_reducible refine Below.drew ?_) | (with_reducible refine below_drewN ?_ _) | (with_reducible refine bplus ?_ _) | (with_reducible exact Below.refl _ _) | (with_reducible assumption) | (with_reducible refine bto ?_ (by with_reducible assumption)))); done))
          (first | (go_at_call 29; refine (CT.out _).mono ?_; rintro _ wl ⟨rfl, rfl⟩))
        all_goals
          go_wp2
          go_ret2
          refine ⟨_, tup2 F.out.symm, NT.out _ (.inr ⟨rfl, _, _, rfl⟩), bto HB0.out ?_⟩
          repeat (first | (with_reducible refine Below.drew ?_) | (with_reducible refine below_drewN ?_ _) | (with_reducible refine bplus ?_ _) | (with_reducible exact Below.refl _ _) | (with_reducible assumption) | (with_reducible refine bto ?_ (by with_reducible assumption)))
      have h0' : (lk == 0) = false := by simpa using h0
      have F := hide (show R = tt by rw [E2.out]; simp [h0, h1])
      clear E2
      go_enter Tryd.func41, Tryd.ntmps41
      go_upto_region 1 with fail
      rw [HW0.out]
      clear HW0
      go_upto_region 4 with fail
      go_region_held3 (fun w' => w'.cell? ⟨b, o, none⟩ = some (.int .i64 t) ∧ w'.cell? ⟨w.heap.size, 2, none⟩ = some (.int .i64 lk) ∧ w'.cell? ⟨w.heap.size, 3, none⟩ = some (.int .i64 lt))
        ((refine KH.out _ ?_; (repeat (first | (with_reducible refine Below.drew ?_) | (with_reducible refine below_drewN ?_ _) | (with_reducible refine bplus ?_ _) | (with_reducible exact Below.refl _ _) | (with_reducible assumption) | (with_reducible refine bto ?_ (by with_reducible assumption)))); done))
        (first | (go_at_call 29; refine (CT.out _).mono ?_; rintro _ wl ⟨rfl, rfl⟩))
      all_goals
        go_wp2
        go_ret2
        refine ⟨_, tup2 F.out.symm, NT.out _ (.inr ⟨rfl, _, _, rfl⟩), bto HB0.out ?_⟩
        repeat (first | (with_reducible refine Below.drew ?_) | (with_reducible refine below_drewN ?_ _) | (with_reducible refine bplus ?_ _) | (with_reducible exact Below.refl _ _) | (with_reducible assumption) | (with_reducible refine bto ?_ (by with_reducible assumption)))
    obtain ⟨n, hn⟩ : ∃ n, r.length + 1 = n := ⟨_, rfl⟩
    have NT2 := hide (show NuW M (.slice (some ⟨b, o + 1, none⟩) (n - 1) (vc - 1)) (t :: r).tail from NT0.out n hn)
    have hn1 : 1 ≤ n := by omega
    have hn2 : n ≤ vc := by omega
    have hn3 : ¬ vc = 1 := hvc
    have hn4 : (1 : Int) ≤ (n : Int) := by omega
    have hn5 : (0 : Int) < (n : Int) := by omega
    clear NT NT0 hcap1
    rw [hn]
    clear hn hv9
    by_cases h1 : lk = 1
    · subst h1
      have F := hide (show R = lt by rw [E2.out]; simp)
      clear E2
      go_enter Tryd.func41, Tryd.ntmps41
      go_upto_region 1 with fail
      rw [HW0.out]
      clear HW0
      go_upto_region 4 with fail
      go_region_held3 (fun w' => w'.cell? ⟨b, o, none⟩ = some (.int .i64 t) ∧ w'.cell? ⟨w.heap.size, 2, none⟩ = some (.int .i64 1) ∧ w'.cell? ⟨w.heap.size, 3, none⟩ = some (.int .i64 lt))
        ((refine KH.out _ ?_; (repeat (first | (with_reducible refine Below.drew ?_) | (with_reducible refine below_drewN ?_ _) | (with_reducible refine bplus ?_ _) | (with_reducible exact Below.refl _ _) | (with_reducible assumption) | (with_reducible refine bto ?_ (by with_reducible assumption)))); done))
        (first | (go_at_call 29; refine (CT.out _).mono ?_; rintro _ wl ⟨rfl, rfl⟩))
      all_goals
        go_wp2
        go_ret2
        refine ⟨_, tup2 F.out.symm, NT2.out, bto HB0.out ?_⟩
        repeat (first | (with_reducible refine Below.drew ?_) | (with_reducible refine below_drewN ?_ _) | (with_reducible refine bplus ?_ _) | (with_reducible exact Below.refl _ _) | (with_reducible assumption) | (with_reducible refine bto ?_ (by with_reducible assumption)))
    have h1' : (lk == 1) = false := by simpa using h1
    by_cases h0 : lk = 0
    · subst h0
      have F := hide (show R = 1 by rw [E2.out]; simp)
      clear E2
      go_enter Tryd.func41, Tryd.ntmps41
      go_upto_region 1 with fail
      rw [HW0.out]
      clear HW0
      go_upto_region 4 with fail
      go_region_held3 (fun w' => w'.cell? ⟨b, o, none⟩ = some (.int .i64 t) ∧ w'.cell? ⟨w.heap.size, 2, none⟩ = some (.int .i64 0) ∧ w'.cell? ⟨w.heap.size, 3, none⟩ = some (.int .i64 lt))
        ((refine KH.out _ ?_; (repeat (first | (with_reducible refine Below.drew ?_) | (with_reducible refine below_drewN ?_ _) | (with_reducible refine bplus ?_ _) | (with_reducible exact Below.refl _ _) | (with_reducible assumption) | (with_reducible refine bto ?_ (by with_reducible assumption)))); done))
        (first | (go_at_call 29; refine (CT.out _).mono ?_; rintro _ wl ⟨rfl, rfl⟩))
      all_goals
        go_wp2
        go_ret2
        refine ⟨_, tup2 F.out.symm, NT2.out, bto HB0.out ?_⟩
        repeat (first | (with_reducible refine Below.drew ?_) | (with_reducible refine below_drewN ?_ _) | (with_reducible refine bplus ?_ _) | (with_reducible exact Below.refl _ _) | (with_reducible assumption) | (with_reducible refine bto ?_ (by with_reducible assumption)))
    have h0' : (lk == 0) = false := by simpa using h0
    have F := hide (show R = tt by rw [E2.out]; simp [h0, h1])
    clear E2
    go_enter Tryd.func41, Tryd.ntmps41
    go_upto_region 1 with fail
    rw [HW0.out]
    clear HW0
    go_upto_region 4 with fail
    go_region_held3 (fun w' => w'.cell? ⟨b, o, none⟩ = some (.int .i64 t) ∧ w'.cell? ⟨w.heap.size, 2, none⟩ = some (.int .i64 lk) ∧ w'.cell? ⟨w.heap.size, 3, none⟩ = some (.int .i64 lt))
      ((refine KH.out _ ?_; (repeat (first | (with_reducible refine Below.drew ?_) | (with_reducible refine below_drewN ?_ _) | (with_reducible refine bplus ?_ _) | (with_reducible exact Below.refl _ _) | (with_reducible assumption) | (with_reducible refine bto ?_ (by with_reducible assumption)))); done))
      (first | (go_at_call 29; refine (CT.out _).mono ?_; rintro _ wl ⟨rfl, rfl⟩))
    all_goals
      go_wp2
      go_ret2
      refine ⟨_, tup2 F.out.symm, NT2.out, bto HB0.out ?_⟩
      repeat (first | (with_reducible refine Below.drew ?_) | (with_reducible refine below_drewN ?_ _) | (with_reducible refine bplus ?_ _) | (with_reducible exact Below.refl _ _) | (with_reducible assumption) | (with_reducible refine bto ?_ (by with_reducible assumption)))
end Go.Proofs.YtpcdhdllclenaaaDoor.cd
set_option linter.unusedVariables false
set_option linter.unusedSimpArgs false
namespace Go.Proofs.YtpcdhdllclenaaaDoor.cd
open Go.RowKit

def RelEr (M W : World) (ks : List Cn) (ts : List Int) (t l i : Value) (wr : World) : Prop := ∃ (m : Nat) (rs ts' : List Int), i = .int .i64 m ∧ m ≤ ks.length ∧ rs.length = m ∧ NuW M t ts' ∧ Hid (Own W .i64 3 wr l rs) ∧ Hid (evRs ks ts = (rs ++ (evRs (ks.drop m) ts').1, (evRs (ks.drop m) ts').2))
theorem RelEr.mk {M W : World} {ks : List Cn} {ts : List Int} {t l i : Value} {wr : World} (m : Nat) (rs ts' : List Int) (h1 : i = .int .i64 m) (h2 : m ≤ ks.length) (h3 : rs.length = m) (h4 : NuW M t ts') (h5 : Own W .i64 3 wr l rs) (h6 : evRs ks ts = (rs ++ (evRs (ks.drop m) ts').1, (evRs (ks.drop m) ts').2)) : RelEr M W ks ts t l i wr := ⟨m, rs, ts', h1, h2, h3, h4, h5, h6⟩
set_option maxRecDepth 100000 in
set_option maxHeartbeats 16000000 in
theorem evalR_any (M : World) (N : Nat) : ∀ (x : Cn) (u z v : Value) (ts : List Int) (w : World) (j : Nat), szC x ≤ N → CM M u x.ks → EM M z x.lf.e.ks → cnM x j = true → NuW M v ts → Below M.heap.size M w →
    Calls Tryd.prog 41 #[cnV x u z, v] w fun e w' => ∃ v', e = .returned (.tuple #[.int .i64 (evR x ts).1, v']) ∧ NuW M v' (evR x ts).2 ∧ Below w.heap.size w w' := by
  induction N with
  | zero => intro x u z v ts w j hN; rw [szC_ks] at hN; omega
  | succ N ih =>
    intro x u z v ts w j hN hu hz hm hv hMw
    obtain ⟨hct, hkid⟩ := cn_kid hm
    have E := hide (evR_eq x ts)
    by_cases hk4 : x.k = 4
    · obtain ⟨k, lf, ks⟩ := x
      obtain rfl : k = 4 := hk4
      rw [E.out]
      exact evalR_leaf M lf ks u z v ts w (by obtain ⟨a, c, h, -⟩ := hu.shape; exact ⟨a, _, c, h⟩) (by obtain ⟨a, c, h, -⟩ := hz.shape; exact ⟨a, _, c, h⟩) hv hMw
    obtain ⟨a, c, rfl, hl9⟩ := hu.shape
    obtain ⟨za, zc, rfl, hz9⟩ := hz.shape
    obtain ⟨va, vc, rfl, hv9⟩ := hv.shape
    rw [szC_ks] at hN
    replace E := hide (E.out.trans (if_neg hk4))
    obtain ⟨k, ⟨lk, lt, nm, op, ⟨ek, en, ed, eu, eks⟩, wd, vl, an⟩, ks⟩ := x
    simp only [Cn.k, Cn.lf, Cn.ks] at hN hl9 E hct hkid hk4
    replace hu : CM M (.slice a ks.length c) ks := hu
    show Calls Tryd.prog 41 #[.agg #[.int .i64 k, .slice a ks.length c, .int .i64 lk, .int .i64 lt, .string nm, .int .i64 op, .int .i64 ek, .int .i64 en, .int .i64 ed, .int .i64 eu, .slice za eks.length zc, .string wd, .string vl, .bool an], .slice va ts.length vc] w _
    clear hz hz9
    generalize eks.length = zm at *
    have HU := hide hu
    have IH := hide ih
    have HK := hide hkid
    have HMW := hide hMw
    have HV := hide hv
    obtain ⟨w0, hw0⟩ : ∃ w0, w.alloc (.cells #[.int .i64 k, .slice a ks.length c, .int .i64 lk, .int .i64 lt, .string nm, .int .i64 op, .int .i64 ek, .int .i64 en, .int .i64 ed, .int .i64 eu, .slice za zm zc, .string wd, .string vl, .bool an] 39) = w0 := ⟨_, rfl⟩
    have B0 : Below w.heap.size w w0 := by rw [← hw0]; exact bplus (Below.refl _ _) _
    have P0 : w0.heap[w.heap.size]? = some (.cells #[.int .i64 k, .slice a ks.length c, .int .i64 lk, .int .i64 lt, .string nm, .int .i64 op, .int .i64 ek, .int .i64 en, .int .i64 ed, .int .i64 eu, .slice za zm zc, .string wd, .string vl, .bool an] 39) := by rw [← hw0]; exact heap_alloc_new w _
    have KH := hide (fun (W : World) (h : Below w0.heap.size w0 W) => (keep14 h P0).1)
    have HB0 := hide B0
    have HW0 := hide hw0
    obtain ⟨y0, y1, y2, y3, y4, y5, y6, y7, y8, y9, ya, yb, yc, yd⟩ := keep14 (Below.refl w0.heap.size w0) P0
    obtain ⟨i0, hi, hz0, hz1, hz2⟩ := info_parts info64
    have H3 := cnt4 hct hk4
    have hk4' : (k == 4) = false := by simpa using hk4
    generalize hR : evR (.mk k ⟨lk, lt, nm, op, .mk ek en ed eu eks, wd, vl, an⟩ ks) ts = R at *
    have hkk : k = 1 ∨ k = 2 ∨ k = 3 := by rcases H3 with h | h | ⟨h, -⟩ <;> omega
    have HH3 := hide H3
    clear hu ih hkid hm hw0 B0 P0 hMw hct hv H3 hR
    go_enter Tryd.func41, Tryd.ntmps41
    go_upto_region 1 with fail
    rw [HW0.out]
    go_wp2_with fail
    go_loopw [1, 7, 38] (fun t l i wr => RelEr M w0 ks ts t l i wr) (fun _ _ i _ => ks.length - (intOf i).toNat)
    case atStart => exact .mk 0 [] ts rfl (by omega) rfl HV.out (Own.nil _ _ _) (by simp)
    case round =>
      obtain ⟨m, rs, ts', rfl, hm, hrl, NT, OW, R2⟩ := hrel
      obtain ⟨ta, tc, rfl, -⟩ := NT.shape
      replace NT := hide NT
      have BM := hide (bto HMW.out (bto HB0.out OW.out.2))
      clear HW0 y0 y1 y2 y3 y4 y5 y6 y7 y8 y9 ya yb yc yd HV
      by_cases hlt : m < ks.length
      · obtain ⟨x, hx⟩ : ∃ x, ks[m]? = some x := ⟨_, List.getElem?_eq_getElem hlt⟩
        obtain ⟨b, o, c', xu, xz, hv', hb, -, -, xo, t14, hzz, hku⟩ := HU.out.at hx
        obtain ⟨rfl, rfl⟩ : a = some ⟨b, o, none⟩ ∧ c = c' := by cases hv'; exact ⟨rfl, rfl⟩
        obtain ⟨ua, uc, rfl, hks9⟩ := hku.shape
        obtain ⟨xa, xc, rfl, hzs9⟩ := hzz.shape
        have SZ : szC x ≤ N := by have := szCs_at hx; omega
        have CI := hide (fun (W : World) (h : Below M.heap.size M W) => IH.out x (.slice ua x.ks.length uc) (.slice xa x.lf.e.ks.length xc) (.slice ta ts'.length tc) ts' W (j - 1) SZ hku hzz (HK.out m x hx) NT.out h)
        have R3 := hide (show evRs ks ts = ((rs ++ [(evR x ts').1]) ++ (evRs (ks.drop (m + 1)) (evR x ts').2).1, (evRs (ks.drop (m + 1)) (evR x ts').2).2) by rw [R2.out, drop_atE hx, evRs_cons]; simp)
        have hlt' : (m : Int) < ks.length := by omega
        obtain ⟨c0, c1, c2, c3, c4, c5, c6, c7, c8, c9, ca, cb, cc, cd⟩ := t14.below BM.out hb
        have hbw : b < wr.heap.size := by have := BM.out.size; omega
        have nb : b ≠ wr.heap.size := by omega
        clear hx hv' t14 hzz hku SZ R2 xo
        unfold cnV at CI
        clear IH
        generalize evR x ts' = er at *
        generalize x.lf.e.ks.length = xem at *
        generalize x.ks.length = xm at *
        generalize x.k = xk at *
        generalize x.lf.k = xlk at *
        generalize x.lf.t = xlt at *
        generalize x.lf.nm = xnm at *
        generalize x.lf.op = xop at *
        generalize x.lf.e.k = xek at *
        generalize x.lf.e.n = xen at *
        generalize x.lf.e.d = xed at *
        generalize x.lf.e.u = xeu at *
        generalize x.lf.wd = xwd at *
        generalize x.lf.vl = xvl at *
        generalize x.lf.an = xan at *
        have hrs9 : rs.length ≤ 1000000000 := by omega
        go_wp2_with (first
          | (go_at_call 41; refine (CI.out _ (bto BM.out (bplus (Below.refl _ _) _))).mono ?_; rintro e w5 ⟨v', rfl, NV, B5⟩; replace NV := hide NV; replace B5 := hide (bto (bplus (Below.refl wr.heap.size wr) _) B5); have O5 := hide (show Own w0 .i64 3 w5 _ rs from ⟨own_low OW.out.1 B5.out, bto OW.out.2 B5.out⟩))
          | (at_builtin; refine wpList_append_own _ rfl _ _ 22 rfl w0.heap.size 3 i0 (.int .i64 0) 1 8 Tryd.underlying22 hi hz0 hz1 hz2 rfl (by decide) _ _ _ rfl (O5.out.1.alloc _) ⟨_, 0, none⟩ 1 1 [.int .i64 er.1] rfl rfl (news1 _ _ _) (by intro u hu; simp at hu; subst hu; rfl) (by unfold maxLen; omega) (by omega) (by have := O5.out.2.size; simp; omega) ?_; intro vv w6 hown' hgrow _; have O6 := hide (O5.out.grow (ys := [er.1]) hown' hgrow); clear hown' hgrow))
        go_roundw
        case rel => exact .mk (m + 1) (rs ++ [er.1]) er.2 (by go_num) (by omega) (by simp; omega) NV.out O6.out R3.out
        case measure => simp [intOf]; omega
      · obtain rfl : m = ks.length := by omega
        have hlt' : ¬ ((ks.length : Nat) : Int) < ks.length := by omega
        have R4 := hide (show evRs ks ts = (rs, ts') by rw [R2.out, List.drop_length, evRs_nil]; simp)
        have NU := hide (own_nu OW.out)
        obtain ⟨la, lc, rfl, -⟩ := NU.out.shape
        have z0 := KH.out wr OW.out.2
        have BW := hide (bto HB0.out OW.out.2)
        have C1 := hide (fun (W : World) (h : Below wr.heap.size wr W) => andR_any rs _ W (NU.out.below h))
        have C2 := hide (fun (W : World) (h : Below wr.heap.size wr W) => orR_any rs _ W (NU.out.below h))
        have NUR := hide (show (.slice la rs.length lc : Value) = .slice la ks.length lc by rw [hrl])
        have E2 := hide (show R = ((if k = 1 then anN 2 rs else if k = 2 then orN 0 rs else 2 - tr (rs.headD 0)), ts') by rw [E.out, R4.out]; rfl)
        clear R2 R4 OW KH HU IH HK
        rcases HH3.out with rfl | rfl | ⟨rfl, hq⟩
        · have F := hide (show R = (anN 2 rs, ts') by rw [E2.out]; simp)
          clear E E2
          generalize anN 2 rs = r at *
          clear hrl
          go_wp2_with (go_at_call 10; refine (C1.out _ (Below.refl _ _)).mono ?_; rintro e w6 ⟨rfl, rfl⟩)
          go_ret2
          exact ⟨_, tup2 (congrArg Prod.fst F.out).symm, (by rw [F.out]; exact NT.out), BW.out⟩
        · have F := hide (show R = (orN 0 rs, ts') by rw [E2.out]; simp)
          clear E E2
          generalize orN 0 rs = r at *
          clear hrl
          go_wp2_with (go_at_call 12; refine (C2.out _ (Below.refl _ _)).mono ?_; rintro e w6 ⟨rfl, rfl⟩)
          go_ret2
          exact ⟨_, tup2 (congrArg Prod.fst F.out).symm, (by rw [F.out]; exact NT.out), BW.out⟩
        · have F := hide (show R = (2 - tr (rs.headD 0), ts') by rw [E2.out]; simp)
          clear E E2
          have hq1 := hq.out
          obtain ⟨r0, rfl⟩ : ∃ r0, rs = [r0] := by
            rw [hq1] at hrl
            match rs, hrl with
            | [r0], _ => exact ⟨r0, rfl⟩
          have g0 : ∃ bb oo, la = some ⟨bb, oo, none⟩ ∧ wr.cell? ⟨bb, oo, none⟩ = some (.int .i64 r0) := by
            obtain ⟨bb, oo, e1, -, e2⟩ := NU.out.at (k := 0) (by simp)
            exact ⟨bb, oo, e1, by simpa [gt] using e2⟩
          obtain ⟨bb, oo, rfl, g1⟩ := g0
          have CN := hide (fun (W : World) => notR_any r0 W)
          show Code.wp _ _ _ _ _
          clear hrl hq hq1 HH3
          go_wp2_with (go_at_call 14; refine (CN.out _).mono ?_; rintro e w6 ⟨rfl, rfl⟩)
          go_ret2
          exact ⟨_, tup2 (congrArg Prod.fst F.out).symm, (by rw [F.out]; exact NT.out), BW.out⟩
end Go.Proofs.YtpcdhdllclenaaaDoor.cd
