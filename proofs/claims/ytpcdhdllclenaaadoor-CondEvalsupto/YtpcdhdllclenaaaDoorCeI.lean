/-
  Any condition's truth: the law.
-/
import Derived.Test.YtpcdhdllclenaaaDoorCeFH
import Derived.Deep.RegionHeld3
set_option linter.unusedVariables false
set_option linter.unusedSimpArgs false
namespace Go.Proofs.YtpcdhdllclenaaaDoor.cd
open Go.RowKit

def evRT (x : Cn) (ts : List Int) : Int := if cnM x 340 = true then (evR x ts).1 else 1
theorem evRT_feed (x : Cn) (ns : List ByteArray) (ts : List Int) : evRT x (tlF x ns ts) = evP (fun s => tr (byF ns ts s)) x := by
  unfold evRT evP tlF
  split
  · have := evR_feed (h := fun s => tr (byF ns ts s)) (g := fun l => byF ns ts l.nm) (fun _ => rfl) (szC x) x [] (Nat.le_refl _)
    rw [List.append_nil] at this
    rw [this]
  · rfl
theorem evRT_none (x : Cn) : evRT x [] = evP (fun _ => 1) x := by
  unfold evRT evP
  split
  · rw [evR_none (szC x) x (Nat.le_refl _)]
  · rfl
set_option maxRecDepth 100000 in
set_option maxHeartbeats 8000000 in
theorem evalRT_any (x : Cn) (u z v : Value) (ts : List Int) (w : World) (hx : x.Ok) (hu : CM w u x.ks) (hz : EM w z x.lf.e.ks) (hv : NuW w v ts) :
    Calls Tryd.prog 26 #[cnV x u z, v] w fun e w' => e = .returned (.int .i64 (evRT x ts)) ∧ Below w.heap.size w w' := by
  obtain ⟨a, c, rfl, hl9⟩ := hu.shape
  obtain ⟨za, zc, rfl, hz9⟩ := hz.shape
  obtain ⟨va, vc, rfl, hv9⟩ := hv.shape
  have EV := fun (a : Value) (b : Value) => show cnV x a b = .agg #[.int .i64 x.k, a, .int .i64 x.lf.k, .int .i64 x.lf.t, .string x.lf.nm, .int .i64 x.lf.op, .int .i64 x.lf.e.k, .int .i64 x.lf.e.n, .int .i64 x.lf.e.d, .int .i64 x.lf.e.u, b, .string x.lf.wd, .string x.lf.vl, .bool x.lf.an] from rfl
  have CM1 := hide (fun (W : World) (h : Below w.heap.size w W) => condMayR_any x _ _ W hx (hu.low h) (hz.low h))
  have CL := hide (fun (W : World) (h : Below w.heap.size w W) (hm : cnM x 340 = true) => evalR_any w (szC x) x _ _ _ ts W 340 (Nat.le_refl _) hu hz hm hv h)
  have F := hide (show evRT x ts = if cnM x 340 = true then (evR x ts).1 else 1 from rfl)
  simp only [EV] at CM1 CL ⊢
  clear hx hu hz EV hv
  generalize x.lf.e.ks.length = xem at *
  generalize x.ks.length = xn at *
  generalize x.k = xk at *
  generalize x.lf.k = xlk at *
  generalize x.lf.t = xlt at *
  generalize x.lf.nm = xnm at *
  generalize x.lf.op = xop at *
  generalize x.lf.e.k = xek at *
  generalize x.lf.e.n = xen at *
  generalize x.lf.e.d = xed at *
  generalize x.lf.e.u = xeu at *
  generalize x.lf.wd = xwd at *
  generalize x.lf.vl = xvl at *
  generalize x.lf.an = xan at *
  obtain ⟨w0, hw0⟩ : ∃ w0, w.alloc (.cells #[.int .i64 xk, .slice a xn c, .int .i64 xlk, .int .i64 xlt, .string xnm, .int .i64 xop, .int .i64 xek, .int .i64 xen, .int .i64 xed, .int .i64 xeu, .slice za xem zc, .string xwd, .string xvl, .bool xan] 39) = w0 := ⟨_, rfl⟩
  have B0 : Below w.heap.size w w0 := by rw [← hw0]; exact bplus (Below.refl _ _) _
  have P0 : w0.heap[w.heap.size]? = some (.cells #[.int .i64 xk, .slice a xn c, .int .i64 xlk, .int .i64 xlt, .string xnm, .int .i64 xop, .int .i64 xek, .int .i64 xen, .int .i64 xed, .int .i64 xeu, .slice za xem zc, .string xwd, .string xvl, .bool xan] 39) := by rw [← hw0]; exact heap_alloc_new w _
  have KH := hide (fun (W : World) (h : Below w0.heap.size w0 W) => keep14 h P0)
  have HB0 := hide B0
  have HW0 := hide hw0
  obtain ⟨y0, y1, y2, y3, y4, y5, y6, y7, y8, y9, ya, yb, yc, yd⟩ := keep14 (Below.refl w0.heap.size w0) P0
  clear B0 P0 hw0
  cases hm : cnM x 340
  · rw [hm] at CM1 F
    have F2 := hide (show evRT x ts = 1 from F.out.trans (by simp))
    clear F CL
    go_enter Tryd.func26, Tryd.ntmps26
    go_upto_region 1 with fail
    rw [HW0.out]
    go_wp2_with (go_at_call 18; refine (CM1.out w0 HB0.out).mono ?_; rintro e w1 ⟨rfl, hl⟩)
    go_ret
    exact ⟨ret_int F2.out.symm, bto HB0.out hl⟩
  · have CL2 := hide (fun (W : World) (h : Below w.heap.size w W) => CL.out W h hm)
    rw [hm] at CM1 F
    have F2 := hide (show evRT x ts = (evR x ts).1 from F.out.trans (by simp))
    clear F CL
    generalize evR x ts = er at *
    go_enter Tryd.func26, Tryd.ntmps26
    go_upto_region 1 with fail
    rw [HW0.out]
    go_wp2_with (first
      | (go_at_call 18; refine (CM1.out w0 HB0.out).mono ?_; rintro e w1 ⟨rfl, hl⟩; obtain ⟨v0, v1, v2, v3, v4, v5, v6, v7, v8, v9, va, vb, vc, vd⟩ := KH.out w1 hl)
      | (go_at_call 41; refine (CL2.out w1 (bto HB0.out hl)).mono ?_; rintro e w2 ⟨v, rfl, hNV, hl2⟩; replace hNV := hide hNV))
    go_ret
    exact ⟨ret_int F2.out.symm, bto HB0.out (bto hl hl2)⟩
set_option maxRecDepth 100000 in
set_option maxHeartbeats 4000000 in
theorem by_cells (vn vt : Value) (ns : List ByteArray) (ts : List Int) (w : World) (hn : Strs w vn ns) (ht : NuW w vt ts) :
    Calls Tryd.prog 24 #[vn, vt] w fun e w' => ∃ b1 b2, e = .returned (fnBy b1 b2) ∧ w'.cell? ⟨b1, 0, none⟩ = some vn ∧ w'.cell? ⟨b2, 0, none⟩ = some vt ∧ Below w.heap.size w w' := by
  obtain ⟨an, cn, rfl, ln9⟩ := hn.shape
  obtain ⟨at', ct, rfl, lt9⟩ := ht.shape
  have hmf : ∀ (fn : Fn) (first cap : Array Value) (w : World), (Instr.makeFunc fn first cap).run Tryd.prog w = .ok (.func fn first cap) w := fun _ _ _ _ => rfl
  obtain ⟨w0, hw0⟩ : ∃ w0, (w.alloc (.cells #[.slice an ns.length cn] 45)).alloc (.cells #[.slice at' ts.length ct] 22) = w0 := ⟨_, rfl⟩
  have B0 := hide (show Below w.heap.size w w0 by rw [← hw0]; exact bplus (bplus (Below.refl _ _) _) _)
  have T1 := hide (show w0.cell? ⟨w.heap.size, 0, none⟩ = some (.slice an ns.length cn) by rw [← hw0]; rw [row_blk (two_new w _ _).1]; rfl)
  have T2 := hide (show w0.cell? ⟨w.heap.size + 1, 0, none⟩ = some (.slice at' ts.length ct) by rw [← hw0]; rw [row_blk (two_new w _ _).2]; rfl)
  have HW0 := hide hw0
  clear hn ht hw0
  go_enter Tryd.func24, Tryd.ntmps24
  go_upto_region 1 with fail
  rw [HW0.out]
  go_wp2
  go_ret
  exact ⟨_, _, rfl, T1.out, T2.out, B0.out⟩
set_option maxRecDepth 100000 in
set_option maxHeartbeats 16000000 in
theorem law_evals (x : Cn) (u z : Value) (ns : List ByteArray) (vn : Value) (ts : List Int) (vt : Value) (w : World) (hx : x.Ok) (hu : CM w u x.ks) (hz : EM w z x.lf.e.ks) (hn : Strs w vn ns) (ht : NuW w vt ts) (hs : szC x ≤ 1000000000) (hF : FO w) :
    Calls Tryd.prog 7 #[cnV x u z, vn, vt] w fun e w' => e = .returned (.bool true) ∧ Below w.heap.size w w' := by
  obtain ⟨a, c, rfl, hl9⟩ := hu.shape
  obtain ⟨za, zc, rfl, hz9⟩ := hz.shape
  obtain ⟨na, nc, rfl, nl9⟩ := hn.shape
  obtain ⟨ta, tc, rfl, tt9⟩ := ht.shape
  have EV := fun (a : Value) (b : Value) => show cnV x a b = .agg #[.int .i64 x.k, a, .int .i64 x.lf.k, .int .i64 x.lf.t, .string x.lf.nm, .int .i64 x.lf.op, .int .i64 x.lf.e.k, .int .i64 x.lf.e.n, .int .i64 x.lf.e.d, .int .i64 x.lf.e.u, b, .string x.lf.wd, .string x.lf.vl, .bool x.lf.an] from rfl
  have CE := hide (fun (b1 b2 : Nat) (W : World) (hb : Below w.heap.size w W) (h1 : W.cell? ⟨b1, 0, none⟩ = some (.slice na ns.length nc)) (h2 : W.cell? ⟨b2, 0, none⟩ = some (.slice ta ts.length tc)) => evalP_any x (.slice a x.ks.length c) (.slice za x.lf.e.ks.length zc) (fnBy b1 b2) (fun s => tr (byF ns ts s)) W hx (hu.low hb) (hz.low hb) (hF.low hb) (toldBy h1 h2 (hn.below hb) (ht.below hb)))
  have CE0 := hide (fun (W : World) (hb : Below w.heap.size w W) => evalP_any x (.slice a x.ks.length c) (.slice za x.lf.e.ks.length zc) .nilFunc (fun _ => 1) W hx (hu.low hb) (hz.low hb) (hF.low hb) (toldNil W))
  have CT := hide (fun (b1 b2 : Nat) (W : World) (hb : Below w.heap.size w W) (h1 : W.cell? ⟨b1, 0, none⟩ = some (.slice na ns.length nc)) (h2 : W.cell? ⟨b2, 0, none⟩ = some (.slice ta ts.length tc)) => toldL_any x (.slice a x.ks.length c) (.slice za x.lf.e.ks.length zc) b1 b2 _ _ ns ts W hx (hu.low hb) (hz.low hb) hs h1 h2 (hn.below hb) (ht.below hb))
  have CR := hide (fun (v : Value) (W : World) (hb : Below w.heap.size w W) (hv : NuW W v (tlF x ns ts)) => evalRT_any x (.slice a x.ks.length c) (.slice za x.lf.e.ks.length zc) v (tlF x ns ts) W hx (hu.low hb) (hz.low hb) hv)
  have CR0 := hide (fun (W : World) (hb : Below w.heap.size w W) => evalRT_any x (.slice a x.ks.length c) (.slice za x.lf.e.ks.length zc) (.slice none 0 0) [] W hx (hu.low hb) (hz.low hb) (.inl ⟨_, _, rfl, rfl⟩))
  rw [evRT_feed] at CR
  rw [evRT_none] at CR0
  have CB := hide (fun (W : World) (hb : Below w.heap.size w W) => by_cells _ _ ns ts W (hn.below hb) (ht.below hb))
  have CW := hide (fun (W : World) (hb : Below w.heap.size w W) => awake15_any W (hF.low hb))
  simp only [EV] at CE CE0 CT CR CR0 ⊢
  clear hx hu hz hn ht hF EV hs
  generalize evP (fun s => tr (byF ns ts s)) x = r1 at *
  generalize evP (fun _ => 1) x = r2 at *
  generalize x.lf.e.ks.length = xem at *
  generalize x.ks.length = xn at *
  generalize x.k = xk at *
  generalize x.lf.k = xlk at *
  generalize x.lf.t = xlt at *
  generalize x.lf.nm = xnm at *
  generalize x.lf.op = xop at *
  generalize x.lf.e.k = xek at *
  generalize x.lf.e.n = xen at *
  generalize x.lf.e.d = xed at *
  generalize x.lf.e.u = xeu at *
  generalize x.lf.wd = xwd at *
  generalize x.lf.vl = xvl at *
  generalize x.lf.an = xan at *
  obtain ⟨w0, hw0⟩ : ∃ w0, w.alloc (.cells #[.int .i64 xk, .slice a xn c, .int .i64 xlk, .int .i64 xlt, .string xnm, .int .i64 xop, .int .i64 xek, .int .i64 xen, .int .i64 xed, .int .i64 xeu, .slice za xem zc, .string xwd, .string xvl, .bool xan] 39) = w0 := ⟨_, rfl⟩
  have B0 : Below w.heap.size w w0 := by rw [← hw0]; exact bplus (Below.refl _ _) _
  have P0 : w0.heap[w.heap.size]? = some (.cells #[.int .i64 xk, .slice a xn c, .int .i64 xlk, .int .i64 xlt, .string xnm, .int .i64 xop, .int .i64 xek, .int .i64 xen, .int .i64 xed, .int .i64 xeu, .slice za xem zc, .string xwd, .string xvl, .bool xan] 39) := by rw [← hw0]; exact heap_alloc_new w _
  have HB0 := hide B0
  have HW0 := hide hw0
  have KH0 := hide (fun (W : World) (h : Below w0.heap.size w0 W) => keep14 h P0)
  clear B0 hw0 P0
  go_enter Tryd.func7, Tryd.ntmps7
  go_upto_region 1 with fail
  rw [HW0.out]
  go_upto_region 2 with (go_at_call 24; refine (CB.out w0 HB0.out).mono ?_; rintro e w1 ⟨b1, b2, rfl, h1, h2, hl1⟩; replace h1 := hide h1; replace h2 := hide h2; replace hl1 := hide hl1)
  have HB1 := hide (bto HB0.out hl1.out)
  have K1 := hide (fun (W : World) (h : Below w1.heap.size w1 W) => (h.cell (p := ⟨b1, 0, none⟩) (World.block_lt_of_cell? _ _ h1.out)).trans h1.out)
  have K2 := hide (fun (W : World) (h : Below w1.heap.size w1 W) => (h.cell (p := ⟨b2, 0, none⟩) (World.block_lt_of_cell? _ _ h2.out)).trans h2.out)
  have KH := hide (fun (W : World) (h : Below w1.heap.size w1 W) => KH0.out W (bto hl1.out h))
  replace CE := hide (fun (W : World) (h : Below w1.heap.size w1 W) => CE.out b1 b2 W (bto HB1.out h) (K1.out W h) (K2.out W h))
  replace CE0 := hide (fun (W : World) (h : Below w1.heap.size w1 W) => CE0.out W (bto HB1.out h))
  replace CT := hide (fun (W : World) (h : Below w1.heap.size w1 W) => CT.out b1 b2 W (bto HB1.out h) (K1.out W h) (K2.out W h))
  replace CR := hide (fun (v : Value) (W : World) (h : Below w1.heap.size w1 W) (hv : NuW W v (tlF x ns ts)) => CR.out v W (bto HB1.out h) hv)
  replace CR0 := hide (fun (W : World) (h : Below w1.heap.size w1 W) => CR0.out W (bto HB1.out h))
  replace CW := hide (fun (W : World) (h : Below w1.heap.size w1 W) => CW.out W (bto HB1.out h))
  clear h1 h2 hl1 KH0 CB HW0 K1 K2
  generalize fnBy b1 b2 = ff at *
  generalize tlF x ns ts = tl at *
  go_region_held3 (fun w' => w'.cell? ⟨w.heap.size, 0, none⟩ = some (.int .i64 xk) ∧ w'.cell? ⟨w.heap.size, 1, none⟩ = some (.slice a xn c) ∧ w'.cell? ⟨w.heap.size, 2, none⟩ = some (.int .i64 xlk) ∧ w'.cell? ⟨w.heap.size, 3, none⟩ = some (.int .i64 xlt) ∧ w'.cell? ⟨w.heap.size, 4, none⟩ = some (.string xnm) ∧ w'.cell? ⟨w.heap.size, 5, none⟩ = some (.int .i64 xop) ∧ w'.cell? ⟨w.heap.size, 6, none⟩ = some (.int .i64 xek) ∧ w'.cell? ⟨w.heap.size, 7, none⟩ = some (.int .i64 xen) ∧ w'.cell? ⟨w.heap.size, 8, none⟩ = some (.int .i64 xed) ∧ w'.cell? ⟨w.heap.size, 9, none⟩ = some (.int .i64 xeu) ∧ w'.cell? ⟨w.heap.size, 10, none⟩ = some (.slice za xem zc) ∧ w'.cell? ⟨w.heap.size, 11, none⟩ = some (.string xwd) ∧ w'.cell? ⟨w.heap.size, 12, none⟩ = some (.string xvl) ∧ w'.cell? ⟨w.heap.size, 13, none⟩ = some (.bool xan))
    ((refine KH.out _ ?_; (repeat (first | (with_reducible refine Below.drew ?_) | (with_reducible refine below_drewN ?_ _) | (with_reducible refine bplus ?_ _) | (with_reducible exact Below.refl _ _) | (with_reducible assumption) | (with_reducible refine bto ?_ (by with_reducible assumption)))); done))
    (first
      | (go_at_call 25; with_reducible refine (CE.out _ (by repeat (first | (with_reducible refine Below.drew ?_) | (with_reducible refine below_drewN ?_ _) | (with_reducible refine bplus ?_ _) | (with_reducible exact Below.refl _ _) | (with_reducible assumption) | (with_reducible refine bto ?_ (by with_reducible assumption))))).mono ?_; rintro _ wl1 ⟨rfl, hl1⟩)
      | (go_at_call 27; with_reducible refine (CT.out _ (by repeat (first | (with_reducible refine Below.drew ?_) | (with_reducible refine below_drewN ?_ _) | (with_reducible refine bplus ?_ _) | (with_reducible exact Below.refl _ _) | (with_reducible assumption) | (with_reducible refine bto ?_ (by with_reducible assumption))))).mono ?_; rintro _ wl2 ⟨v, rfl, NV, hl2⟩; replace NV := hide NV; obtain ⟨v1, v2, rfl, -⟩ := NV.out.shape)
      | (go_at_call 26; with_reducible refine (CR0.out _ (by repeat (first | (with_reducible refine Below.drew ?_) | (with_reducible refine below_drewN ?_ _) | (with_reducible refine bplus ?_ _) | (with_reducible exact Below.refl _ _) | (with_reducible assumption) | (with_reducible refine bto ?_ (by with_reducible assumption))))).mono ?_; rintro _ wl5 ⟨rfl, hl5⟩)
      | (go_at_call 26; with_reducible refine (CR.out _ _ (by repeat (first | (with_reducible refine Below.drew ?_) | (with_reducible refine below_drewN ?_ _) | (with_reducible refine bplus ?_ _) | (with_reducible exact Below.refl _ _) | (with_reducible assumption) | (with_reducible refine bto ?_ (by with_reducible assumption)))) (NV.out.below (by repeat (first | (with_reducible refine Below.drew ?_) | (with_reducible refine below_drewN ?_ _) | (with_reducible refine bplus ?_ _) | (with_reducible exact Below.refl _ _) | (with_reducible assumption) | (with_reducible refine bto ?_ (by with_reducible assumption)))))).mono ?_; rintro _ wl3 ⟨rfl, hl3⟩)
      | (go_at_call 25; with_reducible refine (CE0.out _ (by repeat (first | (with_reducible refine Below.drew ?_) | (with_reducible refine below_drewN ?_ _) | (with_reducible refine bplus ?_ _) | (with_reducible exact Below.refl _ _) | (with_reducible assumption) | (with_reducible refine bto ?_ (by with_reducible assumption))))).mono ?_; rintro _ wl4 ⟨rfl, hl4⟩)
      | (go_at_call 15; with_reducible refine (CW.out _ (by repeat (first | (with_reducible refine Below.drew ?_) | (with_reducible refine below_drewN ?_ _) | (with_reducible refine bplus ?_ _) | (with_reducible exact Below.refl _ _) | (with_reducible assumption) | (with_reducible refine bto ?_ (by with_reducible assumption))))).mono ?_; rintro _ wl6 ⟨rfl, hl6⟩))
  all_goals
    go_wp2
    go_ret
    refine ⟨rfl, bto HB1.out ?_⟩
    repeat (first | (with_reducible refine Below.drew ?_) | (with_reducible refine below_drewN ?_ _) | (with_reducible refine bplus ?_ _) | (with_reducible exact Below.refl _ _) | (with_reducible assumption) | (with_reducible refine bto ?_ (by with_reducible assumption)))
end Go.Proofs.YtpcdhdllclenaaaDoor.cd
