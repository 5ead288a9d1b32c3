/-
  Kleene's theorem: the law.
-/
import Derived.Test.YtpcdhdllclenaaaDoorCdV
import Derived.Deep.RegionHeld3
import Derived.Laws.AppendOwn
set_option linter.unusedVariables false
set_option linter.unusedSimpArgs false
namespace Go.Proofs.YtpcdhdllclenaaaDoor.cd
open Go.RowKit

theorem info64 : (Tryd.prog.info? 3).map (fun i => (i.zero, i.size, i.bytes)) = some (some (.int .i64 0), 1, 8) := by kernel_rfl
theorem own_nu {W wr : World} {e : TypeId} {v : Value} {xs : List Int} (h : Own W .i64 e wr v xs) : NuW wr v xs := by
  rcases h.1.2 with ⟨rfl, h0⟩ | ⟨g, cap, cur, rfl, hb, hg, hn, hm, hs, ht⟩
  · exact .inl ⟨_, _, rfl, List.eq_nil_of_length_eq_zero h0⟩
  · by_cases h0 : xs.length = 0
    · obtain rfl : xs = [] := List.eq_nil_of_length_eq_zero h0
      exact .inl ⟨_, _, rfl, rfl⟩
    · refine .inr ⟨g, 0, xs.length, cap, rfl, rfl, by omega, (Array.getElem?_eq_some_iff.1 hg).1, hn, by unfold maxLen at hm; exact hm, fun i hi => ?_⟩
      rw [Nat.zero_add, h.1.cellAt i (by omega)]
      simp [gt, List.getD_eq_getElem?_getD, List.getElem?_eq_getElem hi]
/-- The state of the loop that makes truths known. -/
def RelKl (W : World) (ts : List Int) (l a : Value) (wr : World) : Prop := ∃ (i : Nat) (fs : List Int), i ≤ ts.length ∧ a = .int .i64 i ∧ fs.length = i ∧ Own W .i64 3 wr l fs ∧ Hid (Filled (ts.take i) fs)
theorem RelKl.mk {W : World} {ts : List Int} {l a : Value} {wr : World} (i : Nat) (fs : List Int) (h1 : i ≤ ts.length) (h2 : a = .int .i64 i) (h3 : fs.length = i) (h4 : Own W .i64 3 wr l fs) (h5 : Filled (ts.take i) fs) : RelKl W ts l a wr := ⟨i, fs, h1, h2, h3, h4, h5⟩
set_option maxRecDepth 100000 in
set_option maxHeartbeats 16000000 in
theorem law_kleene (x : Cn) (u z : Value) (ns : List ByteArray) (vn : Value) (ts : List Int) (vt : Value) (os : List Int) (vo : Value) (w : World) (hx : x.Ok) (hu : CM w u x.ks) (hz : EM w z x.lf.e.ks) (hn : Strs w vn ns) (ht : NuW w vt ts) (ho : NuW w vo os) (tl9 : ts.length ≤ 1000000000) (hF : FO w) :
    Calls Tryd.prog 8 #[cnV x u z, vn, vt, vo] w fun e w' => e = .returned (.bool true) ∧ Below w.heap.size w w' := by
  obtain ⟨i0, hi, hz0, hz1, hz2⟩ := info_parts info64
  obtain ⟨a, c, rfl, hl9⟩ := hu.shape
  obtain ⟨za, zc, rfl, hz9⟩ := hz.shape
  obtain ⟨na, nc, rfl, nl9⟩ := hn.shape
  obtain ⟨ta, tc, rfl, tt9⟩ := ht.shape
  obtain ⟨oa, oc, rfl, ol9⟩ := ho.shape
  have KL := hide (fun fs h => kleene x ns ts fs h)
  have EV := fun (a : Value) (b : Value) => show cnV x a b = .agg #[.int .i64 x.k, a, .int .i64 x.lf.k, .int .i64 x.lf.t, .string x.lf.nm, .int .i64 x.lf.op, .int .i64 x.lf.e.k, .int .i64 x.lf.e.n, .int .i64 x.lf.e.d, .int .i64 x.lf.e.u, b, .string x.lf.wd, .string x.lf.vl, .bool x.lf.an] from rfl
  have CE := hide (fun (f : Value) (h : ByteArray → Int) (W : World) (hb : Below w.heap.size w W) (hT : ToldC W f h) => evalP_any x (.slice a x.ks.length c) (.slice za x.lf.e.ks.length zc) f h W hx (hu.low hb) (hz.low hb) (hF.low hb) hT)
  have CB := hide (fun (W : World) (hb : Below w.heap.size w W) => by_any _ _ ns ts W (hn.below hb) (ht.below hb))
  have CB2 := hide (fun (v : Value) (fs : List Int) (W : World) (hb : Below w.heap.size w W) (hv : NuW W v fs) => by_any _ v ns fs W (hn.below hb) hv)
  have CW := hide (fun (W : World) (hb : Below w.heap.size w W) => awake15_any W (hF.low hb))
  have HT := hide ht
  have HO := hide ho
  simp only [EV] at CE ⊢
  clear hx hu hz hn ht ho hF EV
  generalize x.lf.e.ks.length = xem at *
  generalize x.ks.length = xn at *
  generalize x.k = xk at *
  generalize x.lf.k = xlk at *
  generalize x.lf.t = xlt at *
  generalize x.lf.nm = xnm at *
  generalize x.lf.op = xop at *
  generalize x.lf.e.k = xek at *
  generalize x.lf.e.n = xen at *
  generalize x.lf.e.d = xed at *
  generalize x.lf.e.u = xeu at *
  generalize x.lf.wd = xwd at *
  generalize x.lf.vl = xvl at *
  generalize x.lf.an = xan at *
  obtain ⟨w0, hw0⟩ : ∃ w0, w.alloc (.cells #[.int .i64 xk, .slice a xn c, .int .i64 xlk, .int .i64 xlt, .string xnm, .int .i64 xop, .int .i64 xek, .int .i64 xen, .int .i64 xed, .int .i64 xeu, .slice za xem zc, .string xwd, .string xvl, .bool xan] 39) = w0 := ⟨_, rfl⟩
  have B0 : Below w.heap.size w w0 := by rw [← hw0]; exact bplus (Below.refl _ _) _
  have P0 : w0.heap[w.heap.size]? = some (.cells #[.int .i64 xk, .slice a xn c, .int .i64 xlk, .int .i64 xlt, .string xnm, .int .i64 xop, .int .i64 xek, .int .i64 xen, .int .i64 xed, .int .i64 xeu, .slice za xem zc, .string xwd, .string xvl, .bool xan] 39) := by rw [← hw0]; exact heap_alloc_new w _
  have KH := hide (fun (w' : World) (hQ : Below w0.heap.size w0 w') => show w'.cell? ⟨w.heap.size, 0, none⟩ = some (.int .i64 xk) ∧ w'.cell? ⟨w.heap.size, 1, none⟩ = some (.slice a xn c) ∧ w'.cell? ⟨w.heap.size, 2, none⟩ = some (.int .i64 xlk) ∧ w'.cell? ⟨w.heap.size, 3, none⟩ = some (.int .i64 xlt) ∧ w'.cell? ⟨w.heap.size, 4, none⟩ = some (.string xnm) ∧ w'.cell? ⟨w.heap.size, 5, none⟩ = some (.int .i64 xop) ∧ w'.cell? ⟨w.heap.size, 6, none⟩ = some (.int .i64 xek) ∧ w'.cell? ⟨w.heap.size, 7, none⟩ = some (.int .i64 xen) ∧ w'.cell? ⟨w.heap.size, 8, none⟩ = some (.int .i64 xed) ∧ w'.cell? ⟨w.heap.size, 9, none⟩ = some (.int .i64 xeu) ∧ w'.cell? ⟨w.heap.size, 10, none⟩ = some (.slice za xem zc) ∧ w'.cell? ⟨w.heap.size, 11, none⟩ = some (.string xwd) ∧ w'.cell? ⟨w.heap.size, 12, none⟩ = some (.string xvl) ∧ w'.cell? ⟨w.heap.size, 13, none⟩ = some (.bool xan) from keep14 hQ P0)
  have HB0 := hide B0
  have HW0 := hide hw0
  replace CE := hide (fun f h W (hb : Below w0.heap.size w0 W) hT => CE.out f h W (bto B0 hb) hT)
  replace CB := hide (fun W (hb : Below w0.heap.size w0 W) => CB.out W (bto B0 hb))
  replace CB2 := hide (fun v fs W (hb : Below w0.heap.size w0 W) hv => CB2.out v fs W (bto B0 hb) hv)
  replace CW := hide (fun W (hb : Below w0.heap.size w0 W) => CW.out W (bto B0 hb))
  clear B0 hw0 P0
  go_enter Tryd.func8, Tryd.ntmps8
  go_upto_region 1 with fail
  rw [HW0.out]
  go_upto_region 3 with (go_at_call 15; refine (CW.out w0 (Below.refl _ _)).mono ?_; rintro e w1 ⟨rfl, hl1⟩)
  go_region_held3 (fun w' => w'.cell? ⟨w.heap.size, 0, none⟩ = some (.int .i64 xk) ∧ w'.cell? ⟨w.heap.size, 1, none⟩ = some (.slice a xn c) ∧ w'.cell? ⟨w.heap.size, 2, none⟩ = some (.int .i64 xlk) ∧ w'.cell? ⟨w.heap.size, 3, none⟩ = some (.int .i64 xlt) ∧ w'.cell? ⟨w.heap.size, 4, none⟩ = some (.string xnm) ∧ w'.cell? ⟨w.heap.size, 5, none⟩ = some (.int .i64 xop) ∧ w'.cell? ⟨w.heap.size, 6, none⟩ = some (.int .i64 xek) ∧ w'.cell? ⟨w.heap.size, 7, none⟩ = some (.int .i64 xen) ∧ w'.cell? ⟨w.heap.size, 8, none⟩ = some (.int .i64 xed) ∧ w'.cell? ⟨w.heap.size, 9, none⟩ = some (.int .i64 xeu) ∧ w'.cell? ⟨w.heap.size, 10, none⟩ = some (.slice za xem zc) ∧ w'.cell? ⟨w.heap.size, 11, none⟩ = some (.string xwd) ∧ w'.cell? ⟨w.heap.size, 12, none⟩ = some (.string xvl) ∧ w'.cell? ⟨w.heap.size, 13, none⟩ = some (.bool xan))
    ((refine KH.out _ ?_; (repeat (first | exact Below.refl _ _ | (with_reducible refine Below.drew ?_) | (with_reducible refine below_drewN ?_ _) | (with_reducible refine bplus ?_ _) | (refine bto ?_ (by assumption)))); done))
    (first
      | (go_at_call 24; refine (CB.out _ (by repeat (first | exact Below.refl _ _ | (with_reducible refine Below.drew ?_) | (with_reducible refine below_drewN ?_ _) | (with_reducible refine bplus ?_ _) | (refine bto ?_ (by assumption))))).mono ?_; rintro _ wl2 ⟨f, rfl, hT, ⟨b1, b2, rfl⟩, hl2⟩)
      | (go_at_call 25; refine (CE.out (fnBy b1 b2) _ _ (by repeat (first | exact Below.refl _ _ | (with_reducible refine Below.drew ?_) | (with_reducible refine below_drewN ?_ _) | (with_reducible refine bplus ?_ _) | (refine bto ?_ (by assumption)))) (hT.low (by repeat (first | exact Below.refl _ _ | (with_reducible refine Below.drew ?_) | (with_reducible refine below_drewN ?_ _) | (with_reducible refine bplus ?_ _) | (refine bto ?_ (by assumption)))))).mono ?_; rintro _ wl3 ⟨rfl, hl3⟩))
  have HB3 := hide (show Below w0.heap.size w0 wl3 from by repeat (first | exact Below.refl _ _ | (with_reducible refine Below.drew ?_) | (with_reducible refine below_drewN ?_ _) | (with_reducible refine bplus ?_ _) | (refine bto ?_ (by assumption))))
  clear hT hl1 hl2 hl3
  generalize evP (fun s => tr (byF ns ts s)) x = r1 at *
  obtain ⟨w3, hw3⟩ : ∃ w3, wl3 = w3 := ⟨_, rfl⟩
  subst hw3
  go_wp2_with fail
  go_loopw [10, 23] (fun l a wr => RelKl wl3 ts l a wr) (fun _ a _ => ts.length - (intOf a).toNat)
  case atStart => exact .mk 0 [] (by omega) rfl rfl (Own.nil _ _ _) Filled.nil
  case round =>
    obtain ⟨k, fs, hk, rfl, hfl, OW, FI⟩ := hrel
    replace OW := hide OW
    have hfs9 : fs.length ≤ 1000000000 := by omega
    by_cases hlt : k < ts.length
    · have hlt' : (k : Int) < ts.length := by omega
      obtain ⟨bt', ot, rfl, hbt, ct1⟩ := HT.out.at hlt
      have BW := hide (bto (bto HB0.out HB3.out) OW.out.2)
      replace ct1 := (BW.out.cell (p := ⟨bt', ot + k, none⟩) hbt).trans ct1
      have FX := hide (fun (t' : Int) (h : (gt ts k = 0 ∨ gt ts k = 2) → t' = gt ts k) => show Filled (ts.take (k + 1)) (fs ++ [t']) from by
        rw [List.take_add_one, List.getElem?_eq_getElem hlt]
        have := FI.out.snoc (gt ts k) t' h
        rwa [gt_eq hlt] at this)
      clear FI
      generalize gt ts k = tk at *
      by_cases h0 : tk = 0
      · subst h0
        go_wp2_with (at_builtin; refine wpList_append_own _ rfl _ _ 22 rfl wl3.heap.size 3 i0 (.int .i64 0) 1 8 Tryd.underlying22 hi hz0 hz1 hz2 rfl (by decide) _ _ _ rfl (OW.out.1.alloc _) ⟨_, 0, none⟩ 1 1 [.int .i64 0] rfl rfl (news1 _ _ _) (by intro u hu; simp at hu; subst hu; rfl) (by unfold maxLen; omega) (by omega) (by have := OW.out.2.size; simp; omega) ?_; intro v' w1' hown' hgrow _; replace OW := hide (OW.out.grow (ys := [0]) hown' hgrow); clear hown' hgrow)
        go_roundw
        case rel => exact .mk (k + 1) (fs ++ [0]) (by omega) (by go_num) (by simp; omega) OW.out (FX.out 0 (fun _ => rfl))
        case measure => simp [intOf]; omega
      by_cases h2 : tk = 2
      · subst h2
        go_wp2_with (at_builtin; refine wpList_append_own _ rfl _ _ 22 rfl wl3.heap.size 3 i0 (.int .i64 0) 1 8 Tryd.underlying22 hi hz0 hz1 hz2 rfl (by decide) _ _ _ rfl (OW.out.1.alloc _) ⟨_, 0, none⟩ 1 1 [.int .i64 2] rfl rfl (news1 _ _ _) (by intro u hu; simp at hu; subst hu; rfl) (by unfold maxLen; omega) (by omega) (by have := OW.out.2.size; simp; omega) ?_; intro v' w1' hown' hgrow _; replace OW := hide (OW.out.grow (ys := [2]) hown' hgrow); clear hown' hgrow)
        go_roundw
        case rel => exact .mk (k + 1) (fs ++ [2]) (by omega) (by go_num) (by simp; omega) OW.out (FX.out 2 (fun _ => rfl))
        case measure => simp [intOf]; omega
      have h0' : (tk == 0) = false := by simpa using h0
      have h2' : (tk == 2) = false := by simpa using h2
      have h0'' : (tk != 0) = true := by simpa using h0
      have h2'' : (tk != 2) = true := by simpa using h2
      have hno : ∀ t' : Int, (tk = 0 ∨ tk = 2) → t' = tk := fun t' h => by omega
      by_cases hlo : k < os.length
      case neg =>
        have hlo' : ¬ (k : Int) < os.length := by omega
        go_wp2_with (at_builtin; refine wpList_append_own _ rfl _ _ 22 rfl wl3.heap.size 3 i0 (.int .i64 0) 1 8 Tryd.underlying22 hi hz0 hz1 hz2 rfl (by decide) _ _ _ rfl (OW.out.1.alloc _) ⟨_, 0, none⟩ 1 1 [.int .i64 0] rfl rfl (news1 _ _ _) (by intro u hu; simp at hu; subst hu; rfl) (by unfold maxLen; omega) (by omega) (by have := OW.out.2.size; simp; omega) ?_; intro v' w1' hown' hgrow _; replace OW := hide (OW.out.grow (ys := [0]) hown' hgrow); clear hown' hgrow)
        go_roundw
        case rel => exact .mk (k + 1) (fs ++ [0]) (by omega) (by go_num) (by simp; omega) OW.out (FX.out 0 (hno 0))
        case measure => simp [intOf]; omega
      case pos =>
        have hlo' : (k : Int) < os.length := by omega
        obtain ⟨bo, oo, rfl, hbo, co1⟩ := HO.out.at hlo
        replace co1 := (BW.out.cell (p := ⟨bo, oo + k, none⟩) hbo).trans co1
        generalize gt os k = ok at *
        by_cases hr : Int.tmod ok 2 = 0
        · have hr' : (Int.tmod ok 2 == 0) = true := by simpa using hr
          have hr2 : (Int.tmod ok 2 != 0) = false := by simpa using hr
          go_wp2_with (at_builtin; refine wpList_append_own _ rfl _ _ 22 rfl wl3.heap.size 3 i0 (.int .i64 0) 1 8 Tryd.underlying22 hi hz0 hz1 hz2 rfl (by decide) _ _ _ rfl (OW.out.1.alloc _) ⟨_, 0, none⟩ 1 1 [.int .i64 0] rfl rfl (news1 _ _ _) (by intro u hu; simp at hu; subst hu; rfl) (by unfold maxLen; omega) (by omega) (by have := OW.out.2.size; simp; omega) ?_; intro v' w1' hown' hgrow _; replace OW := hide (OW.out.grow (ys := [0]) hown' hgrow); clear hown' hgrow)
          go_roundw
          case rel => exact .mk (k + 1) (fs ++ [0]) (by omega) (by go_num) (by simp; omega) OW.out (FX.out 0 (hno 0))
          case measure => simp [intOf]; omega
        · have hr' : (Int.tmod ok 2 == 0) = false := by simpa using hr
          have hr2 : (Int.tmod ok 2 != 0) = true := by simpa using hr
          go_wp2_with (at_builtin; refine wpList_append_own _ rfl _ _ 22 rfl wl3.heap.size 3 i0 (.int .i64 0) 1 8 Tryd.underlying22 hi hz0 hz1 hz2 rfl (by decide) _ _ _ rfl (OW.out.1.alloc _) ⟨_, 0, none⟩ 1 1 [.int .i64 2] rfl rfl (news1 _ _ _) (by intro u hu; simp at hu; subst hu; rfl) (by unfold maxLen; omega) (by omega) (by have := OW.out.2.size; simp; omega) ?_; intro v' w1' hown' hgrow _; replace OW := hide (OW.out.grow (ys := [2]) hown' hgrow); clear hown' hgrow)
          go_roundw
          case rel => exact .mk (k + 1) (fs ++ [2]) (by omega) (by go_num) (by simp; omega) OW.out (FX.out 2 (hno 2))
          case measure => simp [intOf]; omega
    · obtain rfl : k = ts.length := by omega
      have hlt' : ¬ ((ts.length : Nat) : Int) < ts.length := by omega
      have FI' := FI.out
      rw [List.take_length] at FI'
      have K2 := KL.out fs FI'
      have NU := hide (own_nu OW.out)
      obtain ⟨fa, fc, rfl, -⟩ := NU.out.shape
      have BW := hide (bto HB3.out OW.out.2)
      have CB3 := hide (fun (W : World) (hb : Below wr.heap.size wr W) => CB2.out (.slice fa fs.length fc) fs W (bto BW.out hb) (NU.out.below hb))
      have CE3 := hide (fun f h W (hb : Below wr.heap.size wr W) hT => CE.out f h W (bto BW.out hb) hT)
      have KH3 := hide (fun (W : World) (hb : Below wr.heap.size wr W) => KH.out W (bto BW.out hb))
      clear FI FI' OW HB3 KH CE CB CB2 CW HT HO KL NU hfl hfs9
      generalize hr2 : evP (fun s => tr (byF ns fs s)) x = r2 at *
      go_upto_region 14 with fail
      go_region_held3 (fun w' => w'.cell? ⟨w.heap.size, 0, none⟩ = some (.int .i64 xk) ∧ w'.cell? ⟨w.heap.size, 1, none⟩ = some (.slice a xn c) ∧ w'.cell? ⟨w.heap.size, 2, none⟩ = some (.int .i64 xlk) ∧ w'.cell? ⟨w.heap.size, 3, none⟩ = some (.int .i64 xlt) ∧ w'.cell? ⟨w.heap.size, 4, none⟩ = some (.string xnm) ∧ w'.cell? ⟨w.heap.size, 5, none⟩ = some (.int .i64 xop) ∧ w'.cell? ⟨w.heap.size, 6, none⟩ = some (.int .i64 xek) ∧ w'.cell? ⟨w.heap.size, 7, none⟩ = some (.int .i64 xen) ∧ w'.cell? ⟨w.heap.size, 8, none⟩ = some (.int .i64 xed) ∧ w'.cell? ⟨w.heap.size, 9, none⟩ = some (.int .i64 xeu) ∧ w'.cell? ⟨w.heap.size, 10, none⟩ = some (.slice za xem zc) ∧ w'.cell? ⟨w.heap.size, 11, none⟩ = some (.string xwd) ∧ w'.cell? ⟨w.heap.size, 12, none⟩ = some (.string xvl) ∧ w'.cell? ⟨w.heap.size, 13, none⟩ = some (.bool xan))
        ((refine KH3.out _ ?_; (repeat (first | exact Below.refl _ _ | (with_reducible refine Below.drew ?_) | (with_reducible refine below_drewN ?_ _) | (with_reducible refine bplus ?_ _) | (refine bto ?_ (by assumption)))); done))
        (first
          | (go_at_call 24; refine (CB3.out _ (by repeat (first | exact Below.refl _ _ | (with_reducible refine Below.drew ?_) | (with_reducible refine below_drewN ?_ _) | (with_reducible refine bplus ?_ _) | (refine bto ?_ (by assumption))))).mono ?_; rintro _ wl4 ⟨f, rfl, hT, ⟨b1, b2, rfl⟩, hl4⟩)
          | (go_at_call 25; refine (CE3.out (fnBy b1 b2) _ _ (by repeat (first | exact Below.refl _ _ | (with_reducible refine Below.drew ?_) | (with_reducible refine below_drewN ?_ _) | (with_reducible refine bplus ?_ _) | (refine bto ?_ (by assumption)))) (hT.low (by repeat (first | exact Below.refl _ _ | (with_reducible refine Below.drew ?_) | (with_reducible refine below_drewN ?_ _) | (with_reducible refine bplus ?_ _) | (refine bto ?_ (by assumption)))))).mono ?_; rintro _ wl5 ⟨rfl, hl5⟩; rw [hr2]))
      all_goals
        by_cases hx1 : r1 = 1
        · have hx1' : (r1 == 1) = true := by simpa using hx1
          subst hx1
          go_wp2
          go_ret
          refine ⟨rfl, bto HB0.out (bto BW.out ?_)⟩
          repeat (first | exact Below.refl _ _ | (with_reducible refine Below.drew ?_) | (with_reducible refine below_drewN ?_ _) | (with_reducible refine bplus ?_ _) | (refine bto ?_ (by assumption)))
        · have hx1' : (r1 == 1) = false := by simpa using hx1
          obtain rfl : r1 = r2 := K2.resolve_left hx1
          go_wp2
          go_ret
          refine ⟨by simp, bto HB0.out (bto BW.out ?_)⟩
          repeat (first | exact Below.refl _ _ | (with_reducible refine Below.drew ?_) | (with_reducible refine below_drewN ?_ _) | (with_reducible refine bplus ?_ _) | (refine bto ?_ (by assumption)))
end Go.Proofs.YtpcdhdllclenaaaDoor.cd
