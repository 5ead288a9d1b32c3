/-
  Are two expressions the same: by the reference.
-/
import Derived.Test.YtpcdhdllclenaaaDoorCdO
import Derived.Deep.RegionHeld3
import Derived.Deep.DeepCutAuto
set_option linter.unusedVariables false
set_option linter.unusedSimpArgs false
namespace Go.Proofs.YtpcdhdllclenaaaDoor.cd
open Go.RowKit

mutual
/-- Are two expressions the same? -/
def eqX : Ex → Ex → Bool
  | .mk k n d u ks, y => (k == y.k) && ((n == y.n) && (d == y.d)) && (u == y.u) && eqXs ks y.ks
def eqXs : List Ex → List Ex → Bool
  | [], [] => true
  | x :: xs, y :: ys => eqX x y && eqXs xs ys
  | _, _ => false
end
theorem eqX_eq (x y : Ex) : eqX x y = ((x.k == y.k) && ((x.n == y.n) && (x.d == y.d)) && (x.u == y.u) && eqXs x.ks y.ks) := by
  cases x with | mk k n d u ks => rw [eqX]; rfl
theorem eqXs_nil : eqXs [] [] = true := by rw [eqXs]
theorem eqXs_cons (x y : Ex) (xs ys : List Ex) : eqXs (x :: xs) (y :: ys) = (eqX x y && eqXs xs ys) := by rw [eqXs]
theorem eqXs_len : ∀ (xs ys : List Ex), ¬ xs.length = ys.length → eqXs xs ys = false
  | [], [], h => absurd rfl h
  | [], y :: ys, h => by rw [eqXs]; all_goals (intros; simp_all)
  | x :: xs, [], h => by rw [eqXs]; all_goals (intros; simp_all)
  | x :: xs, y :: ys, h => by
    rw [eqXs_cons, eqXs_len xs ys (fun e => h (by simp [e]))]
    simp
theorem eqX_refl (N : Nat) : ∀ x : Ex, szE x ≤ N → eqX x x = true := by
  induction N with
  | zero => intro x hx; rw [szE_ks] at hx; omega
  | succ N ih =>
    intro x hx
    rw [szE_ks] at hx
    have : ∀ l : List Ex, szEs l ≤ N → eqXs l l = true := by
      intro l
      induction l with
      | nil => intro _; exact eqXs_nil
      | cons y r ihl =>
        intro h
        rw [szEs_cons] at h
        rw [eqXs_cons, ih y (by rw [szE_ks]; omega), ihl (by omega)]
        rfl
    rw [eqX_eq, this x.ks (by omega)]
    simp
theorem eqX_no (x : Ex) : eqX x (.mk 0 0 0 0 []) = noE x := by
  rw [eqX_eq]
  unfold noE
  cases hx : x.ks with
  | nil => simp [Ex.k, Ex.n, Ex.d, Ex.u, Ex.ks, eqXs_nil]
  | cons y r => rw [show eqXs (y :: r) (Ex.mk 0 0 0 0 []).ks = false from eqXs_len _ _ (by simp [Ex.ks])]; simp
def RelSx (w : World) (l l' : List Ex) (i : Value) (wr : World) : Prop := ∃ m : Nat, i = .int .i64 m ∧ m ≤ l.length ∧ Below w.heap.size w wr ∧ Hid (eqXs l l' = eqXs (l.drop m) (l'.drop m))
theorem RelSx.mk {w : World} {l l' : List Ex} {i : Value} {wr : World} (m : Nat) (h1 : i = .int .i64 m) (h2 : m ≤ l.length) (h3 : Below w.heap.size w wr) (h4 : eqXs l l' = eqXs (l.drop m) (l'.drop m)) : RelSx w l l' i wr := ⟨m, h1, h2, h3, h4⟩
set_option maxRecDepth 100000 in
set_option maxHeartbeats 8000000 in
theorem sameX_any (N : Nat) : ∀ (x y : Ex) (u v : Value) (w : World), szE x ≤ N → EM w u x.ks → EM w v y.ks →
    Calls Tryd.prog 37 #[exV x u, exV y v] w fun e w' => e = .returned (.bool (eqX x y)) ∧ Below w.heap.size w w' := by
  induction N with
  | zero => intro x y u v w hN; rw [szE_ks] at hN; omega
  | succ N ih =>
    intro x y u v w hN hu hv
    obtain ⟨a, c, rfl, hl9⟩ := hu.shape
    obtain ⟨a', c', rfl, hl9'⟩ := hv.shape
    have E := hide (eqX_eq x y)
    rw [szE_ks] at hN
    obtain ⟨xk, xn, xd, xu, xs⟩ := x
    obtain ⟨yk, yn, yd, yu, ys⟩ := y
    simp only [Ex.k, Ex.n, Ex.d, Ex.u, Ex.ks] at hN hl9 hl9' E
    replace hu : EM w (.slice a xs.length c) xs := hu
    replace hv : EM w (.slice a' ys.length c') ys := hv
    show Calls Tryd.prog 37 #[.agg #[.int .i64 xk, .int .i64 xn, .int .i64 xd, .int .i64 xu, .slice a xs.length c], .agg #[.int .i64 yk, .int .i64 yn, .int .i64 yd, .int .i64 yu, .slice a' ys.length c']] w _
    generalize hR : eqX (.mk xk xn xd xu xs) (.mk yk yn yd yu ys) = R at *
    have HU := hide hu
    have HV := hide hv
    have IH := hide ih
    obtain ⟨w0, hw0⟩ : ∃ w0, ((w.alloc (.cells #[.int .i64 xk, .int .i64 xn, .int .i64 xd, .int .i64 xu, .slice a xs.length c] 35)).alloc (.cells #[.int .i64 yk, .int .i64 yn, .int .i64 yd, .int .i64 yu, .slice a' ys.length c'] 35)) = w0 := ⟨_, rfl⟩
    have B0 := hide (show Below w.heap.size w w0 by rw [← hw0]; exact bplus (bplus (Below.refl _ _) _) _)
    have P0 := hide (show Bk w0 w.heap.size 35 [.int .i64 xk, .int .i64 xn, .int .i64 xd, .int .i64 xu, .slice a xs.length c] by rw [← hw0]; exact (two_new w _ _).1)
    have P1 := hide (show Bk w0 (w.heap.size + 1) 35 [.int .i64 yk, .int .i64 yn, .int .i64 yd, .int .i64 yu, .slice a' ys.length c'] by rw [← hw0]; exact (two_new w _ _).2)
    have HW0 := hide hw0
    obtain ⟨p0, p1, p2, p3, p4⟩ := bxk_5' (show w0.heap[w.heap.size]? = _ from P0.out)
    obtain ⟨q0, q1, q2, q3, q4⟩ := bxk_5' (show w0.heap[w.heap.size + 1]? = _ from P1.out)
    clear hu hv ih hw0 hR
    by_cases hk : xk = yk
    case neg =>
      have k0 : (xk == yk) = false := by simpa using hk
      have F := hide (show R = false by rw [E.out, k0]; rfl)
      clear E
      go_enter Tryd.func37, Tryd.ntmps37
      go_upto_region 1 with fail
      rw [HW0.out]
      go_wp2
      go_ret
      exact ⟨ret_bool F.out.symm, B0.out⟩
    subst hk
    by_cases hk : xn = yn
    case neg =>
      have k0 : (xn == yn) = false := by simpa using hk
      have F := hide (show R = false by rw [E.out, k0]; simp)
      clear E
      go_enter Tryd.func37, Tryd.ntmps37
      go_upto_region 1 with fail
      rw [HW0.out]
      go_wp2
      go_ret
      exact ⟨ret_bool F.out.symm, B0.out⟩
    subst hk
    by_cases hk : xd = yd
    case neg =>
      have k0 : (xd == yd) = false := by simpa using hk
      have F := hide (show R = false by rw [E.out, k0]; simp)
      clear E
      go_enter Tryd.func37, Tryd.ntmps37
      go_upto_region 1 with fail
      rw [HW0.out]
      go_wp2
      go_ret
      exact ⟨ret_bool F.out.symm, B0.out⟩
    subst hk
    by_cases hk : xu = yu
    case neg =>
      have k0 : (xu == yu) = false := by simpa using hk
      have F := hide (show R = false by rw [E.out, k0]; simp)
      clear E
      go_enter Tryd.func37, Tryd.ntmps37
      go_upto_region 1 with fail
      rw [HW0.out]
      go_wp2
      go_ret
      exact ⟨ret_bool F.out.symm, B0.out⟩
    subst hk
    replace E := hide (show R = eqXs xs ys by rw [E.out]; simp)
    by_cases hk : xs.length = ys.length
    case neg =>
      have k0 : ((xs.length : Int) == ys.length) = false := by simp; omega
      have k1 : ¬ (xs.length : Int) = ys.length := by omega
      have F := hide (show R = false by rw [E.out, eqXs_len _ _ hk])
      clear E
      go_enter Tryd.func37, Tryd.ntmps37
      go_upto_region 1 with fail
      rw [HW0.out]
      go_wp2
      go_ret
      exact ⟨ret_bool F.out.symm, B0.out⟩
    rw [← hk] at P1 q4 HV HW0
    rw [← hk]
    have HL := hide hk
    clear hk
    go_enter Tryd.func37, Tryd.ntmps37
    go_upto_region 1 with fail
    rw [HW0.out]
    go_wp2_with fail
    go_loopw [37] (fun i wr => RelSx w0 xs ys i wr) (fun i _ => xs.length - (intOf i).toNat)
    case atStart => exact .mk 0 rfl (by omega) (Below.refl _ _) (by simp)
    case round =>
      obtain ⟨m, rfl, hm, BE, R2⟩ := hrel
      replace BE := hide BE
      clear p0 p1 p2 p3 p4 q0 q1 q2 q3 q4 HW0
      by_cases hlt : m < xs.length
      · obtain ⟨x, hx⟩ : ∃ x, xs[m]? = some x := ⟨_, List.getElem?_eq_getElem hlt⟩
        obtain ⟨y, hy⟩ : ∃ y, ys[m]? = some y := ⟨_, List.getElem?_eq_getElem (by rw [← HL.out]; exact hlt)⟩
        obtain ⟨b, o, c2, u, hv', hb, -, -, xo, t5, hu5, hku⟩ := HU.out.at hx
        obtain ⟨rfl, rfl⟩ : a = some ⟨b, o, none⟩ ∧ c = c2 := by cases hv'; exact ⟨rfl, rfl⟩
        obtain ⟨b', o', c3, v, hv2, hb', -, -, yo, s5, hv5, hkv⟩ := EM.at (show EM w (.slice a' ys.length c') ys from by have := HV.out; rwa [HL.out] at this) hy
        obtain ⟨rfl, rfl⟩ : a' = some ⟨b', o', none⟩ ∧ c' = c3 := by cases hv2; exact ⟨rfl, rfl⟩
        obtain ⟨ua, uc, rfl, hks9⟩ := hku.shape
        obtain ⟨va, vc, rfl, hvs9⟩ := hkv.shape
        have R3 := hide (show eqXs xs ys = (eqX x y && eqXs (xs.drop (m + 1)) (ys.drop (m + 1))) by rw [R2.out, drop_atE hx, drop_atE hy, eqXs_cons])
        have hlt' : (m : Int) < xs.length := by omega
        have SZ : szE x ≤ N := by have := szEs_at hx; omega
        have CI := hide (fun (W : World) (h : Below w.heap.size w W) => IH.out x y (.slice ua x.ks.length uc) (.slice va y.ks.length vc) W SZ (hku.low h) (hkv.low h))
        have KH := hide (fun (W : World) (hQ : Below wr.heap.size wr W) => show W.cell? ⟨w.heap.size, 4, none⟩ = some (.slice (some ⟨b, o, none⟩) xs.length c) ∧ W.cell? ⟨w.heap.size + 1, 4, none⟩ = some (.slice (some ⟨b', o', none⟩) xs.length c') ∧ W.cell? ⟨b, o + m * 5, none⟩ = some (.int .i64 x.k) ∧ W.cell? ⟨b, o + m * 5 + 1, none⟩ = some (.int .i64 x.n) ∧ W.cell? ⟨b, o + m * 5 + 2, none⟩ = some (.int .i64 x.d) ∧ W.cell? ⟨b, o + m * 5 + 3, none⟩ = some (.int .i64 x.u) ∧ W.cell? ⟨b, o + m * 5 + 4, none⟩ = some (.slice ua x.ks.length uc) ∧ W.cell? ⟨b', o' + m * 5, none⟩ = some (.int .i64 y.k) ∧ W.cell? ⟨b', o' + m * 5 + 1, none⟩ = some (.int .i64 y.n) ∧ W.cell? ⟨b', o' + m * 5 + 2, none⟩ = some (.int .i64 y.d) ∧ W.cell? ⟨b', o' + m * 5 + 3, none⟩ = some (.int .i64 y.u) ∧ W.cell? ⟨b', o' + m * 5 + 4, none⟩ = some (.slice va y.ks.length vc) from by
          have bq := bto B0.out (bto BE.out hQ)
          obtain ⟨t0, t1, t2, t3⟩ := t5.below bq hb
          obtain ⟨s0, s1, s2, s3⟩ := s5.below bq hb'
          have e0 := Bk.cell (Bk.up P0.out (bto BE.out hQ)) 4
          have e1 := Bk.cell (Bk.up P1.out (bto BE.out hQ)) 4
          exact ⟨e0, e1, t0, t1, t2, t3, (bq.cell (p := ⟨b, o + m * 5 + 4, none⟩) hb).trans hu5, s0, s1, s2, s3, (bq.cell (p := ⟨b', o' + m * 5 + 4, none⟩) hb').trans hv5⟩)
        have BW := hide (bto B0.out BE.out)
        clear hx hy hv' hv2 t5 s5 hu5 hv5 hku hkv R2 xo yo HU HV P0 P1 IH SZ
        unfold exV at CI
        replace CI := hide (fun W (h : Below wr.heap.size wr W) => CI.out W (bto BW.out h))
        generalize x.ks.length = xsl at *
        generalize x.k = xk2 at *
        generalize x.n = xn2 at *
        generalize x.d = xd2 at *
        generalize x.u = xu2 at *
        generalize y.ks.length = ysl at *
        generalize y.k = yk2 at *
        generalize y.n = yn2 at *
        generalize y.d = yd2 at *
        generalize y.u = yu2 at *
        go_upto_region 6 with fail
        cases hm2 : eqX x y
        · have HM := hide hm2
          have F := hide (show R = false by rw [E.out, R3.out, hm2]; rfl)
          clear hm2 R3 E
          go_region_held3 (fun w' => w'.cell? ⟨w.heap.size, 4, none⟩ = some (.slice (some ⟨b, o, none⟩) xs.length c) ∧ w'.cell? ⟨w.heap.size + 1, 4, none⟩ = some (.slice (some ⟨b', o', none⟩) xs.length c') ∧ w'.cell? ⟨b, o + m * 5, none⟩ = some (.int .i64 xk2) ∧ w'.cell? ⟨b, o + m * 5 + 1, none⟩ = some (.int .i64 xn2) ∧ w'.cell? ⟨b, o + m * 5 + 2, none⟩ = some (.int .i64 xd2) ∧ w'.cell? ⟨b, o + m * 5 + 3, none⟩ = some (.int .i64 xu2) ∧ w'.cell? ⟨b, o + m * 5 + 4, none⟩ = some (.slice ua xsl uc) ∧ w'.cell? ⟨b', o' + m * 5, none⟩ = some (.int .i64 yk2) ∧ w'.cell? ⟨b', o' + m * 5 + 1, none⟩ = some (.int .i64 yn2) ∧ w'.cell? ⟨b', o' + m * 5 + 2, none⟩ = some (.int .i64 yd2) ∧ w'.cell? ⟨b', o' + m * 5 + 3, none⟩ = some (.int .i64 yu2) ∧ w'.cell? ⟨b', o' + m * 5 + 4, none⟩ = some (.slice va ysl vc))
            ((refine KH.out _ ?_; (repeat (first | exact Below.refl _ _ | (with_reducible refine Below.drew ?_) | (with_reducible refine below_drewN ?_ _) | (with_reducible refine bplus ?_ _) | (refine bto ?_ (by assumption)))); done))
            (first
              | (go_at_call 37; refine (CI.out _ (by repeat (first | exact Below.refl _ _ | (with_reducible refine Below.drew ?_) | (with_reducible refine below_drewN ?_ _) | (with_reducible refine bplus ?_ _) | (refine bto ?_ (by assumption))))).mono ?_; rintro _ w4 ⟨rfl, h4⟩; rw [HM.out]))
          all_goals
            go_wp2
            go_ret
            refine ⟨ret_bool F.out.symm, bto BW.out ?_⟩
            repeat (first | exact Below.refl _ _ | (with_reducible refine Below.drew ?_) | (with_reducible refine below_drewN ?_ _) | (with_reducible refine bplus ?_ _) | (refine bto ?_ (by assumption)))
        · have HM := hide hm2
          have E2 := hide (show eqXs xs ys = eqXs (xs.drop (m + 1)) (ys.drop (m + 1)) by rw [R3.out, hm2]; rfl)
          clear hm2 R3
          go_region_held3 (fun w' => w'.cell? ⟨w.heap.size, 4, none⟩ = some (.slice (some ⟨b, o, none⟩) xs.length c) ∧ w'.cell? ⟨w.heap.size + 1, 4, none⟩ = some (.slice (some ⟨b', o', none⟩) xs.length c') ∧ w'.cell? ⟨b, o + m * 5, none⟩ = some (.int .i64 xk2) ∧ w'.cell? ⟨b, o + m * 5 + 1, none⟩ = some (.int .i64 xn2) ∧ w'.cell? ⟨b, o + m * 5 + 2, none⟩ = some (.int .i64 xd2) ∧ w'.cell? ⟨b, o + m * 5 + 3, none⟩ = some (.int .i64 xu2) ∧ w'.cell? ⟨b, o + m * 5 + 4, none⟩ = some (.slice ua xsl uc) ∧ w'.cell? ⟨b', o' + m * 5, none⟩ = some (.int .i64 yk2) ∧ w'.cell? ⟨b', o' + m * 5 + 1, none⟩ = some (.int .i64 yn2) ∧ w'.cell? ⟨b', o' + m * 5 + 2, none⟩ = some (.int .i64 yd2) ∧ w'.cell? ⟨b', o' + m * 5 + 3, none⟩ = some (.int .i64 yu2) ∧ w'.cell? ⟨b', o' + m * 5 + 4, none⟩ = some (.slice va ysl vc))
            ((refine KH.out _ ?_; (repeat (first | exact Below.refl _ _ | (with_reducible refine Below.drew ?_) | (with_reducible refine below_drewN ?_ _) | (with_reducible refine bplus ?_ _) | (refine bto ?_ (by assumption)))); done))
            (first
              | (go_at_call 37; refine (CI.out _ (by repeat (first | exact Below.refl _ _ | (with_reducible refine Below.drew ?_) | (with_reducible refine below_drewN ?_ _) | (with_reducible refine bplus ?_ _) | (refine bto ?_ (by assumption))))).mono ?_; rintro _ w4 ⟨rfl, h4⟩; rw [HM.out]))
          all_goals
            go_wp2
            go_roundw
            case rel =>
              refine .mk (m + 1) (by go_num) (by omega) (bto BE.out ?_) E2.out
              repeat (first | exact Below.refl _ _ | (with_reducible refine Below.drew ?_) | (with_reducible refine below_drewN ?_ _) | (with_reducible refine bplus ?_ _) | (refine bto ?_ (by assumption)))
            case measure => simp [intOf]; omega
      · have F := hide (show R = true by rw [E.out, R2.out, List.drop_of_length_le (by omega), List.drop_of_length_le (by rw [← HL.out]; omega), eqXs_nil])
        have hlt' : ¬ (m : Int) < xs.length := by omega
        go_wp2
        go_ret
        exact ⟨ret_bool F.out.symm, bto B0.out BE.out⟩
end Go.Proofs.YtpcdhdllclenaaaDoor.cd
