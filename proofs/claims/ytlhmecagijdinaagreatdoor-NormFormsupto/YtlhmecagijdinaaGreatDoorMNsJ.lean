/-
  A form times a fraction: by the reference.
-/
import Derived.Test.YtlhmecagijdinaaGreatDoorQ02
import Derived.Test.YtlhmecagijdinaaGreatDoorMNsD
set_option linter.unusedVariables false
set_option linter.unusedSimpArgs false
namespace Go.Proofs.YtlhmecagijdinaaGreatDoor.nm
open Go.RowKit cc

theorem ct_may (r : Int × Int) : mayB (ctR r).1 (ctR r).2 = true := by
  unfold ctR
  by_cases h : mayB r.1 r.2 = true
  · rw [if_pos h]; exact h
  · rw [if_neg h]; decide
theorem ct_ct (r : Int × Int) : ctR (ctR r) = ctR r := by
  have h := ct_may r
  show (if mayB (ctR r).1 (ctR r).2 = true then ctR r else (0, 0)) = ctR r
  rw [if_pos h]
theorem zr_adR {r : Int × Int} (h : mayB r.1 r.2 = true) (h1 : i64 r.1) (h2 : i64 r.2) : adR (0, 1) r = r := by
  have e0 : wk.addN 0 1 0 1 = 0 ∧ wk.addD 0 1 0 1 = 1 := by
    obtain ⟨a, b⟩ := wk.zero_add (n := 0) (d := 1) ⟨by decide, by decide⟩ ⟨by decide, by decide⟩
    rw [a, b]
    decide
  obtain ⟨a, b⟩ := wk.zero_add (n := r.1) (d := r.2) h1 h2
  show (wk.addN (wk.addN 0 1 0 1) (wk.addD 0 1 0 1) r.1 r.2, wk.addD (wk.addN 0 1 0 1) (wk.addD 0 1 0 1) r.1 r.2) = r
  rw [e0.1, e0.2, a, b]
  unfold wk.clN wk.clD
  rw [may_same, h]
  rfl
theorem zr_plU {us : List (Int × Int)} (h : Us us) (hm : us.all (fun r => mayB r.1 r.2) = true) : plU z01 us = us := by
  match us, h.1 with
  | [r0, r1, r2, r3, r4, r5, r6], _ =>
    simp only [List.all_cons, List.all_nil, Bool.and_true, Bool.and_eq_true] at hm
    obtain ⟨m0, m1, m2, m3, m4, m5, m6⟩ := hm
    have k := h.2
    show [adR (0, 1) r0, adR (0, 1) r1, adR (0, 1) r2, adR (0, 1) r3, adR (0, 1) r4, adR (0, 1) r5, adR (0, 1) r6] = _
    rw [zr_adR m0 (k r0 (by simp)).1 (k r0 (by simp)).2, zr_adR m1 (k r1 (by simp)).1 (k r1 (by simp)).2, zr_adR m2 (k r2 (by simp)).1 (k r2 (by simp)).2, zr_adR m3 (k r3 (by simp)).1 (k r3 (by simp)).2, zr_adR m4 (k r4 (by simp)).1 (k r4 (by simp)).2, zr_adR m5 (k r5 (by simp)).1 (k r5 (by simp)).2, zr_adR m6 (k r6 (by simp)).1 (k r6 (by simp)).2]
theorem ra_sc {x : Fo} {r : List Fo} (h : Us x.us) (hm : x.us.all (fun r => mayB r.1 r.2) = true) : raU (x :: r) = ssU (x :: r) := by
  show (r.map Fo.us).foldl plU x.us = (r.map Fo.us).foldl plU (plU z01 x.us)
  rw [zr_plU h hm]
/-- The first j products. -/
def rtU (j : Nat) (us : List (Int × Int)) (s : Int × Int) : List (Int × Int) := (tmU us s).take j ++ z00.drop j
theorem tm_len {us : List (Int × Int)} (h : us.length = 7) (s : Int × Int) : (tmU us s).length = 7 := by simp [tmU, h]
theorem rtU_len {us : List (Int × Int)} (h : us.length = 7) (s : Int × Int) {j : Nat} (hj : j ≤ 7) : (rtU j us s).length = 7 := by
  have := tm_len h s
  simp [rtU, this, z00]; omega
theorem z00_at {j : Nat} (hj : j < 7) : z00[j]? = some (0, 0) := by
  rcases (show j = 0 ∨ j = 1 ∨ j = 2 ∨ j = 3 ∨ j = 4 ∨ j = 5 ∨ j = 6 by omega) with rfl | rfl | rfl | rfl | rfl | rfl | rfl <;> rfl
theorem rtU_at {us : List (Int × Int)} (h : us.length = 7) (s : Int × Int) {j : Nat} (hj : j < 7) : (rtU j us s)[j]? = some (0, 0) := by
  have hl := tm_len h s
  unfold rtU
  rw [List.getElem?_append_right (by rw [List.length_take, hl]; omega), List.length_take, hl, show j - min j 7 = 0 by omega, List.getElem?_drop, Nat.add_zero]
  exact z00_at hj
theorem rtU_step {us : List (Int × Int)} (h : us.length = 7) {s : Int × Int} {j : Nat} (hj : j < 7) {r : Int × Int} (hr : us[j]? = some r) : (rtU j us s).set j (muR r s) = rtU (j + 1) us s := by
  have hz : (tmU us s)[j]? = some (muR r s) := by unfold tmU; rw [List.getElem?_map, hr]; rfl
  have hl := tm_len h s
  unfold rtU
  rw [List.set_append_right _ _ (by rw [List.length_take, hl]; omega)]
  rw [show j - ((tmU us s).take j).length = 0 by rw [List.length_take, hl]; omega]
  rw [drop_atE (z00_at hj), List.set_cons_zero, List.take_add_one, hz]
  simp
theorem rtU_end {us : List (Int × Int)} (h : us.length = 7) (s : Int × Int) : rtU 7 us s = tmU us s := by
  unfold rtU
  rw [List.take_of_length_le (by rw [tm_len h]; omega)]
  exact List.append_nil _
theorem mul2R_drew (W : World) (T : TypeId) (n d m e : Int) (hn : i64 n) (hd : i64 d) (hm : i64 m) (he : i64 e) : Calls Tryz.prog 24 #[.slice (some ⟨W.heap.size, 0, none⟩) 2 2] (W.alloc (.cells #[.int .i64 n, .int .i64 d, .int .i64 m, .int .i64 e] T)).drew fun x w' => x = .returned (.agg #[.int .i64 (muR (n, d) (m, e)).1, .int .i64 (muR (n, d) (m, e)).2]) ∧ Below W.heap.size W w' := by
  refine (wk.mulR_any _ [(n, d), (m, e)] _ ((wk.row_two W n d m e T).up ((wk.Up.refl _).drew)) (by intro r hr; simp at hr; rcases hr with rfl | rfl; exact ⟨hn, hd⟩; exact ⟨hm, he⟩)).mono ?_
  rintro x w1 ⟨rfl, U⟩
  exact ⟨rfl, bto (bplus (Below.refl _ _) _).drew U.1⟩
/-- The contract of the reference's Scale. -/
def RsC (n : Nat) : Prop := ∀ (k : Int × Int), R64 k → ∀ (us : List (Int × Int)) (ps : List Pa) (u : Value) (w : World), Us us → PM w n u ps → szF (.mk us ps) ≤ 1000000000 → Calls Tryz.prog 15 #[foV us u, ratV k] w fun e w' => ∃ v, e = .returned (foV (scF (ctR k) n (.mk us ps)).us v) ∧ PM (cutW w.heap.size w') n v (scF (ctR k) n (.mk us ps)).ps ∧ Below w.heap.size w w'
def RelRt (w : World) (fb : Nat) (us : List (Int × Int)) (u : Value) (kn kd : Int) (i : Value) (wr : World) : Prop := ∃ j : Nat, i = .int .i64 j ∧ j ≤ 7 ∧ Hid (BF wr w.heap.size us u ∧ Bk wr (w.heap.size + 1) 23 [.int .i64 kn, .int .i64 kd] ∧ Bk wr (w.heap.size + 2) 30 [.int .i64 0, .int .i64 0, .int .i64 0, .int .i64 0, .int .i64 0, .int .i64 0, .int .i64 0, .int .i64 0, .int .i64 0, .int .i64 0, .int .i64 0, .int .i64 0, .int .i64 0, .int .i64 0, .slice none 0 0] ∧ BF wr fb (rtU j us (kn, kd)) nilS ∧ Below w.heap.size w wr)
theorem RelRt.mk {w : World} {fb : Nat} {us : List (Int × Int)} {u : Value} {kn kd : Int} {i : Value} {wr : World} (j : Nat) (h1 : i = .int .i64 j) (h2 : j ≤ 7) (h3 : BF wr w.heap.size us u) (h4 : Bk wr (w.heap.size + 1) 23 [.int .i64 kn, .int .i64 kd]) (h5 : Bk wr (w.heap.size + 2) 30 [.int .i64 0, .int .i64 0, .int .i64 0, .int .i64 0, .int .i64 0, .int .i64 0, .int .i64 0, .int .i64 0, .int .i64 0, .int .i64 0, .int .i64 0, .int .i64 0, .int .i64 0, .int .i64 0, .slice none 0 0]) (h6 : BF wr fb (rtU j us (kn, kd)) nilS) (h7 : Below w.heap.size w wr) : RelRt w fb us u kn kd i wr := ⟨j, h1, h2, h3, h4, h5, h6, h7⟩
def RelQj (wA : World) (ga n' : Nat) (gq : List Fo) (i av : Value) (wr : World) : Prop := ∃ (m : Nat) (aa : Option Addr) (ac : Nat), i = .int .i64 m ∧ av = .slice aa m ac ∧ m ≤ gq.length ∧ Hid (FH ga n' wr (.slice aa m ac) (gq.take m) ∧ Below ga wA wr)
theorem RelQj.mk {wA : World} {ga n' : Nat} {gq : List Fo} {i av : Value} {wr : World} (m : Nat) (aa : Option Addr) (ac : Nat) (h1 : i = .int .i64 m) (h2 : av = .slice aa m ac) (h3 : m ≤ gq.length) (h4 : FH ga n' wr (.slice aa m ac) (gq.take m)) (h5 : Below ga wA wr) : RelQj wA ga n' gq i av wr := ⟨m, aa, ac, h1, h2, h3, h4, h5⟩
set_option maxRecDepth 100000 in
set_option maxHeartbeats 16000000 in
theorem scaleR_step (n : Nat) (IH : ∀ m, n = m + 1 → RsC m) : RsC n := by
  intro k hk us ps u w hus hu hsz
  obtain ⟨a, c, rfl, hl9⟩ := hu.shape
  have hps := Nat.le_trans (ps_lt (.mk us ps)) hsz
  replace hps : ps.length + 1 ≤ 1000000000 := hps
  have CC := hide (fun (W : World) => show Calls Tryz.prog 35 #[.agg #[.int .i64 k.1, .int .i64 k.2]] W fun e w' => e = .returned (.agg #[.int .i64 (ctR k).1, .int .i64 (ctR k).2]) ∧ Below W.heap.size W w' from cleanR_any k.1 k.2 W hk.1 hk.2)
  have hq : R64 (ctR k) := ct_i64 hk.1 hk.2
  have IH2 := hide (fun (m : Nat) (h : n = m + 1) (us : List (Int × Int)) (ps : List Pa) (u : Value) (w : World) (hus : Us us) (hu : PM w m u ps) (hsz : szF (.mk us ps) ≤ 1000000000) => by
    have := IH m h (ctR k) hq us ps u w hus hu hsz
    rw [ct_ct] at this
    exact this)
  have KV := hide (show ratV k = .agg #[.int .i64 k.1, .int .i64 k.2] from rfl)
  rw [KV.out]
  generalize ctR k = kq at *
  obtain ⟨kn, kd⟩ := kq
  obtain ⟨k1, k2⟩ := k
  have SZ := hide (fun (p : Pa) (hp : p ∈ ps) (x : Fo) (hx : x ∈ p.2) => show szF x ≤ 1000000000 from by have := szF_part (f := .mk us ps) hp hx; omega)
  have LU := hide (show (usL us).length = 14 by rw [usL_len, hus.1])
  obtain ⟨GU, GF⟩ := scG_us (kn, kd) n hus hu
  have GL0 := hide (show (scG (gnF (kn, kd) n) (kn, kd) (.mk us ps)).take 1 = [.mk (tmU us (kn, kd)) []] from rfl)
  have GLA := hide (fun (j : Nat) (p : Pa) (h : ps[j]? = some p) => scG_at (g := gnF (kn, kd) n) (k := (kn, kd)) (f := .mk us ps) h)
  have GLN := hide (show (scG (gnF (kn, kd) n) (kn, kd) (.mk us ps)).length = ps.length + 1 from scG_leng (gnF (kn, kd) n) (kn, kd) (.mk us ps))
  have GLP := hide (Nat.le_trans (scG_len (g := gnF (kn, kd) n) (kn, kd) (.mk us ps) (fun p _ x _ => gnF_len (kn, kd) n x)) hsz)
  have GRA := hide (show raU (scG (gnF (kn, kd) n) (kn, kd) (.mk us ps)) = ssU (scG (gnF (kn, kd) n) (kn, kd) (.mk us ps)) from ra_sc (tmU_us hus (kn, kd)) (tmU_may us (kn, kd)))
  rw [scF_gn] at GF
  simp only [scF_gn]
  replace GU := hide GU
  generalize scG (gnF (kn, kd) n) (kn, kd) (.mk us ps) = gl at *
  replace GF := hide (show Us (ssU gl) from GF)
  show Calls Tryz.prog 15 #[.agg (usL us ++ [Value.slice a ps.length c]).toArray, .agg #[.int .i64 k1, .int .i64 k2]] w fun e w' => ∃ v, e = .returned (.agg (usL (ssU gl) ++ [v]).toArray) ∧ PM (cutW w.heap.size w') n v (ssP gl) ∧ Below w.heap.size w w'
  have TU := hide (tmU_us hus (kn, kd))
  have HU := hide hu
  have HUS := hide hus
  have h7 := hus.1
  replace IH2 := hide IH2
  replace hq := hide hq
  clear hu hus hk hsz IH KV
  have SX := hide (fun (mx bl : Bool) (h : decide (0 ≤ kn) = bl) => show scX (kn, kd) mx = (mx == bl) by
    subst h
    show (mx != decide (kn < 0)) = _
    by_cases h : kn < 0
    · rw [decide_eq_true h, decide_eq_false (by omega)]; cases mx <;> rfl
    · rw [decide_eq_false h, decide_eq_true (by omega)]; cases mx <;> rfl)
  obtain ⟨bl, hbl⟩ : ∃ bl, decide (0 ≤ kn) = bl := ⟨_, rfl⟩
  obtain ⟨fa, hfa⟩ : ∃ q : Array Value, (usL us ++ [Value.slice a ps.length c]).toArray = q := ⟨_, rfl⟩
  rw [hfa]
  obtain ⟨W1, hW1⟩ : ∃ W1, ((w.alloc (.cells fa 30)).alloc (.cells #[.int .i64 k1, .int .i64 k2] 23)).alloc (.cells #[.int .i64 0, .int .i64 0, .int .i64 0, .int .i64 0, .int .i64 0, .int .i64 0, .int .i64 0, .int .i64 0, .int .i64 0, .int .i64 0, .int .i64 0, .int .i64 0, .int .i64 0, .int .i64 0, .slice none 0 0] 30) = W1 := ⟨_, rfl⟩
  have B0 := hide (show Below w.heap.size w W1 by rw [← hW1]; exact bplus (bplus (bplus (Below.refl _ _) _) _) _)
  have P0 := hide (show BF W1 w.heap.size us (.slice a ps.length c) by rw [← hW1, ← hfa]; exact (three_blk w _ _ _).1)
  have P1 := hide (show Bk W1 (w.heap.size + 1) 23 [.int .i64 k1, .int .i64 k2] by rw [← hW1]; exact (three_blk w _ _ _).2.1)
  have P2 := hide (show Bk W1 (w.heap.size + 2) 30 [.int .i64 0, .int .i64 0, .int .i64 0, .int .i64 0, .int .i64 0, .int .i64 0, .int .i64 0, .int .i64 0, .int .i64 0, .int .i64 0, .int .i64 0, .int .i64 0, .int .i64 0, .int .i64 0, .slice none 0 0] by rw [← hW1]; exact (three_blk w _ _ _).2.2)
  have HW1 := hide hW1
  have s0 : fa.size = 15 := by rw [← hfa, List.size_toArray]; exact fo_len HUS.out _
  have z0 := Bk.cell P1.out 0
  have z1 := Bk.cell P1.out 1
  simp at z0 z1
  clear hW1 hfa
  go_enter Tryz.func15, Tryz.ntmps15
  go_upto_region 1 with fail
  rw [HW1.out]
  clear HW1
  have hx3 : w.heap.size + 3 ≤ W1.heap.size := Bk.lt P2.out
  go_upto_region 2 with (go_at_call 35; refine (CC.out _).mono ?_; rintro e wc ⟨rfl, BC⟩; replace BC := hide BC; have y0 := Bk.cell (Bk.up P1.out BC.out) 0; have y1 := Bk.cell (Bk.up P1.out BC.out) 1; simp at y0 y1; have yz0 := Bk.fz (Bk.up P1.out BC.out) 0; have yz1 := Bk.fz (Bk.up P1.out BC.out) 1)
  obtain ⟨W2, hW2⟩ : ∃ W2, (wc.setCell ⟨w.heap.size + 1, 0, none⟩ (.int .i64 kn)).setCell ⟨w.heap.size + 1, 1, none⟩ (.int .i64 kd) = W2 := ⟨_, rfl⟩
  have I0 := hide (show BF W2 w.heap.size us (.slice a ps.length c) by rw [← hW2]; exact Bk.far (Bk.far (Bk.up P0.out BC.out) (by omega) _ _) (by omega) _ _)
  have I1 := hide (show Bk W2 (w.heap.size + 1) 23 [.int .i64 kn, .int .i64 kd] by rw [← hW2]; exact Bk.put (Bk.put (Bk.up P1.out BC.out) 0 _) 1 _)
  have I2 := hide (show Bk W2 (w.heap.size + 2) 30 [.int .i64 0, .int .i64 0, .int .i64 0, .int .i64 0, .int .i64 0, .int .i64 0, .int .i64 0, .int .i64 0, .int .i64 0, .int .i64 0, .int .i64 0, .int .i64 0, .int .i64 0, .int .i64 0, .slice none 0 0] by rw [← hW2]; exact Bk.far (Bk.far (Bk.up P2.out BC.out) (by omega) _ _) (by omega) _ _)
  have IB := hide (show Below w.heap.size w W2 by rw [← hW2]; exact ((bto B0.out BC.out).setCell (by simp) _).setCell (by simp) _)
  rw [hW2]
  clear hW2 B0 P0 P1 P2 BC CC z0 z1 y0 y1 yz0 yz1 hx3
  have hx3 : w.heap.size + 3 ≤ W2.heap.size := Bk.lt I2.out
  go_upto_region 3 with fail
  obtain ⟨W3, hW3⟩ : ∃ W3, W2.alloc (.cells #[.int .i64 0, .int .i64 0, .int .i64 0, .int .i64 0, .int .i64 0, .int .i64 0, .int .i64 0, .int .i64 0, .int .i64 0, .int .i64 0, .int .i64 0, .int .i64 0, .int .i64 0, .int .i64 0, .slice none 0 0] 30) = W3 := ⟨_, rfl⟩
  have J0 := hide (show BF W3 w.heap.size us (.slice a ps.length c) by rw [← hW3]; exact Bk.more I0.out _)
  have J1 := hide (show Bk W3 (w.heap.size + 1) 23 [.int .i64 kn, .int .i64 kd] by rw [← hW3]; exact Bk.more I1.out _)
  have J2 := hide (show Bk W3 (w.heap.size + 2) 30 [.int .i64 0, .int .i64 0, .int .i64 0, .int .i64 0, .int .i64 0, .int .i64 0, .int .i64 0, .int .i64 0, .int .i64 0, .int .i64 0, .int .i64 0, .int .i64 0, .int .i64 0, .int .i64 0, .slice none 0 0] by rw [← hW3]; exact Bk.more I2.out _)
  have J3 := hide (show BF W3 W2.heap.size (rtU 0 us (kn, kd)) nilS by rw [← hW3]; exact Bk.new W2 _ (usL z00 ++ [nilS]))
  have JB := hide (show Below w.heap.size w W3 by rw [← hW3]; exact bplus IB.out _)
  rw [hW3]
  clear hW3 I0 I1 I2 IB
  generalize W2.heap.size = fb at *
  go_wp2_with fail
  go_loopw [16] (fun i wr => RelRt w fb us (.slice a ps.length c) kn kd i wr) (fun i _ => 7 - (intOf i).toNat)
  case atStart => exact .mk 0 rfl (by omega) J0.out J1.out J2.out J3.out JB.out
  case round =>
    obtain ⟨q, rfl, hq7, R⟩ := hrel
    obtain ⟨w7, hw7⟩ : ∃ w7, w7 = wr := ⟨_, rfl⟩
    subst hw7
    have Q0 := hide R.out.1
    have Q1 := hide R.out.2.1
    have Q2 := hide R.out.2.2.1
    have Q3 := hide R.out.2.2.2.1
    have BW := hide R.out.2.2.2.2
    clear R J0 J1 J2 J3 JB
    by_cases hlt7 : q < 7
    · have hlt7' : (q : Int) < 7 := by omega
      obtain ⟨rn, rd, hr, hrn, hrd⟩ := us_at HUS.out hlt7
      have C2 := hide (fun (W : World) (T : TypeId) => mul2R_drew W T rn rd kn kd hrn hrd hq.out.1 hq.out.2)
      have ST := hide (rtU_step (s := (kn, kd)) h7 hlt7 hr)
      obtain ⟨ad, had⟩ : ∃ ad, muR (rn, rd) (kn, kd) = ad := ⟨_, rfl⟩
      rw [had] at C2 ST
      clear had
      obtain ⟨c0, c1⟩ := BF.at Q0.out h7 hr
      have d0 := Bk.cell Q1.out 0
      have d1 := Bk.cell Q1.out 1
      simp at d0 d1
      have ha1 : w.heap.size < w7.heap.size := Bk.lt Q0.out
      have ha2 : w.heap.size + 1 < w7.heap.size := Bk.lt Q1.out
      have ha3 : w.heap.size ≠ w7.heap.size := by omega
      have ha4 : w.heap.size + 1 ≠ w7.heap.size := by omega
      have ha5 : fb < w7.heap.size := Bk.lt Q3.out
      have ha6 : fb ≠ w7.heap.size := by omega
      have hx4 := hide hx3
      have NX := hide (fun (W : World) (h : Below w7.heap.size w7 W) => show BF ((W.setCell ⟨fb, q * 2, none⟩ (.int .i64 ad.1)).setCell ⟨fb, q * 2 + 1, none⟩ (.int .i64 ad.2)) fb (rtU (q + 1) us (kn, kd)) nilS by
        have := BF.put (Bk.up Q3.out h : BF W fb (rtU q us (kn, kd)) nilS) (k := q) (by rw [rtU_len h7 _ hq7]; omega) ad.1 ad.2
        rwa [show ((ad.1, ad.2) : Int × Int) = ad from rfl, ST.out] at this)
      have N0 := hide (fun (W : World) (h : Below w7.heap.size w7 W) => show BF ((W.setCell ⟨fb, q * 2, none⟩ (.int .i64 ad.1)).setCell ⟨fb, q * 2 + 1, none⟩ (.int .i64 ad.2)) w.heap.size us (.slice a ps.length c) from Bk.far (Bk.far (Bk.up Q0.out h) (by omega) _ _) (by omega) _ _)
      have N1 := hide (fun (W : World) (h : Below w7.heap.size w7 W) => show Bk ((W.setCell ⟨fb, q * 2, none⟩ (.int .i64 ad.1)).setCell ⟨fb, q * 2 + 1, none⟩ (.int .i64 ad.2)) (w.heap.size + 1) 23 [.int .i64 kn, .int .i64 kd] from Bk.far (Bk.far (Bk.up Q1.out h) (by omega) _ _) (by omega) _ _)
      have N2 := hide (fun (W : World) (h : Below w7.heap.size w7 W) => show Bk ((W.setCell ⟨fb, q * 2, none⟩ (.int .i64 ad.1)).setCell ⟨fb, q * 2 + 1, none⟩ (.int .i64 ad.2)) (w.heap.size + 2) 30 [.int .i64 0, .int .i64 0, .int .i64 0, .int .i64 0, .int .i64 0, .int .i64 0, .int .i64 0, .int .i64 0, .int .i64 0, .int .i64 0, .int .i64 0, .int .i64 0, .int .i64 0, .int .i64 0, .slice none 0 0] from Bk.far (Bk.far (Bk.up Q2.out h) (by omega) _ _) (by omega) _ _)
      have NB := hide (fun (W : World) (h : Below w7.heap.size w7 W) => show Below w.heap.size w ((W.setCell ⟨fb, q * 2, none⟩ (.int .i64 ad.1)).setCell ⟨fb, q * 2 + 1, none⟩ (.int .i64 ad.2)) from ((bto BW.out h).setCell (by show w.heap.size ≤ fb; omega) _).setCell (by show w.heap.size ≤ fb; omega) _)
      have KC := hide (fun (W : World) (h : Below w7.heap.size w7 W) => And.intro (BF.at (Bk.up Q3.out h : BF W fb (rtU q us (kn, kd)) nilS) (rtU_len h7 _ hq7) (rtU_at h7 _ hlt7)) (Bk.fz (Bk.up Q3.out h)))
      obtain ⟨⟨g0, g1⟩, gz⟩ := KC.out w7 (Below.refl _ _)
      have hx5 := hide hx3
      clear hr ST Q0 Q1 Q2 Q3 hx3 gz
      go_wp2
      go_region_with ((go_at_call 24; refine (C2.out _ _).mono ?_; rintro e w4 ⟨rfl, B4⟩; replace B4 := hide (show Below w7.heap.size w7 w4 from B4); obtain ⟨⟨v0, v1⟩, vz⟩ := KC.out w4 B4.out; have vz0 := vz (q * 2); have vz1 := vz (q * 2 + 1); clear vz))
      all_goals
        go_wp2_with fail
        go_roundw
        case rel => exact .mk (q + 1) (by go_num) (by omega) (N0.out _ B4.out) (N1.out _ B4.out) (N2.out _ B4.out) (NX.out _ B4.out) (NB.out _ B4.out)
        case measure => simp [intOf]; omega
    · skip
      obtain rfl : q = 7 := by omega
      have TQ := hide (show BF w7 fb (tmU us (kn, kd)) nilS by rw [← rtU_end h7]; exact Q3.out)
      generalize tmU us (kn, kd) = tus at *
      obtain ⟨m0, e0, m1, e1, m2, e2, m3, e3, m4, e4, m5, e5, m6, e6, rfl⟩ := us7 TU.out
      have RG := hide (show w7.rangeAt fb 0 [.int .i64 m0, .int .i64 e0, .int .i64 m1, .int .i64 e1, .int .i64 m2, .int .i64 e2, .int .i64 m3, .int .i64 e3, .int .i64 m4, .int .i64 e4, .int .i64 m5, .int .i64 e5, .int .i64 m6, .int .i64 e6, .slice none 0 0] from range_blk TQ.out)
      have hq3 : w.heap.size + 3 ≤ w7.heap.size := Bk.lt Q2.out
      have L0 := hide (FH.one (B := w.heap.size + 3) (n := n) (w := w7) (f := .mk [(m0, e0), (m1, e1), (m2, e2), (m3, e3), (m4, e4), (m5, e5), (m6, e6)] []) (by omega) TU.out rfl)
      obtain ⟨W4, hW4⟩ : ∃ W4, w7.alloc (.cells #[.int .i64 m0, .int .i64 e0, .int .i64 m1, .int .i64 e1, .int .i64 m2, .int .i64 e2, .int .i64 m3, .int .i64 e3, .int .i64 m4, .int .i64 e4, .int .i64 m5, .int .i64 e5, .int .i64 m6, .int .i64 e6, .slice none 0 0] 30) = W4 := ⟨_, rfl⟩
      have L4 := hide (show FH (w.heap.size + 3) n W4 (.slice (some ⟨w7.heap.size, 0, none⟩) 1 1) (gl.take 1) by rw [GL0.out, ← hW4]; exact L0.out)
      have J0 := hide (show BF W4 w.heap.size us (.slice a ps.length c) by rw [← hW4]; exact Bk.more Q0.out _)
      have J1 := hide (show Bk W4 (w.heap.size + 1) 23 [.int .i64 kn, .int .i64 kd] by rw [← hW4]; exact Bk.more Q1.out _)
      have J2 := hide (show Bk W4 (w.heap.size + 2) 30 [.int .i64 0, .int .i64 0, .int .i64 0, .int .i64 0, .int .i64 0, .int .i64 0, .int .i64 0, .int .i64 0, .int .i64 0, .int .i64 0, .int .i64 0, .int .i64 0, .int .i64 0, .int .i64 0, .slice none 0 0] by rw [← hW4]; exact Bk.more Q2.out _)
      have JB := hide (show Below w.heap.size w W4 by rw [← hW4]; exact bplus BW.out _)
      have HW4 := hide hW4
      clear hW4 L0 Q0 Q1 Q2 Q3 BW TQ TU GL0
      go_upto_region 9 with (refine wpList_load_mid rfl 30 (.tmp 5) rfl fb 0 rfl [.int .i64 m0, .int .i64 e0, .int .i64 m1, .int .i64 e1, .int .i64 m2, .int .i64 e2, .int .i64 m3, .int .i64 e3, .int .i64 m4, .int .i64 e4, .int .i64 m5, .int .i64 e5, .int .i64 m6, .int .i64 e6, .slice none 0 0] _ RG.out Tryz.underlying30 rfl (by kernel_rfl) ?_)
      rw [HW4.out]
      clear HW4 RG
      have f14 : W4.cell? ⟨w.heap.size, 14, none⟩ = some (.slice a ps.length c) := BF.last J0.out h7
      generalize w7.heap.size = lg at *
      go_wp2_with fail
      clear hx3 hq3 hq7 hlt7
      go_loopw [35, 7] (fun i lv wr => RelQo w n (usL us ++ [Value.slice a ps.length c]) kn kd gl ps.length i lv wr) (fun i _ _ => ps.length - (intOf i).toNat)
      case atStart => exact .mk 0 _ _ rfl rfl (by omega) J0.out J1.out J2.out L4.out JB.out
      case round =>
        obtain ⟨j, la, lc, rfl, rfl, hj, R⟩ := hrel
        obtain ⟨wo, hwo⟩ : ∃ wo, wo = wr := ⟨_, rfl⟩
        subst hwo
        have Q0 := hide R.out.1
        have Q1 := hide R.out.2.1
        have Q2 := hide R.out.2.2.1
        have QL := hide R.out.2.2.2.1
        have BW := hide R.out.2.2.2.2
        have hq3 : w.heap.size + 3 ≤ wo.heap.size := Bk.lt Q2.out
        clear R J0 J1 J2 L4 JB f14
        by_cases hlt : j < ps.length
        · have hlt' : (j : Int) < ps.length := by omega
          obtain ⟨p, hp⟩ : ∃ p, ps[j]? = some p := ⟨_, List.getElem?_eq_getElem hlt⟩
          have GJ := GLA.out j p hp
          have SZp := fun x hx => SZ.out p (List.mem_of_getElem? hp) x hx
          obtain ⟨b, o, c', su, hv', hb, -, -, hc0, hc1, hfm⟩ := PM.at HU.out hp
          obtain ⟨rfl, rfl⟩ : a = some ⟨b, o, none⟩ ∧ c = c' := by cases hv'; exact ⟨rfl, rfl⟩
          obtain ⟨mx, l⟩ := p
          simp only at hfm hc0 hc1 GJ SZp
          rw [SX.out mx bl hbl] at GJ
          obtain ⟨sa, sc, rfl, hl9'⟩ := FM.shape hfm
          have c0 : wo.cell? ⟨b, o + j * 2, none⟩ = some (.bool mx) := (BW.out.cell (p := ⟨b, o + j * 2, none⟩) hb).trans hc0
          have c1 : wo.cell? ⟨b, o + j * 2 + 1, none⟩ = some (.slice sa l.length sc) := (BW.out.cell (p := ⟨b, o + j * 2 + 1, none⟩) hb).trans hc1
          have hbw : b < wo.heap.size := by have := BW.out.size; omega
          have hbn : b ≠ wo.heap.size := by omega
          obtain ⟨n', hn'⟩ : ∃ n', l = [] ∨ n = n' + 1 := by
            cases n with
            | zero => exact ⟨0, .inl (show l = [] ∧ _ from hfm).1⟩
            | succ q => exact ⟨q, .inr rfl⟩
          obtain ⟨gq, hgq⟩ : ∃ q, l.map (gnF (kn, kd) n) = q := ⟨_, rfl⟩
          have GQL := hide (show gq.length = l.length by rw [← hgq, List.length_map])
          have GQA := hide (fun (q : Nat) (f : Fo) (h : l[q]? = some f) => show gq[q]? = some (gnF (kn, kd) n f) from by rw [← hgq, List.getElem?_map, h]; rfl)
          have GQU := hide (fun (f : Fo) (hf : f ∈ l) (m : Nat) (hm : n = m + 1) (u' : Value) (W : World) (hu : Us f.us) (hpm : PM W m u' f.ps) => show Us (gnF (kn, kd) n f).us from by
            subst hm
            have := (scG_us (kn, kd) m hu hpm).2
            rwa [show Fo.mk f.us f.ps = f by cases f; rfl] at this)
          rw [hgq] at GJ
          obtain ⟨W3, hW3⟩ : ∃ W3, wo.alloc (.cells #[.bool mx, .slice sa l.length sc] 60) = W3 := ⟨_, rfl⟩
          have S3 : W3.heap.size = wo.heap.size + 1 := by rw [← hW3]; simp
          have B3 := hide (show Below wo.heap.size wo W3 by rw [← hW3]; exact bplus (Below.refl _ _) _)
          have M0 := hide (show Bk W3 wo.heap.size 60 [.bool mx, .slice sa l.length sc] by rw [← hW3]; exact Bk.new wo _ [.bool mx, .slice sa l.length sc])
          have HW3 := hide hW3
          have HFM := hide hfm
          have HN' := hide hn'
          have HSZ := hide SZp
          have HGJ := hide GJ
          have HGQ := hide hgq
          clear hW3 hfm hn' hp SZp GJ hgq hc0 hc1 hv'
          go_upto_region 12 with fail
          rw [HW3.out]
          clear HW3 c0 c1
          obtain ⟨t0, t1⟩ := bxk_2g (show W3.heap[wo.heap.size]? = some (.cells #[.bool mx, .slice sa l.length sc] 60) from M0.out)
          obtain ⟨ga, hga⟩ : ∃ ga, wo.heap.size + 1 = ga := ⟨_, rfl⟩
          have HGA := hide hga
          go_wp2_with fail
          clear t0 t1 hga
          go_loopw [42, 10] (fun i av wq => RelQj W3 ga n' gq i av wq) (fun i _ _ => l.length - (intOf i).toNat)
          case atStart => exact .mk 0 none 0 rfl rfl (by omega) (FO.nil _ _ _ _) (Below.refl _ _)
          case round =>
            obtain ⟨m, aa, ac, rfl, rfl, hm, R⟩ := hrel
            obtain ⟨wq, hwq⟩ : ∃ wq, wq = wr := ⟨_, rfl⟩
            subst hwq
            have X0 := hide R.out.1
            have XB := hide R.out.2
            have hga := HGA.out
            have hgq' : ga ≤ wq.heap.size := by have := XB.out.size; omega
            have BOQ := hide (show Below wo.heap.size wo wq from B3.out.trans (XB.out.mono (by omega)))
            have BWQ := hide (show Below w.heap.size w wq from bto BW.out BOQ.out)
            have own2 := hide (FH.own X0.out)
            clear R
            have hgl := GQL.out
            by_cases hlm : m < l.length
            · have hlm' : (m : Int) < l.length := by omega
              obtain ⟨f, hf⟩ : ∃ f, l[m]? = some f := ⟨_, List.getElem?_eq_getElem hlm⟩
              obtain ⟨m', bb2, oo2, cc2, fu, hnm, hv2, hb2, hfus, hrg, hfpm⟩ := fm_rangeN HFM.out hf
              obtain ⟨rfl, rfl⟩ : sa = some ⟨bb2, oo2, none⟩ ∧ sc = cc2 := by cases hv2; exact ⟨rfl, rfl⟩
              obtain rfl : n' = m' := by have := HN'.out.resolve_left (fun h => by rw [h] at hlm; simp at hlm); omega
              have lA := fo_len hfus fu
              have CI := hide (fun (W : World) (h : Below w.heap.size w W) => IH2.out n' hnm f.us f.ps fu W hfus (PM.low h hfpm) (by rw [show Fo.mk f.us f.ps = f by cases f; rfl]; exact HSZ.out f (List.mem_of_getElem? hf)))
              rw [show Fo.mk f.us f.ps = f by cases f; rfl] at CI
              have GA := GQA.out m f hf
              have SU := GQU.out f (List.mem_of_getElem? hf) n' hnm fu w hfus hfpm
              rw [hnm] at GA SU
              rw [show gnF (kn, kd) (n' + 1) f = scF (kn, kd) n' f from rfl] at GA SU
              generalize scF (kn, kd) n' f = sf at *
              obtain ⟨sus, sps⟩ := sf
              replace SU : Us sus := SU
              obtain ⟨a0, b0, a1, b1, a2, b2, a3, b3, a4, b4, a5, b5, a6, b6, rfl⟩ := us7 SU
              have SU := hide SU
              have RG := hide (show wq.rangeAt bb2 (oo2 + m * 15) (usL f.us ++ [fu]) from fun q v hq => (BWQ.out.cell (p := ⟨bb2, oo2 + m * 15 + q, none⟩) hb2).trans (hrg q v hq))
              have OA := hide (us_one (us := f.us) (pm_one hfpm))
              replace CI := hide (fun (W : World) (h : Below w.heap.size w W) => show Calls Tryz.prog 15 #[.agg (usL f.us ++ [fu]).toArray, .agg #[.int .i64 kn, .int .i64 kd]] W fun e w' => ∃ v, e = .returned (.agg #[.int .i64 a0, .int .i64 b0, .int .i64 a1, .int .i64 b1, .int .i64 a2, .int .i64 b2, .int .i64 a3, .int .i64 b3, .int .i64 a4, .int .i64 b4, .int .i64 a5, .int .i64 b5, .int .i64 a6, .int .i64 b6, v]) ∧ PM (cutW W.heap.size w') n' v sps ∧ Below W.heap.size W w' from CI.out W h)
              have GT := hide (show gq.take (m + 1) = gq.take m ++ [.mk [(a0, b0), (a1, b1), (a2, b2), (a3, b3), (a4, b4), (a5, b5), (a6, b6)] sps] by rw [List.take_add_one, GA]; rfl)
              have GTL := hide (show (gq.take m).length = m by rw [List.length_take]; omega)
              have GTM := hide (show (gq.take (m + 1)).length = m + 1 by rw [List.length_take]; omega)
              have hb2w : bb2 < wq.heap.size := by have := BWQ.out.size; omega
              have hb2n : bb2 ≠ wq.heap.size := by omega
              have KQ := hide (Bk.up Q1.out BOQ.out)
              have hm9 : m + 1 ≤ 1000000000 := by omega
              clear hf hfus hfpm hrg GA
              (try clear hv2)
              generalize usL f.us ++ [fu] = A at *
              have sA : A.toArray.size = 15 := by rw [List.size_toArray]; exact lA
              obtain ⟨W4, hW4⟩ : ∃ W4, (wq.alloc (.cells #[.int .i64 0, .int .i64 0, .int .i64 0, .int .i64 0, .int .i64 0, .int .i64 0, .int .i64 0, .int .i64 0, .int .i64 0, .int .i64 0, .int .i64 0, .int .i64 0, .int .i64 0, .int .i64 0, .slice none 0 0] 30)).setCells wq.heap.size 0 A = W4 := ⟨_, rfl⟩
              have T4 := hide (show (wq.alloc (.cells #[.int .i64 0, .int .i64 0, .int .i64 0, .int .i64 0, .int .i64 0, .int .i64 0, .int .i64 0, .int .i64 0, .int .i64 0, .int .i64 0, .int .i64 0, .int .i64 0, .int .i64 0, .int .i64 0, .slice none 0 0] 30)).there wq.heap.size 0 A.toArray.size from there_blk (heap_alloc_new wq _) (by rw [sA]; rfl))
              have H4 := hide (show (Tryz.prog.info? 30).map (·.size) = some A.toArray.size by rw [sA]; kernel_rfl)
              have H5 := hide (show (Tryz.prog.info? 30).map (·.size) = some A.length by rw [lA]; kernel_rfl)
              have B4 := hide (show Below wq.heap.size wq W4 by rw [← hW4]; exact (bplus (Below.refl _ _) _).grown (setCells_grown _ _ _ _) (by simp) (fun k hk => by cases hk; exact Nat.le_refl _))
              have R4 := hide (show W4.rangeAt wq.heap.size 0 A by
                have q := Bk.puts A 0 _ _ (Bk.new wq 30 [.int .i64 0, .int .i64 0, .int .i64 0, .int .i64 0, .int .i64 0, .int .i64 0, .int .i64 0, .int .i64 0, .int .i64 0, .int .i64 0, .int .i64 0, .int .i64 0, .int .i64 0, .int .i64 0, .slice none 0 0]) (by rw [lA]; simp)
                rw [List.take_zero, List.nil_append, Nat.zero_add, List.drop_of_length_le (by rw [lA]; simp), List.append_nil] at q
                rw [← hW4]
                exact range_blk q)
              have HW4 := hide hW4
              have hq4 : wq.heap.size < W4.heap.size := by rw [← hW4, setCells_size]; simp
              have X4 := hide (FH.up X0.out B4.out)
              clear hW4 X0
              go_upto_region 16 with (first
                | (refine wpList_load_mid rfl 30 (.tmp 44) rfl bb2 (oo2 + m * 15) rfl A _ RG.out Tryz.underlying30 rfl H5.out ?_)
                | (refine wpList_store_mid rfl 30 (.tmp 12) (.tmp 45) rfl wq.heap.size 0 A.toArray rfl rfl T4.out H4.out (all_oneCell_toArray OA.out) ?_))
              (try rw [show A.toArray.toList = A from rfl])
              rw [HW4.out]
              clear HW4 T4 RG
              have k0 := Bk.cell (Bk.up KQ.out B4.out) 0
              have k1 := Bk.cell (Bk.up KQ.out B4.out) 1
              simp at k0 k1
              go_wp2_with (first
                | (refine wpList_load_mid rfl 30 (.tmp 12) rfl wq.heap.size 0 rfl A _ R4.out Tryz.underlying30 rfl H5.out ?_)
                | (go_at_call 15; refine (CI.out _ (bto BWQ.out B4.out)).mono ?_; rintro e w5 ⟨v, rfl, PV, B5⟩; obtain ⟨xa, xc, rfl, -⟩ := PM.shape PV; have PH := hide (pm_sees (cut_hid (B := ga) (v := .slice aa m ac) (by omega) (fun g hg => by have := (own2.out g hg).2; omega)) (pm_sees (show Sees (cutW W4.heap.size w5) (cutW W4.heap.size w5) from ⟨Nat.le_refl _, fun _ _ _ h => h⟩) PV)); replace B5 := hide B5; clear PV)
                | (at_builtin; refine wpList_append_formH rfl (.tmp 46) (.tmp 50) rfl (.slice aa m ac) (gq.take m) rfl (FH.up X4.out (bplus B5.out _)) (Nat.le_trans hgq' (bplus (bto B4.out B5.out) _).size) w5.heap.size (.mk [(a0, b0), (a1, b1), (a2, b2), (a3, b3), (a4, b4), (a5, b5), (a6, b6)] sps) (.slice xa sps.length xc) rfl (Bk.new w5 _ (usL [(a0, b0), (a1, b1), (a2, b2), (a3, b3), (a4, b4), (a5, b5), (a6, b6)] ++ [Value.slice xa sps.length xc])) SU.out (pm_sees (hid_up (bplus (Below.refl _ _) _)) PH.out) (by rw [GTL.out]; exact hm9) ?_; intro v' w' HO HB; rw [← GT.out] at HO; obtain ⟨la', lc', hv'⟩ := FH.shape HO; rw [GTM.out] at hv'; subst hv'; replace HO := hide HO; replace HB := hide HB))
              go_roundw
              case rel => exact .mk (m + 1) la' lc' (by go_num) rfl (by omega) HO.out (XB.out.trans (((bplus (bto B4.out B5.out) _).mono hgq').trans HB.out))
              case measure => simp [intOf]; omega
            · obtain rfl : m = l.length := by omega
              have hlm' : ¬ ((l.length : Nat) : Int) < l.length := by omega
              have X0' : FH ga n' wq (.slice aa l.length ac) gq := by have := X0.out; rwa [List.take_of_length_le (by omega)] at this
              have own := FH.own QL.out
              have FMN := hide (show FM (cutW ga wq) n (.slice aa l.length ac) gq from by
                rcases HN'.out with h | h
                · have : gq = [] := List.eq_nil_of_length_eq_zero (by rw [hgl, h]; rfl)
                  subst this; subst h; exact fm_nil _ _ _ _
                · rw [h]; exact FH.fm X0' (by omega))
              have CP := hide (pickRE_any n (mx == bl) gq _ _ wq FMN.out (cut_sees _ _))
              have PU := GU.out _ (List.mem_of_getElem? HGJ.out)
              have GT := hide (show gl.take (j + 1 + 1) = gl.take (j + 1) ++ [pkF (mx == bl) gq] by rw [List.take_add_one, HGJ.out]; rfl)
              have GTL := hide (show (gl.take (j + 1)).length = j + 1 by rw [List.length_take, GLN.out]; omega)
              have GTM := hide (show (gl.take (j + 1 + 1)).length = j + 1 + 1 by rw [List.length_take, GLN.out]; omega)
              obtain ⟨p0, p1⟩ := bxk_2g (show wq.heap[wo.heap.size]? = some (.cells #[.bool mx, .slice sa l.length sc] 60) from Bk.low M0.out XB.out (by omega))
              have QLq := hide (FH.up QL.out BOQ.out)
              have Q0q := hide (Bk.up Q0.out BOQ.out)
              have Q1q := hide (Bk.up Q1.out BOQ.out)
              have Q2q := hide (Bk.up Q2.out BOQ.out)
              have hBq : w.heap.size + 3 ≤ wq.heap.size := by have := BOQ.out.size; omega
              have OWN := hide (fun (b : Nat) (h : ga ≤ b) => show w.heap.size + 3 ≤ b ∧ some b ≠ (Value.slice la (j + 1) lc).ownBlock from ⟨by omega, fun e => by have := (own b e.symm).2; omega⟩)
              have k0 := Bk.cell Q1q.out 0
              have k1 := Bk.cell Q1q.out 1
              simp at k0 k1
              generalize pkF (mx == bl) gq = pf at *
              obtain ⟨pus, pps⟩ := pf
              replace PU : Us pus := PU
              obtain ⟨a0, b0, a1, b1, a2, b2, a3, b3, a4, b4, a5, b5, a6, b6, rfl⟩ := us7 PU
              have PU := hide PU
              replace CP := hide (show Calls Tryz.prog 33 #[.bool (mx == bl), .slice aa l.length ac] wq fun e w' => ∃ fu, e = .returned (.agg #[.int .i64 a0, .int .i64 b0, .int .i64 a1, .int .i64 b1, .int .i64 a2, .int .i64 b2, .int .i64 a3, .int .i64 b3, .int .i64 a4, .int .i64 b4, .int .i64 a5, .int .i64 b5, .int .i64 a6, .int .i64 b6, fu]) ∧ (∀ W : World, Sees (cutW ga wq) W → (∀ b, wq.heap.size ≤ b → b < w'.heap.size → W.heap[b]? = w'.heap[b]?) → PM W n fu pps) ∧ Below wq.heap.size wq w' from CP.out)
              clear X0 X0' XB FMN Q0 Q1 Q2 QL own HFM HN' HSZ GQL GQA GQU B3 M0 HU IH2
              go_wp2_with (first
                | (go_at_call 33; refine CP.out.mono ?_; rintro e wp ⟨fu, rfl, PF, BP⟩; have PH := hide (PF (hidW (w.heap.size + 3) (.slice la (j + 1) lc) wp) (sees_hid ((cut_sees ga wq).trans (below_sees BP)) (fun b o x hx => OWN.out b (Nat.le_of_not_lt (fun h => by rw [cut_low wq h] at hx; cases hx)))) (fun b hb hl => hid_blk wp (by omega) (OWN.out b (by omega)).2)); obtain ⟨xa, xc, rfl, -⟩ := PM.shape PH.out; replace BP := hide BP; clear PF)
                | (at_builtin; refine wpList_append_formH rfl (.tmp 53) (.tmp 62) rfl (.slice la (j + 1) lc) (gl.take (j + 1)) rfl (FH.up QLq.out (bplus BP.out _)) (Nat.le_trans hBq (bplus BP.out _).size) wp.heap.size (.mk [(a0, b0), (a1, b1), (a2, b2), (a3, b3), (a4, b4), (a5, b5), (a6, b6)] pps) (.slice xa pps.length xc) rfl (Bk.new wp _ (usL [(a0, b0), (a1, b1), (a2, b2), (a3, b3), (a4, b4), (a5, b5), (a6, b6)] ++ [Value.slice xa pps.length xc])) PU.out (pm_sees (hid_up (bplus (Below.refl _ _) _)) PH.out) (by rw [GTL.out]; omega) ?_; intro v' w' HO HB; rw [← GT.out] at HO; obtain ⟨la', lc', hv'⟩ := FH.shape HO; rw [GTM.out] at hv'; subst hv'; replace HO := hide HO; replace HB := hide HB))
              go_roundw
              case rel => exact .mk (j + 1) la' lc' (by go_num) rfl (by omega) (Bk.low (Bk.up Q0q.out (bplus BP.out _)) HB.out (by omega)) (Bk.low (Bk.up Q1q.out (bplus BP.out _)) HB.out (by omega)) (Bk.low (Bk.up Q2q.out (bplus BP.out _)) HB.out (by omega)) HO.out ((bto BWQ.out (bplus BP.out _)).trans (HB.out.mono (by omega)))
              case measure => simp [intOf]; omega
        · obtain rfl : j = ps.length := by omega
          have hlt' : ¬ ((ps.length : Nat) : Int) < ps.length := by omega
          have QL' : FH (w.heap.size + 3) n wo (.slice la (ps.length + 1) lc) gl := by have := QL.out; rwa [List.take_of_length_le (by rw [GLN.out]; omega)] at this
          have CS := hide (addRF_any n gl _ (cutW (w.heap.size + 3) wo) wo (cut_sees _ _) (FH.fm QL' (by rw [GLN.out]; omega)) GLP.out)
          rw [GRA.out] at CS
          have LC := hide (fun (v : Value) => fo_len GF.out v)
          have OC := hide (fun (v : Value) (h : v.oneCell' = true) => us_one (us := ssU gl) h)
          replace CS := hide (show Calls Tryz.prog 22 #[.slice la (ps.length + 1) lc] wo fun e w' => ∃ u, e = .returned (.agg (usL (ssU gl) ++ [u]).toArray) ∧ ∃ B, wo.heap.size ≤ B ∧ PO (cutW (w.heap.size + 3) wo) B n w' u (ssP gl) ∧ Below wo.heap.size wo w' from CS.out)
          have TH := hide (fun (W : World) (h : Below wo.heap.size wo W) => there_blk (n := 15) (show W.heap[w.heap.size + 2]? = some (.cells #[.int .i64 0, .int .i64 0, .int .i64 0, .int .i64 0, .int .i64 0, .int .i64 0, .int .i64 0, .int .i64 0, .int .i64 0, .int .i64 0, .int .i64 0, .int .i64 0, .int .i64 0, .int .i64 0, .slice none 0 0] 30) from Bk.up Q2.out h) rfl)
          obtain ⟨SL, hSL⟩ : ∃ x, usL (ssU gl) = x := ⟨_, rfl⟩
          rw [hSL] at CS LC OC
          have HSL := hide hSL
          clear hSL
          clear Q0 Q1 Q2 QL QL' HU IH2 GRA
          go_wp2_with (first
            | (go_at_call 22; refine CS.out.mono ?_; rintro e w5 ⟨v, rfl, B9, hB9, PV, B5⟩; have PM5 := hide (PO.pmS (PO.keep PV (w' := cutW (w.heap.size + 3) w5) (fun g hg hl => cut_blk w5 (by omega))) (cut_keep (Nat.le_refl _) B5.size (fun b hb hl => B5.block b hl)) GLP.out); replace B5 := hide B5; clear PV)
            | (refine wpList_store_mid rfl 30 (.tmp 4) (.tmp 66) rfl (w.heap.size + 2) 0 (SL ++ [v]).toArray rfl rfl (by rw [show (SL ++ [v]).toArray.size = 15 from LC.out v]; exact TH.out _ B5.out) (by rw [List.size_toArray, LC.out v]; kernel_rfl) (all_oneCell_toArray (OC.out v (pm_one PM5.out))) ?_))
          (try rw [show (SL ++ [v]).toArray.toList = SL ++ [v] from rfl])
          refine ret_cell (b := w.heap.size + 2) (cs := SL ++ [v]) Tryz.results15 rfl (World.rangeAt_setCells_same _ _ _ _ (by rw [LC.out v]; exact TH.out _ B5.out)) Tryz.underlying30 rfl (by rw [LC.out v]; kernel_rfl) rfl ?_
          have h5 := B5.out.size
          exact ⟨v, by rw [HSL.out], pm_sees (cut_keep (by omega) (by rw [setCells_size]; exact Nat.le_refl _) (fun b hb hl => setCells_far b (w.heap.size + 2) 0 (by omega) _ _ _)) PM5.out, (bto BW.out B5.out).grown (setCells_grown _ _ _ _) (bto BW.out B5.out).size (fun k hk => by cases hk; omega)⟩
theorem scaleR_all (n : Nat) : RsC n := by
  induction n with
  | zero => exact scaleR_step 0 (fun m h => by omega)
  | succ n ih => exact scaleR_step (n + 1) (fun m h => (show n = m by omega) ▸ ih)
end Go.Proofs.YtlhmecagijdinaaGreatDoor.nm
