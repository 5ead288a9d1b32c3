/-
  All numbers of an expression another one.
-/
import Derived.Test.YtlkocepoohhglaaDoorLCaU
import Derived.Deep.DeepCutAuto
set_option linter.unusedVariables false
set_option linter.unusedSimpArgs false
namespace Go.Proofs.YtlkocepoohhglaaDoor.cc
open Go.RowKit

mutual
/-- All numbers another one, down to a depth. -/
def nuE (rn rd : Int) : Ex → Nat → Ex
  | .mk k n d u ks, j => if 400 < j then .mk k n d u ks else .mk k (if k = 1 then rn else n) (if k = 1 then rd else d) u (nuEs rn rd ks (j + 1))
def nuEs (rn rd : Int) : List Ex → Nat → List Ex
  | [], _ => []
  | e :: es, j => nuE rn rd e j :: nuEs rn rd es j
end
theorem nuEs_map (rn rd : Int) (l : List Ex) (j : Nat) : nuEs rn rd l j = l.map (fun y => nuE rn rd y j) := by
  induction l with
  | nil => rw [nuEs]; rfl
  | cons e r ih => rw [nuEs, ih]; rfl
theorem nuE_mk (rn rd k n d u : Int) (ks : List Ex) (j : Nat) : nuE rn rd (.mk k n d u ks) j = if 400 < j then .mk k n d u ks else .mk k (if k = 1 then rn else n) (if k = 1 then rd else d) u (ks.map (fun y => nuE rn rd y (j + 1))) := by rw [nuE, nuEs_map]
theorem nuE_ok {x : Ex} {rn rd : Int} (h : x.Ok) (h1 : i64 rn) (h2 : i64 rd) (j : Nat) : (nuE rn rd x j).Ok := by
  obtain ⟨k, n, d, u, ks⟩ := x
  rw [nuE_mk]
  split
  · exact h
  · obtain ⟨a, b, c, e⟩ := h
    refine ⟨a, ?_, ?_, e⟩
    · show i64 (if k = 1 then rn else n); split; exact h1; exact b
    · show i64 (if k = 1 then rd else d); split; exact h2; exact c
def NuC (N H0 : Nat) (rn rd : Int) : Prop := ∀ (x : Ex) (j : Nat) (u : Value) (w : World), szE x ≤ N → j ≤ 401 → x.Ok → H0 ≤ w.heap.size → EMP w (fun b => b < H0) u x.ks → Calls Tryd.prog 15 #[exV x u, .agg #[.int .i64 rn, .int .i64 rd], .int .i64 j] w fun e w' => ∃ u', e = .returned (exV (nuE rn rd x j) u') ∧ EMP w' (fun b => b < H0 ∨ w.heap.size ≤ b) u' (nuE rn rd x j).ks ∧ Below w.heap.size w w'
/-- What lies in the call's own blocks. -/
def NmW (w : World) (o1 o2 o3 : Obj) (wx : World) : Prop := wx.heap[w.heap.size]? = some o1 ∧ wx.heap[w.heap.size + 1]? = some o2 ∧ wx.heap[w.heap.size + 2]? = some o3 ∧ Below w.heap.size w wx
theorem NmW.low {w wx wy : World} {o1 o2 o3 : Obj} (h : NmW w o1 o2 o3 wx) (B : Below wx.heap.size wx wy) : NmW w o1 o2 o3 wy := ⟨far_blk h.1 B, far_blk h.2.1 B, far_blk h.2.2.1 B, bto h.2.2.2 B⟩
theorem NmW.lt {w wx : World} {o1 o2 o3 : Obj} (h : NmW w o1 o2 o3 wx) : w.heap.size + 3 ≤ wx.heap.size := by have := (Array.getElem?_eq_some_iff.1 h.2.2.1).1; omega
theorem NmW.app {w w1 w2 w8 : World} {o1 o2 o3 : Obj} {v : Value} {n : Nat} {xs : List Value} (h : NmW w o1 o2 o3 w1) (h1 : w1.ownsRow (w.heap.size + 3) 26 5 v n xs) (hg : w2.grownBy w8 v.ownBlock) (h2 : Below w1.heap.size w1 w2) : NmW w o1 o2 o3 w8 :=
  ⟨app_far h.1 h1 (by omega) hg h2, app_far h.2.1 h1 (by omega) hg h2, app_far h.2.2.1 h1 (by omega) hg h2, app_low h.2.2.2 h1 (by omega) hg h2⟩
def RelNu (w : World) (H0 : Nat) (ks : List Ex) (f : Ex → Ex) (o1 o2 o3 : Obj) (i l : Value) (wr : World) : Prop := ∃ (m : Nat) (ps : List (Ex × Value)), i = .int .i64 m ∧ m ≤ ks.length ∧ Hid (OwnE wr H0 (w.heap.size + 3) l ps) ∧ Hid (ps.map (·.1) = (ks.take m).map f) ∧ Hid (NmW w o1 o2 o3 wr)
theorem RelNu.mk {w : World} {H0 : Nat} {ks : List Ex} {f : Ex → Ex} {o1 o2 o3 : Obj} {i l : Value} {wr : World} (m : Nat) (ps : List (Ex × Value)) (h1 : i = .int .i64 m) (h2 : m ≤ ks.length) (h3 : OwnE wr H0 (w.heap.size + 3) l ps) (h4 : ps.map (·.1) = (ks.take m).map f) (h5 : NmW w o1 o2 o3 wr) : RelNu w H0 ks f o1 o2 o3 i l wr := ⟨m, ps, h1, h2, h3, h4, h5⟩
theorem nu_apart {w wr : World} {H0 b : Nat} {v : Value} {ps : List (Ex × Value)} {o : Obj} (OW : OwnE wr H0 (w.heap.size + 3) v ps) (hH : H0 ≤ w.heap.size) (hs : w.heap.size + 3 ≤ wr.heap.size) (hb : b < H0 ∨ (wr.alloc o).heap.size ≤ b) : (b < H0 ∨ w.heap.size + 3 ≤ b) ∧ some b ≠ v.ownBlock := by
  have e : (wr.alloc o).heap.size = wr.heap.size + 1 := by simp
  rw [e] at hb
  exact ⟨by omega, fun h => by have := OW.1.lt b h.symm; omega⟩
set_option maxRecDepth 100000 in
set_option maxHeartbeats 8000000 in
theorem numbered_all (H0 : Nat) (rn rd : Int) (hr1 : i64 rn) (hr2 : i64 rd) (N : Nat) : NuC N H0 rn rd := by
  obtain ⟨i0, hi, hz0, hz1, hz2⟩ := info_parts infoE5
  induction N with
  | zero => intro x j u w hN; rw [szE_ks] at hN; omega
  | succ N ih =>
    intro x j u w hN hj hx hH hu
    obtain ⟨a, c, rfl, hl9⟩ := hu.shape
    rw [szE_ks] at hN
    obtain ⟨k, n, d, q, ks⟩ := x
    simp only [Ex.ks] at hN hl9 hu
    have E := hide (nuE_mk rn rd k n d q ks j)
    show Calls Tryd.prog 15 #[.agg #[.int .i64 k, .int .i64 n, .int .i64 d, .int .i64 q, .slice a ks.length c], .agg #[.int .i64 rn, .int .i64 rd], .int .i64 j] w _
    have n1 := (show (w.alloc (.cells #[.int .i64 k, .int .i64 n, .int .i64 d, .int .i64 q, .slice a ks.length c] 26)).heap.size = w.heap.size + 1 by simp)
    have n2 := (show ((w.alloc (.cells #[.int .i64 k, .int .i64 n, .int .i64 d, .int .i64 q, .slice a ks.length c] 26)).alloc (.cells #[.int .i64 rn, .int .i64 rd] 23)).heap.size = w.heap.size + 2 by simp)
    have NW := hide (show NmW w (.cells #[.int .i64 k, .int .i64 n, .int .i64 d, .int .i64 q, .slice a ks.length c] 26) (.cells #[.int .i64 rn, .int .i64 rd] 23) z5 (((w.alloc (.cells #[.int .i64 k, .int .i64 n, .int .i64 d, .int .i64 q, .slice a ks.length c] 26)).alloc (.cells #[.int .i64 rn, .int .i64 rd] 23)).alloc z5) from
      ⟨more_blk (more_blk (heap_alloc_new w _) _) _, more_blk (by have := heap_alloc_new (w.alloc (.cells #[.int .i64 k, .int .i64 n, .int .i64 d, .int .i64 q, .slice a ks.length c] 26)) (.cells #[.int .i64 rn, .int .i64 rd] 23); rwa [n1] at this) _, by have := heap_alloc_new ((w.alloc (.cells #[.int .i64 k, .int .i64 n, .int .i64 d, .int .i64 q, .slice a ks.length c] 26)).alloc (.cells #[.int .i64 rn, .int .i64 rd] 23)) z5; rwa [n2] at this, bplus (bplus (bplus (Below.refl _ _) _) _) _⟩)
    have HV := hide hu
    have IH := hide ih
    have XO := hide hx
    unfold z5 at NW
    clear n1 n2 hu ih hx
    by_cases hj4 : 400 < j
    · have hj5 : (400 : Int) < (j : Int) := by omega
      replace E := hide (show nuE rn rd (.mk k n d q ks) j = .mk k n d q ks by rw [E.out, if_pos hj4])
      rw [E.out]
      go_enter Tryd.func15, Tryd.ntmps15
      go_upto_region 1 with fail
      generalize (((w.alloc (.cells #[.int .i64 k, .int .i64 n, .int .i64 d, .int .i64 q, .slice a ks.length c] 26)).alloc (.cells #[.int .i64 rn, .int .i64 rd] 23)).alloc (.cells #[.int .i64 0, .int .i64 0, .int .i64 0, .int .i64 0, .slice none 0 0] 26)) = Wa at *
      obtain ⟨q0, q1, q2, q3, q4⟩ := bxk_5c NW.out.1
      obtain ⟨r0, r1, r2, r3, r4⟩ := bxk_5c NW.out.2.2.1
      have fz := fz_of NW.out.2.2.1
      go_wp2
      exact ret5s (v0 := .int .i64 k) (v1 := .int .i64 n) (v2 := .int .i64 d) (v3 := .int .i64 q) (v4 := .slice a ks.length c) Tryd.results15 rfl NW.out.2.2.1 rfl ⟨_, rfl, HV.out.move fun b hP hb => ⟨(set5_low NW.out.2.2.2 (by omega) _ _ _ _ _).block b hb, .inl hP⟩, set5_low NW.out.2.2.2 (by omega) _ _ _ _ _⟩
    · have hj5 : ¬ (400 : Int) < (j : Int) := by omega
      obtain ⟨n', hn'⟩ : ∃ n', (if k = 1 then rn else n) = n' := ⟨_, rfl⟩
      obtain ⟨d', hd'⟩ : ∃ d', (if k = 1 then rd else d) = d' := ⟨_, rfl⟩
      replace E := hide (show nuE rn rd (.mk k n d q ks) j = .mk k n' d' q (ks.map (fun y => nuE rn rd y (j + 1))) by rw [E.out, if_neg hj4, hn', hd'])
      rw [E.out]
      have HN' := hide hn'
      have HD' := hide hd'
      clear hn' hd'
      obtain ⟨kb, hkb⟩ : ∃ kb, (k == 1) = kb := ⟨_, rfl⟩
      go_enter Tryd.func15, Tryd.ntmps15
      go_upto_region 1 with fail
      generalize (((w.alloc (.cells #[.int .i64 k, .int .i64 n, .int .i64 d, .int .i64 q, .slice a ks.length c] 26)).alloc (.cells #[.int .i64 rn, .int .i64 rd] 23)).alloc (.cells #[.int .i64 0, .int .i64 0, .int .i64 0, .int .i64 0, .slice none 0 0] 26)) = Wa at *
      obtain ⟨q0, q1, q2, q3, q4⟩ := bxk_5c NW.out.1
      obtain ⟨s0, s1⟩ := bxk_2c NW.out.2.1
      have fq := fz_of NW.out.1
      go_upto_if 15 with fail
      go_cut [] from 37 (fun wx => Hid (NmW w (.cells #[.int .i64 k, .int .i64 n', .int .i64 d', .int .i64 q, .slice a ks.length c] 26) (.cells #[.int .i64 rn, .int .i64 rd] 23) (.cells #[.int .i64 0, .int .i64 0, .int .i64 0, .int .i64 0, .slice none 0 0] 26) wx))
      case first =>
        cases kb
        case true =>
          have k1 : k = 1 := by simpa using hkb
          have e1 : rn = n' := by rw [← HN'.out, if_pos k1]
          have e2 : rd = d' := by rw [← HD'.out, if_pos k1]
          have F := hide (show NmW w (.cells #[.int .i64 k, .int .i64 n', .int .i64 d', .int .i64 q, .slice a ks.length c] 26) (.cells #[.int .i64 rn, .int .i64 rd] 23) (.cells #[.int .i64 0, .int .i64 0, .int .i64 0, .int .i64 0, .slice none 0 0] 26) ((Wa.setCell ⟨w.heap.size, 1, none⟩ (.int .i64 rn)).setCell ⟨w.heap.size, 2, none⟩ (.int .i64 rd)) by
            obtain ⟨h1, h2, h3, h4⟩ := NW.out
            refine ⟨?_, ?_, ?_, (h4.setCell (Nat.le_refl _) _).setCell (Nat.le_refl _) _⟩
            · rw [setCell_blk (setCell_blk h1 _) _, ← e1, ← e2]; rfl
            · exact (Below.heap_setCell _ _ _ _ (by show w.heap.size + 1 ≠ w.heap.size; omega)).trans ((Below.heap_setCell _ _ _ _ (by show w.heap.size + 1 ≠ w.heap.size; omega)).trans h2)
            · exact (Below.heap_setCell _ _ _ _ (by show w.heap.size + 2 ≠ w.heap.size; omega)).trans ((Below.heap_setCell _ _ _ _ (by show w.heap.size + 2 ≠ w.heap.size; omega)).trans h3))
          clear k1 e1 e2
          go_wp2
          go_meet
          case rel => exact F.out
        case false =>
          have k1 : ¬ k = 1 := by simpa using hkb
          have e1 : n = n' := by rw [← HN'.out, if_neg k1]
          have e2 : d = d' := by rw [← HD'.out, if_neg k1]
          have F := hide (show NmW w (.cells #[.int .i64 k, .int .i64 n', .int .i64 d', .int .i64 q, .slice a ks.length c] 26) (.cells #[.int .i64 rn, .int .i64 rd] 23) (.cells #[.int .i64 0, .int .i64 0, .int .i64 0, .int .i64 0, .slice none 0 0] 26) Wa by rw [← e1, ← e2]; exact NW.out)
          clear k1 e1 e2
          go_wp2
          go_meet
          case rel => exact F.out
      case rest =>
        have HKB := hide hkb
        clear hkb
        clear q0 q1 q2 q3 q4 s0 s1 fq NW
        have NW := hide hcut.out
        clear hcut
        obtain ⟨q0, q1, q2, q3, q4⟩ := bxk_5c NW.out.1
        go_wp2
        clear q0 q1 q2 q3 q4
        go_loopw [7, 21] (fun l i wr => RelNu w H0 ks (fun y => nuE rn rd y (j + 1)) (.cells #[.int .i64 k, .int .i64 n', .int .i64 d', .int .i64 q, .slice a ks.length c] 26) (.cells #[.int .i64 rn, .int .i64 rd] 23) (.cells #[.int .i64 0, .int .i64 0, .int .i64 0, .int .i64 0, .slice none 0 0] 26) i l wr) (fun _ i _ => ks.length - (intOf i).toNat)
        case atStart => exact .mk 0 [] rfl (by omega) (.nil _ _ _) rfl NW.out
        case round =>
          clear NW
          obtain ⟨m, ps, rfl, hm, OW, PS, NW⟩ := hrel
          obtain ⟨la, lc, hls⟩ := ownE_shape OW.out
          have hpl : ps.length ≤ ks.length := by
            have := congrArg List.length PS.out
            rw [List.length_map, List.length_map, List.length_take] at this
            omega
          have hsz2 := NW.out.lt
          by_cases hlt : m < ks.length
          · obtain ⟨y, hy⟩ : ∃ y, ks[m]? = some y := ⟨_, List.getElem?_eq_getElem hlt⟩
            obtain ⟨b, o, c', v, hv', hb, -, -, yo, t5, hu5, hku⟩ := HV.out.at hy
            obtain ⟨rfl, rfl⟩ : a = some ⟨b, o, none⟩ ∧ c = c' := by cases hv'; exact ⟨rfl, rfl⟩
            obtain ⟨ua, uc, hus, hks9⟩ := hku.shape
            have SZ := hide (show szE y ≤ N by have := szEs_at hy; omega)
            have KU := hide hku
            have YO := hide yo
            have PN := hide (show (ks.take (m + 1)).map (fun y => nuE rn rd y (j + 1)) = (ks.take m).map (fun y => nuE rn rd y (j + 1)) ++ [nuE rn rd y (j + 1)] by rw [List.take_add_one, hy, List.map_append]; rfl)
            obtain ⟨c0, c1, c2, c3⟩ := t5.below NW.out.2.2.2 hb
            have c4 := (NW.out.2.2.2.cell (p := ⟨b, o + m * 5 + 4, none⟩) hb).trans hu5
            have hmk : (m : Int) < (ks.length : Int) := by omega
            have nb : b ≠ wr.heap.size := by have := NW.out.2.2.2.size; omega
            obtain ⟨s0, s1⟩ := bxk_2c NW.out.2.1
            have nw1 : ¬ w.heap.size + 1 = wr.heap.size := by omega
            have nw2 : ¬ wr.heap.size = w.heap.size + 1 := by omega
            have nw3 : w.heap.size + 1 < wr.heap.size := by omega
            clear hy hv' t5 hu5 hku yo
            subst hus
            have CI := hide (fun (W : World) (h : Below w.heap.size w W) => IH.out y (j + 1) (.slice ua y.ks.length uc) W SZ.out (by omega) YO.out (Nat.le_trans hH h.size) (KU.out.move fun b hP hb => ⟨h.block b hb, hP⟩))
            rw [show ((j + 1 : Nat) : Int) = (j : Int) + 1 by omega] at CI
            obtain ⟨Y, hY⟩ : ∃ Y, nuE rn rd y (j + 1) = Y := ⟨_, rfl⟩
            have YK := hide (show Y.Ok by rw [← hY]; exact nuE_ok YO.out hr1 hr2 (j + 1))
            rw [hY] at CI PN
            clear hY
            unfold exV at CI
            generalize y.k = xk at *
            generalize y.n = xn at *
            generalize y.d = xd at *
            generalize y.u = xu at *
            have GK := hide (show ∀ v : Value, kidC (Y, v) = [.int .i64 Y.k, .int .i64 Y.n, .int .i64 Y.d, .int .i64 Y.u, v] from fun v => rfl)
            generalize Y.k = zk at *
            generalize Y.n = zn at *
            generalize Y.d = zd at *
            generalize Y.u = zu at *
            have s0' := cell_low s0 (bplus (Below.refl _ _) (.cells #[.int .i64 xk, .int .i64 xn, .int .i64 xd, .int .i64 xu, .slice ua y.ks.length uc] 26))
            have s1' := cell_low s1 (bplus (Below.refl _ _) (.cells #[.int .i64 xk, .int .i64 xn, .int .i64 xd, .int .i64 xu, .slice ua y.ks.length uc] 26))
            subst hls
            generalize hpn : ps.length = pn at *
            have HPN := hide hpn
            clear hpn
            have AP := hide (fun (b : Nat) (hb : b < H0 ∨ (wr.alloc (.cells #[.int .i64 xk, .int .i64 xn, .int .i64 xd, .int .i64 xu, .slice ua y.ks.length uc] 26)).heap.size ≤ b) => nu_apart OW.out hH hsz2 hb)
            go_wp2_with (first
              | (go_at_call 15; refine (CI.out _ (bplus NW.out.2.2.2 _)).mono ?_; rintro e w4 ⟨u', rfl, EU, B4⟩; replace OW := hide (And.intro ((OW.out.low (bplus (Below.refl _ _) _)).low B4) AP.out); replace NW := hide ((NW.out.low (bplus (Below.refl _ _) _)).low B4); have NE := hide EU; clear B4 EU CI)
              | (at_builtin; refine wpList_append_lies _ rfl _ _ 24 rfl (w.heap.size + 3) 26 i0 _ 5 56 Tryd.underlying24 hi hz0 hz1 hz2 rfl (by decide) (.slice la pn lc) pn (ps.flatMap kidC) rfl ((own_pn OW.out.1 HPN.out).alloc _) ⟨_, 0, none⟩ 1 1 [.int .i64 zk, .int .i64 zn, .int .i64 zd, .int .i64 zu, u'] rfl rfl (new5 _ _ _ _ _ _ _ _ (by simp)) (one5 NE.out) (by decide) (by unfold maxLen; omega) (by omega) (by have := NW.out.lt; simp; omega) _ rfl ?_; intro g cap w8 hown hg hl hlt8; have O8 := tu_push OW.out NE.out YK.out HPN.out (by rw [GK.out]; exact hown) hg hl; have N8 := NW.out.app OW.out.1.1 hg (bplus (Below.refl _ _) _); replace OW := hide O8; replace NW := hide N8; clear hown hg hl hlt8 O8 N8))
            go_roundw
            case rel => exact .mk (m + 1) (ps ++ [(Y, u')]) (by go_num) (by omega) OW.out (by rw [List.map_append, PS.out, PN.out]; rfl) NW.out
            case measure => simp [intOf]; omega
          · have hmk : ¬ (m : Int) < (ks.length : Int) := by omega
            have EP := hide (OW.out.emp (by omega))
            rw [PS.out, List.take_of_length_le (by omega)] at EP
            obtain ⟨q0, q1, q2, q3, q4⟩ := bxk_5c NW.out.1
            obtain ⟨r0, r1, r2, r3, r4⟩ := bxk_5c NW.out.2.2.1
            have fz := fz_of NW.out.2.2.1
            have fq := fz_of NW.out.1
            have ne1 : w.heap.size ≠ w.heap.size + 2 := by omega
            subst hls
            have BS := hide (set_low (b := w.heap.size) (j := 4) (v := .slice la ps.length lc) NW.out.2.2.2 (Nat.le_refl _))
            have PS9 := hide ((Below.heap_setCell wr ⟨w.heap.size, 4, none⟩ (.slice la ps.length lc) (w.heap.size + 2) (by show w.heap.size + 2 ≠ w.heap.size; omega)).trans NW.out.2.2.1)
            have KB := hide (show ∀ b, (b < H0 ∨ w.heap.size + 3 ≤ b) → b < wr.heap.size → (set5 (wr.setCell ⟨w.heap.size, 4, none⟩ (.slice la ps.length lc)) (w.heap.size + 2) (.int .i64 k) (.int .i64 n') (.int .i64 d') (.int .i64 q) (.slice la ps.length lc)).heap[b]? = wr.heap[b]? ∧ (b < H0 ∨ w.heap.size ≤ b) from fun b hP hb => ⟨(set5_far (by omega) _ _ _ _ _ (by simpa [World.setCell] using hb)).trans (Below.heap_setCell _ _ _ _ (by show b ≠ w.heap.size; omega)), by omega⟩)
            generalize ps.length = pn at *
            go_wp2
            exact ret5s (v0 := .int .i64 k) (v1 := .int .i64 n') (v2 := .int .i64 d') (v3 := .int .i64 q) (v4 := .slice la pn lc) Tryd.results15 rfl PS9.out rfl ⟨_, rfl, EP.out.move KB.out, set5_low BS.out (by omega) _ _ _ _ _⟩
end Go.Proofs.YtlkocepoohhglaaDoor.cc
