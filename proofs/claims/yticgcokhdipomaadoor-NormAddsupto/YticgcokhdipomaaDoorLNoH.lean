/-
  One unit's form; sums of seven fractions: by the program.
-/
import Derived.Test.YticgcokhdipomaaDoorLNoG
set_option linter.unusedVariables false
set_option linter.unusedSimpArgs false
namespace Go.Proofs.YticgcokhdipomaaDoor.nm
open Go.RowKit

/-- What a fraction counts as. -/
def ctR (r : Int × Int) : Int × Int := if mayB r.1 r.2 then r else (0, 0)
theorem counted_any (n d : Int) (w : World) (hn : i64 n) (hd : i64 d) : Calls Tryd.prog 23 #[.agg #[.int .i64 n, .int .i64 d]] w fun e w' => e = .returned (.agg #[.int .i64 (ctR (n, d)).1, .int .i64 (ctR (n, d)).2]) ∧ Below w.heap.size w w' := by
  obtain ⟨n1, n2⟩ := hn
  obtain ⟨d1, d2⟩ := hd
  have C := hide (fun (W : World) => may_any n d W n1 n2 d1 d2)
  obtain ⟨W1, hW1⟩ : ∃ W1, (w.alloc (.cells #[.int .i64 n, .int .i64 d] 24)).alloc (.cells #[.int .i64 0, .int .i64 0] 24) = W1 := ⟨_, rfl⟩
  have B0 := hide (show Below w.heap.size w W1 by rw [← hW1]; exact bplus (bplus (Below.refl _ _) _) _)
  have P0 := hide (show Bk W1 w.heap.size 24 [.int .i64 n, .int .i64 d] by rw [← hW1]; exact (Bk.new w _ _).more _)
  have P1 := hide (show Bk W1 (w.heap.size + 1) 24 [.int .i64 0, .int .i64 0] by rw [← hW1]; have := Bk.new (w.alloc (.cells #[.int .i64 n, .int .i64 d] 24)) 24 [.int .i64 0, .int .i64 0]; rwa [show (w.alloc (.cells #[.int .i64 n, .int .i64 d] 24)).heap.size = w.heap.size + 1 by simp] at this)
  have HW1 := hide hW1
  clear hW1
  have a0 := Bk.cell P0.out 0
  have a1 := Bk.cell P0.out 1
  simp at a0 a1
  cases hm : mayB n d
  · have HM := hide hm
    have F := hide (show ctR (n, d) = (0, 0) by unfold ctR; simp [hm])
    clear hm
    go_enter Tryd.func23, Tryd.ntmps23
    go_upto_region 1 with fail
    rw [HW1.out]
    go_wp2_with (go_at_call 38; refine (C.out _).mono ?_; rintro e w1 ⟨rfl, U1⟩; rw [HM.out]; have Q1 := Bk.up P1.out U1.1; have b0 := Bk.cell Q1 0; have b1 := Bk.cell Q1 1; have z0 := Bk.fz Q1 0; have z1 := Bk.fz Q1 1; simp at b0 b1; replace Q1 := hide Q1; have U2 := hide (bto B0.out U1.1); clear U1)
    exact bodyPost_ret (v := .agg #[.int .i64 0, .int .i64 0]) (by simp [results, Tryd.results23, go_sem, *]) rfl ⟨by rw [F.out], (U2.out.setCell (by simp) _).setCell (by simp) _⟩
  · have HM := hide hm
    have F := hide (show ctR (n, d) = (n, d) by unfold ctR; simp [hm])
    clear hm
    go_enter Tryd.func23, Tryd.ntmps23
    go_upto_region 1 with fail
    rw [HW1.out]
    go_wp2_with (go_at_call 38; refine (C.out _).mono ?_; rintro e w1 ⟨rfl, U1⟩; rw [HM.out]; have Q1 := Bk.up P1.out U1.1; have b0 := Bk.cell Q1 0; have b1 := Bk.cell Q1 1; have z0 := Bk.fz Q1 0; have z1 := Bk.fz Q1 1; simp at b0 b1; replace Q1 := hide Q1; have Q2 := Bk.up P0.out U1.1; have d0 := Bk.cell Q2 0; have d1 := Bk.cell Q2 1; simp at d0 d1; clear Q2; have U2 := hide (bto B0.out U1.1); clear U1)
    exact bodyPost_ret (v := .agg #[.int .i64 n, .int .i64 d]) (by simp [results, Tryd.results23, go_sem, *]) rfl ⟨by rw [F.out], (U2.out.setCell (by simp) _).setCell (by simp) _⟩
theorem ct_i64 {n d : Int} (hn : i64 n) (hd : i64 d) : i64 (ctR (n, d)).1 ∧ i64 (ctR (n, d)).2 := by
  unfold ctR; split
  · exact ⟨hn, hd⟩
  · exact ⟨⟨by decide, by decide⟩, ⟨by decide, by decide⟩⟩
/-- The sum of two fractions. -/
def adR (r s : Int × Int) : Int × Int := wk.addAll [r, s]
theorem ad_i64 (r s : Int × Int) : i64 (adR r s).1 ∧ i64 (adR r s).2 := wk.addAll_I64 _
theorem add2_any (W : World) (T : TypeId) (n d m e : Int) (hn : i64 n) (hd : i64 d) (hm : i64 m) (he : i64 e) : Calls Tryd.prog 63 #[.slice (some ⟨W.heap.size, 0, none⟩) 2 2] (W.alloc (.cells #[.int .i64 n, .int .i64 d, .int .i64 m, .int .i64 e] T)) fun x w' => x = .returned (.agg #[.int .i64 (adR (n, d) (m, e)).1, .int .i64 (adR (n, d) (m, e)).2]) ∧ Below W.heap.size W w' := by
  refine (wk.addP_any _ [(n, d), (m, e)] _ (wk.row_two W n d m e T) (by intro r hr; simp at hr; rcases hr with rfl | rfl; exact ⟨hn, hd⟩; exact ⟨hm, he⟩)).mono ?_
  rintro x w1 ⟨rfl, U⟩
  exact ⟨rfl, bto (bplus (Below.refl _ _) _) U.1⟩
theorem add2_drew (W : World) (T : TypeId) (n d m e : Int) (hn : i64 n) (hd : i64 d) (hm : i64 m) (he : i64 e) : Calls Tryd.prog 63 #[.slice (some ⟨W.heap.size, 0, none⟩) 2 2] (W.alloc (.cells #[.int .i64 n, .int .i64 d, .int .i64 m, .int .i64 e] T)).drew fun x w' => x = .returned (.agg #[.int .i64 (adR (n, d) (m, e)).1, .int .i64 (adR (n, d) (m, e)).2]) ∧ Below W.heap.size W w' := by
  refine (wk.addP_any _ [(n, d), (m, e)] _ ((wk.row_two W n d m e T).up ((wk.Up.refl _).drew)) (by intro r hr; simp at hr; rcases hr with rfl | rfl; exact ⟨hn, hd⟩; exact ⟨hm, he⟩)).mono ?_
  rintro x w1 ⟨rfl, U⟩
  exact ⟨rfl, bto (bplus (Below.refl _ _) _).drew U.1⟩
/-- The first k are summed up. -/
def mxU (k : Nat) (us vs : List (Int × Int)) : List (Int × Int) := (List.zipWith adR us vs).take k ++ us.drop k
def plU (us vs : List (Int × Int)) : List (Int × Int) := List.zipWith adR us vs
theorem mxU_len {us vs : List (Int × Int)} (h1 : us.length = 7) (h2 : vs.length = 7) {k : Nat} (hk : k ≤ 7) : (mxU k us vs).length = 7 := by simp [mxU, h1, h2]; omega
theorem mxU_at {us vs : List (Int × Int)} (h1 : us.length = 7) (h2 : vs.length = 7) {k : Nat} (hk : k < 7) : (mxU k us vs)[k]? = us[k]? := by
  unfold mxU
  rw [List.getElem?_append_right (by simp [h1, h2]; omega)]
  simp [h1, h2]
  rw [show min k 7 = k by omega, Nat.sub_self, Nat.add_zero]
theorem mxU_step {us vs : List (Int × Int)} (h1 : us.length = 7) (h2 : vs.length = 7) {k : Nat} (hk : k < 7) {r s : Int × Int} (hr : us[k]? = some r) (hs : vs[k]? = some s) : (mxU k us vs).set k (adR r s) = mxU (k + 1) us vs := by
  have hz : (List.zipWith adR us vs)[k]? = some (adR r s) := by rw [List.getElem?_zipWith, hr, hs]
  have hlz : (List.zipWith adR us vs).length = 7 := by simp [h1, h2]
  unfold mxU
  rw [List.set_append_right _ _ (by simp [h1, h2]; omega)]
  rw [show k - ((List.zipWith adR us vs).take k).length = 0 by rw [List.length_take, hlz]; omega]
  rw [drop_atE hr, List.set_cons_zero, List.take_add_one, hz]
  simp
theorem mxU_end {us vs : List (Int × Int)} (h1 : us.length = 7) (h2 : vs.length = 7) : mxU 7 us vs = plU us vs := by
  unfold mxU plU
  rw [List.take_of_length_le (by simp [h1, h2]), List.drop_of_length_le (by omega), List.append_nil]
theorem plU_us {us vs : List (Int × Int)} (h1 : Us us) (h2 : Us vs) : Us (plU us vs) := by
  refine ⟨by simp [plU, h1.1, h2.1], fun r hr => ?_⟩
  obtain ⟨i, hi, rfl⟩ := List.mem_iff_getElem.1 hr
  simp only [plU, List.getElem_zipWith]
  exact ad_i64 _ _
def RelPl (w : World) (us vs : List (Int × Int)) (i : Value) (wr : World) : Prop := ∃ k : Nat, i = .int .i64 k ∧ k ≤ 7 ∧ Hid (BU wr w.heap.size 60 (mxU k us vs) ∧ BU wr (w.heap.size + 1) 60 vs ∧ BU wr (w.heap.size + 2) 60 z00 ∧ Below w.heap.size w wr)
theorem RelPl.mk {w : World} {us vs : List (Int × Int)} {i : Value} {wr : World} (k : Nat) (h1 : i = .int .i64 k) (h2 : k ≤ 7) (h3 : BU wr w.heap.size 60 (mxU k us vs)) (h4 : BU wr (w.heap.size + 1) 60 vs) (h5 : BU wr (w.heap.size + 2) 60 z00) (h6 : Below w.heap.size w wr) : RelPl w us vs i wr := ⟨k, h1, h2, h3, h4, h5, h6⟩
theorem three_new (w : World) (A B C : Obj) : (((w.alloc A).alloc B).alloc C).heap[w.heap.size]? = some A ∧ (((w.alloc A).alloc B).alloc C).heap[w.heap.size + 1]? = some B ∧ (((w.alloc A).alloc B).alloc C).heap[w.heap.size + 2]? = some C := by
  have h1 : (w.alloc A).heap.size = w.heap.size + 1 := by simp
  have h2 : ((w.alloc A).alloc B).heap.size = w.heap.size + 2 := by simp
  have a := heap_alloc_new w A
  have b := heap_alloc_new (w.alloc A) B
  have c := heap_alloc_new ((w.alloc A).alloc B) C
  rw [h1] at b
  rw [h2] at c
  refine ⟨?_, ?_, c⟩
  · exact (Below.heap_alloc _ C _ (by omega)).trans ((Below.heap_alloc _ B _ (by omega)).trans a)
  · exact (Below.heap_alloc _ C _ (by omega)).trans b
set_option maxRecDepth 100000 in
set_option maxHeartbeats 8000000 in
theorem plus_any (us vs : List (Int × Int)) (w : World) (hus : Us us) (hvs : Us vs) : Calls Tryd.prog 42 #[usV us, usV vs] w fun e w' => e = .returned (usV (plU us vs)) ∧ Below w.heap.size w w' := by
  have l1 := hus.1
  have l2 := hvs.1
  have HU := hide hus
  have HV := hide hvs
  obtain ⟨W1, hW1⟩ : ∃ W1, ((w.alloc (.cells (usL us).toArray 60)).alloc (.cells (usL vs).toArray 60)).alloc (.cells (usL z00).toArray 60) = W1 := ⟨_, rfl⟩
  have B0 := hide (show Below w.heap.size w W1 by rw [← hW1]; exact bplus (bplus (bplus (Below.refl _ _) _) _) _)
  have P0 := hide (show BU W1 w.heap.size 60 us by rw [← hW1]; exact (three_new w _ _ _).1)
  have P1 := hide (show BU W1 (w.heap.size + 1) 60 vs by rw [← hW1]; exact (three_new w _ _ _).2.1)
  have P2 := hide (show BU W1 (w.heap.size + 2) 60 z00 by rw [← hW1]; exact (three_new w _ _ _).2.2)
  have HW1 := hide hW1
  clear hW1
  unfold usV
  have C := hide (fun (W : World) (T : TypeId) (n d m e : Int) => add2_drew W T n d m e)
  obtain ⟨ul, hul⟩ : ∃ ul, (usL us).toArray = ul := ⟨_, rfl⟩
  obtain ⟨vl, hvl⟩ : ∃ vl, (usL vs).toArray = vl := ⟨_, rfl⟩
  rw [hul, hvl]
  rw [hul, hvl] at HW1
  have hsu : ul.size = 14 := by rw [← hul]; simp [usL_len, l1]
  have hsv : vl.size = 14 := by rw [← hvl]; simp [usL_len, l2]
  clear hul hvl
  go_enter Tryd.func42, Tryd.ntmps42
  go_upto_region 1 with fail
  rw [show (((w.alloc (.cells ul 60)).alloc (.cells vl 60)).alloc (.cells #[.int .i64 0, .int .i64 0, .int .i64 0, .int .i64 0, .int .i64 0, .int .i64 0, .int .i64 0, .int .i64 0, .int .i64 0, .int .i64 0, .int .i64 0, .int .i64 0, .int .i64 0, .int .i64 0] 60)) = W1 from HW1.out]
  go_wp2_with fail
  go_loopw [6] (fun i wr => RelPl w us vs i wr) (fun i _ => 7 - (intOf i).toNat)
  case atStart => exact .mk 0 rfl (by omega) P0.out P1.out P2.out B0.out
  case round =>
    obtain ⟨k, rfl, hk, R⟩ := hrel
    have Q0 := hide R.out.1
    have Q1 := hide R.out.2.1
    have Q2 := hide R.out.2.2.1
    have BW := hide R.out.2.2.2
    clear R P0 P1 P2 B0 HW1
    by_cases hlt : k < 7
    · have hlt' : (k : Int) < 7 := by omega
      obtain ⟨rn, rd, hr, hrn, hrd⟩ := us_at HU.out hlt
      obtain ⟨sn, sd, hs, hsn, hsd⟩ := us_at HV.out hlt
      have C2 := hide (fun (W : World) (T : TypeId) => C.out W T rn rd sn sd hrn hrd hsn hsd)
      have ST := hide (mxU_step l1 l2 hlt hr hs)
      obtain ⟨ad, had⟩ : ∃ ad, adR (rn, rd) (sn, sd) = ad := ⟨_, rfl⟩
      rw [had] at C2 ST
      clear had
      obtain ⟨c0, c1⟩ := BU.at Q0.out ((mxU_at l1 l2 hlt).trans hr)
      obtain ⟨d0, d1⟩ := BU.at Q1.out hs
      have ha1 : w.heap.size < wr.heap.size := Bk.lt Q0.out
      have ha2 : w.heap.size + 1 < wr.heap.size := Bk.lt Q1.out
      have ha3 : w.heap.size ≠ wr.heap.size := by omega
      have ha4 : w.heap.size + 1 ≠ wr.heap.size := by omega
      have NX := hide (fun (W : World) (h : Below wr.heap.size wr W) => show BU ((W.setCell ⟨w.heap.size, k * 2, none⟩ (.int .i64 ad.1)).setCell ⟨w.heap.size, k * 2 + 1, none⟩ (.int .i64 ad.2)) w.heap.size 60 (mxU (k + 1) us vs) by
        have := BU.put (Bk.up Q0.out h : BU W w.heap.size 60 (mxU k us vs)) (k := k) (by rw [mxU_len l1 l2 hk]; omega) ad.1 ad.2
        rwa [show ((ad.1, ad.2) : Int × Int) = ad from rfl, ST.out] at this)
      have NY := hide (fun (W : World) (h : Below wr.heap.size wr W) => show BU ((W.setCell ⟨w.heap.size, k * 2, none⟩ (.int .i64 ad.1)).setCell ⟨w.heap.size, k * 2 + 1, none⟩ (.int .i64 ad.2)) (w.heap.size + 1) 60 vs from Bk.far (Bk.far (Bk.up Q1.out h) (by omega) _ _) (by omega) _ _)
      have NZ := hide (fun (W : World) (h : Below wr.heap.size wr W) => show BU ((W.setCell ⟨w.heap.size, k * 2, none⟩ (.int .i64 ad.1)).setCell ⟨w.heap.size, k * 2 + 1, none⟩ (.int .i64 ad.2)) (w.heap.size + 2) 60 z00 from Bk.far (Bk.far (Bk.up Q2.out h) (by omega) _ _) (by omega) _ _)
      have NB := hide (fun (W : World) (h : Below wr.heap.size wr W) => show Below w.heap.size w ((W.setCell ⟨w.heap.size, k * 2, none⟩ (.int .i64 ad.1)).setCell ⟨w.heap.size, k * 2 + 1, none⟩ (.int .i64 ad.2)) from ((bto BW.out h).setCell (by simp) _).setCell (by simp) _)
      have KC := hide (fun (W : World) (h : Below wr.heap.size wr W) => And.intro ((BU.at (Bk.up Q0.out h : BU W w.heap.size 60 (mxU k us vs)) ((mxU_at l1 l2 hlt).trans hr))) (Bk.fz (Bk.up Q0.out h)))
      clear hr hs ST Q0 Q1 Q2
      go_wp2
      go_region_with ((go_at_call 63; refine (C2.out _ _).mono ?_; rintro e w4 ⟨rfl, B4⟩; replace B4 := hide (show Below wr.heap.size wr w4 from B4); obtain ⟨⟨v0, v1⟩, vz⟩ := KC.out w4 B4.out; have vz0 := vz (k * 2); have vz1 := vz (k * 2 + 1); clear vz))
      all_goals
        go_wp2_with fail
        go_roundw
        case rel => exact .mk (k + 1) (by go_num) (by omega) (NX.out _ B4.out) (NY.out _ B4.out) (NZ.out _ B4.out) (NB.out _ B4.out)
        case measure => simp [intOf]; omega
    · obtain rfl : k = 7 := by omega
      have q0 := hide (show wr.heap[w.heap.size]? = some (.cells (usL (plU us vs)).toArray 60) by rw [← mxU_end l1 l2]; exact Q0.out)
      have q2 := hide (show wr.heap[w.heap.size + 2]? = some (.cells (usL z00).toArray 60) from Q2.out)
      have l3 : (usL (plU us vs)).length = 14 := by rw [usL_len, (plU_us HU.out HV.out).1]
      have oc : ∀ v ∈ usL (plU us vs), v.oneCell' = true := by
        intro v hv
        simp only [usL, List.mem_flatMap] at hv
        obtain ⟨r, -, hv⟩ := hv
        simp at hv
        rcases hv with rfl | rfl <;> rfl
      clear Q0 Q1 Q2
      go_upto_region 6 with fail
      refine wp_region_list ?_
      refine wpList_load_mid rfl 60 (.tmp 2) rfl w.heap.size 0 rfl (usL (plU us vs)) _ (range_blk q0.out) Tryd.underlying60 rfl (by rw [l3]; kernel_rfl) ?_
      refine wpList_store_mid rfl 60 (.tmp 4) (.tmp 20) rfl (w.heap.size + 2) 0 (usL (plU us vs)).toArray rfl rfl (there_blk q2.out (by simp only [List.size_toArray, l3]; rfl)) (by rw [List.size_toArray, l3]; kernel_rfl) (all_oneCell_toArray oc) ?_
      go_wp2_with fail
      refine ret_cell (b := w.heap.size + 2) (cs := usL (plU us vs)) Tryd.results42 rfl (World.rangeAt_setCells_same _ _ _ _ (there_blk q2.out (by simp only [List.size_toArray, l3]; rfl))) Tryd.underlying60 rfl (by rw [l3]; kernel_rfl) rfl ?_
      exact ⟨rfl, BW.out.grown (setCells_grown _ _ _ _) BW.out.size (fun k hk => by cases hk; simp)⟩
end Go.Proofs.YticgcokhdipomaaDoor.nm
