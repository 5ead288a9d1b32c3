/-
  The pick of some forms, as the program tells it; all may be or none is told.
-/
import Derived.Test.YtdnnidnghaifgaaDoorMPqB
set_option linter.unusedVariables false
set_option linter.unusedSimpArgs false
namespace Go.Proofs.YtdnnidnghaifgaaDoor.nm
open Go.RowKit cc

/-- What Pick tells. -/
def tkF (mx : Bool) (l : List Fo) : Fo := if l.all (maF 340) = true then pkF mx l else .mk z01 []
theorem pkF_nil (mx : Bool) : pkF mx [] = .mk z01 [] := by
  unfold pkF
  rw [if_neg (by decide), if_neg (by rw [show maskN [] = 0 from rfl, pop_zero]; simp [plainL]), if_pos (show maskN [] = 0 from rfl)]
set_option maxRecDepth 100000 in
set_option maxHeartbeats 8000000 in
theorem pickN_any (n : Nat) (mx : Bool) (l : List Fo) (v : Value) (w : World) (hN : Nth w) (hT : TabD w) (hv : FM w n v l) : Calls Tryd.prog 12 #[.bool mx, v] w (PkPost n (tkF mx l) w) := by
  have C1 := hide (fun (W : World) (h : Below w.heap.size w W) => allMay_any n l v W (FM.low h hv))
  have C2 := hide (fun (W : World) (h : Below w.heap.size w W) => zero_any W (hN.low h))
  have C3 := hide (fun (W : World) (h : Below w.heap.size w W) => show Calls Tryd.prog 27 #[.bool mx, v] W fun e w' => ∃ fu, e = .returned (.agg (usL (pkF mx l).us ++ [fu]).toArray) ∧ PM w' n fu (pkF mx l).ps ∧ Below W.heap.size W w' from pick_any n mx l v W (hN.low h) (hT.low h) (FM.low h hv))
  have SU : Us (pkF mx l).us := pkF_us (fm_us hv)
  have C4 := hide (fun (u : Value) (W : World) (h : PM W n u (pkF mx l).ps) => show Calls Tryd.prog 26 #[.agg (usL (pkF mx l).us ++ [u]).toArray] W fun e w' => ∃ v, e = .returned (.agg (usL (pkF mx l).us ++ [v]).toArray) ∧ PM (cutW W.heap.size w') n v (pkF mx l).ps ∧ Below W.heap.size W w' from clone_all n (pkF mx l).us (pkF mx l).ps u W SU h)
  have ET := hide (show tkF mx l = if l.all (maF 340) = true then pkF mx l else .mk z01 [] from rfl)
  have L2 := hide (show (usL z01 ++ [nilS]).length = 15 from rfl)
  have LS := hide (fun (u : Value) => fo_len SU u)
  have OS := hide (fun (u : Value) (h : u.oneCell' = true) => us_one (us := (pkF mx l).us) h)
  obtain ⟨a, c, rfl, h9⟩ := FM.shape hv
  obtain ⟨W1, hW1⟩ : ∃ W1, w.alloc (.cells #[.int .i64 0, .int .i64 0, .int .i64 0, .int .i64 0, .int .i64 0, .int .i64 0, .int .i64 0, .int .i64 0, .int .i64 0, .int .i64 0, .int .i64 0, .int .i64 0, .int .i64 0, .int .i64 0, .slice none 0 0] 38) = W1 := ⟨_, rfl⟩
  have B0 := hide (show Below w.heap.size w W1 by rw [← hW1]; exact bplus (Below.refl _ _) _)
  have P0 := hide (show Bk W1 w.heap.size 38 [.int .i64 0, .int .i64 0, .int .i64 0, .int .i64 0, .int .i64 0, .int .i64 0, .int .i64 0, .int .i64 0, .int .i64 0, .int .i64 0, .int .i64 0, .int .i64 0, .int .i64 0, .int .i64 0, .slice none 0 0] by rw [← hW1]; exact Bk.new w _ _)
  have HW1 := hide hW1
  rw [show foV z01 nilS = .agg (usL z01 ++ [nilS]).toArray from rfl] at C2
  have TH := hide (fun (W : World) (A : List Value) (hA : A.length = 15) (h : Below W1.heap.size W1 W) => show W.there w.heap.size 0 A.toArray.size from there_blk (show W.heap[w.heap.size]? = some (.cells #[.int .i64 0, .int .i64 0, .int .i64 0, .int .i64 0, .int .i64 0, .int .i64 0, .int .i64 0, .int .i64 0, .int .i64 0, .int .i64 0, .int .i64 0, .int .i64 0, .int .i64 0, .int .i64 0, .slice none 0 0] 38) from Bk.up P0.out h) (by rw [List.size_toArray, List.size_toArray, hA]; rfl))
  have HI := hide (fun (A : List Value) (hA : A.length = 15) => show (Tryd.prog.info? 38).map (·.size) = some A.toArray.size by rw [List.size_toArray, hA]; kernel_rfl)
  clear hW1 hv hN hT SU
  by_cases h0 : l.length = 0
  · obtain rfl : l = [] := List.eq_nil_of_length_eq_zero h0
    replace ET := hide (show tkF mx [] = .mk z01 [] by rw [ET.out, pkF_nil]; rfl)
    have h0' : (([] : List Fo).length : Int) = 0 := rfl
    clear C1 C3 C4 LS OS
    have OZ := hide (us_one (us := z01) (u := nilS) rfl)
    obtain ⟨A, hAA⟩ : ∃ A, usL z01 ++ [nilS] = A := ⟨_, rfl⟩
    rw [hAA] at C2 L2 OZ
    have HAA := hide hAA
    clear hAA
    go_enter Tryd.func12, Tryd.ntmps12
    go_upto_region 1 with fail
    rw [HW1.out]
    clear HW1
    go_wp2_with (first
      | (go_at_call 25; refine (C2.out _ B0.out).mono ?_; rintro e w5 ⟨rfl, B5⟩; replace B5 := hide B5)
      | (refine wpList_store_mid rfl 38 (.tmp 4) (.tmp 13) rfl w.heap.size 0 A.toArray rfl rfl (TH.out _ A L2.out B5.out) (HI.out A L2.out) (all_oneCell_toArray OZ.out) ?_))
    (try rw [show A.toArray.toList = A from rfl])
    refine ret_cell (b := w.heap.size) (cs := A) Tryd.results12 rfl (World.rangeAt_setCells_same _ _ _ _ (TH.out _ A L2.out B5.out)) Tryd.underlying38 rfl (by rw [L2.out]; kernel_rfl) rfl ?_
    rw [ET.out]
    exact PkPost.mk (f := .mk z01 []) nilS (by show _ = Ending.returned (.agg (usL z01 ++ [nilS]).toArray); rw [HAA.out]) (.inl ⟨_, _, rfl, rfl⟩) ((bto B0.out B5.out).grown (setCells_grown _ _ _ _) (bto B0.out B5.out).size (fun k hk => by cases hk; exact Nat.le_refl _))
  · have h0' : ((l.length : Int) == 0) = false := by rw [beq_eq_false_iff_ne]; omega
    cases hm : l.all (maF 340)
    · rw [hm] at C1 ET
      replace ET := hide (show tkF mx l = .mk z01 [] from ET.out)
      clear C3 C4 LS OS hm
      have OZ := hide (us_one (us := z01) (u := nilS) rfl)
      obtain ⟨A, hAA⟩ : ∃ A, usL z01 ++ [nilS] = A := ⟨_, rfl⟩
      rw [hAA] at C2 L2 OZ
      have HAA := hide hAA
      clear hAA
      go_enter Tryd.func12, Tryd.ntmps12
      go_upto_region 1 with fail
      rw [HW1.out]
      clear HW1
      go_wp2_with (first
        | (go_at_call 24; refine (C1.out _ B0.out).mono ?_; rintro e w1 ⟨rfl, B1⟩; replace B1 := hide B1)
        | (go_at_call 25; refine (C2.out _ (bto B0.out B1.out)).mono ?_; rintro e w5 ⟨rfl, B5⟩; replace B5 := hide (bto B1.out B5))
        | (refine wpList_store_mid rfl 38 (.tmp 4) (.tmp 13) rfl w.heap.size 0 A.toArray rfl rfl (TH.out _ A L2.out B5.out) (HI.out A L2.out) (all_oneCell_toArray OZ.out) ?_))
      (try rw [show A.toArray.toList = A from rfl])
      refine ret_cell (b := w.heap.size) (cs := A) Tryd.results12 rfl (World.rangeAt_setCells_same _ _ _ _ (TH.out _ A L2.out B5.out)) Tryd.underlying38 rfl (by rw [L2.out]; kernel_rfl) rfl ?_
      rw [ET.out]
      exact PkPost.mk (f := .mk z01 []) nilS (by show _ = Ending.returned (.agg (usL z01 ++ [nilS]).toArray); rw [HAA.out]) (.inl ⟨_, _, rfl, rfl⟩) ((bto B0.out B5.out).grown (setCells_grown _ _ _ _) (bto B0.out B5.out).size (fun k hk => by cases hk; exact Nat.le_refl _))
    · rw [hm] at C1 ET
      replace ET := hide (show tkF mx l = pkF mx l from ET.out)
      clear C2 hm L2
      have EPK := hide (show PkPost n (pkF mx l) w = PkPost n (.mk (pkF mx l).us (pkF mx l).ps) w by cases pkF mx l; rfl)
      rw [ET.out, EPK.out]
      generalize (pkF mx l).us = SL at *
      generalize (pkF mx l).ps = SP at *
      clear ET EPK
      go_enter Tryd.func12, Tryd.ntmps12
      go_upto_region 1 with fail
      rw [HW1.out]
      clear HW1
      go_wp2_with (first
        | (go_at_call 24; refine (C1.out _ B0.out).mono ?_; rintro e w1 ⟨rfl, B1⟩; replace B1 := hide B1)
        | (go_at_call 27; refine (C3.out _ (bto B0.out B1.out)).mono ?_; rintro e w2 ⟨u2, rfl, PU, B2⟩; replace B2 := hide (bto B1.out B2); replace PU := hide PU)
        | (go_at_call 26; refine (C4.out _ _ PU.out).mono ?_; rintro e w5 ⟨u5, rfl, PV, B5⟩; replace PV := hide PV; replace B5 := hide (bto B2.out B5))
        | (refine wpList_store_mid rfl 38 (.tmp 4) (.tmp 17) rfl w.heap.size 0 (usL SL ++ [u5]).toArray rfl rfl (TH.out _ _ (LS.out u5) B5.out) (HI.out _ (LS.out u5)) (all_oneCell_toArray (OS.out u5 (pm_one PV.out))) ?_))
      (try rw [show (usL SL ++ [u5]).toArray.toList = usL SL ++ [u5] from rfl])
      refine ret_cell (b := w.heap.size) (cs := usL SL ++ [u5]) Tryd.results12 rfl (World.rangeAt_setCells_same _ _ _ _ (TH.out _ _ (LS.out u5) B5.out)) Tryd.underlying38 rfl (by rw [LS.out u5]; kernel_rfl) rfl ?_
      have FB := (bto B0.out B5.out).grown (setCells_grown w.heap.size (usL SL ++ [u5]) 0 w5) (bto B0.out B5.out).size (fun k hk => by cases hk; exact Nat.le_refl _)
      refine PkPost.mk (f := .mk SL SP) u5 rfl (pm_sees ?_ PV.out) FB
      have hs2 : w.heap.size < w2.heap.size := Nat.lt_of_lt_of_le (Bk.lt P0.out) B2.out.size
      exact ⟨by rw [cut_size, setCells_size]; omega, fun b o v h => by
        by_cases hb : b < w2.heap.size
        · rw [cut_low _ hb] at h; cases h
        · rw [cell_blk (cut_blk _ (by omega)) o] at h
          rw [cell_blk (setCells_far b w.heap.size 0 (by omega) _ _ _) o]
          exact h⟩
end Go.Proofs.YtdnnidnghaifgaaDoor.nm
