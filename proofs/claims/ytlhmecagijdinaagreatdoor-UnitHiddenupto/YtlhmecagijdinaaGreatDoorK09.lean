/-
  The pick of some forms, over an elder world: by the reference.
  A form times a fraction: by the reference.
-/
import Derived.Test.YtlhmecagijdinaaGreatDoorMPqB
import Derived.Test.YtlhmecagijdinaaGreatDoorK10
import Derived.Test.YtlhmecagijdinaaGreatDoorK08
set_option linter.unusedVariables false
set_option linter.unusedSimpArgs false
namespace Go.Proofs.YtlhmecagijdinaaGreatDoor.nm
open Go.RowKit cc be

set_option maxRecDepth 100000 in
set_option maxHeartbeats 16000000 in
theorem pickRE_any (n : Nat) (mx : Bool) (l : List Fo) (v : Value) (w0 w : World) (hv0 : FM w0 n v l) (hs0 : Sees w0 w) : Calls Tryz.prog 33 #[.bool mx, v] w (PkSost n (pkF mx l) w0 w) := by
  obtain ⟨a, c, rfl, hl9⟩ := hv0.shape
  have hv := fm_sees hs0 hv0
  have HV := hide hv
  have HV0 := hide hv0
  have HS0 := hide hs0
  have HUS := hide (fm_us hv)
  have h7s := fun f hf => (HUS.out f hf).1
  have CZ := hide (fun (W : World) => zeroR_any W)
  obtain ⟨W1, hW1⟩ : ∃ W1, w.alloc (.cells #[.int .i64 0, .int .i64 0, .int .i64 0, .int .i64 0, .int .i64 0, .int .i64 0, .int .i64 0, .int .i64 0, .int .i64 0, .int .i64 0, .int .i64 0, .int .i64 0, .int .i64 0, .int .i64 0, .slice none 0 0] 30) = W1 := ⟨_, rfl⟩
  have B0 := hide (show Below w.heap.size w W1 by rw [← hW1]; exact bplus (Below.refl _ _) _)
  have KB := hide (show Bk W1 w.heap.size 30 [.int .i64 0, .int .i64 0, .int .i64 0, .int .i64 0, .int .i64 0, .int .i64 0, .int .i64 0, .int .i64 0, .int .i64 0, .int .i64 0, .int .i64 0, .int .i64 0, .int .i64 0, .int .i64 0, .slice none 0 0] by rw [← hW1]; exact Bk.new w _ _)
  have TH0 := hide (fun (W : World) (h : Below W1.heap.size W1 W) => there_blk (n := 15) (show W.heap[w.heap.size]? = some (.cells #[.int .i64 0, .int .i64 0, .int .i64 0, .int .i64 0, .int .i64 0, .int .i64 0, .int .i64 0, .int .i64 0, .int .i64 0, .int .i64 0, .int .i64 0, .int .i64 0, .int .i64 0, .int .i64 0, .slice none 0 0] 30) from Bk.up KB.out h) rfl)
  have S1 : w.heap.size < W1.heap.size := Bk.lt KB.out
  have HW1 := hide hW1
  clear hW1 hv KB hv0 hs0
  by_cases h0 : l.length = 0
  · obtain rfl : l = [] := List.eq_nil_of_length_eq_zero h0
    have EP : pkF mx [] = .mk z01 [] := by
      unfold pkF
      rw [if_neg (by decide), if_neg (by rw [show maskN [] = 0 from rfl, pop_zero]; simp [plainL]), if_pos (show maskN [] = 0 from rfl)]
    rw [EP]
    rw [show foV z01 nilS = .agg (usL z01 ++ [nilS]).toArray from rfl] at CZ
    have EF := hide (show foV z01 nilS = .agg (usL z01 ++ [nilS]).toArray from rfl)
    have EL : (usL z01 ++ [nilS]).length = 15 := rfl
    have OA := hide (show ∀ v ∈ usL z01 ++ [nilS], v.oneCell' = true from us_one rfl)
    generalize usL z01 ++ [nilS] = A at *
    have sA : A.toArray.size = 15 := by rw [List.size_toArray]; exact EL
    have HI6 := hide (show (Tryz.prog.info? 30).map (·.size) = some A.length by rw [EL]; kernel_rfl)
    have HI5 := hide (show (Tryz.prog.info? 30).map (·.size) = some A.toArray.size by rw [sA]; kernel_rfl)
    clear EP HV HUS h7s
    go_enter Tryz.func33, Tryz.ntmps33
    go_upto_region 1 with fail
    rw [HW1.out]
    clear HW1
    go_wp2_with (first
      | (go_at_call 13; refine (CZ.out _).mono ?_; rintro e wz ⟨rfl, BZ⟩; replace BZ := hide BZ; have TH := hide (show wz.there w.heap.size 0 A.toArray.size by rw [sA]; exact TH0.out wz BZ.out))
      | (refine wpList_store_mid rfl 30 (.tmp 4) (.tmp 19) rfl w.heap.size 0 A.toArray rfl rfl TH.out HI5.out (all_oneCell_toArray OA.out) ?_))
    (try rw [show A.toArray.toList = A from rfl])
    have BF1 := hide (show Below w.heap.size w (wz.setCells w.heap.size 0 A) from (bto B0.out BZ.out).grown (setCells_grown _ _ _ _) (bto B0.out BZ.out).size (fun k hk => by cases hk; exact Nat.le_refl _))
    have RA := World.rangeAt_setCells_same wz w.heap.size 0 A (by have := TH.out; rwa [List.size_toArray] at this)
    refine ret_cell (b := w.heap.size) (cs := A) Tryz.results33 rfl RA Tryz.underlying30 rfl HI6.out rfl ?_
    exact PkSost.mk (f := .mk z01 []) nilS (by show _ = Ending.returned (foV z01 nilS); rw [EF.out]) (fun W _ _ => .inl ⟨_, _, rfl, rfl⟩) BF1.out
  · have h0' : ((l.length : Int) == 0) = false := by rw [beq_eq_false_iff_ne]; omega
    by_cases h1 : l.length = 1
    · have h1' : (l.length : Int) = 1 := by omega
      obtain ⟨f, hf⟩ : ∃ f, l[0]? = some f := ⟨_, List.getElem?_eq_getElem (by omega)⟩
      have EP := hide (show pkF mx l = f by
        unfold pkF
        rw [if_pos h1]
        match l, h1, hf with
        | [g], _, hf => exact Option.some.inj hf)
      rw [EP.out]
      obtain ⟨m, b, o, c', fu, hnm, hv', hb0, hus', hrg0, hpm⟩ := fm_rangeN HV0.out hf
      have hb : b < w.heap.size := Nat.lt_of_lt_of_le hb0 HS0.out.1
      have hrg : w.rangeAt b (o + 0 * 15) (usL f.us ++ [fu]) := fun j v hj => HS0.out.2 _ _ _ (hrg0 j v hj)
      obtain ⟨rfl, rfl⟩ : a = some ⟨b, o, none⟩ ∧ c = c' := by cases hv'; exact ⟨rfl, rfl⟩
      rw [Nat.zero_mul, Nat.add_zero] at hrg
      have lA := fo_len hus' fu
      have OA := hide (us_one (us := f.us) (pm_one hpm))
      have RG := hide (show W1.rangeAt b o (usL f.us ++ [fu]) from fun j v hj => (B0.out.cell (p := ⟨b, o + j, none⟩) hb).trans (hrg j v hj))
      have PM1 := hide (fun (W : World) (h : Sees w0 W) => show PM W n fu f.ps from pm_le (by omega) (pm_sees h hpm))
      have EF := hide (show foV f.us fu = .agg (usL f.us ++ [fu]).toArray from rfl)
      rw [h1]
      have HI5 := hide (fi5 hus'.1 fu)
      have HI6 := hide (show (Tryz.prog.info? 30).map (·.size) = some (usL f.us ++ [fu]).length by have := fi5 hus'.1 fu; rwa [List.size_toArray] at this)
      clear hf hrg hrg0 hpm hus' EP HV HV0 CZ HUS h7s h0' hb0
      (try clear hv')
      generalize usL f.us ++ [fu] = A at *
      have sA : A.toArray.size = 15 := by rw [List.size_toArray]; exact lA
      have TH := hide (show W1.there w.heap.size 0 A.toArray.size by rw [sA]; exact TH0.out W1 (Below.refl _ _))
      go_enter Tryz.func33, Tryz.ntmps33
      go_upto_region 1 with fail
      rw [HW1.out]
      clear HW1
      go_wp2_with (first
        | (refine wpList_load_mid rfl 30 (.tmp 24) rfl b o rfl A _ RG.out Tryz.underlying30 rfl HI6.out ?_)
        | (refine wpList_store_mid rfl 30 (.tmp 4) (.tmp 25) rfl w.heap.size 0 A.toArray rfl rfl TH.out HI5.out (all_oneCell_toArray OA.out) ?_))
      (try rw [show A.toArray.toList = A from rfl])
      have BW := hide (show Below w.heap.size w (W1.setCells w.heap.size 0 A) from B0.out.grown (setCells_grown _ _ _ _) B0.out.size (fun k hk => by cases hk; exact Nat.le_refl _))
      have RA := World.rangeAt_setCells_same W1 w.heap.size 0 A (by have := TH.out; rwa [List.size_toArray] at this)
      refine ret_cell (b := w.heap.size) (cs := A) Tryz.results33 rfl RA Tryz.underlying30 rfl HI6.out rfl ?_
      exact PkSost.mk fu (by rw [EF.out]) (fun W h _ => PM1.out W h) BW.out
    · have h1' : ((l.length : Int) == 1) = false := by rw [beq_eq_false_iff_ne]; omega
      have EP := hide (pkS_eq (mx := mx) h7s h1)
      obtain ⟨s, hs⟩ : ∃ s, scL (-1) true l = s := ⟨_, rfl⟩
      rw [hs] at EP
      have S0 := hide hs
      clear hs
      obtain ⟨X, hX⟩ : ∃ X, pkF mx l = X := ⟨_, rfl⟩
      rw [hX] at EP ⊢
      clear hX h7s
      have CI := hide (fun (W : World) => (wk.int_any 0 W).mono (R' := fun e w' => e = .returned (.agg #[.int .i64 0, .int .i64 1]) ∧ Below W.heap.size W w') (by rintro e w1 ⟨rfl, cc, rfl⟩; exact ⟨rfl, bplus (Below.refl _ _) _⟩))
      go_enter Tryz.func33, Tryz.ntmps33
      go_upto_region 1 with fail
      rw [HW1.out]
      clear HW1
      go_wp2_with fail
      go_loopw [5, 6, 28] (fun u p i wr => RelSo W1 s l u p i wr) (fun _ _ i _ => l.length - (intOf i).toNat)
      case atStart => exact .mk 0 (-1) true rfl rfl rfl (by omega) (by omega) (by omega) S0.out (Below.refl _ _)
      case round =>
        clear S0
        obtain ⟨k, x, q, rfl, rfl, rfl, hk, hx1, hx6, R⟩ := hrel
        have BE := hide R.out.2
        replace R := hide R.out.1
        by_cases hlt : k < l.length
        · have hlt' : (k : Int) < l.length := by omega
          obtain ⟨f, hf⟩ : ∃ f, l[k]? = some f := ⟨_, List.getElem?_eq_getElem hlt⟩
          obtain ⟨m, b, o, c', fu, -, hv', hb, hus, hrg, hpm⟩ := fm_rangeN HV.out hf
          obtain ⟨rfl, rfl⟩ : a = some ⟨b, o, none⟩ ∧ c = c' := by cases hv'; exact ⟨rfl, rfl⟩
          obtain ⟨pa, pc, rfl, hp9⟩ := hpm.shape
          have ST := hide (scL_step hf R.out)
          obtain ⟨e, he⟩ : ∃ e, f.ps.isEmpty = e := ⟨_, rfl⟩
          have EE := hide (show ((f.ps.length : Int) == 0) = e by rw [← he]; cases f.ps with
            | nil => rfl
            | cons y ys => simp; omega)
          rw [he] at ST
          have HU := hide hus
          clear he R
          have lA := fo_len hus (.slice pa f.ps.length pc)
          have OA := hide (us_one (us := f.us) (u := .slice pa f.ps.length pc) rfl)
          have BWW := hide (show Below w.heap.size w wr from bto B0.out BE.out)
          have RG := hide (show wr.rangeAt b (o + k * 15) (usL f.us ++ [.slice pa f.ps.length pc]) from fun j v hj => (BWW.out.cell (p := ⟨b, o + k * 15 + j, none⟩) hb).trans (hrg j v hj))
          have hbw : b < wr.heap.size := by have := BWW.out.size; omega
          have nb : b ≠ wr.heap.size := by omega
          obtain ⟨A, hA⟩ : ∃ A : List Value, usL f.us ++ [.slice pa f.ps.length pc] = A := ⟨_, rfl⟩
          have UL := usL_len f.us
          have CA14 := hide (show A[14]? = some (.slice pa f.ps.length pc) by rw [← hA, List.getElem?_append_right (by rw [UL, hus.1]; omega), UL, hus.1]; rfl)
          have CAx := hide (show ∀ (j : Nat) (v : Value), (usL f.us)[j]? = some v → A[j]? = some v by intro j v hj; rw [← hA, List.getElem?_append_left (List.getElem?_eq_some_iff.1 hj).1]; exact hj)
          rw [hA] at RG OA lA
          have sA : A.toArray.size = 15 := by rw [List.size_toArray]; exact lA
          obtain ⟨W4, hW4⟩ : ∃ W4, (wr.alloc (.cells #[.int .i64 0, .int .i64 0, .int .i64 0, .int .i64 0, .int .i64 0, .int .i64 0, .int .i64 0, .int .i64 0, .int .i64 0, .int .i64 0, .int .i64 0, .int .i64 0, .int .i64 0, .int .i64 0, .slice none 0 0] 30)).setCells wr.heap.size 0 A = W4 := ⟨_, rfl⟩
          have T4 := hide (show (wr.alloc (.cells #[.int .i64 0, .int .i64 0, .int .i64 0, .int .i64 0, .int .i64 0, .int .i64 0, .int .i64 0, .int .i64 0, .int .i64 0, .int .i64 0, .int .i64 0, .int .i64 0, .int .i64 0, .int .i64 0, .slice none 0 0] 30)).there wr.heap.size 0 A.toArray.size from there_blk (heap_alloc_new wr _) (by rw [sA]; rfl))
          have H4 := hide (show (Tryz.prog.info? 30).map (·.size) = some A.toArray.size by rw [sA]; kernel_rfl)
          have H5 := hide (show (Tryz.prog.info? 30).map (·.size) = some A.length by rw [lA]; kernel_rfl)
          have B4 := hide (show Below wr.heap.size wr W4 by rw [← hW4]; exact (bplus (Below.refl _ _) _).grown (setCells_grown _ _ _ _) (by simp) (fun k hk => by cases hk; exact Nat.le_refl _))
          have R4 := hide (show W4.rangeAt wr.heap.size 0 A by
            have q := Bk.puts A 0 _ _ (Bk.new wr 30 [.int .i64 0, .int .i64 0, .int .i64 0, .int .i64 0, .int .i64 0, .int .i64 0, .int .i64 0, .int .i64 0, .int .i64 0, .int .i64 0, .int .i64 0, .int .i64 0, .int .i64 0, .int .i64 0, .slice none 0 0]) (by rw [lA]; simp)
            rw [List.take_zero, List.nil_append, Nat.zero_add, List.drop_of_length_le (by rw [lA]; simp), List.append_nil] at q
            rw [← hW4]
            exact range_blk q)
          have HW4 := hide hW4
          clear hW4 hf hrg hpm hA
          (try clear hv')
          have c14 := (R4.out 14 _ CA14.out)
          rw [Nat.zero_add] at c14
          have R7 := hide (show W4.rangeAt wr.heap.size 0 (usL f.us) from fun j v hj => R4.out j v (CAx.out j v hj))
          have UL7 := hide (show (Tryz.prog.info? 27).map (·.size) = some (usL f.us).length by rw [UL, HU.out.1]; kernel_rfl)
          have IXL := hide (fun (k : Nat) (hk : k < 7) (r : Int × Int) (hr : f.us[k]? = some r) (W : World) => ix7Q HU.out hk hr W)
          obtain ⟨us, hus2⟩ : ∃ us, f.us = us := ⟨_, rfl⟩
          rw [hus2] at IXL ST HU R7 UL7
          have L7 := hide (show us.length = 7 from HU.out.1)
          obtain ⟨fl, hfl⟩ : ∃ fl, f.ps.length = fl := ⟨_, rfl⟩
          rw [hfl] at c14 EE
          have hee := EE.out
          clear hus2 hus CA14 CAx R4 UL hfl hp9
          go_upto_region 9 with (first
            | (refine wpList_load_mid rfl 30 (.tmp 30) rfl b (o + k * 15) rfl A _ RG.out Tryz.underlying30 rfl H5.out ?_)
            | (refine wpList_store_mid rfl 30 (.tmp 8) (.tmp 31) rfl wr.heap.size 0 A.toArray rfl rfl T4.out H4.out (all_oneCell_toArray OA.out) ?_))
          (try rw [show A.toArray.toList = A from rfl])
          rw [HW4.out]
          clear HW4 T4 RG
          obtain ⟨q2, hq2⟩ : ∃ q2, (q && e) = q2 := ⟨_, rfl⟩
          rw [hq2] at ST
          have HQ := hide hq2
          obtain ⟨ua, hua⟩ : ∃ z, (usL us).toArray = z := ⟨_, rfl⟩
          rw [hua] at IXL
          have HUA := hide hua
          clear hua hq2
          have BE2 := hide (bto BE.out B4.out)
          clear BE B4 BWW OA H4 H5 EE
          obtain ⟨s2, hs2⟩ : ∃ s2, scU x q2 us 0 = s2 := ⟨_, rfl⟩
          rw [hs2] at ST
          have S2 := hide hs2
          clear hs2
          cases q
          all_goals
            go_upto_region 10 with fail
            (try rw [show (true && e) = e from rfl] at HQ)
            (try rw [show (false && e) = false from rfl] at HQ)
            have hq3 := HQ.out
            subst hq3
            clear hee c14 HQ
            go_wp2_with (refine wpList_load_mid rfl 27 (.tmp 39) rfl wr.heap.size 0 rfl (usL us) _ R7.out Tryz.underlying27 rfl UL7.out ?_)
            (try rw [HUA.out])
            clear R7 UL7 HUA
            generalize wr.heap.size = fb at *
            generalize wr = wo at *
            go_loopw [5, 6, 41] (fun u p i wr => RelSi W4 s2 us u p i wr) (fun _ _ i _ => 7 - (intOf i).toNat)
            case atStart => exact .mk 0 x _ rfl rfl rfl (by omega) hx1 hx6 S2.out (Below.refl _ _)
            case round =>
              clear S2 hx1 hx6
              obtain ⟨j, y, p, rfl, rfl, rfl, hj, hy1, hy6, R⟩ := hrel
              have BI := hide R.out.2
              replace R := hide R.out.1
              by_cases hlj : j < 7
              · have hlj' : (j : Int) < 7 := by omega
                obtain ⟨r, hr⟩ : ∃ r, us[j]? = some r := ⟨_, List.getElem?_eq_getElem (by rw [L7.out]; exact hlj)⟩
                have IX := fun W => IXL.out j hlj r hr W
                have SU := hide (scU_step hr R.out)
                obtain ⟨z, hz⟩ : ∃ z : Bool, decide (r = (0, 1)) = z := ⟨_, rfl⟩
                have HZ := hide hz
                obtain ⟨wq, hwq⟩ : ∃ wq, wr.alloc (.cells #[.int .i64 r.1, .int .i64 r.2] 23) = wq := ⟨_, rfl⟩
                have BQ := hide (show Below wr.heap.size wr wq by rw [← hwq]; exact bplus (Below.refl _ _) _)
                have RR := hide (fun (W : World) (h : Below wq.heap.size wq W) => bxk_2g (show W.heap[wr.heap.size]? = some (.cells #[.int .i64 r.1, .int .i64 r.2] 23) from Bk.up (show Bk wq wr.heap.size 23 [.int .i64 r.1, .int .i64 r.2] by rw [← hwq]; exact Bk.new wr _ _) h))
                have HWQ := hide hwq
                clear hwq hz hr R
                go_upto_region 13 with fail
                rw [HWQ.out]
                clear HWQ IX
                refine wp_region_kdQ (by kernel_rfl) (kdS13 r z) (Stat.of (by kernel_rfl)) (acy_of (by kernel_rfl)) ?_ ?_
                · as_aux_lemma =>
                    intro Q' i o ho blk listed a wx I hd
                    have hi : i < 3 := (Array.getElem?_eq_some_iff.1 ho).1
                    rcases (show i = 0 ∨ i = 1 ∨ i = 2 by omega) with rfl | rfl | rfl
                    · obtain rfl := Option.some.inj ho
                      exact wpOp_valW rfl (wn rfl) (run_ldA rfl (show a.tmps.getD 10 undef = _ from (I.oth_at (by kernel_rfl)).trans rfl) (RR.out wx I.up).1 (RR.out wx I.up).2) (show _ ∧ _ from ⟨rfl, be.Up.refl _⟩)
                    · obtain rfl := Option.some.inj ho
                      refine wpOp_callW rfl (wn rfl) (run_cl1 rfl rfl (fun v => enters_of Tryz.func30 (by kernel_rfl) rfl #[v] wx)) ?_
                      refine (show Calls Tryz.prog 30 #[.int .i64 0] wx _ from ?_)
                      exact (CI.out wx).mono (by rintro e w' ⟨rfl, hu⟩; exact ⟨_, rfl, (show _ ∧ _ from ⟨rfl, hu⟩)⟩)
                    · obtain rfl := Option.some.inj ho
                      exact wpOp_valW rfl (wn rfl) (run_eqR (p := r) (q := (0, 1)) rfl (I.val_at (i := 0) (by decide) (hd ⟨0, .data⟩ (by simp) rfl) (.inl rfl) rfl) (I.val_at (i := 1) (by decide) (hd ⟨1, .data⟩ (by simp) rfl) (.inl rfl) rfl) HZ.out) (show _ ∧ _ from ⟨rfl, be.Up.refl _⟩)
                · intro blk listed a' wx I hall
                  have fr := I.frameL [(45, (.agg #[.int .i64 r.1, .int .i64 r.2])), (46, (.agg #[.int .i64 0, .int .i64 1])), (47, (.bool z))] (by
                    intro p hp
                    simp only [List.mem_cons, List.not_mem_nil, or_false] at hp
                    rcases hp with rfl | rfl | rfl
                    · exact ⟨by simp, I.val_at (i := 0) (by decide) (hall _ (by decide)) (.inl rfl) rfl⟩
                    · exact ⟨by simp, I.val_at (i := 1) (by decide) (hall _ (by decide)) (.inl rfl) rfl⟩
                    · exact ⟨by simp, I.val_at (i := 2) (by decide) (hall _ (by decide)) (.inl rfl) rfl⟩) (by kernel_rfl)
                  have B5 := hide (show Below wq.heap.size wq wx from I.up)
                  clear I hall
                  subst fr
                  dsimp only [setsL, List.set_cons_zero, List.set_cons_succ]
                  have BN := hide (bto BI.out (bto BQ.out B5.out))
                  clear BI BQ B5 RR
                  cases z
                  · have hz0 : ¬ r = (0, 1) := by simpa using HZ.out
                    rw [if_neg hz0] at SU
                    rcases (show y = -1 ∨ 0 ≤ y by omega) with rfl | hy0
                    · rw [if_neg (by omega)] at SU
                      clear HZ hz0
                      go_wp2
                      go_roundw
                      case rel => exact .mk (j + 1) (j : Int) p rfl rfl (by go_num) (by omega) (by omega) (by omega) SU.out BN.out
                      case measure => simp [intOf]; omega
                    · obtain ⟨yn, rfl⟩ : ∃ yn : Nat, y = yn := ⟨y.toNat, by omega⟩
                      by_cases hyj : yn = j
                      · subst hyj
                        rw [if_neg (by intro h; exact h.2 rfl)] at SU
                        clear HZ hz0
                        go_wp2
                        go_roundw
                        case rel => exact .mk (yn + 1) (yn : Int) p rfl rfl (by go_num) (by omega) (by omega) (by omega) SU.out BN.out
                        case measure => simp [intOf]; omega
                      · rw [if_pos ⟨by omega, by omega⟩] at SU
                        clear HZ hz0
                        have hyj2 : ((yn : Int) == (j : Int)) = false := by simp; omega
                        go_wp2
                        go_roundw
                        case rel => exact .mk (j + 1) (j : Int) false rfl rfl (by go_num) (by omega) (by omega) (by omega) SU.out BN.out
                        case measure => simp [intOf]; omega
                  · have hz0 : r = (0, 1) := by simpa using HZ.out
                    rw [if_pos hz0] at SU
                    clear HZ hz0
                    go_wp2
                    go_roundw
                    case rel => exact .mk (j + 1) y p rfl rfl (by go_num) (by omega) hy1 hy6 SU.out BN.out
                    case measure => simp [intOf]; omega
              · obtain rfl : j = 7 := by omega
                have hlj' : ¬ ((7 : Nat) : Int) < 7 := by omega
                have RE := R.out
                rw [List.drop_of_length_le (by rw [L7.out]; omega), scU] at RE
                subst RE
                have BN := hide (bto BE2.out BI.out)
                clear R BI BE2 IXL
                go_wp2
                go_roundw
                case rel => exact .mk (k + 1) y p rfl rfl (by go_num) (by omega) hy1 hy6 ST.out BN.out
                case measure => simp [intOf]; omega
        · have hlt' : ¬ (k : Int) < l.length := by omega
          obtain rfl : k = l.length := by omega
          have RE := R.out
          rw [List.drop_of_length_le (by omega), scL] at RE
          subst RE
          clear R
          cases q
          · rw [show pkS mx l (x, false) = .mk z01 [(mx, l)] from rfl] at EP
            rw [show foV z01 nilS = .agg #[.int .i64 0, .int .i64 1, .int .i64 0, .int .i64 1, .int .i64 0, .int .i64 1, .int .i64 0, .int .i64 1, .int .i64 0, .int .i64 1, .int .i64 0, .int .i64 1, .int .i64 0, .int .i64 1, .slice none 0 0] from rfl] at CZ
            go_upto_region 21 with (go_at_call 13; refine (CZ.out _).mono ?_; rintro e wz ⟨rfl, BZ⟩; replace BZ := hide (bto BE.out BZ))
            obtain ⟨W2, hW2⟩ : ∃ W2, wz.alloc (.cells #[.int .i64 0, .int .i64 1, .int .i64 0, .int .i64 1, .int .i64 0, .int .i64 1, .int .i64 0, .int .i64 1, .int .i64 0, .int .i64 1, .int .i64 0, .int .i64 1, .int .i64 0, .int .i64 1, .slice none 0 0] 30) = W2 := ⟨_, rfl⟩
            have FZ := hide (show Bk W2 wz.heap.size 30 (usL z01 ++ [nilS]) by rw [← hW2]; exact Bk.new wz _ (usL z01 ++ [nilS]))
            have B2 := hide (show Below W1.heap.size W1 W2 by rw [← hW2]; exact bplus BZ.out _)
            have htb : W1.heap.size ≤ wz.heap.size := BZ.out.size
            rw [hW2]
            clear hW2 BZ CZ
            generalize wz.heap.size = tb at *
            have c14 : W2.cell? ⟨tb, 14, none⟩ = some (.slice none 0 0) := Bk.cell FZ.out 14
            have z14 := Bk.fz FZ.out 14
            have tb2 : tb < W2.heap.size := Bk.lt FZ.out
            have tbn : tb ≠ W2.heap.size := by omega
            go_upto_region 22 with fail
            obtain ⟨W3, hW3⟩ : ∃ W3, (W2.setCell ⟨tb, 14, none⟩ (.slice (some ⟨W2.heap.size, 0, none⟩) 1 1)).alloc (.cells #[.bool mx, .slice a l.length c] 60) = W3 := ⟨_, rfl⟩
            have FZ3 := hide (show Bk W3 tb 30 (usL z01 ++ [.slice (some ⟨W2.heap.size, 0, none⟩) 1 1]) by rw [← hW3]; exact Bk.more (Bk.put FZ.out 14 _) _)
            have PB3 := hide (show Bk W3 W2.heap.size 60 [.bool mx, .slice a l.length c] by rw [← hW3]; have q := Bk.new (W2.setCell ⟨tb, 14, none⟩ (.slice (some ⟨W2.heap.size, 0, none⟩) 1 1)) 60 [.bool mx, .slice a l.length c]; rwa [show (W2.setCell ⟨tb, 14, none⟩ (.slice (some ⟨W2.heap.size, 0, none⟩) 1 1)).heap.size = W2.heap.size by simp] at q)
            have B3 := hide (show Below W1.heap.size W1 W3 by rw [← hW3]; exact bplus (B2.out.setCell htb _) _)
            rw [hW3]
            clear hW3 c14 z14
            generalize W2.heap.size = pb at *
            obtain ⟨A, hA⟩ : ∃ A : List Value, usL z01 ++ [Value.slice (some ⟨pb, 0, none⟩) 1 1] = A := ⟨_, rfl⟩
            have lA : A.length = 15 := by rw [← hA]; rfl
            have EF := hide (show foV z01 (.slice (some ⟨pb, 0, none⟩) 1 1) = .agg A.toArray by rw [← hA]; rfl)
            have OA := hide (show ∀ v ∈ A, v.oneCell' = true by rw [← hA]; exact us_one rfl)
            rw [hA] at FZ3
            clear hA FZ
            have HI6 := hide (show (Tryz.prog.info? 30).map (·.size) = some A.length by rw [lA]; kernel_rfl)
            have RG := hide (range_blk FZ3.out)
            have sA : A.toArray.size = 15 := by rw [List.size_toArray]; exact lA
            have TH := hide (show W3.there w.heap.size 0 A.toArray.size by rw [sA]; exact TH0.out W3 B3.out)
            refine wp_region_list ?_
            refine wpList_load_mid rfl 30 (.tmp 11) rfl tb 0 rfl A _ RG.out Tryz.underlying30 rfl HI6.out ?_
            refine wpList_store_mid rfl 30 (.tmp 4) (.tmp 66) rfl w.heap.size 0 A.toArray rfl rfl TH.out (by rw [List.size_toArray]; exact HI6.out) (all_oneCell_toArray OA.out) ?_
            (try rw [show A.toArray.toList = A from rfl])
            have BW := hide (show Below w.heap.size w (W3.setCells w.heap.size 0 A) from (bto B0.out B3.out).grown (setCells_grown _ _ _ _) (bto B0.out B3.out).size (fun k hk => by cases hk; exact Nat.le_refl _))
            have RA := World.rangeAt_setCells_same W3 w.heap.size 0 A (by have := TH.out; rwa [List.size_toArray] at this)
            have PB4 := hide (show Bk (W3.setCells w.heap.size 0 A) pb 60 [.bool mx, .slice a l.length c] from (setCells_far pb w.heap.size 0 (by omega) A 0 W3).trans PB3.out)
            go_wp2_with fail
            refine ret_cell (b := w.heap.size) (cs := A) Tryz.results33 rfl RA Tryz.underlying30 rfl HI6.out rfl ?_
            rw [EP.out]
            exact PkSost.mk (f := .mk z01 [(mx, l)]) _ (by show _ = Ending.returned (foV z01 _); rw [EF.out]) (fun W h1 h2 => one_part ((h2 pb (by omega) (Bk.lt PB4.out)).trans PB4.out) (fm_sees h1 HV0.out)) BW.out
          · rw [show foV z01 nilS = .agg #[.int .i64 0, .int .i64 1, .int .i64 0, .int .i64 1, .int .i64 0, .int .i64 1, .int .i64 0, .int .i64 1, .int .i64 0, .int .i64 1, .int .i64 0, .int .i64 1, .int .i64 0, .int .i64 1, .slice none 0 0] from rfl] at CZ
            go_upto_region 24 with (go_at_call 13; refine (CZ.out _).mono ?_; rintro e wz ⟨rfl, BZ⟩; replace BZ := hide (bto BE.out BZ))
            obtain ⟨W2, hW2⟩ : ∃ W2, wz.alloc (.cells #[.int .i64 0, .int .i64 1, .int .i64 0, .int .i64 1, .int .i64 0, .int .i64 1, .int .i64 0, .int .i64 1, .int .i64 0, .int .i64 1, .int .i64 0, .int .i64 1, .int .i64 0, .int .i64 1, .slice none 0 0] 30) = W2 := ⟨_, rfl⟩
            have NF := hide (show BF W2 wz.heap.size z01 nilS by rw [← hW2]; exact Bk.new wz _ (usL z01 ++ [nilS]))
            have B2 := hide (show Below W1.heap.size W1 W2 by rw [← hW2]; exact bplus BZ.out _)
            have htb : W1.heap.size ≤ wz.heap.size := BZ.out.size
            have tb2 : wz.heap.size < W2.heap.size := Bk.lt NF.out
            rw [hW2]
            clear hW2 BZ CZ
            generalize wz.heap.size = tb at *
            rcases (show x = -1 ∨ 0 ≤ x by omega) with rfl | hx0
            · rw [show pkS mx l (-1, true) = .mk z01 [] from rfl] at EP
              have E7 : z01.length = 7 := rfl
              have EL := hide (show (usL (z01) ++ [nilS]).length = 15 by rw [List.length_append, usL_len, E7]; rfl)
              have q0 := hide (show W2.heap[tb]? = some (.cells (usL (z01) ++ [nilS]).toArray 30) from NF.out)
              have HI6 := hide (show (Tryz.prog.info? 30).map (·.size) = some (usL (z01) ++ [nilS]).length by rw [EL.out]; kernel_rfl)
              have HI5 := hide (show (Tryz.prog.info? 30).map (·.size) = some (usL (z01) ++ [nilS]).toArray.size by rw [List.size_toArray, EL.out]; kernel_rfl)
              have RG := hide (range_blk q0.out)
              have OA := hide (show ∀ v ∈ usL (z01) ++ [nilS], v.oneCell' = true from us_one rfl)
              have TH := hide (show W2.there w.heap.size 0 (usL (z01) ++ [nilS]).toArray.size by rw [show (usL (z01) ++ [nilS]).toArray.size = 15 from EL.out]; exact TH0.out W2 B2.out)
              have EF := hide (show foV (z01) nilS = .agg (usL (z01) ++ [nilS]).toArray from rfl)
              generalize usL (z01) ++ [nilS] = A at *
              clear q0
              go_wp2_with (first
                | (refine wpList_load_mid rfl 30 (.tmp 12) rfl tb 0 rfl A _ RG.out Tryz.underlying30 rfl HI6.out ?_)
                | (refine wpList_store_mid rfl 30 (.tmp 4) (.tmp 70) rfl w.heap.size 0 A.toArray rfl rfl TH.out HI5.out (all_oneCell_toArray OA.out) ?_))
              (try rw [show A.toArray.toList = A from rfl])
              have BF1 := hide (show Below w.heap.size w (W2.setCells w.heap.size 0 A) from (bto B0.out B2.out).grown (setCells_grown _ _ _ _) (bto B0.out B2.out).size (fun k hk => by cases hk; exact Nat.le_refl _))
              have RA := World.rangeAt_setCells_same W2 w.heap.size 0 A (by have := TH.out; rwa [List.size_toArray] at this)
              refine ret_cell (b := w.heap.size) (cs := A) Tryz.results33 rfl RA Tryz.underlying30 rfl HI6.out rfl ?_
              rw [EP.out]
              exact PkSost.mk (f := .mk (z01) []) nilS (by show _ = Ending.returned (foV (z01) nilS); rw [EF.out]) (fun W _ _ => .inl ⟨_, _, rfl, rfl⟩) BF1.out
            · obtain ⟨y, rfl⟩ : ∃ y : Nat, x = y := ⟨x.toNat, by omega⟩
              have hy7 : y < 7 := by omega
              have hy7' : (y : Int) < 7 := by omega
              obtain ⟨AM, hAM⟩ : ∃ AM : List (Int × Int), l.map (fun f => f.us.getD y (0, 0)) = AM := ⟨_, rfl⟩
              have EP2 := hide (show X = .mk (z01.set y (wk.utAll (if mx then 1 else -1) AM)) [] by
                rw [EP.out, ← hAM]
                unfold pkS
                rw [if_neg (by simp), if_neg (by show ¬ ((y : Int) < 0); omega)]
                rfl)
              replace EP := EP2
              clear EP2
              have AM64 := hide (show ∀ r ∈ AM, R64 r by
                intro r hr
                rw [← hAM] at hr
                obtain ⟨f, hf, rfl⟩ := List.mem_map.1 hr
                obtain ⟨p, q, hpq, i1, i2⟩ := us_at (HUS.out f hf) (k := y) hy7
                show R64 (f.us.getD y (0, 0))
                rw [List.getD_eq_getElem?_getD, hpq]
                exact ⟨i1, i2⟩)
              have TKE := hide (show (l.take l.length).map (fun f : Fo => f.us.getD y (0, 0)) = AM by rw [List.take_of_length_le (Nat.le_refl _)]; exact hAM)
              have AML := hide (show AM.length = l.length by rw [← hAM, List.length_map])
              have N3 := hide (show W2.ownsRow W2.heap.size 23 2 (.slice none 0 0) ((l.take 0).map (fun f : Fo => f.us.getD y (0, 0))).length (usL ((l.take 0).map (fun f : Fo => f.us.getD y (0, 0)))) from World.ownsRow_nil _ _ _ _)
              obtain ⟨i0, hj, hy0, hy1, hy2⟩ := info_parts infoRat
              clear hAM HUS CI
              go_wp2_with fail
              go_loopw [13, 73] (fun lv i wr => RelSr W2 (fun j => (l.take j).map (fun f : Fo => f.us.getD y (0, 0))) l.length lv i wr) (fun _ i _ => l.length - (intOf i).toNat)
              case atStart => exact .mk 0 rfl (by omega) N3.out (Below.refl _ _)
              case round =>
                obtain ⟨k, av, rfl, rfl, hkn, R⟩ := hrel
                have A0 := hide (show wr.ownsRow W2.heap.size 23 2 av ((l.take k).map (fun f : Fo => f.us.getD y (0, 0))).length (usL ((l.take k).map (fun f : Fo => f.us.getD y (0, 0)))) from R.out.1)
                have AB := hide R.out.2
                have BE := hide (bto B2.out AB.out)
                clear R N3 hk
                by_cases hlt : k < l.length
                · have hlt' : (k : Int) < l.length := by omega
                  obtain ⟨f, hf⟩ : ∃ f, l[k]? = some f := ⟨_, List.getElem?_eq_getElem hlt⟩
                  obtain ⟨m, b, o, c', fu, -, hv', hb, hus, hrg, hpm⟩ := fm_rangeN HV.out hf
                  obtain ⟨rfl, rfl⟩ : a = some ⟨b, o, none⟩ ∧ c = c' := by cases hv'; exact ⟨rfl, rfl⟩
                  obtain ⟨pa, pc, rfl, hp9⟩ := hpm.shape
                  have SJ := hide (show (l.take (k + 1)).map (fun f : Fo => f.us.getD y (0, 0)) = (l.take k).map (fun f : Fo => f.us.getD y (0, 0)) ++ [f.us.getD y (0, 0)] by rw [List.take_add_one, hf]; simp)
                  obtain ⟨t0, t1, hpq, -, -⟩ := us_at hus (k := y) hy7
                  rw [show f.us.getD y (0, 0) = (t0, t1) by rw [List.getD_eq_getElem?_getD, hpq]; rfl] at SJ
                  have LJ := hide (show ((l.take k).map (fun f : Fo => f.us.getD y (0, 0))).length = k by rw [List.length_map, List.length_take]; omega)
                  obtain ⟨rj, hrj⟩ : ∃ rj, (l.take k).map (fun f : Fo => f.us.getD y (0, 0)) = rj := ⟨_, rfl⟩
                  rw [hrj] at A0 SJ LJ
                  have TJ := hide (show (rj ++ [(t0, t1)]).length = rj.length + 1 ∧ usL (rj ++ [(t0, t1)]) = usL rj ++ [.int .i64 t0, .int .i64 t1] from ⟨by simp, usL_snoc rj (t0, t1)⟩)
                  rw [LJ.out] at A0 TJ
                  clear hrj
                  have lA := fo_len hus (.slice pa f.ps.length pc)
                  have OA := hide (us_one (us := f.us) (u := .slice pa f.ps.length pc) rfl)
                  have BWW := hide (show Below w.heap.size w wr from bto B0.out BE.out)
                  have RG := hide (show wr.rangeAt b (o + k * 15) (usL f.us ++ [.slice pa f.ps.length pc]) from fun j v hj => (BWW.out.cell (p := ⟨b, o + k * 15 + j, none⟩) hb).trans (hrg j v hj))
                  have hbw : b < wr.heap.size := by have := BWW.out.size; omega
                  have nb : b ≠ wr.heap.size := by omega
                  obtain ⟨A, hA⟩ : ∃ A : List Value, usL f.us ++ [.slice pa f.ps.length pc] = A := ⟨_, rfl⟩
                  have UL := usL_len f.us
                  have CA14 := hide (show A[14]? = some (.slice pa f.ps.length pc) by rw [← hA, List.getElem?_append_right (by rw [UL, hus.1]; omega), UL, hus.1]; rfl)
                  have CAx := hide (show ∀ (j : Nat) (v : Value), (usL f.us)[j]? = some v → A[j]? = some v by intro j v hj; rw [← hA, List.getElem?_append_left (List.getElem?_eq_some_iff.1 hj).1]; exact hj)
                  rw [hA] at RG OA lA
                  have sA : A.toArray.size = 15 := by rw [List.size_toArray]; exact lA
                  obtain ⟨W4, hW4⟩ : ∃ W4, (wr.alloc (.cells #[.int .i64 0, .int .i64 0, .int .i64 0, .int .i64 0, .int .i64 0, .int .i64 0, .int .i64 0, .int .i64 0, .int .i64 0, .int .i64 0, .int .i64 0, .int .i64 0, .int .i64 0, .int .i64 0, .slice none 0 0] 30)).setCells wr.heap.size 0 A = W4 := ⟨_, rfl⟩
                  have T4 := hide (show (wr.alloc (.cells #[.int .i64 0, .int .i64 0, .int .i64 0, .int .i64 0, .int .i64 0, .int .i64 0, .int .i64 0, .int .i64 0, .int .i64 0, .int .i64 0, .int .i64 0, .int .i64 0, .int .i64 0, .int .i64 0, .slice none 0 0] 30)).there wr.heap.size 0 A.toArray.size from there_blk (heap_alloc_new wr _) (by rw [sA]; rfl))
                  have H4 := hide (show (Tryz.prog.info? 30).map (·.size) = some A.toArray.size by rw [sA]; kernel_rfl)
                  have H5 := hide (show (Tryz.prog.info? 30).map (·.size) = some A.length by rw [lA]; kernel_rfl)
                  have B4 := hide (show Below wr.heap.size wr W4 by rw [← hW4]; exact (bplus (Below.refl _ _) _).grown (setCells_grown _ _ _ _) (by simp) (fun k hk => by cases hk; exact Nat.le_refl _))
                  have R4 := hide (show W4.rangeAt wr.heap.size 0 A by
                    have q := Bk.puts A 0 _ _ (Bk.new wr 30 [.int .i64 0, .int .i64 0, .int .i64 0, .int .i64 0, .int .i64 0, .int .i64 0, .int .i64 0, .int .i64 0, .int .i64 0, .int .i64 0, .int .i64 0, .int .i64 0, .int .i64 0, .int .i64 0, .slice none 0 0]) (by rw [lA]; simp)
                    rw [List.take_zero, List.nil_append, Nat.zero_add, List.drop_of_length_le (by rw [lA]; simp), List.append_nil] at q
                    rw [← hW4]
                    exact range_blk q)
                  have HW4 := hide hW4
                  clear hW4 hf hrg hpm hA
                  (try clear hv')
                  have c0 := (R4.out _ _ (CAx.out _ _ (usL_at hpq).1))
                  have c1 := (R4.out _ _ (CAx.out _ _ (usL_at hpq).2))
                  rw [Nat.zero_add] at c0 c1
                  have OW := hide (own_up A0.out B4.out)
                  have hl3 : W2.heap.size ≤ wr.heap.size := AB.out.size
                  have hj9 : k < 1000000000 := by omega
                  have BQ := hide (bto AB.out B4.out)
                  have hl4 : W2.heap.size ≤ W4.heap.size := BQ.out.size
                  clear hus CA14 CAx R4 UL hp9 hpq A0 HV BE BWW
                  go_upto_region 30 with (first
                    | (refine wpList_load_mid rfl 30 (.tmp 75) rfl b (o + k * 15) rfl A _ RG.out Tryz.underlying30 rfl H5.out ?_)
                    | (refine wpList_store_mid rfl 30 (.tmp 15) (.tmp 76) rfl wr.heap.size 0 A.toArray rfl rfl T4.out H4.out (all_oneCell_toArray OA.out) ?_))
                  (try rw [show A.toArray.toList = A from rfl])
                  rw [HW4.out]
                  clear HW4 T4 RG
                  go_wp2_with (at_builtin; refine wpList_append_own _ rfl _ _ 72 rfl W2.heap.size 23 i0 _ 2 16 Tryz.underlying72 hj hy0 hy1 hy2 rfl (by decide) _ _ _ rfl (OW.out.alloc _) ⟨_, 0, none⟩ 1 1 [.int .i64 t0, .int .i64 t1] rfl rfl (news2 _ _ _ _) (by intro u hu; simp at hu; rcases hu with rfl | rfl <;> rfl) (by unfold maxLen; omega) (by omega) (by simp; omega) ?_; intro v' w1 hown' hgrow _; have HN2 := hide (show w1.ownsRow W2.heap.size 23 2 v' (rj ++ [(t0, t1)]).length (usL (rj ++ [(t0, t1)])) by rw [TJ.out.1, TJ.out.2]; exact hown'); have BN := hide (show Below W2.heap.size W2 w1 from (BQ.out.alloc (by omega) _).grown hgrow (by simp; omega) (fun k hk => (OW.out.lt k hk).1)); clear hown' hgrow)
                  go_roundw
                  case rel => exact .mk (k + 1) (by go_num) (by omega) (by rw [SJ.out]; exact HN2.out) BN.out
                  case measure => simp [intOf]; omega
                · have hlt' : ¬ (k : Int) < l.length := by omega
                  obtain rfl : k = l.length := by omega
                  rw [TKE.out] at A0
                  have RW := hide (own_rowA A0.out (by rw [AML.out]; omega))
                  have CL := hide (leastR_op RW.out AM64.out)
                  obtain ⟨x1, x2⟩ := ut_64 (-1) AM64.out
                  obtain ⟨r1, hr1⟩ : ∃ r, wk.utAll (-1) AM = r := ⟨_, rfl⟩
                  obtain ⟨r2, hr2⟩ : ∃ r, wk.utAll 1 AM = r := ⟨_, rfl⟩
                  rw [hr1] at CL
                  have ER := hide (show wk.utAll (if mx then 1 else -1) AM = if mx then r2 else r1 by cases mx; exact hr1; exact hr2)
                  rw [ER.out] at EP
                  unfold OpC ratV at CL
                  replace NF := hide (show BF wr tb z01 nilS from Bk.up NF.out AB.out)
                  have KC := hide (fun (W : World) (h : Below wr.heap.size wr W) => And.intro (BF.at (Bk.up NF.out h : BF W tb z01 nilS) rfl (k := y) (n := 0) (d := 1) (by rcases (show y = 0 ∨ y = 1 ∨ y = 2 ∨ y = 3 ∨ y = 4 ∨ y = 5 ∨ y = 6 by omega) with rfl | rfl | rfl | rfl | rfl | rfl | rfl <;> rfl)) (Bk.fz (Bk.up NF.out h)))
                  have tbw : tb < wr.heap.size := Bk.lt NF.out
                  have BX := hide (Below.refl wr.heap.size wr)
                  have A6 := hide (fun (W : World) (h : Below wr.heap.size wr W) => show ((W.setCell ⟨tb, y * 2, none⟩ (.int .i64 r1.1)).setCell ⟨tb, y * 2 + 1, none⟩ (.int .i64 r1.2)).ownsRow W2.heap.size 23 2 av AM.length (usL AM) from own_farQ (own_farQ (own_up A0.out h) tb2 _ _) tb2 _ _)
                  have HR2 := hide hr2
                  have AM9 : AM.length ≤ 1000000100 := by rw [AML.out]; omega
                  clear A0 RW ER TKE AML hr1 hr2 x1 x2 HV AB
                  go_upto_region 33 with (go_at_call 54; refine (CL.out _ BX.out).mono ?_; rintro e wc ⟨rfl, BC⟩; replace BC := hide BC; obtain ⟨⟨v0, v1⟩, vz⟩ := KC.out wc BC.out; have vz0 := vz (y * 2); have vz1 := vz (y * 2 + 1); clear vz)
                  have NF2 := hide (show BF ((wc.setCell ⟨tb, y * 2, none⟩ (.int .i64 r1.1)).setCell ⟨tb, y * 2 + 1, none⟩ (.int .i64 r1.2)) tb (z01.set y r1) nilS from BF.put (Bk.up NF.out BC.out : BF wc tb z01 nilS) (k := y) hy7 r1.1 r1.2)
                  have BD := hide (show Below W1.heap.size W1 ((wc.setCell ⟨tb, y * 2, none⟩ (.int .i64 r1.1)).setCell ⟨tb, y * 2 + 1, none⟩ (.int .i64 r1.2)) from ((bto BE.out BC.out).setCell (by simp; omega) _).setCell (by simp; omega) _)
                  clear v0 v1 vz0 vz1 KC NF
                  have A7 := hide (A6.out wc BC.out)
                  clear A6
                  obtain ⟨W6, hW6⟩ : ∃ W6, (wc.setCell ⟨tb, y * 2, none⟩ (.int .i64 r1.1)).setCell ⟨tb, y * 2 + 1, none⟩ (.int .i64 r1.2) = W6 := ⟨_, rfl⟩
                  rw [hW6] at NF2 BD A7 ⊢
                  clear hW6
                  cases mx
                  · replace EP := hide (show X = .mk (z01.set y r1) [] from EP.out)
                    have E7 : (z01.set y r1).length = 7 := by rw [List.length_set]; rfl
                    have NF := hide NF2.out
                    clear NF2 A7 AM64 HR2 CL
                    have EL := hide (show (usL (z01.set y r1) ++ [nilS]).length = 15 by rw [List.length_append, usL_len, E7]; rfl)
                    have q0 := hide (show W6.heap[tb]? = some (.cells (usL (z01.set y r1) ++ [nilS]).toArray 30) from NF.out)
                    have HI6 := hide (show (Tryz.prog.info? 30).map (·.size) = some (usL (z01.set y r1) ++ [nilS]).length by rw [EL.out]; kernel_rfl)
                    have HI5 := hide (show (Tryz.prog.info? 30).map (·.size) = some (usL (z01.set y r1) ++ [nilS]).toArray.size by rw [List.size_toArray, EL.out]; kernel_rfl)
                    have RG := hide (range_blk q0.out)
                    have OA := hide (show ∀ v ∈ usL (z01.set y r1) ++ [nilS], v.oneCell' = true from us_one rfl)
                    have TH := hide (show W6.there w.heap.size 0 (usL (z01.set y r1) ++ [nilS]).toArray.size by rw [show (usL (z01.set y r1) ++ [nilS]).toArray.size = 15 from EL.out]; exact TH0.out W6 BD.out)
                    have EF := hide (show foV (z01.set y r1) nilS = .agg (usL (z01.set y r1) ++ [nilS]).toArray from rfl)
                    generalize usL (z01.set y r1) ++ [nilS] = A at *
                    clear q0
                    go_wp2_with (first
                      | (refine wpList_load_mid rfl 30 (.tmp 12) rfl tb 0 rfl A _ RG.out Tryz.underlying30 rfl HI6.out ?_)
                      | (refine wpList_store_mid rfl 30 (.tmp 4) (.tmp 96) rfl w.heap.size 0 A.toArray rfl rfl TH.out HI5.out (all_oneCell_toArray OA.out) ?_))
                    (try rw [show A.toArray.toList = A from rfl])
                    have BF1 := hide (show Below w.heap.size w (W6.setCells w.heap.size 0 A) from (bto B0.out BD.out).grown (setCells_grown _ _ _ _) (bto B0.out BD.out).size (fun k hk => by cases hk; exact Nat.le_refl _))
                    have RA := World.rangeAt_setCells_same W6 w.heap.size 0 A (by have := TH.out; rwa [List.size_toArray] at this)
                    refine ret_cell (b := w.heap.size) (cs := A) Tryz.results33 rfl RA Tryz.underlying30 rfl HI6.out rfl ?_
                    rw [EP.out]
                    exact PkSost.mk (f := .mk (z01.set y r1) []) nilS (by show _ = Ending.returned (foV (z01.set y r1) nilS); rw [EF.out]) (fun W _ _ => .inl ⟨_, _, rfl, rfl⟩) BF1.out
                  · replace EP := hide (show X = .mk (z01.set y r2) [] from EP.out)
                    have E7 : (z01.set y r2).length = 7 := by rw [List.length_set]; rfl
                    have E8 : (z01.set y r1).length = 7 := by rw [List.length_set]; rfl
                    have CM := hide (mostR_op (own_rowA A7.out AM9) AM64.out)
                    rw [HR2.out] at CM
                    unfold OpC ratV at CM
                    have KC := hide (fun (W : World) (h : Below W6.heap.size W6 W) => And.intro (BF.at (Bk.up NF2.out h : BF W tb (z01.set y r1) nilS) E8 (k := y) (n := r1.1) (d := r1.2) (by rw [List.getElem?_set_self (by rw [show z01.length = 7 from rfl]; exact hy7)])) (Bk.fz (Bk.up NF2.out h)))
                    have tbw6 : tb < W6.heap.size := Bk.lt NF2.out
                    have BX6 := hide (Below.refl W6.heap.size W6)
                    clear A7 AM64 HR2 CL BC BX
                    go_upto_region 35 with (go_at_call 55; refine (CM.out _ BX6.out).mono ?_; rintro e wd ⟨rfl, BC⟩; replace BC := hide BC; obtain ⟨⟨v0, v1⟩, vz⟩ := KC.out wd BC.out; have vz0 := vz (y * 2); have vz1 := vz (y * 2 + 1); clear vz)
                    have NF := hide (show BF ((wd.setCell ⟨tb, y * 2, none⟩ (.int .i64 r2.1)).setCell ⟨tb, y * 2 + 1, none⟩ (.int .i64 r2.2)) tb (z01.set y r2) nilS by
                      have := BF.put (Bk.up NF2.out BC.out : BF wd tb (z01.set y r1) nilS) (k := y) (by rw [E8]; exact hy7) r2.1 r2.2
                      rwa [List.set_set] at this)
                    have BD2 := hide (show Below W1.heap.size W1 ((wd.setCell ⟨tb, y * 2, none⟩ (.int .i64 r2.1)).setCell ⟨tb, y * 2 + 1, none⟩ (.int .i64 r2.2)) from ((bto BD.out BC.out).setCell (by simp; omega) _).setCell (by simp; omega) _)
                    clear v0 v1 vz0 vz1 KC NF2 CM
                    obtain ⟨W7, hW7⟩ : ∃ W7, (wd.setCell ⟨tb, y * 2, none⟩ (.int .i64 r2.1)).setCell ⟨tb, y * 2 + 1, none⟩ (.int .i64 r2.2) = W7 := ⟨_, rfl⟩
                    rw [hW7] at NF BD2 ⊢
                    clear hW7
                    have EL := hide (show (usL (z01.set y r2) ++ [nilS]).length = 15 by rw [List.length_append, usL_len, E7]; rfl)
                    have q0 := hide (show W7.heap[tb]? = some (.cells (usL (z01.set y r2) ++ [nilS]).toArray 30) from NF.out)
                    have HI6 := hide (show (Tryz.prog.info? 30).map (·.size) = some (usL (z01.set y r2) ++ [nilS]).length by rw [EL.out]; kernel_rfl)
                    have HI5 := hide (show (Tryz.prog.info? 30).map (·.size) = some (usL (z01.set y r2) ++ [nilS]).toArray.size by rw [List.size_toArray, EL.out]; kernel_rfl)
                    have RG := hide (range_blk q0.out)
                    have OA := hide (show ∀ v ∈ usL (z01.set y r2) ++ [nilS], v.oneCell' = true from us_one rfl)
                    have TH := hide (show W7.there w.heap.size 0 (usL (z01.set y r2) ++ [nilS]).toArray.size by rw [show (usL (z01.set y r2) ++ [nilS]).toArray.size = 15 from EL.out]; exact TH0.out W7 BD2.out)
                    have EF := hide (show foV (z01.set y r2) nilS = .agg (usL (z01.set y r2) ++ [nilS]).toArray from rfl)
                    generalize usL (z01.set y r2) ++ [nilS] = A at *
                    clear q0
                    go_wp2_with (first
                      | (refine wpList_load_mid rfl 30 (.tmp 12) rfl tb 0 rfl A _ RG.out Tryz.underlying30 rfl HI6.out ?_)
                      | (refine wpList_store_mid rfl 30 (.tmp 4) (.tmp 96) rfl w.heap.size 0 A.toArray rfl rfl TH.out HI5.out (all_oneCell_toArray OA.out) ?_))
                    (try rw [show A.toArray.toList = A from rfl])
                    have BF1 := hide (show Below w.heap.size w (W7.setCells w.heap.size 0 A) from (bto B0.out BD2.out).grown (setCells_grown _ _ _ _) (bto B0.out BD2.out).size (fun k hk => by cases hk; exact Nat.le_refl _))
                    have RA := World.rangeAt_setCells_same W7 w.heap.size 0 A (by have := TH.out; rwa [List.size_toArray] at this)
                    refine ret_cell (b := w.heap.size) (cs := A) Tryz.results33 rfl RA Tryz.underlying30 rfl HI6.out rfl ?_
                    rw [EP.out]
                    exact PkSost.mk (f := .mk (z01.set y r2) []) nilS (by show _ = Ending.returned (foV (z01.set y r2) nilS); rw [EF.out]) (fun W _ _ => .inl ⟨_, _, rfl, rfl⟩) BF1.out
end Go.Proofs.YtlhmecagijdinaaGreatDoor.nm
set_option linter.unusedVariables false
set_option linter.unusedSimpArgs false
namespace Go.Proofs.YtlhmecagijdinaaGreatDoor.nm
open Go.RowKit cc

theorem ct_may (r : Int × Int) : mayB (ctR r).1 (ctR r).2 = true := by
  unfold ctR
  by_cases h : mayB r.1 r.2 = true
  · rw [if_pos h]; exact h
  · rw [if_neg h]; decide
theorem ct_ct (r : Int × Int) : ctR (ctR r) = ctR r := by
  have h := ct_may r
  show (if mayB (ctR r).1 (ctR r).2 = true then ctR r else (0, 0)) = ctR r
  rw [if_pos h]
theorem zr_adR {r : Int × Int} (h : mayB r.1 r.2 = true) (h1 : i64 r.1) (h2 : i64 r.2) : adR (0, 1) r = r := by
  have e0 : wk.addN 0 1 0 1 = 0 ∧ wk.addD 0 1 0 1 = 1 := by
    obtain ⟨a, b⟩ := wk.zero_add (n := 0) (d := 1) ⟨by decide, by decide⟩ ⟨by decide, by decide⟩
    rw [a, b]
    decide
  obtain ⟨a, b⟩ := wk.zero_add (n := r.1) (d := r.2) h1 h2
  show (wk.addN (wk.addN 0 1 0 1) (wk.addD 0 1 0 1) r.1 r.2, wk.addD (wk.addN 0 1 0 1) (wk.addD 0 1 0 1) r.1 r.2) = r
  rw [e0.1, e0.2, a, b]
  unfold wk.clN wk.clD
  rw [may_same, h]
  rfl
theorem zr_plU {us : List (Int × Int)} (h : Us us) (hm : us.all (fun r => mayB r.1 r.2) = true) : plU z01 us = us := by
  match us, h.1 with
  | [r0, r1, r2, r3, r4, r5, r6], _ =>
    simp only [List.all_cons, List.all_nil, Bool.and_true, Bool.and_eq_true] at hm
    obtain ⟨m0, m1, m2, m3, m4, m5, m6⟩ := hm
    have k := h.2
    show [adR (0, 1) r0, adR (0, 1) r1, adR (0, 1) r2, adR (0, 1) r3, adR (0, 1) r4, adR (0, 1) r5, adR (0, 1) r6] = _
    rw [zr_adR m0 (k r0 (by simp)).1 (k r0 (by simp)).2, zr_adR m1 (k r1 (by simp)).1 (k r1 (by simp)).2, zr_adR m2 (k r2 (by simp)).1 (k r2 (by simp)).2, zr_adR m3 (k r3 (by simp)).1 (k r3 (by simp)).2, zr_adR m4 (k r4 (by simp)).1 (k r4 (by simp)).2, zr_adR m5 (k r5 (by simp)).1 (k r5 (by simp)).2, zr_adR m6 (k r6 (by simp)).1 (k r6 (by simp)).2]
theorem ra_sc {x : Fo} {r : List Fo} (h : Us x.us) (hm : x.us.all (fun r => mayB r.1 r.2) = true) : raU (x :: r) = ssU (x :: r) := by
  show (r.map Fo.us).foldl plU x.us = (r.map Fo.us).foldl plU (plU z01 x.us)
  rw [zr_plU h hm]
/-- The first j products. -/
def rtU (j : Nat) (us : List (Int × Int)) (s : Int × Int) : List (Int × Int) := (tmU us s).take j ++ z00.drop j
theorem tm_len {us : List (Int × Int)} (h : us.length = 7) (s : Int × Int) : (tmU us s).length = 7 := by simp [tmU, h]
theorem rtU_len {us : List (Int × Int)} (h : us.length = 7) (s : Int × Int) {j : Nat} (hj : j ≤ 7) : (rtU j us s).length = 7 := by
  have := tm_len h s
  simp [rtU, this, z00]; omega
theorem z00_at {j : Nat} (hj : j < 7) : z00[j]? = some (0, 0) := by
  rcases (show j = 0 ∨ j = 1 ∨ j = 2 ∨ j = 3 ∨ j = 4 ∨ j = 5 ∨ j = 6 by omega) with rfl | rfl | rfl | rfl | rfl | rfl | rfl <;> rfl
theorem rtU_at {us : List (Int × Int)} (h : us.length = 7) (s : Int × Int) {j : Nat} (hj : j < 7) : (rtU j us s)[j]? = some (0, 0) := by
  have hl := tm_len h s
  unfold rtU
  rw [List.getElem?_append_right (by rw [List.length_take, hl]; omega), List.length_take, hl, show j - min j 7 = 0 by omega, List.getElem?_drop, Nat.add_zero]
  exact z00_at hj
theorem rtU_step {us : List (Int × Int)} (h : us.length = 7) {s : Int × Int} {j : Nat} (hj : j < 7) {r : Int × Int} (hr : us[j]? = some r) : (rtU j us s).set j (muR r s) = rtU (j + 1) us s := by
  have hz : (tmU us s)[j]? = some (muR r s) := by unfold tmU; rw [List.getElem?_map, hr]; rfl
  have hl := tm_len h s
  unfold rtU
  rw [List.set_append_right _ _ (by rw [List.length_take, hl]; omega)]
  rw [show j - ((tmU us s).take j).length = 0 by rw [List.length_take, hl]; omega]
  rw [drop_atE (z00_at hj), List.set_cons_zero, List.take_add_one, hz]
  simp
theorem rtU_end {us : List (Int × Int)} (h : us.length = 7) (s : Int × Int) : rtU 7 us s = tmU us s := by
  unfold rtU
  rw [List.take_of_length_le (by rw [tm_len h]; omega)]
  exact List.append_nil _
theorem mul2R_drew (W : World) (T : TypeId) (n d m e : Int) (hn : i64 n) (hd : i64 d) (hm : i64 m) (he : i64 e) : Calls Tryz.prog 24 #[.slice (some ⟨W.heap.size, 0, none⟩) 2 2] (W.alloc (.cells #[.int .i64 n, .int .i64 d, .int .i64 m, .int .i64 e] T)).drew fun x w' => x = .returned (.agg #[.int .i64 (muR (n, d) (m, e)).1, .int .i64 (muR (n, d) (m, e)).2]) ∧ Below W.heap.size W w' := by
  refine (wk.mulR_any _ [(n, d), (m, e)] _ ((wk.row_two W n d m e T).up ((wk.Up.refl _).drew)) (by intro r hr; simp at hr; rcases hr with rfl | rfl; exact ⟨hn, hd⟩; exact ⟨hm, he⟩)).mono ?_
  rintro x w1 ⟨rfl, U⟩
  exact ⟨rfl, bto (bplus (Below.refl _ _) _).drew U.1⟩
/-- The contract of the reference's Scale. -/
def RsC (n : Nat) : Prop := ∀ (k : Int × Int), R64 k → ∀ (us : List (Int × Int)) (ps : List Pa) (u : Value) (w : World), Us us → PM w n u ps → szF (.mk us ps) ≤ 1000000000 → Calls Tryz.prog 15 #[foV us u, ratV k] w fun e w' => ∃ v, e = .returned (foV (scF (ctR k) n (.mk us ps)).us v) ∧ PM (cutW w.heap.size w') n v (scF (ctR k) n (.mk us ps)).ps ∧ Below w.heap.size w w'
def RelRt (w : World) (fb : Nat) (us : List (Int × Int)) (u : Value) (kn kd : Int) (i : Value) (wr : World) : Prop := ∃ j : Nat, i = .int .i64 j ∧ j ≤ 7 ∧ Hid (BF wr w.heap.size us u ∧ Bk wr (w.heap.size + 1) 23 [.int .i64 kn, .int .i64 kd] ∧ Bk wr (w.heap.size + 2) 30 [.int .i64 0, .int .i64 0, .int .i64 0, .int .i64 0, .int .i64 0, .int .i64 0, .int .i64 0, .int .i64 0, .int .i64 0, .int .i64 0, .int .i64 0, .int .i64 0, .int .i64 0, .int .i64 0, .slice none 0 0] ∧ BF wr fb (rtU j us (kn, kd)) nilS ∧ Below w.heap.size w wr)
theorem RelRt.mk {w : World} {fb : Nat} {us : List (Int × Int)} {u : Value} {kn kd : Int} {i : Value} {wr : World} (j : Nat) (h1 : i = .int .i64 j) (h2 : j ≤ 7) (h3 : BF wr w.heap.size us u) (h4 : Bk wr (w.heap.size + 1) 23 [.int .i64 kn, .int .i64 kd]) (h5 : Bk wr (w.heap.size + 2) 30 [.int .i64 0, .int .i64 0, .int .i64 0, .int .i64 0, .int .i64 0, .int .i64 0, .int .i64 0, .int .i64 0, .int .i64 0, .int .i64 0, .int .i64 0, .int .i64 0, .int .i64 0, .int .i64 0, .slice none 0 0]) (h6 : BF wr fb (rtU j us (kn, kd)) nilS) (h7 : Below w.heap.size w wr) : RelRt w fb us u kn kd i wr := ⟨j, h1, h2, h3, h4, h5, h6, h7⟩
def RelQj (wA : World) (ga n' : Nat) (gq : List Fo) (i av : Value) (wr : World) : Prop := ∃ (m : Nat) (aa : Option Addr) (ac : Nat), i = .int .i64 m ∧ av = .slice aa m ac ∧ m ≤ gq.length ∧ Hid (FH ga n' wr (.slice aa m ac) (gq.take m) ∧ Below ga wA wr)
theorem RelQj.mk {wA : World} {ga n' : Nat} {gq : List Fo} {i av : Value} {wr : World} (m : Nat) (aa : Option Addr) (ac : Nat) (h1 : i = .int .i64 m) (h2 : av = .slice aa m ac) (h3 : m ≤ gq.length) (h4 : FH ga n' wr (.slice aa m ac) (gq.take m)) (h5 : Below ga wA wr) : RelQj wA ga n' gq i av wr := ⟨m, aa, ac, h1, h2, h3, h4, h5⟩
set_option maxRecDepth 100000 in
set_option maxHeartbeats 16000000 in
theorem scaleR_step (n : Nat) (IH : ∀ m, n = m + 1 → RsC m) : RsC n := by
  intro k hk us ps u w hus hu hsz
  obtain ⟨a, c, rfl, hl9⟩ := hu.shape
  have hps := Nat.le_trans (ps_lt (.mk us ps)) hsz
  replace hps : ps.length + 1 ≤ 1000000000 := hps
  have CC := hide (fun (W : World) => show Calls Tryz.prog 35 #[.agg #[.int .i64 k.1, .int .i64 k.2]] W fun e w' => e = .returned (.agg #[.int .i64 (ctR k).1, .int .i64 (ctR k).2]) ∧ Below W.heap.size W w' from cleanR_any k.1 k.2 W hk.1 hk.2)
  have hq : R64 (ctR k) := ct_i64 hk.1 hk.2
  have IH2 := hide (fun (m : Nat) (h : n = m + 1) (us : List (Int × Int)) (ps : List Pa) (u : Value) (w : World) (hus : Us us) (hu : PM w m u ps) (hsz : szF (.mk us ps) ≤ 1000000000) => by
    have := IH m h (ctR k) hq us ps u w hus hu hsz
    rw [ct_ct] at this
    exact this)
  have KV := hide (show ratV k = .agg #[.int .i64 k.1, .int .i64 k.2] from rfl)
  rw [KV.out]
  generalize ctR k = kq at *
  obtain ⟨kn, kd⟩ := kq
  obtain ⟨k1, k2⟩ := k
  have SZ := hide (fun (p : Pa) (hp : p ∈ ps) (x : Fo) (hx : x ∈ p.2) => show szF x ≤ 1000000000 from by have := szF_part (f := .mk us ps) hp hx; omega)
  have LU := hide (show (usL us).length = 14 by rw [usL_len, hus.1])
  obtain ⟨GU, GF⟩ := scG_us (kn, kd) n hus hu
  have GL0 := hide (show (scG (gnF (kn, kd) n) (kn, kd) (.mk us ps)).take 1 = [.mk (tmU us (kn, kd)) []] from rfl)
  have GLA := hide (fun (j : Nat) (p : Pa) (h : ps[j]? = some p) => scG_at (g := gnF (kn, kd) n) (k := (kn, kd)) (f := .mk us ps) h)
  have GLN := hide (show (scG (gnF (kn, kd) n) (kn, kd) (.mk us ps)).length = ps.length + 1 from scG_leng (gnF (kn, kd) n) (kn, kd) (.mk us ps))
  have GLP := hide (Nat.le_trans (scG_len (g := gnF (kn, kd) n) (kn, kd) (.mk us ps) (fun p _ x _ => gnF_len (kn, kd) n x)) hsz)
  have GRA := hide (show raU (scG (gnF (kn, kd) n) (kn, kd) (.mk us ps)) = ssU (scG (gnF (kn, kd) n) (kn, kd) (.mk us ps)) from ra_sc (tmU_us hus (kn, kd)) (tmU_may us (kn, kd)))
  rw [scF_gn] at GF
  simp only [scF_gn]
  replace GU := hide GU
  generalize scG (gnF (kn, kd) n) (kn, kd) (.mk us ps) = gl at *
  replace GF := hide (show Us (ssU gl) from GF)
  show Calls Tryz.prog 15 #[.agg (usL us ++ [Value.slice a ps.length c]).toArray, .agg #[.int .i64 k1, .int .i64 k2]] w fun e w' => ∃ v, e = .returned (.agg (usL (ssU gl) ++ [v]).toArray) ∧ PM (cutW w.heap.size w') n v (ssP gl) ∧ Below w.heap.size w w'
  have TU := hide (tmU_us hus (kn, kd))
  have HU := hide hu
  have HUS := hide hus
  have h7 := hus.1
  replace IH2 := hide IH2
  replace hq := hide hq
  clear hu hus hk hsz IH KV
  have SX := hide (fun (mx bl : Bool) (h : decide (0 ≤ kn) = bl) => show scX (kn, kd) mx = (mx == bl) by
    subst h
    show (mx != decide (kn < 0)) = _
    by_cases h : kn < 0
    · rw [decide_eq_true h, decide_eq_false (by omega)]; cases mx <;> rfl
    · rw [decide_eq_false h, decide_eq_true (by omega)]; cases mx <;> rfl)
  obtain ⟨bl, hbl⟩ : ∃ bl, decide (0 ≤ kn) = bl := ⟨_, rfl⟩
  obtain ⟨fa, hfa⟩ : ∃ q : Array Value, (usL us ++ [Value.slice a ps.length c]).toArray = q := ⟨_, rfl⟩
  rw [hfa]
  obtain ⟨W1, hW1⟩ : ∃ W1, ((w.alloc (.cells fa 30)).alloc (.cells #[.int .i64 k1, .int .i64 k2] 23)).alloc (.cells #[.int .i64 0, .int .i64 0, .int .i64 0, .int .i64 0, .int .i64 0, .int .i64 0, .int .i64 0, .int .i64 0, .int .i64 0, .int .i64 0, .int .i64 0, .int .i64 0, .int .i64 0, .int .i64 0, .slice none 0 0] 30) = W1 := ⟨_, rfl⟩
  have B0 := hide (show Below w.heap.size w W1 by rw [← hW1]; exact bplus (bplus (bplus (Below.refl _ _) _) _) _)
  have P0 := hide (show BF W1 w.heap.size us (.slice a ps.length c) by rw [← hW1, ← hfa]; exact (three_blk w _ _ _).1)
  have P1 := hide (show Bk W1 (w.heap.size + 1) 23 [.int .i64 k1, .int .i64 k2] by rw [← hW1]; exact (three_blk w _ _ _).2.1)
  have P2 := hide (show Bk W1 (w.heap.size + 2) 30 [.int .i64 0, .int .i64 0, .int .i64 0, .int .i64 0, .int .i64 0, .int .i64 0, .int .i64 0, .int .i64 0, .int .i64 0, .int .i64 0, .int .i64 0, .int .i64 0, .int .i64 0, .int .i64 0, .slice none 0 0] by rw [← hW1]; exact (three_blk w _ _ _).2.2)
  have HW1 := hide hW1
  have s0 : fa.size = 15 := by rw [← hfa, List.size_toArray]; exact fo_len HUS.out _
  have z0 := Bk.cell P1.out 0
  have z1 := Bk.cell P1.out 1
  simp at z0 z1
  clear hW1 hfa
  go_enter Tryz.func15, Tryz.ntmps15
  go_upto_region 1 with fail
  rw [HW1.out]
  clear HW1
  have hx3 : w.heap.size + 3 ≤ W1.heap.size := Bk.lt P2.out
  go_upto_region 2 with (go_at_call 35; refine (CC.out _).mono ?_; rintro e wc ⟨rfl, BC⟩; replace BC := hide BC; have y0 := Bk.cell (Bk.up P1.out BC.out) 0; have y1 := Bk.cell (Bk.up P1.out BC.out) 1; simp at y0 y1; have yz0 := Bk.fz (Bk.up P1.out BC.out) 0; have yz1 := Bk.fz (Bk.up P1.out BC.out) 1)
  obtain ⟨W2, hW2⟩ : ∃ W2, (wc.setCell ⟨w.heap.size + 1, 0, none⟩ (.int .i64 kn)).setCell ⟨w.heap.size + 1, 1, none⟩ (.int .i64 kd) = W2 := ⟨_, rfl⟩
  have I0 := hide (show BF W2 w.heap.size us (.slice a ps.length c) by rw [← hW2]; exact Bk.far (Bk.far (Bk.up P0.out BC.out) (by omega) _ _) (by omega) _ _)
  have I1 := hide (show Bk W2 (w.heap.size + 1) 23 [.int .i64 kn, .int .i64 kd] by rw [← hW2]; exact Bk.put (Bk.put (Bk.up P1.out BC.out) 0 _) 1 _)
  have I2 := hide (show Bk W2 (w.heap.size + 2) 30 [.int .i64 0, .int .i64 0, .int .i64 0, .int .i64 0, .int .i64 0, .int .i64 0, .int .i64 0, .int .i64 0, .int .i64 0, .int .i64 0, .int .i64 0, .int .i64 0, .int .i64 0, .int .i64 0, .slice none 0 0] by rw [← hW2]; exact Bk.far (Bk.far (Bk.up P2.out BC.out) (by omega) _ _) (by omega) _ _)
  have IB := hide (show Below w.heap.size w W2 by rw [← hW2]; exact ((bto B0.out BC.out).setCell (by simp) _).setCell (by simp) _)
  rw [hW2]
  clear hW2 B0 P0 P1 P2 BC CC z0 z1 y0 y1 yz0 yz1 hx3
  have hx3 : w.heap.size + 3 ≤ W2.heap.size := Bk.lt I2.out
  go_upto_region 3 with fail
  obtain ⟨W3, hW3⟩ : ∃ W3, W2.alloc (.cells #[.int .i64 0, .int .i64 0, .int .i64 0, .int .i64 0, .int .i64 0, .int .i64 0, .int .i64 0, .int .i64 0, .int .i64 0, .int .i64 0, .int .i64 0, .int .i64 0, .int .i64 0, .int .i64 0, .slice none 0 0] 30) = W3 := ⟨_, rfl⟩
  have J0 := hide (show BF W3 w.heap.size us (.slice a ps.length c) by rw [← hW3]; exact Bk.more I0.out _)
  have J1 := hide (show Bk W3 (w.heap.size + 1) 23 [.int .i64 kn, .int .i64 kd] by rw [← hW3]; exact Bk.more I1.out _)
  have J2 := hide (show Bk W3 (w.heap.size + 2) 30 [.int .i64 0, .int .i64 0, .int .i64 0, .int .i64 0, .int .i64 0, .int .i64 0, .int .i64 0, .int .i64 0, .int .i64 0, .int .i64 0, .int .i64 0, .int .i64 0, .int .i64 0, .int .i64 0, .slice none 0 0] by rw [← hW3]; exact Bk.more I2.out _)
  have J3 := hide (show BF W3 W2.heap.size (rtU 0 us (kn, kd)) nilS by rw [← hW3]; exact Bk.new W2 _ (usL z00 ++ [nilS]))
  have JB := hide (show Below w.heap.size w W3 by rw [← hW3]; exact bplus IB.out _)
  rw [hW3]
  clear hW3 I0 I1 I2 IB
  generalize W2.heap.size = fb at *
  go_wp2_with fail
  go_loopw [16] (fun i wr => RelRt w fb us (.slice a ps.length c) kn kd i wr) (fun i _ => 7 - (intOf i).toNat)
  case atStart => exact .mk 0 rfl (by omega) J0.out J1.out J2.out J3.out JB.out
  case round =>
    obtain ⟨q, rfl, hq7, R⟩ := hrel
    obtain ⟨w7, hw7⟩ : ∃ w7, w7 = wr := ⟨_, rfl⟩
    subst hw7
    have Q0 := hide R.out.1
    have Q1 := hide R.out.2.1
    have Q2 := hide R.out.2.2.1
    have Q3 := hide R.out.2.2.2.1
    have BW := hide R.out.2.2.2.2
    clear R J0 J1 J2 J3 JB
    by_cases hlt7 : q < 7
    · have hlt7' : (q : Int) < 7 := by omega
      obtain ⟨rn, rd, hr, hrn, hrd⟩ := us_at HUS.out hlt7
      have C2 := hide (fun (W : World) (T : TypeId) => mul2R_drew W T rn rd kn kd hrn hrd hq.out.1 hq.out.2)
      have ST := hide (rtU_step (s := (kn, kd)) h7 hlt7 hr)
      obtain ⟨ad, had⟩ : ∃ ad, muR (rn, rd) (kn, kd) = ad := ⟨_, rfl⟩
      rw [had] at C2 ST
      clear had
      obtain ⟨c0, c1⟩ := BF.at Q0.out h7 hr
      have d0 := Bk.cell Q1.out 0
      have d1 := Bk.cell Q1.out 1
      simp at d0 d1
      have ha1 : w.heap.size < w7.heap.size := Bk.lt Q0.out
      have ha2 : w.heap.size + 1 < w7.heap.size := Bk.lt Q1.out
      have ha3 : w.heap.size ≠ w7.heap.size := by omega
      have ha4 : w.heap.size + 1 ≠ w7.heap.size := by omega
      have ha5 : fb < w7.heap.size := Bk.lt Q3.out
      have ha6 : fb ≠ w7.heap.size := by omega
      have hx4 := hide hx3
      have NX := hide (fun (W : World) (h : Below w7.heap.size w7 W) => show BF ((W.setCell ⟨fb, q * 2, none⟩ (.int .i64 ad.1)).setCell ⟨fb, q * 2 + 1, none⟩ (.int .i64 ad.2)) fb (rtU (q + 1) us (kn, kd)) nilS by
        have := BF.put (Bk.up Q3.out h : BF W fb (rtU q us (kn, kd)) nilS) (k := q) (by rw [rtU_len h7 _ hq7]; omega) ad.1 ad.2
        rwa [show ((ad.1, ad.2) : Int × Int) = ad from rfl, ST.out] at this)
      have N0 := hide (fun (W : World) (h : Below w7.heap.size w7 W) => show BF ((W.setCell ⟨fb, q * 2, none⟩ (.int .i64 ad.1)).setCell ⟨fb, q * 2 + 1, none⟩ (.int .i64 ad.2)) w.heap.size us (.slice a ps.length c) from Bk.far (Bk.far (Bk.up Q0.out h) (by omega) _ _) (by omega) _ _)
      have N1 := hide (fun (W : World) (h : Below w7.heap.size w7 W) => show Bk ((W.setCell ⟨fb, q * 2, none⟩ (.int .i64 ad.1)).setCell ⟨fb, q * 2 + 1, none⟩ (.int .i64 ad.2)) (w.heap.size + 1) 23 [.int .i64 kn, .int .i64 kd] from Bk.far (Bk.far (Bk.up Q1.out h) (by omega) _ _) (by omega) _ _)
      have N2 := hide (fun (W : World) (h : Below w7.heap.size w7 W) => show Bk ((W.setCell ⟨fb, q * 2, none⟩ (.int .i64 ad.1)).setCell ⟨fb, q * 2 + 1, none⟩ (.int .i64 ad.2)) (w.heap.size + 2) 30 [.int .i64 0, .int .i64 0, .int .i64 0, .int .i64 0, .int .i64 0, .int .i64 0, .int .i64 0, .int .i64 0, .int .i64 0, .int .i64 0, .int .i64 0, .int .i64 0, .int .i64 0, .int .i64 0, .slice none 0 0] from Bk.far (Bk.far (Bk.up Q2.out h) (by omega) _ _) (by omega) _ _)
      have NB := hide (fun (W : World) (h : Below w7.heap.size w7 W) => show Below w.heap.size w ((W.setCell ⟨fb, q * 2, none⟩ (.int .i64 ad.1)).setCell ⟨fb, q * 2 + 1, none⟩ (.int .i64 ad.2)) from ((bto BW.out h).setCell (by show w.heap.size ≤ fb; omega) _).setCell (by show w.heap.size ≤ fb; omega) _)
      have KC := hide (fun (W : World) (h : Below w7.heap.size w7 W) => And.intro (BF.at (Bk.up Q3.out h : BF W fb (rtU q us (kn, kd)) nilS) (rtU_len h7 _ hq7) (rtU_at h7 _ hlt7)) (Bk.fz (Bk.up Q3.out h)))
      obtain ⟨⟨g0, g1⟩, gz⟩ := KC.out w7 (Below.refl _ _)
      have hx5 := hide hx3
      clear hr ST Q0 Q1 Q2 Q3 hx3 gz
      go_wp2
      go_region_with ((go_at_call 24; refine (C2.out _ _).mono ?_; rintro e w4 ⟨rfl, B4⟩; replace B4 := hide (show Below w7.heap.size w7 w4 from B4); obtain ⟨⟨v0, v1⟩, vz⟩ := KC.out w4 B4.out; have vz0 := vz (q * 2); have vz1 := vz (q * 2 + 1); clear vz))
      all_goals
        go_wp2_with fail
        go_roundw
        case rel => exact .mk (q + 1) (by go_num) (by omega) (N0.out _ B4.out) (N1.out _ B4.out) (N2.out _ B4.out) (NX.out _ B4.out) (NB.out _ B4.out)
        case measure => simp [intOf]; omega
    · skip
      obtain rfl : q = 7 := by omega
      have TQ := hide (show BF w7 fb (tmU us (kn, kd)) nilS by rw [← rtU_end h7]; exact Q3.out)
      generalize tmU us (kn, kd) = tus at *
      obtain ⟨m0, e0, m1, e1, m2, e2, m3, e3, m4, e4, m5, e5, m6, e6, rfl⟩ := us7 TU.out
      have RG := hide (show w7.rangeAt fb 0 [.int .i64 m0, .int .i64 e0, .int .i64 m1, .int .i64 e1, .int .i64 m2, .int .i64 e2, .int .i64 m3, .int .i64 e3, .int .i64 m4, .int .i64 e4, .int .i64 m5, .int .i64 e5, .int .i64 m6, .int .i64 e6, .slice none 0 0] from range_blk TQ.out)
      have hq3 : w.heap.size + 3 ≤ w7.heap.size := Bk.lt Q2.out
      have L0 := hide (FH.one (B := w.heap.size + 3) (n := n) (w := w7) (f := .mk [(m0, e0), (m1, e1), (m2, e2), (m3, e3), (m4, e4), (m5, e5), (m6, e6)] []) (by omega) TU.out rfl)
      obtain ⟨W4, hW4⟩ : ∃ W4, w7.alloc (.cells #[.int .i64 m0, .int .i64 e0, .int .i64 m1, .int .i64 e1, .int .i64 m2, .int .i64 e2, .int .i64 m3, .int .i64 e3, .int .i64 m4, .int .i64 e4, .int .i64 m5, .int .i64 e5, .int .i64 m6, .int .i64 e6, .slice none 0 0] 30) = W4 := ⟨_, rfl⟩
      have L4 := hide (show FH (w.heap.size + 3) n W4 (.slice (some ⟨w7.heap.size, 0, none⟩) 1 1) (gl.take 1) by rw [GL0.out, ← hW4]; exact L0.out)
      have J0 := hide (show BF W4 w.heap.size us (.slice a ps.length c) by rw [← hW4]; exact Bk.more Q0.out _)
      have J1 := hide (show Bk W4 (w.heap.size + 1) 23 [.int .i64 kn, .int .i64 kd] by rw [← hW4]; exact Bk.more Q1.out _)
      have J2 := hide (show Bk W4 (w.heap.size + 2) 30 [.int .i64 0, .int .i64 0, .int .i64 0, .int .i64 0, .int .i64 0, .int .i64 0, .int .i64 0, .int .i64 0, .int .i64 0, .int .i64 0, .int .i64 0, .int .i64 0, .int .i64 0, .int .i64 0, .slice none 0 0] by rw [← hW4]; exact Bk.more Q2.out _)
      have JB := hide (show Below w.heap.size w W4 by rw [← hW4]; exact bplus BW.out _)
      have HW4 := hide hW4
      clear hW4 L0 Q0 Q1 Q2 Q3 BW TQ TU GL0
      go_upto_region 9 with (refine wpList_load_mid rfl 30 (.tmp 5) rfl fb 0 rfl [.int .i64 m0, .int .i64 e0, .int .i64 m1, .int .i64 e1, .int .i64 m2, .int .i64 e2, .int .i64 m3, .int .i64 e3, .int .i64 m4, .int .i64 e4, .int .i64 m5, .int .i64 e5, .int .i64 m6, .int .i64 e6, .slice none 0 0] _ RG.out Tryz.underlying30 rfl (by kernel_rfl) ?_)
      rw [HW4.out]
      clear HW4 RG
      have f14 : W4.cell? ⟨w.heap.size, 14, none⟩ = some (.slice a ps.length c) := BF.last J0.out h7
      generalize w7.heap.size = lg at *
      go_wp2_with fail
      clear hx3 hq3 hq7 hlt7
      go_loopw [35, 7] (fun i lv wr => RelQo w n (usL us ++ [Value.slice a ps.length c]) kn kd gl ps.length i lv wr) (fun i _ _ => ps.length - (intOf i).toNat)
      case atStart => exact .mk 0 _ _ rfl rfl (by omega) J0.out J1.out J2.out L4.out JB.out
      case round =>
        obtain ⟨j, la, lc, rfl, rfl, hj, R⟩ := hrel
        obtain ⟨wo, hwo⟩ : ∃ wo, wo = wr := ⟨_, rfl⟩
        subst hwo
        have Q0 := hide R.out.1
        have Q1 := hide R.out.2.1
        have Q2 := hide R.out.2.2.1
        have QL := hide R.out.2.2.2.1
        have BW := hide R.out.2.2.2.2
        have hq3 : w.heap.size + 3 ≤ wo.heap.size := Bk.lt Q2.out
        clear R J0 J1 J2 L4 JB f14
        by_cases hlt : j < ps.length
        · have hlt' : (j : Int) < ps.length := by omega
          obtain ⟨p, hp⟩ : ∃ p, ps[j]? = some p := ⟨_, List.getElem?_eq_getElem hlt⟩
          have GJ := GLA.out j p hp
          have SZp := fun x hx => SZ.out p (List.mem_of_getElem? hp) x hx
          obtain ⟨b, o, c', su, hv', hb, -, -, hc0, hc1, hfm⟩ := PM.at HU.out hp
          obtain ⟨rfl, rfl⟩ : a = some ⟨b, o, none⟩ ∧ c = c' := by cases hv'; exact ⟨rfl, rfl⟩
          obtain ⟨mx, l⟩ := p
          simp only at hfm hc0 hc1 GJ SZp
          rw [SX.out mx bl hbl] at GJ
          obtain ⟨sa, sc, rfl, hl9'⟩ := FM.shape hfm
          have c0 : wo.cell? ⟨b, o + j * 2, none⟩ = some (.bool mx) := (BW.out.cell (p := ⟨b, o + j * 2, none⟩) hb).trans hc0
          have c1 : wo.cell? ⟨b, o + j * 2 + 1, none⟩ = some (.slice sa l.length sc) := (BW.out.cell (p := ⟨b, o + j * 2 + 1, none⟩) hb).trans hc1
          have hbw : b < wo.heap.size := by have := BW.out.size; omega
          have hbn : b ≠ wo.heap.size := by omega
          obtain ⟨n', hn'⟩ : ∃ n', l = [] ∨ n = n' + 1 := by
            cases n with
            | zero => exact ⟨0, .inl (show l = [] ∧ _ from hfm).1⟩
            | succ q => exact ⟨q, .inr rfl⟩
          obtain ⟨gq, hgq⟩ : ∃ q, l.map (gnF (kn, kd) n) = q := ⟨_, rfl⟩
          have GQL := hide (show gq.length = l.length by rw [← hgq, List.length_map])
          have GQA := hide (fun (q : Nat) (f : Fo) (h : l[q]? = some f) => show gq[q]? = some (gnF (kn, kd) n f) from by rw [← hgq, List.getElem?_map, h]; rfl)
          have GQU := hide (fun (f : Fo) (hf : f ∈ l) (m : Nat) (hm : n = m + 1) (u' : Value) (W : World) (hu : Us f.us) (hpm : PM W m u' f.ps) => show Us (gnF (kn, kd) n f).us from by
            subst hm
            have := (scG_us (kn, kd) m hu hpm).2
            rwa [show Fo.mk f.us f.ps = f by cases f; rfl] at this)
          rw [hgq] at GJ
          obtain ⟨W3, hW3⟩ : ∃ W3, wo.alloc (.cells #[.bool mx, .slice sa l.length sc] 60) = W3 := ⟨_, rfl⟩
          have S3 : W3.heap.size = wo.heap.size + 1 := by rw [← hW3]; simp
          have B3 := hide (show Below wo.heap.size wo W3 by rw [← hW3]; exact bplus (Below.refl _ _) _)
          have M0 := hide (show Bk W3 wo.heap.size 60 [.bool mx, .slice sa l.length sc] by rw [← hW3]; exact Bk.new wo _ [.bool mx, .slice sa l.length sc])
          have HW3 := hide hW3
          have HFM := hide hfm
          have HN' := hide hn'
          have HSZ := hide SZp
          have HGJ := hide GJ
          have HGQ := hide hgq
          clear hW3 hfm hn' hp SZp GJ hgq hc0 hc1 hv'
          go_upto_region 12 with fail
          rw [HW3.out]
          clear HW3 c0 c1
          obtain ⟨t0, t1⟩ := bxk_2g (show W3.heap[wo.heap.size]? = some (.cells #[.bool mx, .slice sa l.length sc] 60) from M0.out)
          obtain ⟨ga, hga⟩ : ∃ ga, wo.heap.size + 1 = ga := ⟨_, rfl⟩
          have HGA := hide hga
          go_wp2_with fail
          clear t0 t1 hga
          go_loopw [42, 10] (fun i av wq => RelQj W3 ga n' gq i av wq) (fun i _ _ => l.length - (intOf i).toNat)
          case atStart => exact .mk 0 none 0 rfl rfl (by omega) (FO.nil _ _ _ _) (Below.refl _ _)
          case round =>
            obtain ⟨m, aa, ac, rfl, rfl, hm, R⟩ := hrel
            obtain ⟨wq, hwq⟩ : ∃ wq, wq = wr := ⟨_, rfl⟩
            subst hwq
            have X0 := hide R.out.1
            have XB := hide R.out.2
            have hga := HGA.out
            have hgq' : ga ≤ wq.heap.size := by have := XB.out.size; omega
            have BOQ := hide (show Below wo.heap.size wo wq from B3.out.trans (XB.out.mono (by omega)))
            have BWQ := hide (show Below w.heap.size w wq from bto BW.out BOQ.out)
            have own2 := hide (FH.own X0.out)
            clear R
            have hgl := GQL.out
            by_cases hlm : m < l.length
            · have hlm' : (m : Int) < l.length := by omega
              obtain ⟨f, hf⟩ : ∃ f, l[m]? = some f := ⟨_, List.getElem?_eq_getElem hlm⟩
              obtain ⟨m', bb2, oo2, cc2, fu, hnm, hv2, hb2, hfus, hrg, hfpm⟩ := fm_rangeN HFM.out hf
              obtain ⟨rfl, rfl⟩ : sa = some ⟨bb2, oo2, none⟩ ∧ sc = cc2 := by cases hv2; exact ⟨rfl, rfl⟩
              obtain rfl : n' = m' := by have := HN'.out.resolve_left (fun h => by rw [h] at hlm; simp at hlm); omega
              have lA := fo_len hfus fu
              have CI := hide (fun (W : World) (h : Below w.heap.size w W) => IH2.out n' hnm f.us f.ps fu W hfus (PM.low h hfpm) (by rw [show Fo.mk f.us f.ps = f by cases f; rfl]; exact HSZ.out f (List.mem_of_getElem? hf)))
              rw [show Fo.mk f.us f.ps = f by cases f; rfl] at CI
              have GA := GQA.out m f hf
              have SU := GQU.out f (List.mem_of_getElem? hf) n' hnm fu w hfus hfpm
              rw [hnm] at GA SU
              rw [show gnF (kn, kd) (n' + 1) f = scF (kn, kd) n' f from rfl] at GA SU
              generalize scF (kn, kd) n' f = sf at *
              obtain ⟨sus, sps⟩ := sf
              replace SU : Us sus := SU
              obtain ⟨a0, b0, a1, b1, a2, b2, a3, b3, a4, b4, a5, b5, a6, b6, rfl⟩ := us7 SU
              have SU := hide SU
              have RG := hide (show wq.rangeAt bb2 (oo2 + m * 15) (usL f.us ++ [fu]) from fun q v hq => (BWQ.out.cell (p := ⟨bb2, oo2 + m * 15 + q, none⟩) hb2).trans (hrg q v hq))
              have OA := hide (us_one (us := f.us) (pm_one hfpm))
              replace CI := hide (fun (W : World) (h : Below w.heap.size w W) => show Calls Tryz.prog 15 #[.agg (usL f.us ++ [fu]).toArray, .agg #[.int .i64 kn, .int .i64 kd]] W fun e w' => ∃ v, e = .returned (.agg #[.int .i64 a0, .int .i64 b0, .int .i64 a1, .int .i64 b1, .int .i64 a2, .int .i64 b2, .int .i64 a3, .int .i64 b3, .int .i64 a4, .int .i64 b4, .int .i64 a5, .int .i64 b5, .int .i64 a6, .int .i64 b6, v]) ∧ PM (cutW W.heap.size w') n' v sps ∧ Below W.heap.size W w' from CI.out W h)
              have GT := hide (show gq.take (m + 1) = gq.take m ++ [.mk [(a0, b0), (a1, b1), (a2, b2), (a3, b3), (a4, b4), (a5, b5), (a6, b6)] sps] by rw [List.take_add_one, GA]; rfl)
              have GTL := hide (show (gq.take m).length = m by rw [List.length_take]; omega)
              have GTM := hide (show (gq.take (m + 1)).length = m + 1 by rw [List.length_take]; omega)
              have hb2w : bb2 < wq.heap.size := by have := BWQ.out.size; omega
              have hb2n : bb2 ≠ wq.heap.size := by omega
              have KQ := hide (Bk.up Q1.out BOQ.out)
              have hm9 : m + 1 ≤ 1000000000 := by omega
              clear hf hfus hfpm hrg GA
              (try clear hv2)
              generalize usL f.us ++ [fu] = A at *
              have sA : A.toArray.size = 15 := by rw [List.size_toArray]; exact lA
              obtain ⟨W4, hW4⟩ : ∃ W4, (wq.alloc (.cells #[.int .i64 0, .int .i64 0, .int .i64 0, .int .i64 0, .int .i64 0, .int .i64 0, .int .i64 0, .int .i64 0, .int .i64 0, .int .i64 0, .int .i64 0, .int .i64 0, .int .i64 0, .int .i64 0, .slice none 0 0] 30)).setCells wq.heap.size 0 A = W4 := ⟨_, rfl⟩
              have T4 := hide (show (wq.alloc (.cells #[.int .i64 0, .int .i64 0, .int .i64 0, .int .i64 0, .int .i64 0, .int .i64 0, .int .i64 0, .int .i64 0, .int .i64 0, .int .i64 0, .int .i64 0, .int .i64 0, .int .i64 0, .int .i64 0, .slice none 0 0] 30)).there wq.heap.size 0 A.toArray.size from there_blk (heap_alloc_new wq _) (by rw [sA]; rfl))
              have H4 := hide (show (Tryz.prog.info? 30).map (·.size) = some A.toArray.size by rw [sA]; kernel_rfl)
              have H5 := hide (show (Tryz.prog.info? 30).map (·.size) = some A.length by rw [lA]; kernel_rfl)
              have B4 := hide (show Below wq.heap.size wq W4 by rw [← hW4]; exact (bplus (Below.refl _ _) _).grown (setCells_grown _ _ _ _) (by simp) (fun k hk => by cases hk; exact Nat.le_refl _))
              have R4 := hide (show W4.rangeAt wq.heap.size 0 A by
                have q := Bk.puts A 0 _ _ (Bk.new wq 30 [.int .i64 0, .int .i64 0, .int .i64 0, .int .i64 0, .int .i64 0, .int .i64 0, .int .i64 0, .int .i64 0, .int .i64 0, .int .i64 0, .int .i64 0, .int .i64 0, .int .i64 0, .int .i64 0, .slice none 0 0]) (by rw [lA]; simp)
                rw [List.take_zero, List.nil_append, Nat.zero_add, List.drop_of_length_le (by rw [lA]; simp), List.append_nil] at q
                rw [← hW4]
                exact range_blk q)
              have HW4 := hide hW4
              have hq4 : wq.heap.size < W4.heap.size := by rw [← hW4, setCells_size]; simp
              have X4 := hide (FH.up X0.out B4.out)
              clear hW4 X0
              go_upto_region 16 with (first
                | (refine wpList_load_mid rfl 30 (.tmp 44) rfl bb2 (oo2 + m * 15) rfl A _ RG.out Tryz.underlying30 rfl H5.out ?_)
                | (refine wpList_store_mid rfl 30 (.tmp 12) (.tmp 45) rfl wq.heap.size 0 A.toArray rfl rfl T4.out H4.out (all_oneCell_toArray OA.out) ?_))
              (try rw [show A.toArray.toList = A from rfl])
              rw [HW4.out]
              clear HW4 T4 RG
              have k0 := Bk.cell (Bk.up KQ.out B4.out) 0
              have k1 := Bk.cell (Bk.up KQ.out B4.out) 1
              simp at k0 k1
              go_wp2_with (first
                | (refine wpList_load_mid rfl 30 (.tmp 12) rfl wq.heap.size 0 rfl A _ R4.out Tryz.underlying30 rfl H5.out ?_)
                | (go_at_call 15; refine (CI.out _ (bto BWQ.out B4.out)).mono ?_; rintro e w5 ⟨v, rfl, PV, B5⟩; obtain ⟨xa, xc, rfl, -⟩ := PM.shape PV; have PH := hide (pm_sees (cut_hid (B := ga) (v := .slice aa m ac) (by omega) (fun g hg => by have := (own2.out g hg).2; omega)) (pm_sees (show Sees (cutW W4.heap.size w5) (cutW W4.heap.size w5) from ⟨Nat.le_refl _, fun _ _ _ h => h⟩) PV)); replace B5 := hide B5; clear PV)
                | (at_builtin; refine wpList_append_formH rfl (.tmp 46) (.tmp 50) rfl (.slice aa m ac) (gq.take m) rfl (FH.up X4.out (bplus B5.out _)) (Nat.le_trans hgq' (bplus (bto B4.out B5.out) _).size) w5.heap.size (.mk [(a0, b0), (a1, b1), (a2, b2), (a3, b3), (a4, b4), (a5, b5), (a6, b6)] sps) (.slice xa sps.length xc) rfl (Bk.new w5 _ (usL [(a0, b0), (a1, b1), (a2, b2), (a3, b3), (a4, b4), (a5, b5), (a6, b6)] ++ [Value.slice xa sps.length xc])) SU.out (pm_sees (hid_up (bplus (Below.refl _ _) _)) PH.out) (by rw [GTL.out]; exact hm9) ?_; intro v' w' HO HB; rw [← GT.out] at HO; obtain ⟨la', lc', hv'⟩ := FH.shape HO; rw [GTM.out] at hv'; subst hv'; replace HO := hide HO; replace HB := hide HB))
              go_roundw
              case rel => exact .mk (m + 1) la' lc' (by go_num) rfl (by omega) HO.out (XB.out.trans (((bplus (bto B4.out B5.out) _).mono hgq').trans HB.out))
              case measure => simp [intOf]; omega
            · obtain rfl : m = l.length := by omega
              have hlm' : ¬ ((l.length : Nat) : Int) < l.length := by omega
              have X0' : FH ga n' wq (.slice aa l.length ac) gq := by have := X0.out; rwa [List.take_of_length_le (by omega)] at this
              have own := FH.own QL.out
              have FMN := hide (show FM (cutW ga wq) n (.slice aa l.length ac) gq from by
                rcases HN'.out with h | h
                · have : gq = [] := List.eq_nil_of_length_eq_zero (by rw [hgl, h]; rfl)
                  subst this; subst h; exact fm_nil _ _ _ _
                · rw [h]; exact FH.fm X0' (by omega))
              have CP := hide (pickRE_any n (mx == bl) gq _ _ wq FMN.out (cut_sees _ _))
              have PU := GU.out _ (List.mem_of_getElem? HGJ.out)
              have GT := hide (show gl.take (j + 1 + 1) = gl.take (j + 1) ++ [pkF (mx == bl) gq] by rw [List.take_add_one, HGJ.out]; rfl)
              have GTL := hide (show (gl.take (j + 1)).length = j + 1 by rw [List.length_take, GLN.out]; omega)
              have GTM := hide (show (gl.take (j + 1 + 1)).length = j + 1 + 1 by rw [List.length_take, GLN.out]; omega)
              obtain ⟨p0, p1⟩ := bxk_2g (show wq.heap[wo.heap.size]? = some (.cells #[.bool mx, .slice sa l.length sc] 60) from Bk.low M0.out XB.out (by omega))
              have QLq := hide (FH.up QL.out BOQ.out)
              have Q0q := hide (Bk.up Q0.out BOQ.out)
              have Q1q := hide (Bk.up Q1.out BOQ.out)
              have Q2q := hide (Bk.up Q2.out BOQ.out)
              have hBq : w.heap.size + 3 ≤ wq.heap.size := by have := BOQ.out.size; omega
              have OWN := hide (fun (b : Nat) (h : ga ≤ b) => show w.heap.size + 3 ≤ b ∧ some b ≠ (Value.slice la (j + 1) lc).ownBlock from ⟨by omega, fun e => by have := (own b e.symm).2; omega⟩)
              have k0 := Bk.cell Q1q.out 0
              have k1 := Bk.cell Q1q.out 1
              simp at k0 k1
              generalize pkF (mx == bl) gq = pf at *
              obtain ⟨pus, pps⟩ := pf
              replace PU : Us pus := PU
              obtain ⟨a0, b0, a1, b1, a2, b2, a3, b3, a4, b4, a5, b5, a6, b6, rfl⟩ := us7 PU
              have PU := hide PU
              replace CP := hide (show Calls Tryz.prog 33 #[.bool (mx == bl), .slice aa l.length ac] wq fun e w' => ∃ fu, e = .returned (.agg #[.int .i64 a0, .int .i64 b0, .int .i64 a1, .int .i64 b1, .int .i64 a2, .int .i64 b2, .int .i64 a3, .int .i64 b3, .int .i64 a4, .int .i64 b4, .int .i64 a5, .int .i64 b5, .int .i64 a6, .int .i64 b6, fu]) ∧ (∀ W : World, Sees (cutW ga wq) W → (∀ b, wq.heap.size ≤ b → b < w'.heap.size → W.heap[b]? = w'.heap[b]?) → PM W n fu pps) ∧ Below wq.heap.size wq w' from CP.out)
              clear X0 X0' XB FMN Q0 Q1 Q2 QL own HFM HN' HSZ GQL GQA GQU B3 M0 HU IH2
              go_wp2_with (first
                | (go_at_call 33; refine CP.out.mono ?_; rintro e wp ⟨fu, rfl, PF, BP⟩; have PH := hide (PF (hidW (w.heap.size + 3) (.slice la (j + 1) lc) wp) (sees_hid ((cut_sees ga wq).trans (below_sees BP)) (fun b o x hx => OWN.out b (Nat.le_of_not_lt (fun h => by rw [cut_low wq h] at hx; cases hx)))) (fun b hb hl => hid_blk wp (by omega) (OWN.out b (by omega)).2)); obtain ⟨xa, xc, rfl, -⟩ := PM.shape PH.out; replace BP := hide BP; clear PF)
                | (at_builtin; refine wpList_append_formH rfl (.tmp 53) (.tmp 62) rfl (.slice la (j + 1) lc) (gl.take (j + 1)) rfl (FH.up QLq.out (bplus BP.out _)) (Nat.le_trans hBq (bplus BP.out _).size) wp.heap.size (.mk [(a0, b0), (a1, b1), (a2, b2), (a3, b3), (a4, b4), (a5, b5), (a6, b6)] pps) (.slice xa pps.length xc) rfl (Bk.new wp _ (usL [(a0, b0), (a1, b1), (a2, b2), (a3, b3), (a4, b4), (a5, b5), (a6, b6)] ++ [Value.slice xa pps.length xc])) PU.out (pm_sees (hid_up (bplus (Below.refl _ _) _)) PH.out) (by rw [GTL.out]; omega) ?_; intro v' w' HO HB; rw [← GT.out] at HO; obtain ⟨la', lc', hv'⟩ := FH.shape HO; rw [GTM.out] at hv'; subst hv'; replace HO := hide HO; replace HB := hide HB))
              go_roundw
              case rel => exact .mk (j + 1) la' lc' (by go_num) rfl (by omega) (Bk.low (Bk.up Q0q.out (bplus BP.out _)) HB.out (by omega)) (Bk.low (Bk.up Q1q.out (bplus BP.out _)) HB.out (by omega)) (Bk.low (Bk.up Q2q.out (bplus BP.out _)) HB.out (by omega)) HO.out ((bto BWQ.out (bplus BP.out _)).trans (HB.out.mono (by omega)))
              case measure => simp [intOf]; omega
        · obtain rfl : j = ps.length := by omega
          have hlt' : ¬ ((ps.length : Nat) : Int) < ps.length := by omega
          have QL' : FH (w.heap.size + 3) n wo (.slice la (ps.length + 1) lc) gl := by have := QL.out; rwa [List.take_of_length_le (by rw [GLN.out]; omega)] at this
          have CS := hide (addRF_any n gl _ (cutW (w.heap.size + 3) wo) wo (cut_sees _ _) (FH.fm QL' (by rw [GLN.out]; omega)) GLP.out)
          rw [GRA.out] at CS
          have LC := hide (fun (v : Value) => fo_len GF.out v)
          have OC := hide (fun (v : Value) (h : v.oneCell' = true) => us_one (us := ssU gl) h)
          replace CS := hide (show Calls Tryz.prog 22 #[.slice la (ps.length + 1) lc] wo fun e w' => ∃ u, e = .returned (.agg (usL (ssU gl) ++ [u]).toArray) ∧ ∃ B, wo.heap.size ≤ B ∧ PO (cutW (w.heap.size + 3) wo) B n w' u (ssP gl) ∧ Below wo.heap.size wo w' from CS.out)
          have TH := hide (fun (W : World) (h : Below wo.heap.size wo W) => there_blk (n := 15) (show W.heap[w.heap.size + 2]? = some (.cells #[.int .i64 0, .int .i64 0, .int .i64 0, .int .i64 0, .int .i64 0, .int .i64 0, .int .i64 0, .int .i64 0, .int .i64 0, .int .i64 0, .int .i64 0, .int .i64 0, .int .i64 0, .int .i64 0, .slice none 0 0] 30) from Bk.up Q2.out h) rfl)
          obtain ⟨SL, hSL⟩ : ∃ x, usL (ssU gl) = x := ⟨_, rfl⟩
          rw [hSL] at CS LC OC
          have HSL := hide hSL
          clear hSL
          clear Q0 Q1 Q2 QL QL' HU IH2 GRA
          go_wp2_with (first
            | (go_at_call 22; refine CS.out.mono ?_; rintro e w5 ⟨v, rfl, B9, hB9, PV, B5⟩; have PM5 := hide (PO.pmS (PO.keep PV (w' := cutW (w.heap.size + 3) w5) (fun g hg hl => cut_blk w5 (by omega))) (cut_keep (Nat.le_refl _) B5.size (fun b hb hl => B5.block b hl)) GLP.out); replace B5 := hide B5; clear PV)
            | (refine wpList_store_mid rfl 30 (.tmp 4) (.tmp 66) rfl (w.heap.size + 2) 0 (SL ++ [v]).toArray rfl rfl (by rw [show (SL ++ [v]).toArray.size = 15 from LC.out v]; exact TH.out _ B5.out) (by rw [List.size_toArray, LC.out v]; kernel_rfl) (all_oneCell_toArray (OC.out v (pm_one PM5.out))) ?_))
          (try rw [show (SL ++ [v]).toArray.toList = SL ++ [v] from rfl])
          refine ret_cell (b := w.heap.size + 2) (cs := SL ++ [v]) Tryz.results15 rfl (World.rangeAt_setCells_same _ _ _ _ (by rw [LC.out v]; exact TH.out _ B5.out)) Tryz.underlying30 rfl (by rw [LC.out v]; kernel_rfl) rfl ?_
          have h5 := B5.out.size
          exact ⟨v, by rw [HSL.out], pm_sees (cut_keep (by omega) (by rw [setCells_size]; exact Nat.le_refl _) (fun b hb hl => setCells_far b (w.heap.size + 2) 0 (by omega) _ _ _)) PM5.out, (bto BW.out B5.out).grown (setCells_grown _ _ _ _) (bto BW.out B5.out).size (fun k hk => by cases hk; omega)⟩
theorem scaleR_all (n : Nat) : RsC n := by
  induction n with
  | zero => exact scaleR_step 0 (fun m h => by omega)
  | succ n ih => exact scaleR_step (n + 1) (fun m h => (show n = m by omega) ▸ ih)
end Go.Proofs.YtlhmecagijdinaaGreatDoor.nm
